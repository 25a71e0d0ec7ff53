/-
  Package flatread: is a kid right. Conditions: those that each theorem names.
-/
import Derived.Test.YtcfjjocmiheiaaaDoorPkD52
import Derived.Test.YtcfjjocmiheiaaaDoorPkD20
namespace Go.Proofs.YtcfjjocmiheiaaaDoor
open Go.ChangeShapes Go.WideShapes Go.ChangeAt Go.RowKit Go.Shelf
theorem rpost_ret {res:Option (PV × Int)}{wk m mt:Nat}{left ml:Int}{w W:World}{e:Ending}(h:RPost res wk m mt left ml w e W):∃ b,e=.returned (.bool b):=by
 rcases h.2 with ⟨_,_,_,_,_,he,_⟩|⟨he,_⟩
 · exact ⟨_,he⟩
 · exact ⟨_,he⟩
theorem agg6_inj {a b c d e f a' b' c' d' e' f':Value}(h:Value.agg #[a,b,c,d,e,f]=.agg #[a',b',c',d',e',f']):a=a'∧b=b'∧c=c'∧d=d'∧e=e'∧f=f':=by
 injection h with h
 have e0:=congrArg (fun x:Array Value=>x[0]?) h
 have e1:=congrArg (fun x:Array Value=>x[1]?) h
 have e2:=congrArg (fun x:Array Value=>x[2]?) h
 have e3:=congrArg (fun x:Array Value=>x[3]?) h
 have e4:=congrArg (fun x:Array Value=>x[4]?) h
 have e5:=congrArg (fun x:Array Value=>x[5]?) h
 simp at e0 e1 e2 e3 e4 e5
 exact ⟨e0,e1,e2,e3,e4,e5⟩
theorem ptd_cases {zs:List Int}{m:Nat}{ref at':Int}{e:Ending}{ss:List CRec}{nx:Option NextD}{left:Int}(h:PtdPost zs m ref at' true e):∃ (p:Value) (rr a b c dd:Int) (ok:Bool),e=.returned (.tuple #[.agg #[p,.int .i64 rr,.int .i64 a,.int .i64 b,.int .i64 c,.int .i64 dd],.bool ok])∧p.oneCell'=true ∧
  ((ok=true∧∃ to t,jumpZ zs at'=some to∧tabZ zs to=some t∧Value.agg #[p,.int .i64 rr,.int .i64 a,.int .i64 b,.int .i64 c,.int .i64 dd]=strV m ref t to)∨(ok=false∧(pointZ zs at' fun to=>structAtZ ss zs nx ref to left)=none)):=by
 rcases h with ⟨to,t,_,hj,ht,rfl⟩|⟨hn,p,r,a,b,c,d,rfl⟩
 · exact ⟨_,_,_,_,_,_,true,rfl,rfl,.inl ⟨rfl,to,t,hj,ht,rfl⟩⟩
 · refine ⟨.pointer p,r,a,b,c,d,false,rfl,rfl,.inr ⟨rfl,?_⟩⟩
   · unfold pointZ
     cases hj:jumpZ zs at' with
     | none=>rfl
     | some to=>exact structAt_none (hn rfl to hj)
set_option maxRecDepth 100000 in
set_option maxHeartbeats 16000000 in
theorem fkidRight (room:Nat)(hSt:StructRAt room)(hLi:ListRAt room):KidRAt room:=by
 constructor
 intro base w m bp bc sv ev zs ss es fs ns wk mt B left ml h k r l d at' hty hin
 have hb:=(Below.refl w.heap.size w).alloc (Nat.le_refl _) (.cells #[.int .u8 k,.int .i64 r,.int .i64 l,.int .i64 at',.int .u64 d,.bool true] 166)
 have HB:=Lib.hid hb
 have HC:=Lib.hid (h.below hb)
 have HX:=Lib.hid (heap_alloc_new w (.cells #[.int .u8 k,.int .i64 r,.int .i64 l,.int .i64 at',.int .u64 d,.bool true] 166))
 have HWS:Hid (w.heap.size<(w.alloc (.cells #[.int .u8 k,.int .i64 r,.int .i64 l,.int .i64 at',.int .u64 d,.bool true] 166)).heap.size):=Lib.hid (blk_lt HX.out)
 have HST:Hid (StructRAt room):=Lib.hid hSt
 have HLI:Hid (ListRAt room):=Lib.hid hLi
 obtain ⟨P,hP⟩:∃ P,RPost (flatZ (sRecs ss) es zs room k r l at' left) wk m mt left ml w=P:=⟨_,rfl⟩
 rw [hP]
 have HP:=Lib.hid (hP.symm.trans (by rw [flatZ_eq]))
 clear hP hSt hLi hb h
 unfold kidV
 have hs:=tyM_sort hty
 have HTY:=Lib.hid hty
 have HIN:=Lib.hid hin
 clear hty hin
 rcases hs with ⟨hl,hs⟩|⟨rfl,hk,hk10,hs⟩|⟨rfl,hk,hs⟩|⟨rfl,rfl,hs⟩
 · have hS0:=Lib.hid hs
   have hl0:=hl
   go_enter Tryd.func103,Tryd.ntmps103
   go_upto_region 1 with (fail)
   generalize w.alloc (.cells #[.int .u8 k,.int .i64 r,.int .i64 l,.int .i64 at',.int .u64 d,.bool true] 166)=W0 at *
   obtain ⟨_,s1,s2,s3,s4,s5,s6⟩:=blk6 HX.out
   go_wp2_with fail
   refine (sorts_any k r l W0).mono ?_
   rintro e W1 ⟨rfl,hb1⟩
   have HB1:=Lib.hid (HB.out.trans (hb1.mono HB.out.size))
   have HC1:=Lib.hid (HC.out.below hb1)
   have HX1:=Lib.hid (blk_below HX.out hb1 (blk_lt HX.out))
   have HS1:Hid (w.heap.size<W1.heap.size):=Lib.hid (blk_lt HX1.out)
   clear hb1 s1 s2 s3 s4 s5 s6
   obtain ⟨_,s1,s2,s3,s4,s5,s6⟩:=blk6 HX1.out
   rw [hs]
   clear hs
   have HRES:Hid (valZ (sRecs ss) es zs (nextZ (sRecs ss) es zs room) k r l at' left=pointZ zs at' fun to=>listAtZ zs (nextZ (sRecs ss) es zs room) k r ((l:Int)-1) to left):=Lib.hid (by unfold valZ;rw [hS0.out];rfl)
   have HLIFT:Hid (∀ e W,RPost (pointZ zs at' fun to=>listAtZ zs (nextZ (sRecs ss) es zs room) k r ((l:Int)-1) to left) wk m mt left ml W1 e W→P e W):=Lib.hid (fun e W hp=>by
    rw [HP.out,HRES.out]
    exact ⟨(Exw.of_below (R:=wk) (S:=mt) HB1.out).trans (hp.1.mono HB1.out.size),hp.2⟩)
   go_wp2_with fail
   refine (HLI.out.run HC1.out k r l d at' HTY.out hl0).mono ?_
   rintro e W2 hp
   have HPE:=Lib.hid (HLIFT.out e W2 hp)
   obtain ⟨b,rfl⟩:=rpost_ret hp
   clear hp s1 s2 s3 s4 s5 s6
   go_wp2
   exact HPE.out
 · have hS0:=Lib.hid hs
   go_enter Tryd.func103,Tryd.ntmps103
   go_upto_region 1 with (fail)
   generalize w.alloc (.cells #[.int .u8 k,.int .i64 r,.int .i64 ((0:Nat):Int),.int .i64 at',.int .u64 d,.bool true] 166)=W0 at *
   obtain ⟨_,s1,s2,s3,s4,s5,s6⟩:=blk6 HX.out
   go_wp2_with fail
   refine (sorts_any k r ((0:Nat):Int) W0).mono ?_
   rintro e W1 ⟨rfl,hb1⟩
   have HB1:=Lib.hid (HB.out.trans (hb1.mono HB.out.size))
   have HC1:=Lib.hid (HC.out.below hb1)
   have HX1:=Lib.hid (blk_below HX.out hb1 (blk_lt HX.out))
   have HS1:Hid (w.heap.size<W1.heap.size):=Lib.hid (blk_lt HX1.out)
   clear hb1 s1 s2 s3 s4 s5 s6
   obtain ⟨_,s1,s2,s3,s4,s5,s6⟩:=blk6 HX1.out
   rw [hs]
   clear hs
   have HRES:Hid (valZ (sRecs ss) es zs (nextZ (sRecs ss) es zs room) k r ((0:Nat):Int) at' left=numZ es zs k r at' left):=Lib.hid (by unfold valZ;rw [hS0.out];rfl)
   have HLIFT:Hid (∀ e W,RPost (numZ es zs k r at' left) wk m mt left ml W1 e W→P e W):=Lib.hid (fun e W hp=>by
    rw [HP.out,HRES.out]
    exact ⟨(Exw.of_below (R:=wk) (S:=mt) HB1.out).trans (hp.1.mono HB1.out.size),hp.2⟩)
   go_wp2_with fail
   refine (fnumRight W1 HC1.out.msg HC1.out.st HC1.out.hl.1 HC1.out.hml.1 k r d at' hk (fun e=>(HTY.out.en e).1) (HIN.out hS0.out)).mono ?_
   rintro e W2 hp
   have HPE:=Lib.hid (HLIFT.out e W2 hp)
   obtain ⟨b,rfl⟩:=rpost_ret hp
   clear hp s1 s2 s3 s4 s5 s6
   go_wp2
   exact HPE.out
 · have hS0:=Lib.hid hs
   go_enter Tryd.func103,Tryd.ntmps103
   go_upto_region 1 with (fail)
   generalize w.alloc (.cells #[.int .u8 k,.int .i64 r,.int .i64 ((0:Nat):Int),.int .i64 at',.int .u64 d,.bool true] 166)=W0 at *
   obtain ⟨_,s1,s2,s3,s4,s5,s6⟩:=blk6 HX.out
   go_wp2_with fail
   refine (sorts_any k r ((0:Nat):Int) W0).mono ?_
   rintro e W1 ⟨rfl,hb1⟩
   have HB1:=Lib.hid (HB.out.trans (hb1.mono HB.out.size))
   have HC1:=Lib.hid (HC.out.below hb1)
   have HX1:=Lib.hid (blk_below HX.out hb1 (blk_lt HX.out))
   have HS1:Hid (w.heap.size<W1.heap.size):=Lib.hid (blk_lt HX1.out)
   clear hb1 s1 s2 s3 s4 s5 s6
   obtain ⟨_,s1,s2,s3,s4,s5,s6⟩:=blk6 HX1.out
   rw [hs]
   clear hs
   have HRES:Hid (valZ (sRecs ss) es zs (nextZ (sRecs ss) es zs room) k r ((0:Nat):Int) at' left=pointZ zs at' fun to=>bytesAtZ zs k to left):=Lib.hid (by unfold valZ;rw [hS0.out];rfl)
   have HLIFT:Hid (∀ e W,RPost (pointZ zs at' fun to=>bytesAtZ zs k to left) wk m mt left ml W1 e W→P e W):=Lib.hid (fun e W hp=>by
    rw [HP.out,HRES.out]
    exact ⟨(Exw.of_below (R:=wk) (S:=mt) HB1.out).trans (hp.1.mono HB1.out.size),hp.2⟩)
   go_wp2_with fail
   refine (fbytesRight W1 HC1.out.msg HC1.out.st HC1.out.hl HC1.out.hml HC1.out.hB HC1.out.amb k r d at').mono ?_
   rintro e W2 hp
   have HPE:=Lib.hid (HLIFT.out e W2 hp)
   obtain ⟨b,rfl⟩:=rpost_ret hp
   clear hp s1 s2 s3 s4 s5 s6
   go_wp2
   exact HPE.out
 · have hS0:=Lib.hid hs
   have hrr:=HTY.out.st rfl
   go_enter Tryd.func103,Tryd.ntmps103
   go_upto_region 1 with (fail)
   generalize w.alloc (.cells #[.int .u8 ((13:Nat):Int),.int .i64 r,.int .i64 ((0:Nat):Int),.int .i64 at',.int .u64 d,.bool true] 166)=W0 at *
   obtain ⟨_,s1,s2,s3,s4,s5,s6⟩:=blk6 HX.out
   go_wp2_with fail
   refine (sorts_any 13 r ((0:Nat):Int) W0).mono ?_
   rintro e W1 ⟨rfl,hb1⟩
   have HB1:=Lib.hid (HB.out.trans (hb1.mono HB.out.size))
   have HC1:=Lib.hid (HC.out.below hb1)
   have HX1:=Lib.hid (blk_below HX.out hb1 (blk_lt HX.out))
   have HS1:Hid (w.heap.size<W1.heap.size):=Lib.hid (blk_lt HX1.out)
   clear hb1 s1 s2 s3 s4 s5 s6
   obtain ⟨_,s1,s2,s3,s4,s5,s6⟩:=blk6 HX1.out
   rw [hs]
   clear hs
   have HRES:Hid (valZ (sRecs ss) es zs (nextZ (sRecs ss) es zs room) 13 r ((0:Nat):Int) at' left=pointZ zs at' fun to=>structAtZ (sRecs ss) zs (nextZ (sRecs ss) es zs room) r to left):=Lib.hid (by unfold valZ;rw [hS0.out];rfl)
   have HPT:=Lib.hid (fun W (hW:Below W1.heap.size W1 W)=>fpointed_any W (HC1.out.below hW).msg.msg 13 r ((0:Nat):Int) at' d true)
   unfold kidV at HPT
   obtain ⟨_,s0,_,_,_⟩:=blk4w HC1.out.st.walk
   go_upto_region 9 with (fail)
   refine wp_region_noPanic ?_
   refine wp_region_held_drew (S:=(fun w'=>w'.cell? ⟨wk,0,none⟩=some (.pointer (some ⟨m,0,none⟩))∧w'.cell? ⟨w.heap.size,0,none⟩=some (.int .u8 ((13:Nat):Int))∧w'.cell? ⟨w.heap.size,1,none⟩=some (.int .i64 r)∧w'.cell? ⟨w.heap.size,2,none⟩=some (.int .i64 ((0:Nat):Int))∧w'.cell? ⟨w.heap.size,3,none⟩=some (.int .i64 at')∧w'.cell? ⟨w.heap.size,4,none⟩=some (.int .u64 d)∧w'.cell? ⟨w.heap.size,5,none⟩=some (.bool true))) (by kernel_rfl) ⟨s0,s1,s2,s3,s4,s5,s6⟩ ?_
   intro hS
   refine tk 0 (.pointer (some ⟨wk,0,none⟩)) hS ?_ ?_
   · rintro w' ⟨s0,s1,s2,s3,s4,s5,s6⟩
     go_simp
   simp only [td]
   refine tk 1 (.pointer (some ⟨wk,0,none⟩)) hS ?_ ?_
   · rintro w' ⟨s0,s1,s2,s3,s4,s5,s6⟩
     go_simp
   simp only [td]
   refine tk 2 (.pointer (some ⟨wk,0,none⟩)) hS ?_ ?_
   · rintro w' ⟨s0,s1,s2,s3,s4,s5,s6⟩
     go_simp
   simp only [td]
   refine tk 3 (.pointer (some ⟨m,0,none⟩)) hS ?_ ?_
   · rintro w' ⟨s0,s1,s2,s3,s4,s5,s6⟩
     go_simp
   simp only [td]
   refine tk 4 (.agg #[.int .u8 ((13:Nat):Int),.int .i64 r,.int .i64 ((0:Nat):Int),.int .i64 at',.int .u64 d,.bool true]) hS ?_ ?_
   · rintro w' ⟨s0,s1,s2,s3,s4,s5,s6⟩
     go_simp
   simp only [td]
   refine wpAnyH_ready (rs:=[5,9]) (by kernel_rfl) (by decide) (AllReadyH.cons rfl (fun K hK=>?_) (AllReadyH.cons rfl (fun K hK=>?_) AllReadyH.nil))
   · rw [if_pos (by kernel_rfl)]
     go_simp
     refine (HPT.out W1.drew ((Below.refl _ W1).drew)).mono ?_
     rintro e V2 ⟨hpt,hb2⟩
     have hx2:Below W1.heap.size W1 V2:=(Below.refl _ W1).drew.trans hb2
     obtain ⟨p,rr,a,b,c,dd,ok,rfl,hp1,hok⟩:=ptd_cases (ss:=sRecs ss) (nx:=nextZ (sRecs ss) es zs room) (left:=left) hpt
     have n0:=cell_stays hx2 s0
     have n1:=cell_stays hx2 s1
     have n2:=cell_stays hx2 s2
     have n3:=cell_stays hx2 s3
     have n4:=cell_stays hx2 s4
     have n5:=cell_stays hx2 s5
     have n6:=cell_stays hx2 s6
     refine hK.out _ _ ⟨n0,n1,n2,n3,n4,n5,n6⟩ (fun hS=>?_)
     clear n0 n1 n2 n3 n4 n5 n6
     refine tk 6 (.tuple #[.agg #[p,.int .i64 rr,.int .i64 a,.int .i64 b,.int .i64 c,.int .i64 dd],.bool ok]) hS ?_ ?_
     · rintro w' ⟨s0,s1,s2,s3,s4,s5,s6⟩
       go_simp
     simp only [td]
     refine tk 7 (.agg #[p,.int .i64 rr,.int .i64 a,.int .i64 b,.int .i64 c,.int .i64 dd]) hS ?_ ?_
     · rintro w' ⟨s0,s1,s2,s3,s4,s5,s6⟩
       go_simp
     simp only [td]
     refine tk 8 (.bool ok) hS ?_ ?_
     · rintro w' ⟨s0,s1,s2,s3,s4,s5,s6⟩
       go_simp
     simp only [td]
     refine wpAnyH_ready (rs:=[9]) (by kernel_rfl) (by decide) (AllReadyH.cons rfl (fun K hK=>?_) AllReadyH.nil)
     rw [if_pos (by kernel_rfl)]
     go_simp
     have hx3:Below W1.heap.size W1 (V2.alloc (.cells #[.pointer none,.int .i64 0,.int .i64 0,.int .i64 0,.int .i64 0,.int .i64 0] 120)):=hx2.alloc hx2.size _
     have hT3:=heap_alloc_new V2 (.cells #[.pointer none,.int .i64 0,.int .i64 0,.int .i64 0,.int .i64 0,.int .i64 0] 120)
     have hTS:W1.heap.size≤V2.heap.size:=hx2.size
     have n0:=cell_stays hx3 s0
     have n1:=cell_stays hx3 s1
     have n2:=cell_stays hx3 s2
     have n3:=cell_stays hx3 s3
     have n4:=cell_stays hx3 s4
     have n5:=cell_stays hx3 s5
     have n6:=cell_stays hx3 s6
     refine hK.out _ _ ⟨n0,n1,n2,n3,n4,n5,n6⟩ (fun hS=>?_)
     clear n0 n1 n2 n3 n4 n5 n6
     generalize V2.alloc (.cells #[.pointer none,.int .i64 0,.int .i64 0,.int .i64 0,.int .i64 0,.int .i64 0] 120)=V3 at *
     generalize V2.heap.size=T0 at *
     have hthere:V3.there T0 0 6:=fun i hi=>by
      have h4:i=0∨i=1∨i=2∨i=3∨i=4∨i=5:=by omega
      obtain ⟨_,v0,v1,v2,v3,v4,v5⟩:=blk6 hT3
      rcases h4 with rfl|rfl|rfl|rfl|rfl|rfl
      · exact ⟨by rw [Nat.add_zero,v0];rfl,blk_frozen hT3 _⟩
      · exact ⟨by rw [Nat.zero_add,v1];rfl,blk_frozen hT3 _⟩
      · exact ⟨by rw [Nat.zero_add,v2];rfl,blk_frozen hT3 _⟩
      · exact ⟨by rw [Nat.zero_add,v3];rfl,blk_frozen hT3 _⟩
      · exact ⟨by rw [Nat.zero_add,v4];rfl,blk_frozen hT3 _⟩
      · exact ⟨by rw [Nat.zero_add,v5];rfl,blk_frozen hT3 _⟩
     refine wpAnyH_ready (rs:=[10]) (by kernel_rfl) (by decide) (AllReadyH.cons rfl (fun K hK=>?_) AllReadyH.nil)
     rw [if_pos (by kernel_rfl)]
     refine wp_store_mid 120 (.tmp 7) (.tmp 37) rfl (T0) 0 #[p,.int .i64 rr,.int .i64 a,.int .i64 b,.int .i64 c,.int .i64 dd] rfl rfl hthere (by kernel_rfl) (Array.all_eq_true_iff_forall_mem.2 (by intro x hx;simp at hx;rcases hx with rfl|rfl|rfl|rfl|rfl|rfl<;>first|rfl|exact hp1)) ?_
     change K _ (set6 V3 (T0) p (.int .i64 rr) (.int .i64 a) (.int .i64 b) (.int .i64 c) (.int .i64 dd))
     have hks:∀ (bb o:Nat) (cc:Value),bb<W1.heap.size→W1.cell? ⟨bb,o,none⟩=some cc→(set6 V3 (T0) p (.int .i64 rr) (.int .i64 a) (.int .i64 b) (.int .i64 c) (.int .i64 dd)).cell? ⟨bb,o,none⟩=some cc:=fun bb o cc hbb hcc=>keep6 (cell_stays hx3 hcc) (by show bb≠_;omega)
     refine hK.out _ _ ⟨hks _ _ _ (World.block_lt_of_cell? _ _ s0) s0,hks _ _ _ (World.block_lt_of_cell? _ _ s1) s1,hks _ _ _ (World.block_lt_of_cell? _ _ s2) s2,hks _ _ _ (World.block_lt_of_cell? _ _ s3) s3,hks _ _ _ (World.block_lt_of_cell? _ _ s4) s4,hks _ _ _ (World.block_lt_of_cell? _ _ s5) s5,hks _ _ _ (World.block_lt_of_cell? _ _ s6) s6⟩ (fun hS=>?_)
     refine tk 11 (.bool ok) hS ?_ ?_
     · rintro w' ⟨s0,s1,s2,s3,s4,s5,s6⟩
       go_simp
     simp only [td]
     refine wpAnyH_done (by kernel_rfl) ?_ _
     refine NoPanic.normal ?_
     try simp only [Exit.then]
     have HE1:=Lib.hid (show (set6 V3 (T0) p (.int .i64 rr) (.int .i64 a) (.int .i64 b) (.int .i64 c) (.int .i64 dd)).heap[T0]?=some (.cells #[p,.int .i64 rr,.int .i64 a,.int .i64 b,.int .i64 c,.int .i64 dd] 120 (0,0)) from blk_set6 hT3 _ _ _ _ _ _)
     have HE2:=Lib.hid (show Below W1.heap.size W1 (set6 V3 (T0) p (.int .i64 rr) (.int .i64 a) (.int .i64 b) (.int .i64 c) (.int .i64 dd)) from below_set6 hx3 (by omega) _ _ _ _ _ _)
     clear hS hks hthere s0 s1 s2 s3 s4 s5 s6
     generalize set6 V3 (T0) p (.int .i64 rr) (.int .i64 a) (.int .i64 b) (.int .i64 c) (.int .i64 dd)=W9 at *
     generalize hTT:T0=T at *
     clear hTT
     obtain ⟨_,q0,q1,q2,q3,q4,q5⟩:=blk6 HE1.out
     have HC9:=Lib.hid (HC1.out.below HE2.out)
     have HXB:=Lib.hid ((Exw.of_below (R:=wk) (S:=mt) HB1.out).trans ((Exw.of_below (R:=wk) (S:=mt) HE2.out).mono HB1.out.size))
     cases ok with
     | false =>
      have HEND:Hid (P (.returned (.bool false)) W9):=Lib.hid (by
       rw [HP.out,HRES.out]
       refine rpost_none HC9.out.st HXB.out ?_
       rcases hok with ⟨h1,_⟩|⟨_,h1⟩
       · cases h1
       · exact h1)
      go_wp2
      exact HEND.out
     | true =>
      rcases hok with ⟨_,to,t,hj,ht,hval⟩|⟨h1,_⟩
      case inr=>cases h1
      obtain ⟨e0,e1,e2,e3,e4,e5⟩:=agg6_inj hval
      injection e1 with _ e1
      injection e2 with _ e2
      injection e3 with _ e3
      injection e4 with _ e4
      injection e5 with _ e5
      subst e0 e1 e2 e3 e4 e5
      have hjb:=jump_bd HC1.out.msg.msg.bytes.1 hj
      have hlen:=HC1.out.msg.msg.len
      have hlz:lenZ zs=(zs.length:Int):=rfl
      have HSC:=Lib.hid (HST.out.run HC9.out r t a hrr ht (by omega))
      unfold strV at HSC
      have HLIFT:Hid (∀ e W,RPost (structT (sRecs ss) zs (nextZ (sRecs ss) es zs room) r a t left) wk m mt left ml W9 e W→P e W):=Lib.hid (fun e W hp=>by
       rw [HP.out,HRES.out]
       have he:(pointZ zs at' fun to=>structAtZ (sRecs ss) zs (nextZ (sRecs ss) es zs room) r to left)=structT (sRecs ss) zs (nextZ (sRecs ss) es zs room) r a t left:=by
        unfold pointZ
        rw [hj]
        exact structAt_some ht
       rw [he]
       exact ⟨HXB.out.trans (hp.1.mono HXB.out.size),hp.2⟩)
      clear hjb hlen hlz hj ht hval hpt
      go_wp2_with fail
      refine HSC.out.mono ?_
      rintro e W2 hp
      have HPE:=Lib.hid (HLIFT.out e W2 hp)
      obtain ⟨b,rfl⟩:=rpost_ret hp
      clear hp q0 q1 q2 q3 q4 q5
      go_wp2
      exact HPE.out
   · rw [if_pos (by kernel_rfl)]
     go_simp
     have hx2:Below W1.heap.size W1 ((W1.alloc (.cells #[.pointer none,.int .i64 0,.int .i64 0,.int .i64 0,.int .i64 0,.int .i64 0] 120)).drew):=((Below.refl _ W1).alloc (Nat.le_refl _) _).drew
     have hT2:((W1.alloc (.cells #[.pointer none,.int .i64 0,.int .i64 0,.int .i64 0,.int .i64 0,.int .i64 0] 120)).drew).heap[W1.heap.size]?=some (.cells #[.pointer none,.int .i64 0,.int .i64 0,.int .i64 0,.int .i64 0,.int .i64 0] 120 (0,0)):=heap_alloc_new W1 _
     have n0:=cell_stays hx2 s0
     have n1:=cell_stays hx2 s1
     have n2:=cell_stays hx2 s2
     have n3:=cell_stays hx2 s3
     have n4:=cell_stays hx2 s4
     have n5:=cell_stays hx2 s5
     have n6:=cell_stays hx2 s6
     refine hK.out _ _ ⟨n0,n1,n2,n3,n4,n5,n6⟩ (fun hS=>?_)
     clear n0 n1 n2 n3 n4 n5 n6
     generalize (W1.alloc (.cells #[.pointer none,.int .i64 0,.int .i64 0,.int .i64 0,.int .i64 0,.int .i64 0] 120)).drew=V2 at *
     have hTS:W1.heap.size≤W1.heap.size:=Nat.le_refl _
     refine wpAnyH_ready (rs:=[5]) (by kernel_rfl) (by decide) (AllReadyH.cons rfl (fun K hK=>?_) AllReadyH.nil)
     rw [if_pos (by kernel_rfl)]
     go_simp
     refine (HPT.out V2 hx2).mono ?_
     rintro e V3 ⟨hpt,hb3⟩
     have hx3:Below W1.heap.size W1 V3:=hx2.trans (hb3.mono hx2.size)
     have hT3:=blk_below hT2 hb3 (blk_lt hT2)
     obtain ⟨p,rr,a,b,c,dd,ok,rfl,hp1,hok⟩:=ptd_cases (ss:=sRecs ss) (nx:=nextZ (sRecs ss) es zs room) (left:=left) hpt
     have n0:=cell_stays hx3 s0
     have n1:=cell_stays hx3 s1
     have n2:=cell_stays hx3 s2
     have n3:=cell_stays hx3 s3
     have n4:=cell_stays hx3 s4
     have n5:=cell_stays hx3 s5
     have n6:=cell_stays hx3 s6
     refine hK.out _ _ ⟨n0,n1,n2,n3,n4,n5,n6⟩ (fun hS=>?_)
     clear n0 n1 n2 n3 n4 n5 n6
     refine tk 6 (.tuple #[.agg #[p,.int .i64 rr,.int .i64 a,.int .i64 b,.int .i64 c,.int .i64 dd],.bool ok]) hS ?_ ?_
     · rintro w' ⟨s0,s1,s2,s3,s4,s5,s6⟩
       go_simp
     simp only [td]
     refine tk 7 (.agg #[p,.int .i64 rr,.int .i64 a,.int .i64 b,.int .i64 c,.int .i64 dd]) hS ?_ ?_
     · rintro w' ⟨s0,s1,s2,s3,s4,s5,s6⟩
       go_simp
     simp only [td]
     refine tk 8 (.bool ok) hS ?_ ?_
     · rintro w' ⟨s0,s1,s2,s3,s4,s5,s6⟩
       go_simp
     simp only [td]
     have hthere:V3.there W1.heap.size 0 6:=fun i hi=>by
      have h4:i=0∨i=1∨i=2∨i=3∨i=4∨i=5:=by omega
      obtain ⟨_,v0,v1,v2,v3,v4,v5⟩:=blk6 hT3
      rcases h4 with rfl|rfl|rfl|rfl|rfl|rfl
      · exact ⟨by rw [Nat.add_zero,v0];rfl,blk_frozen hT3 _⟩
      · exact ⟨by rw [Nat.zero_add,v1];rfl,blk_frozen hT3 _⟩
      · exact ⟨by rw [Nat.zero_add,v2];rfl,blk_frozen hT3 _⟩
      · exact ⟨by rw [Nat.zero_add,v3];rfl,blk_frozen hT3 _⟩
      · exact ⟨by rw [Nat.zero_add,v4];rfl,blk_frozen hT3 _⟩
      · exact ⟨by rw [Nat.zero_add,v5];rfl,blk_frozen hT3 _⟩
     refine wpAnyH_ready (rs:=[10]) (by kernel_rfl) (by decide) (AllReadyH.cons rfl (fun K hK=>?_) AllReadyH.nil)
     rw [if_pos (by kernel_rfl)]
     refine wp_store_mid 120 (.tmp 7) (.tmp 37) rfl (W1.heap.size) 0 #[p,.int .i64 rr,.int .i64 a,.int .i64 b,.int .i64 c,.int .i64 dd] rfl rfl hthere (by kernel_rfl) (Array.all_eq_true_iff_forall_mem.2 (by intro x hx;simp at hx;rcases hx with rfl|rfl|rfl|rfl|rfl|rfl<;>first|rfl|exact hp1)) ?_
     change K _ (set6 V3 (W1.heap.size) p (.int .i64 rr) (.int .i64 a) (.int .i64 b) (.int .i64 c) (.int .i64 dd))
     have hks:∀ (bb o:Nat) (cc:Value),bb<W1.heap.size→W1.cell? ⟨bb,o,none⟩=some cc→(set6 V3 (W1.heap.size) p (.int .i64 rr) (.int .i64 a) (.int .i64 b) (.int .i64 c) (.int .i64 dd)).cell? ⟨bb,o,none⟩=some cc:=fun bb o cc hbb hcc=>keep6 (cell_stays hx3 hcc) (by show bb≠_;omega)
     refine hK.out _ _ ⟨hks _ _ _ (World.block_lt_of_cell? _ _ s0) s0,hks _ _ _ (World.block_lt_of_cell? _ _ s1) s1,hks _ _ _ (World.block_lt_of_cell? _ _ s2) s2,hks _ _ _ (World.block_lt_of_cell? _ _ s3) s3,hks _ _ _ (World.block_lt_of_cell? _ _ s4) s4,hks _ _ _ (World.block_lt_of_cell? _ _ s5) s5,hks _ _ _ (World.block_lt_of_cell? _ _ s6) s6⟩ (fun hS=>?_)
     refine tk 11 (.bool ok) hS ?_ ?_
     · rintro w' ⟨s0,s1,s2,s3,s4,s5,s6⟩
       go_simp
     simp only [td]
     refine wpAnyH_done (by kernel_rfl) ?_ _
     refine NoPanic.normal ?_
     try simp only [Exit.then]
     have HE1:=Lib.hid (show (set6 V3 (W1.heap.size) p (.int .i64 rr) (.int .i64 a) (.int .i64 b) (.int .i64 c) (.int .i64 dd)).heap[W1.heap.size]?=some (.cells #[p,.int .i64 rr,.int .i64 a,.int .i64 b,.int .i64 c,.int .i64 dd] 120 (0,0)) from blk_set6 hT3 _ _ _ _ _ _)
     have HE2:=Lib.hid (show Below W1.heap.size W1 (set6 V3 (W1.heap.size) p (.int .i64 rr) (.int .i64 a) (.int .i64 b) (.int .i64 c) (.int .i64 dd)) from below_set6 hx3 (by omega) _ _ _ _ _ _)
     clear hS hks hthere s0 s1 s2 s3 s4 s5 s6
     generalize set6 V3 (W1.heap.size) p (.int .i64 rr) (.int .i64 a) (.int .i64 b) (.int .i64 c) (.int .i64 dd)=W9 at *
     obtain ⟨_,q0,q1,q2,q3,q4,q5⟩:=blk6 HE1.out
     have HC9:=Lib.hid (HC1.out.below HE2.out)
     have HXB:=Lib.hid ((Exw.of_below (R:=wk) (S:=mt) HB1.out).trans ((Exw.of_below (R:=wk) (S:=mt) HE2.out).mono HB1.out.size))
     cases ok with
     | false =>
      have HEND:Hid (P (.returned (.bool false)) W9):=Lib.hid (by
       rw [HP.out,HRES.out]
       refine rpost_none HC9.out.st HXB.out ?_
       rcases hok with ⟨h1,_⟩|⟨_,h1⟩
       · cases h1
       · exact h1)
      go_wp2
      exact HEND.out
     | true =>
      rcases hok with ⟨_,to,t,hj,ht,hval⟩|⟨h1,_⟩
      case inr=>cases h1
      obtain ⟨e0,e1,e2,e3,e4,e5⟩:=agg6_inj hval
      injection e1 with _ e1
      injection e2 with _ e2
      injection e3 with _ e3
      injection e4 with _ e4
      injection e5 with _ e5
      subst e0 e1 e2 e3 e4 e5
      have hjb:=jump_bd HC1.out.msg.msg.bytes.1 hj
      have hlen:=HC1.out.msg.msg.len
      have hlz:lenZ zs=(zs.length:Int):=rfl
      have HSC:=Lib.hid (HST.out.run HC9.out r t a hrr ht (by omega))
      unfold strV at HSC
      have HLIFT:Hid (∀ e W,RPost (structT (sRecs ss) zs (nextZ (sRecs ss) es zs room) r a t left) wk m mt left ml W9 e W→P e W):=Lib.hid (fun e W hp=>by
       rw [HP.out,HRES.out]
       have he:(pointZ zs at' fun to=>structAtZ (sRecs ss) zs (nextZ (sRecs ss) es zs room) r to left)=structT (sRecs ss) zs (nextZ (sRecs ss) es zs room) r a t left:=by
        unfold pointZ
        rw [hj]
        exact structAt_some ht
       rw [he]
       exact ⟨HXB.out.trans (hp.1.mono HXB.out.size),hp.2⟩)
      clear hjb hlen hlz hj ht hval hpt
      go_wp2_with fail
      refine HSC.out.mono ?_
      rintro e W2 hp
      have HPE:=Lib.hid (HLIFT.out e W2 hp)
      obtain ⟨b,rfl⟩:=rpost_ret hp
      clear hp q0 q1 q2 q3 q4 q5
      go_wp2
      exact HPE.out
end Go.Proofs.YtcfjjocmiheiaaaDoor
