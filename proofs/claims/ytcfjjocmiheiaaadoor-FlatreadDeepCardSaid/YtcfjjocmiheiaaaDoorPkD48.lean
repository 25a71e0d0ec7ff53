/-
  The laws' told: of any bytes and any made schema what is read is what the bytes denote. Conditions: those that each theorem names.
-/
import Derived.Test.YtcfjjocmiheiaaaDoorPkD52
import Derived.Test.YtcfjjocmiheiaaaDoorPkD5
import Derived.Test.YtcfjjocmiheiaaaDoorPkD7
import Derived.Test.YtcfjjocmiheiaaaDoorPkD14
import Derived.Test.YtcfjjocmiheiaaaDoorPkD21
import Derived.Test.YtcfjjocmiheiaaaDoorPkD30
import Derived.Test.YtcfjjocmiheiaaaDoorPkD45
import Derived.Test.YtcfjjocmiheiaaaDoorPkD47
namespace Go.Proofs.YtcfjjocmiheiaaaDoor
open Go.ChangeShapes Go.WideShapes Go.ChangeAt Go.RowKit Go.Shelf
theorem u8_infoT:(Tryd.prog.info? 5).map (fun i=>(i.zero,i.size,i.bytes))=some (some (.int .u8 0),1,1):=by kernel_rfl
set_option maxRecDepth 100000 in
theorem enough_any (w:World):Calls Tryd.prog 18 #[] w fun e w'=>e=.returned (.pointer (some ⟨w.heap.size,0,none⟩))∧w'.heap[w.heap.size]?=some (.cells #[.int .i64 1099511627776,.bool false] 106 (0,0))∧Below w.heap.size w w':=by
 have HN:=Lib.hid (new_any 1099511627776 w)
 go_enter Tryd.func18,Tryd.ntmps18
 go_wp2_with fail
 refine HN.out.mono ?_
 rintro e W1 ⟨rfl,rfl⟩
 have H1:=Lib.hid (heap_alloc_new w (.cells #[.int .i64 (atLeast0 1099511627776),.bool false] 106))
 have H2:=Lib.hid ((Below.refl w.heap.size w).alloc (Nat.le_refl _) (.cells #[.int .i64 (atLeast0 1099511627776),.bool false] 106))
 generalize w.alloc (.cells #[.int .i64 (atLeast0 1099511627776),.bool false] 106)=W1 at *
 go_wp2
 go_ret
 exact ⟨rfl,H1.out,H2.out⟩
theorem Shown.iface {ss:List CRec}{n:Nat}{w:World}{v:Value}{ref:Int}{q:PV}(h:Shown ss n w v 13 ref 0 q):∃ T r,v=.iface T r:=by
 cases n with
 | zero=>exact absurd h.1 (by decide)
 | succ n =>
  rcases h with ⟨h1,_⟩|⟨_,h1,_⟩
  · exact absurd h1 (by decide)
  · exact h1.there
set_option maxRecDepth 100000 in
set_option maxHeartbeats 16000000 in
theorem ftold_any (w:World){base:Nat}{ss:List (SRec × Value)}{es:List (SCho × Value)}{sv ev:Value}(root:Nat){bp:Option Addr}{bc:Nat}{zs:List Int}(h:SchRows base w ss es sv ev)(hS:SchM ss (es.map Prod.fst))(hD:∀ q ∈ ss,DfltsOk (es.map Prod.fst) (cR q.1).fields)(hE:es.length≤1000000∧∀ q ∈ es,q.1.names.length≤1000000)(hF:FldsOk (crow ss))(hr:root<ss.length)(hz:Bytes w bp zs)(hl:zs.length≤1000000)(hc:zs.length≤bc)(hA:Amb w.heap.size w) :
  Calls Tryd.prog 19 #[.agg #[sv,ev,.int .i64 root],.slice bp zs.length bc] w fun e w'=>e=.returned (.bool true)∧Below w.heap.size w w':=by
 have hb:=(Below.refl w.heap.size w).alloc (Nat.le_refl _) (.cells #[sv,ev,.int .i64 root] 30)
 have HB:=Lib.hid hb
 have HQ:=Lib.hid (heap_alloc_new w (.cells #[sv,ev,.int .i64 root] 30))
 have HR:=Lib.hid (h.below hb)
 have HZ:=Lib.hid (hz.below (Nat.le_refl _) hb)
 have HA:=Lib.hid hA
 have HSS:=Lib.hid hS
 have HDD:=Lib.hid hD
 have HEE:=Lib.hid hE
 have HFF:=Lib.hid hF
 have HRT:=Lib.hid hr
 have HL:=Lib.hid (And.intro hl hc)
 have hl2:=hl
 clear hb h hz hA hS hD hE hF hr hc hl
 go_enter Tryd.func19,Tryd.ntmps19
 go_upto_region 1 with (fail)
 generalize w.alloc (.cells #[sv,ev,.int .i64 root] 30)=W0 at *
 have HOWN0:=Lib.hid (own_blk (base:=W0.heap.size) (n:=0) (size:=1) (heap_alloc_new W0 (.cells #[] 5)) (Nat.le_refl _) (by decide) rfl)
 have HA0:=Lib.hid ((Below.refl W0.heap.size W0).alloc (Nat.le_refl _) (.cells #[] 5))
 have HSRC:=Lib.hid (src_bytes HZ.out (fun p x hp=>cell_stays HA0.out hp) bc)
 obtain ⟨i0,hi0,hzz0,hzz1,hzz2⟩:=info_parts u8_infoT
 have I1:=Lib.hid hi0
 have I2:=Lib.hid hzz0
 have I3:=Lib.hid hzz1
 have I4:=Lib.hid hzz2
 clear hi0 hzz0 hzz1 hzz2
 go_upto_region 2 with (at_builtin;refine wpList_append_first _ rfl (.tmp 10) (.tmp 11) 22 22 rfl W0.heap.size 5 i0 _ 1 Tryd.underlying22 I1.out I2.out I3.out rfl _ rfl HOWN0.out _ zs.length (u8Cells zs) rfl HSRC.out (by unfold maxLen;omega) (by rw [I4.out];omega) (by simp) ?_;intro v4 W2 hown4 hg4 hat4;clear hat4;obtain ⟨a4,m4,rfl⟩:=ownsRow_form hown4;have HB2:=Lib.hid (HA0.out.grown hg4 (by simp) (fun k hk=>(ownsRow_lt HOWN0.out k hk).1));have HO2:=Lib.hid hown4;clear hown4 hg4)
 have HBW:=Lib.hid (HB.out.trans (HB2.out.mono HB.out.size))
 have HQ2:=Lib.hid (blk_below HQ.out HB2.out (blk_lt HQ.out))
 have HR2:=Lib.hid (HR.out.below HB2.out)
 have HZ2:=Lib.hid (HZ.out.below (Nat.le_refl _) HB2.out)
 have HIN:Hid (Bytes W2 a4 zs):=Lib.hid (Bytes.mono (by rw [hide_size];exact Nat.le_refl _) (fun p x hp=>(hide_some hp).2) (bytes_own (S:=fun _=>false) HO2.out (bytes_all HZ.out) (fun _ _=>rfl)).1)
 have HCP:=Lib.hid (row_cap HO2.out)
 have HA2:=Lib.hid (HA.out.below HBW.out)
 have HWL:=Lib.hid HBW.out.size
 clear HOWN0 HA0 HSRC I1 I2 I3 I4 HO2 HB HQ HR HZ HB2 HA
 have HEN:Hid (Calls Tryd.prog 18 #[] W2.drew fun e w'=>e=.returned (.pointer (some ⟨W2.heap.size,0,none⟩))∧w'.heap[W2.heap.size]?=some (.cells #[.int .i64 1099511627776,.bool false] 106 (0,0))∧Below W2.heap.size W2.drew w'):=Lib.hid (enough_any W2.drew)
 have HRD:Hid (∀ W,Below W2.heap.size W2 W→W.heap[W2.heap.size]?=some (.cells #[.int .i64 1099511627776,.bool false] 106 (0,0))→Calls Tryd.prog 17 #[.agg #[sv,ev,.int .i64 root],.slice a4 zs.length m4,.pointer (some ⟨W2.heap.size,0,none⟩)] W fun e w'=>Below W2.heap.size W2 w'∧((∃ v l T rv,zs.length≤16384∧flatZ (sRecs ss) (es.map Prod.fst) zs 12 13 root 0 0 zs.length=some (v,l)∧e=.returned (.tuple #[.iface T rv,.int .i64 0])∧Shown (sRecs ss) 12 w' (.iface T rv) 13 root 0 v)∨(e=.returned (.tuple #[.nilIface,.int .i64 20])∧(16384<zs.length∨flatZ (sRecs ss) (es.map Prod.fst) zs 12 13 root 0 0 zs.length=none)))):=Lib.hid (fun W hW hm=>by
  refine (fread_any W (B:=w.heap.size) root (HR2.out.below hW) HSS.out HDD.out HEE.out HRT.out (HIN.out.below (Nat.le_refl _) hW) HL.out.1 HCP.out hm (by omega) HWL.out (HA2.out.below (hW.mono HWL.out))).mono ?_
  rintro e w' ⟨hx,ml',mo,hm',hpost⟩
  refine ⟨hW.trans ((hx.mono hW.size).below (Nat.le_refl _)),?_⟩
  rcases hpost with ⟨v,l,x,h1,h2,h3,h4,_⟩|⟨h1,h2⟩|⟨_,h1,h2⟩
  · obtain ⟨T,rv,rfl⟩:=h4.iface
    exact .inl ⟨v,l,T,rv,h1,h2,h3,h4⟩
  · exact .inr ⟨h1,h2⟩
  · exfalso
    omega)
 have HDC:Hid (∀ W,Below W2.heap.size W2 W→Calls Tryd.prog 47 #[.agg #[sv,ev,.int .i64 root],.slice bp zs.length bc] W (DecPost (sRecs ss) (es.map Prod.fst) zs root W)):=Lib.hid (fun W hW=>decode_any W root (HR2.out.below hW) HSS.out HRT.out (HZ2.out.below (Nat.le_refl _) hW) HL.out.2 HL.out.1 (fun V hV=>HA2.out V ((hW.mono HWL.out).trans (hV.mono (Nat.le_trans HWL.out hW.size)))))
 obtain ⟨_,s0,s1,s2,_⟩:=blk3 HQ2.out
 refine wp_region_noPanic ?_
 refine wp_region_held_drew (S:=(fun w'=>w'.cell? ⟨w.heap.size,0,none⟩=some (sv)∧w'.cell? ⟨w.heap.size,1,none⟩=some (ev)∧w'.cell? ⟨w.heap.size,2,none⟩=some (.int .i64 root))) (by kernel_rfl) ⟨s0,s1,s2⟩ ?_
 intro hS
 refine tk 0 (.agg #[sv,ev,.int .i64 root]) hS ?_ ?_
 · rintro w' ⟨s0,s1,s2⟩
   go_simp
 simp only [td]
 refine tk 1 (.slice a4 zs.length m4) hS ?_ ?_
 · rintro w' ⟨s0,s1,s2⟩
   go_simp
 simp only [td]
 refine wpAnyH_ready (rs:=[2]) (by kernel_rfl) (by decide) (AllReadyH.cons rfl (fun K hK=>?_) AllReadyH.nil)
 rw [if_pos (by kernel_rfl)]
 go_simp
 refine HEN.out.mono ?_
 rintro e W3 ⟨rfl,hmt,hb3⟩
 have hb3':Below W2.heap.size W2 W3:=(Below.refl _ W2).drew.trans hb3
 have n0:=cell_stays hb3' s0
 have n1:=cell_stays hb3' s1
 have n2:=cell_stays hb3' s2
 refine hK.out _ _ ⟨n0,n1,n2⟩ (fun hS=>?_)
 clear n0 n1 n2
 refine wpAnyH_ready (rs:=[3]) (by kernel_rfl) (by decide) (AllReadyH.cons rfl (fun K hK=>?_) AllReadyH.nil)
 rw [if_pos (by kernel_rfl)]
 go_simp
 refine (HRD.out W3 hb3' hmt).mono ?_
 rintro e W4 ⟨hb4,hpost⟩
 have n0:=cell_stays hb4 s0
 have n1:=cell_stays hb4 s1
 have n2:=cell_stays hb4 s2
 rcases hpost with ⟨v,l,T,rv,hlz,hfl,rfl,hsh⟩|⟨rfl,hno⟩
 · refine hK.out _ _ ⟨n0,n1,n2⟩ (fun hS=>?_)
   have HSH:=Lib.hid hsh
   have HFL:=Lib.hid (And.intro hlz hfl)
   clear n0 n1 n2 hlz hfl hsh
   refine tk 4 (.tuple #[.iface T rv,.int .i64 0]) hS ?_ ?_
   · rintro w' ⟨s0,s1,s2⟩
     go_simp
   simp only [td]
   refine tk 5 (.iface T rv) hS ?_ ?_
   · rintro w' ⟨s0,s1,s2⟩
     go_simp
   simp only [td]
   refine tk 6 (.int .i64 0) hS ?_ ?_
   · rintro w' ⟨s0,s1,s2⟩
     go_simp
   simp only [td]
   refine tk 7 (.iface T rv) hS ?_ ?_
   · rintro w' ⟨s0,s1,s2⟩
     go_simp
   simp only [td]
   refine tk 8 (.int .i64 0) hS ?_ ?_
   · rintro w' ⟨s0,s1,s2⟩
     go_simp
   simp only [td]
   refine wpAnyH_done (by kernel_rfl) ?_ _
   refine NoPanic.normal ?_
   try simp only [Exit.then]
   have HB4:=Lib.hid hb4
   have HQ4:=Lib.hid (blk_below HQ2.out hb4 (blk_lt HQ2.out))
   clear hb4 hb3 hb3' hmt hS s0 s1 s2
   obtain ⟨_,s0,s1,s2,_⟩:=blk3 HQ4.out
   go_wp2_with fail
   refine (HDC.out W4 HB4.out).mono ?_
   rintro e W5 ⟨hb5,hdec⟩
   have HB5:=Lib.hid (HB4.out.trans (hb5.mono HB4.out.size))
   have HB45:=Lib.hid hb5
   have HQ5:=Lib.hid (blk_below HQ4.out hb5 (blk_lt HQ4.out))
   clear hb5 s0 s1 s2
   rcases hdec with ⟨v',l',val,_,hfl',rfl,hvh⟩|⟨hno,_⟩
   · have hvv:v=v':=by
      have h5:=HFL.out.2
      rw [hfl'] at h5
      injection h5 with h5
      injection h5 with h5 _
      exact h5.symm
     subst hvv
     obtain ⟨da,dk,dc,dd,rfl,_⟩:=IsV.form hvh
     have hba:Below W5.heap.size W5 (W5.alloc (.cells #[.int .u64 v.num,.slice da v.bytes.length dc,.slice dk v.kids.length dd,.bool v.has] 36)):=(Below.refl _ _).alloc (Nat.le_refl _) _
     have HVB:=Lib.hid (heap_alloc_new W5 (.cells #[.int .u64 v.num,.slice da v.bytes.length dc,.slice dk v.kids.length dd,.bool v.has] 36))
     have HB6:=Lib.hid (HB5.out.trans (hba.mono HB5.out.size))
     have HQ6:=Lib.hid (blk_below HQ5.out hba (blk_lt HQ5.out))
     have HSH6:=Lib.hid (HSH.out.later _ (HB45.out.trans (hba.mono HB45.out.size)))
     have HV6:=Lib.hid (hvh.out.later hba)
     clear hba hvh hfl'
     go_upto_region 6 with (fail)
     generalize W5.alloc (.cells #[.int .u64 v.num,.slice da v.bytes.length dc,.slice dk v.kids.length dd,.bool v.has] 36)=W6 at *
     generalize W5.heap.size=VB at *
     obtain ⟨_,s0,s1,s2,_⟩:=blk3 HQ6.out
     obtain ⟨_,t0,t1,t2,t3⟩:=blk4p HVB.out
     have b0:=HIN.out.below (Nat.le_refl _) HB6.out
     have b1:=HZ2.out.below (Nat.le_refl _) HB6.out
     have HTR:Hid (∀ W,Below W6.heap.size W6 W→Calls Tryd.prog 48 #[.agg #[sv,ev,.int .i64 root],.int .i64 root,.iface T rv] W fun e w'=>(∃ val',e=.returned val'∧VH (newS W.heap.size) w' v val')∧Below W.heap.size W w'):=Lib.hid (fun W hb=>stree_any W root root ((HR2.out.below (HB6.out.trans (hb.mono HB6.out.size))).crows) HFF.out (fun i hi=>by
      have hi2:i<ss.length:=by rw [List.length_map] at hi;exact hi
      have h5:=(HSS.out.2 ss[i] (List.getElem_mem hi2)).1
      rw [List.getElem_map]
      show (ss[i].1.fields.map cF).length≤1000000
      rw [List.length_map]
      omega) v _ (HSH6.out.later _ hb))
     refine wp_region_noPanic ?_
     refine wp_region_held_drew (S:=(fun w'=>w'.cell? ⟨w.heap.size,0,none⟩=some (sv)∧w'.cell? ⟨w.heap.size,1,none⟩=some (ev)∧w'.cell? ⟨w.heap.size,2,none⟩=some (.int .i64 root)∧w'.cell? ⟨VB,0,none⟩=some (.int .u64 v.num)∧w'.cell? ⟨VB,1,none⟩=some (.slice da v.bytes.length dc)∧w'.cell? ⟨VB,2,none⟩=some (.slice dk v.kids.length dd)∧w'.cell? ⟨VB,3,none⟩=some (.bool v.has)∧Bytes w' a4 zs∧Bytes w' bp zs)) (by kernel_rfl) ⟨s0,s1,s2,t0,t1,t2,t3,b0,b1⟩ ?_
     intro hS
     refine tk 0 (.int .i64 0) hS ?_ ?_
     · rintro w' ⟨s0,s1,s2,t0,t1,t2,t3,b0,b1⟩
       go_simp
     simp only [td]
     refine tk 1 (.bool true) hS ?_ ?_
     · rintro w' ⟨s0,s1,s2,t0,t1,t2,t3,b0,b1⟩
       go_simp
     simp only [td]
     refine tk 2 (.bool true) hS ?_ ?_
     · rintro w' ⟨s0,s1,s2,t0,t1,t2,t3,b0,b1⟩
       go_simp
     simp only [td]
     refine tk 3 (.iface T rv) hS ?_ ?_
     · rintro w' ⟨s0,s1,s2,t0,t1,t2,t3,b0,b1⟩
       go_simp
     simp only [td]
     refine tk 4 (.bool true) hS ?_ ?_
     · rintro w' ⟨s0,s1,s2,t0,t1,t2,t3,b0,b1⟩
       go_simp
     simp only [td]
     refine tk 5 (.bool true) hS ?_ ?_
     · rintro w' ⟨s0,s1,s2,t0,t1,t2,t3,b0,b1⟩
       go_simp
     simp only [td]
     refine tk 6 (.bool true) hS ?_ ?_
     · rintro w' ⟨s0,s1,s2,t0,t1,t2,t3,b0,b1⟩
       go_simp
     simp only [td]
     refine tk 7 (.agg #[sv,ev,.int .i64 root]) hS ?_ ?_
     · rintro w' ⟨s0,s1,s2,t0,t1,t2,t3,b0,b1⟩
       go_simp
     simp only [td]
     refine tk 8 (.pointer (some ⟨w.heap.size,2,none⟩)) hS ?_ ?_
     · rintro w' ⟨s0,s1,s2,t0,t1,t2,t3,b0,b1⟩
       go_simp
     simp only [td]
     refine tk 9 (.int .i64 root) hS ?_ ?_
     · rintro w' ⟨s0,s1,s2,t0,t1,t2,t3,b0,b1⟩
       go_simp
     simp only [td]
     refine tk 10 (.iface T rv) hS ?_ ?_
     · rintro w' ⟨s0,s1,s2,t0,t1,t2,t3,b0,b1⟩
       go_simp
     simp only [td]
     refine tk 12 (.agg #[.int .u64 v.num,.slice da v.bytes.length dc,.slice dk v.kids.length dd,.bool v.has]) hS ?_ ?_
     · rintro w' ⟨s0,s1,s2,t0,t1,t2,t3,b0,b1⟩
       go_simp
     simp only [td]
     refine wpAnyH_ready (rs:=[11]) (by kernel_rfl) (by decide) (AllReadyH.cons rfl (fun K hK=>?_) AllReadyH.nil)
     rw [if_pos (by kernel_rfl)]
     go_simp
     refine (HTR.out W6.drew ((Below.refl _ W6).drew)).mono ?_
     rintro e W7 ⟨⟨val7,rfl,hvh7⟩,hb7⟩
     have hxW7:Below W6.heap.size W6 W7:=(Below.refl _ W6).drew.trans hb7
     have hv7:=hvh7.out
     have HV7:=Lib.hid (HV6.out.later hxW7)
     have ns0:=cell_stays hxW7 s0
     have ns1:=cell_stays hxW7 s1
     have ns2:=cell_stays hxW7 s2
     have nt0:=cell_stays hxW7 t0
     have nt1:=cell_stays hxW7 t1
     have nt2:=cell_stays hxW7 t2
     have nt3:=cell_stays hxW7 t3
     have nb0:=b0.below (Nat.le_refl _) hxW7
     have nb1:=b1.below (Nat.le_refl _) hxW7
     refine hK.out _ _ ⟨ns0,ns1,ns2,nt0,nt1,nt2,nt3,nb0,nb1⟩ (fun hS=>?_)
     clear ns0 ns1 ns2 nt0 nt1 nt2 nt3 nb0 nb1
     refine wpAnyH_ready (rs:=[13]) (by kernel_rfl) (by decide) (AllReadyH.cons rfl (fun K hK=>?_) AllReadyH.nil)
     rw [if_pos (by kernel_rfl)]
     go_simp
     refine (same_any v W7 v _ _ hv7 HV7.out).mono ?_
     rintro e W8 ⟨⟨rr,rfl,hrr⟩,hb8⟩
     obtain rfl:rr=true:=hrr.2 rfl
     have hxW8:Below W6.heap.size W6 W8:=hxW7.trans (hb8.mono hxW7.size)
     have ns0:=cell_stays hxW8 s0
     have ns1:=cell_stays hxW8 s1
     have ns2:=cell_stays hxW8 s2
     have nt0:=cell_stays hxW8 t0
     have nt1:=cell_stays hxW8 t1
     have nt2:=cell_stays hxW8 t2
     have nt3:=cell_stays hxW8 t3
     have nb0:=b0.below (Nat.le_refl _) hxW8
     have nb1:=b1.below (Nat.le_refl _) hxW8
     refine hK.out _ _ ⟨ns0,ns1,ns2,nt0,nt1,nt2,nt3,nb0,nb1⟩ (fun hS=>?_)
     clear ns0 ns1 ns2 nt0 nt1 nt2 nt3 nb0 nb1
     refine tk 14 (.bool true) hS ?_ ?_
     · rintro w' ⟨s0,s1,s2,t0,t1,t2,t3,b0,b1⟩
       go_simp
     simp only [td]
     refine tk 15 (.bool true) hS ?_ ?_
     · rintro w' ⟨s0,s1,s2,t0,t1,t2,t3,b0,b1⟩
       go_simp
     simp only [td]
     refine tk 16 (.slice a4 zs.length m4) hS ?_ ?_
     · rintro w' ⟨s0,s1,s2,t0,t1,t2,t3,b0,b1⟩
       go_simp
     simp only [td]
     refine tk 17 (.string (strOfNums zs)) hS ?_ ?_
     · rintro w' ⟨s0,s1,s2,t0,t1,t2,t3,b0,b1⟩
       have k1:=conv_bytes b0 m4
       go_simp
     simp only [td]
     refine tk 18 (.slice bp zs.length bc) hS ?_ ?_
     · rintro w' ⟨s0,s1,s2,t0,t1,t2,t3,b0,b1⟩
       go_simp
     simp only [td]
     refine tk 19 (.string (strOfNums zs)) hS ?_ ?_
     · rintro w' ⟨s0,s1,s2,t0,t1,t2,t3,b0,b1⟩
       have k1:=conv_bytes b1 bc
       go_simp
     simp only [td]
     refine tk 20 (.bool true) hS ?_ ?_
     · rintro w' ⟨s0,s1,s2,t0,t1,t2,t3,b0,b1⟩
       go_simp
     simp only [td]
     refine tk 21 (.bool true) hS ?_ ?_
     · rintro w' ⟨s0,s1,s2,t0,t1,t2,t3,b0,b1⟩
       go_simp
     simp only [td]
     refine tk 22 (.bool true) hS ?_ ?_
     · rintro w' ⟨s0,s1,s2,t0,t1,t2,t3,b0,b1⟩
       go_simp
     simp only [td]
     refine wpAnyH_done (by kernel_rfl) ?_ _
     refine NoPanic.normal ?_
     try simp only [Exit.then]
     have HB8:=Lib.hid (HB6.out.trans (hxW8.mono HB6.out.size))
     clear hS s0 s1 s2 t0 t1 t2 t3 b0 b1 hrr hb8 hxW8 hv7 hvh7 hb7 hxW7
     go_wp2
     go_ret
     exact ⟨rfl,HBW.out.trans (HB8.out.mono HBW.out.size)⟩
   · exfalso
     rcases hno with hno|hno
     · have:=HFL.out.1
       omega
     · rw [HFL.out.2] at hno
       cases hno
 · refine hK.out _ _ ⟨n0,n1,n2⟩ (fun hS=>?_)
   have HNO:=Lib.hid hno
   clear n0 n1 n2 hno
   refine tk 4 (.tuple #[.nilIface,.int .i64 20]) hS ?_ ?_
   · rintro w' ⟨s0,s1,s2⟩
     go_simp
   simp only [td]
   refine tk 5 (.nilIface) hS ?_ ?_
   · rintro w' ⟨s0,s1,s2⟩
     go_simp
   simp only [td]
   refine tk 6 (.int .i64 20) hS ?_ ?_
   · rintro w' ⟨s0,s1,s2⟩
     go_simp
   simp only [td]
   refine tk 7 (.nilIface) hS ?_ ?_
   · rintro w' ⟨s0,s1,s2⟩
     go_simp
   simp only [td]
   refine tk 8 (.int .i64 20) hS ?_ ?_
   · rintro w' ⟨s0,s1,s2⟩
     go_simp
   simp only [td]
   refine wpAnyH_done (by kernel_rfl) ?_ _
   refine NoPanic.normal ?_
   try simp only [Exit.then]
   have HB4:=Lib.hid hb4
   have HQ4:=Lib.hid (blk_below HQ2.out hb4 (blk_lt HQ2.out))
   clear hb4 hb3 hb3' hmt hS s0 s1 s2
   obtain ⟨_,s0,s1,s2,_⟩:=blk3 HQ4.out
   go_wp2_with fail
   refine (HDC.out W4 HB4.out).mono ?_
   rintro e W5 ⟨hb5,hdec⟩
   have HB5:=Lib.hid (HB4.out.trans (hb5.mono HB4.out.size))
   have HB45:=Lib.hid hb5
   have HQ5:=Lib.hid (blk_below HQ4.out hb5 (blk_lt HQ4.out))
   clear hb5 s0 s1 s2
   rcases hdec with ⟨v',l',val,hlz,hfl',rfl,hvh⟩|⟨_,val,rfl,y0,y1,y2,y3,y4,y5,y6,y7,rfl⟩
   · exfalso
     rcases HNO.out with hno|hno
     · omega
     · rw [hfl'] at hno
       cases hno
   · have hba:Below W5.heap.size W5 (W5.alloc (.cells #[.int .u64 y0,.slice y1 y2 y3,.slice y4 y5 y6,.bool y7] 36)):=(Below.refl _ _).alloc (Nat.le_refl _) _
     have HB6:=Lib.hid (HB5.out.trans (hba.mono HB5.out.size))
     clear hba
     go_upto_region 4 with (fail)
     generalize W5.alloc (.cells #[.int .u64 y0,.slice y1 y2 y3,.slice y4 y5 y6,.bool y7] 36)=W6 at *
     go_wp2
     go_ret
     exact ⟨rfl,HBW.out.trans (HB6.out.mono HBW.out.size)⟩
end Go.Proofs.YtcfjjocmiheiaaaDoor
