/-
  Package flatread: is the whole right. Conditions: those that each theorem names.
-/
import Derived.Test.YtcfjjocmiheiaaaDoorPkD52
import Derived.Test.YtcfjjocmiheiaaaDoorPkD25
import Derived.Test.YtcfjjocmiheiaaaDoorPkD26
namespace Go.Proofs.YtcfjjocmiheiaaaDoor
open Go.ChangeShapes Go.WideShapes Go.ChangeAt Go.RowKit Go.Shelf
theorem kidR_all:∀ room,room≤12→KidRAt room
 | 0,h=>fkidRight 0 (fstructRight 0 h (fun q e=>by omega)) (flistRight 0 h (fun q e=>by omega))
 | n+1,h =>
  have hn:∀ q,n+1=q+1→KidRAt q:=fun q e=>by
   obtain rfl:n=q:=by omega
   exact kidR_all n (by omega)
  fkidRight (n+1) (fstructRight (n+1) h hn) (flistRight (n+1) h hn)
theorem structR_all:StructRAt 12:=fstructRight 12 (Nat.le_refl _) (fun q e=>kidR_all q (by omega))
theorem ptd_ptr {zs:List Int}{m:Nat}{ref at':Int}{there:Bool}{p a b c d f:Value}{ok:Bool}(h:PtdPost zs m ref at' there (.returned (.tuple #[.agg #[p,a,b,c,d,f],.bool ok]))):∃ pp,p=Value.pointer pp:=by
 have key:∀ {x y z u v w:Value} {o:Bool},Ending.returned (.tuple #[.agg #[p,a,b,c,d,f],.bool ok])=.returned (.tuple #[.agg #[x,y,z,u,v,w],.bool o])→p=x:=fun {x y z u v w o} he=>by
  injection he with he
  injection he with he
  have e0:some (Value.agg #[p,a,b,c,d,f])=some (.agg #[x,y,z,u,v,w]):=congrArg (fun x:Array Value=>x[0]?) he
  exact (agg6_inj (Option.some.inj e0)).1
 rcases h with ⟨to,t,_,_,_,he⟩|⟨_,p',r',a',b',c',d',he⟩
 · exact ⟨_,key he⟩
 · exact ⟨_,key he⟩
theorem set6_exw {R S:Nat}{w W:World}{g:Nat}(h:Exw R S w.heap.size W W)(hg:w.heap.size≤g)(a b c d e f:Value):Exw R S w.heap.size W (set6 W g a b c d e f):=
 (((((h.setCell (p:=⟨g,0,none⟩) (.inr (.inr hg)) a).setCell (p:=⟨g,1,none⟩) (.inr (.inr hg)) b).setCell (p:=⟨g,2,none⟩) (.inr (.inr hg)) c).setCell (p:=⟨g,3,none⟩) (.inr (.inr hg)) d).setCell (p:=⟨g,4,none⟩) (.inr (.inr hg)) e).setCell (p:=⟨g,5,none⟩) (.inr (.inr hg)) f
theorem set6_blk {W:World}{g k:Nat}(h:k≠g)(a b c d e f:Value):(set6 W g a b c d e f).heap[k]?=W.heap[k]?:=by
 have e1:∀ (w:World) (i:Nat) (x:Value),(w.setCell ⟨g,i,none⟩ x).heap[k]?=w.heap[k]?:=fun w i x=>Below.heap_setCell _ _ _ _ h
 unfold set6
 rw [e1,e1,e1,e1,e1,e1]
theorem set6_state {W:World}{wk m mt g:Nat}{out mo:Bool}{left ml:Int}(h:WState W wk m mt out left ml mo)(h1:wk≠g)(h2:mt≠g)(a b c d e f:Value):WState (set6 W g a b c d e f) wk m mt out left ml mo:=
 ⟨(set6_blk h1 _ _ _ _ _ _).trans h.walk,(set6_blk h2 _ _ _ _ _ _).trans h.meter⟩
def WholePost (zs:List Int)(m r:Nat)(res:Option (PV × Int))(wk mt:Nat)(left ml:Int)(w:World)(e:Ending)(w':World):Prop:=
 Exw wk mt w.heap.size w w' ∧
 ((∃ v l' ml' to t,res=some (v,l')∧jumpZ zs 0=some to∧tabZ zs to=some t∧e=.returned (.tuple #[strV m r t to,.bool true])∧WState w' wk m mt false l' ml' false∧ml'≤ml) ∨
  ((∃ p rr a b c d,(∃ pp,p=Value.pointer pp)∧e=.returned (.tuple #[.agg #[p,.int .i64 rr,.int .i64 a,.int .i64 b,.int .i64 c,.int .i64 d],.bool false]))∧∃ o l' ml' mo,WState w' wk m mt o l' ml' mo∧(o=false→res=none)∧(o=true→ml<3 * left)))
set_option maxRecDepth 100000 in
set_option maxHeartbeats 16000000 in
theorem fwhole {base:Nat}{w:World}{m:Nat}{bp:Option Addr}{bc:Nat}{sv ev:Value}{zs:List Int}{ss:List (SRec × Value)}{es:List SCho}{fs:List (List CFld × Value)}{ns:List Nat}{wk mt B:Nat}{left ml:Int}(h:RCtx base w m bp bc sv ev zs ss es fs ns wk mt B left ml)(r:Nat)(hr:r<ss.length) :
  Calls Tryd.prog 46 #[.pointer (some ⟨wk,0,none⟩),.int .i64 r] w (WholePost zs m r (flatZ (sRecs ss) es zs 12 13 r 0 0 left) wk mt left ml w):=by
 obtain ⟨h0,h1,h2⟩:=two_start w #[.pointer none,.int .i64 0,.int .i64 0,.int .i64 0,.int .i64 0,.int .i64 0] #[.int .u8 13,.int .i64 r,.int .i64 0,.int .i64 0,.int .u64 0,.bool true] 120 166
 have HB1:=Lib.hid h0
 have HR:=Lib.hid h1
 have HX:=Lib.hid h2
 have HC1:=Lib.hid (h.below h0)
 have HKW:Hid (wk<w.heap.size∧mt<w.heap.size):=Lib.hid ⟨blk_lt h.st.walk,blk_lt h.st.meter⟩
 obtain ⟨P,hP⟩:∃ P,WholePost zs m r (flatZ (sRecs ss) es zs 12 13 r 0 0 left) wk mt left ml w=P:=⟨_,rfl⟩
 rw [hP]
 have HP:=Lib.hid (hP.symm.trans (by rw [flatZ_eq]))
 have HRES:Hid (valZ (sRecs ss) es zs (nextZ (sRecs ss) es zs 12) 13 r 0 0 left=pointZ zs 0 fun to=>structAtZ (sRecs ss) zs (nextZ (sRecs ss) es zs 12) r to left):=Lib.hid (by unfold valZ;rfl)
 have HPT:=Lib.hid (fun W (hW:Below ((w.alloc (.cells #[.pointer none,.int .i64 0,.int .i64 0,.int .i64 0,.int .i64 0,.int .i64 0] 120)).alloc (.cells #[.int .u8 13,.int .i64 r,.int .i64 0,.int .i64 0,.int .u64 0,.bool true] 166)).heap.size ((w.alloc (.cells #[.pointer none,.int .i64 0,.int .i64 0,.int .i64 0,.int .i64 0,.int .i64 0] 120)).alloc (.cells #[.int .u8 13,.int .i64 r,.int .i64 0,.int .i64 0,.int .u64 0,.bool true] 166)) W)=>fpointed_any W ((h.below h0).below hW).msg.msg 13 r 0 0 0 true)
 unfold kidV at HPT
 have HMW:Hid (m≠wk∧True):=Lib.hid ⟨fun e=>by
  have h3:=h.msg.msg.blk
  rw [e,h.st.walk] at h3
  injection h3 with h3
  injection h3 with h3 _ _
  have h4:=congrArg Array.size h3
  simp at h4,trivial⟩
 clear hP h0 h1 h2 h
 go_enter Tryd.func46,Tryd.ntmps46
 go_upto_region 2 with (fail)
 generalize (w.alloc (.cells #[.pointer none,.int .i64 0,.int .i64 0,.int .i64 0,.int .i64 0,.int .i64 0] 120)).alloc (.cells #[.int .u8 13,.int .i64 r,.int .i64 0,.int .i64 0,.int .u64 0,.bool true] 166)=W1 at *
 have HS1:Hid (w.heap.size+1<W1.heap.size):=Lib.hid (blk_lt HX.out)
 obtain ⟨_,s1,s2,s3,s4,s5,s6⟩:=blk6 HX.out
 obtain ⟨_,s0,_,_,_⟩:=blk4w HC1.out.st.walk
 refine wp_region_noPanic ?_
 refine wp_region_held_drew (S:=(fun w'=>w'.cell? ⟨wk,0,none⟩=some (.pointer (some ⟨m,0,none⟩))∧w'.cell? ⟨w.heap.size+1,0,none⟩=some (.int .u8 13)∧w'.cell? ⟨w.heap.size+1,1,none⟩=some (.int .i64 r)∧w'.cell? ⟨w.heap.size+1,2,none⟩=some (.int .i64 0)∧w'.cell? ⟨w.heap.size+1,3,none⟩=some (.int .i64 0)∧w'.cell? ⟨w.heap.size+1,4,none⟩=some (.int .u64 0)∧w'.cell? ⟨w.heap.size+1,5,none⟩=some (.bool true))) (by kernel_rfl) ⟨s0,s1,s2,s3,s4,s5,s6⟩ ?_
 intro hS
 refine tk 0 (.pointer (some ⟨wk,0,none⟩)) hS ?_ ?_
 · rintro w' ⟨s0,s1,s2,s3,s4,s5,s6⟩
   go_simp
 simp only [td]
 refine tk 1 (.pointer (some ⟨wk,0,none⟩)) hS ?_ ?_
 · rintro w' ⟨s0,s1,s2,s3,s4,s5,s6⟩
   go_simp
 simp only [td]
 refine tk 2 (.pointer (some ⟨wk,0,none⟩)) hS ?_ ?_
 · rintro w' ⟨s0,s1,s2,s3,s4,s5,s6⟩
   go_simp
 simp only [td]
 refine tk 3 (.pointer (some ⟨m,0,none⟩)) hS ?_ ?_
 · rintro w' ⟨s0,s1,s2,s3,s4,s5,s6⟩
   go_simp
 simp only [td]
 refine tk 4 (.agg #[.int .u8 13,.int .i64 r,.int .i64 0,.int .i64 0,.int .u64 0,.bool true]) hS ?_ ?_
 · rintro w' ⟨s0,s1,s2,s3,s4,s5,s6⟩
   go_simp
 simp only [td]
 refine wpAnyH_ready (rs:=[5,9]) (by kernel_rfl) (by decide) (AllReadyH.cons rfl (fun K hK=>?_) (AllReadyH.cons rfl (fun K hK=>?_) AllReadyH.nil))
 · rw [if_pos (by kernel_rfl)]
   go_simp
   refine (HPT.out W1.drew ((Below.refl _ W1).drew)).mono ?_
   rintro e V1 ⟨hpt,hb1⟩
   have hv1:Below W1.heap.size W1 V1:=(Below.refl _ W1).drew.trans hb1
   obtain ⟨p,rr,a,b,c,dd,ok,rfl,hp1,hok⟩:=ptd_cases (ss:=sRecs ss) (nx:=nextZ (sRecs ss) es zs 12) (left:=left) hpt
   have HPP:=Lib.hid (ptd_ptr hpt)
   have nn0:=cell_stays hv1 s0
   have nn1:=cell_stays hv1 s1
   have nn2:=cell_stays hv1 s2
   have nn3:=cell_stays hv1 s3
   have nn4:=cell_stays hv1 s4
   have nn5:=cell_stays hv1 s5
   have nn6:=cell_stays hv1 s6
   refine hK.out _ _ ⟨nn0,nn1,nn2,nn3,nn4,nn5,nn6⟩ (fun hS=>?_)
   clear nn0 nn1 nn2 nn3 nn4 nn5 nn6
   refine tk 6 (.tuple #[.agg #[p,.int .i64 rr,.int .i64 a,.int .i64 b,.int .i64 c,.int .i64 dd],.bool ok]) hS ?_ ?_
   · rintro w' ⟨s0,s1,s2,s3,s4,s5,s6⟩
     go_simp
   simp only [td]
   refine tk 7 (.agg #[p,.int .i64 rr,.int .i64 a,.int .i64 b,.int .i64 c,.int .i64 dd]) hS ?_ ?_
   · rintro w' ⟨s0,s1,s2,s3,s4,s5,s6⟩
     go_simp
   simp only [td]
   refine tk 8 (.bool ok) hS ?_ ?_
   · rintro w' ⟨s0,s1,s2,s3,s4,s5,s6⟩
     go_simp
   simp only [td]
   refine wpAnyH_ready (rs:=[9]) (by kernel_rfl) (by decide) (AllReadyH.cons rfl (fun K hK=>?_) AllReadyH.nil)
   rw [if_pos (by kernel_rfl)]
   go_simp
   have hv2:Below W1.heap.size W1 (V1.alloc (.cells #[.pointer none,.int .i64 0,.int .i64 0,.int .i64 0,.int .i64 0,.int .i64 0] 120)):=hv1.alloc hv1.size _
   have hT2:=heap_alloc_new V1 (.cells #[.pointer none,.int .i64 0,.int .i64 0,.int .i64 0,.int .i64 0,.int .i64 0] 120)
   have nn0:=cell_stays hv2 s0
   have nn1:=cell_stays hv2 s1
   have nn2:=cell_stays hv2 s2
   have nn3:=cell_stays hv2 s3
   have nn4:=cell_stays hv2 s4
   have nn5:=cell_stays hv2 s5
   have nn6:=cell_stays hv2 s6
   refine hK.out _ _ ⟨nn0,nn1,nn2,nn3,nn4,nn5,nn6⟩ (fun hS=>?_)
   clear nn0 nn1 nn2 nn3 nn4 nn5 nn6
   generalize V1.alloc (.cells #[.pointer none,.int .i64 0,.int .i64 0,.int .i64 0,.int .i64 0,.int .i64 0] 120)=V2 at *
   have hthere:V2.there (V1.heap.size) 0 6:=fun i hi=>by
    have h4:i=0∨i=1∨i=2∨i=3∨i=4∨i=5:=by omega
    obtain ⟨_,v0,v1,v2,v3,v4,v5⟩:=blk6 hT2
    rcases h4 with rfl|rfl|rfl|rfl|rfl|rfl
    · exact ⟨by rw [Nat.add_zero,v0];rfl,blk_frozen hT2 _⟩
    · exact ⟨by rw [Nat.zero_add,v1];rfl,blk_frozen hT2 _⟩
    · exact ⟨by rw [Nat.zero_add,v2];rfl,blk_frozen hT2 _⟩
    · exact ⟨by rw [Nat.zero_add,v3];rfl,blk_frozen hT2 _⟩
    · exact ⟨by rw [Nat.zero_add,v4];rfl,blk_frozen hT2 _⟩
    · exact ⟨by rw [Nat.zero_add,v5];rfl,blk_frozen hT2 _⟩
   refine wpAnyH_ready (rs:=[10]) (by kernel_rfl) (by decide) (AllReadyH.cons rfl (fun K hK=>?_) AllReadyH.nil)
   rw [if_pos (by kernel_rfl)]
   refine wp_store_mid 120 (.tmp 7) (.tmp 19) rfl (V1.heap.size) 0 #[p,.int .i64 rr,.int .i64 a,.int .i64 b,.int .i64 c,.int .i64 dd] rfl rfl hthere (by kernel_rfl) (Array.all_eq_true_iff_forall_mem.2 (by intro x hx;simp at hx;rcases hx with rfl|rfl|rfl|rfl|rfl|rfl<;>first|rfl|exact hp1)) ?_
   change K _ (set6 V2 (V1.heap.size) p (.int .i64 rr) (.int .i64 a) (.int .i64 b) (.int .i64 c) (.int .i64 dd))
   have hTS:W1.heap.size≤V1.heap.size:=hv1.size
   have hks:∀ (bb o:Nat) (cc:Value),bb<W1.heap.size→W1.cell? ⟨bb,o,none⟩=some cc→(set6 V2 (V1.heap.size) p (.int .i64 rr) (.int .i64 a) (.int .i64 b) (.int .i64 c) (.int .i64 dd)).cell? ⟨bb,o,none⟩=some cc:=fun bb o cc hbb hcc=>keep6 (cell_stays hv2 hcc) (by show bb≠_;omega)
   refine hK.out _ _ ⟨hks _ _ _ (World.block_lt_of_cell? _ _ s0) s0,hks _ _ _ (World.block_lt_of_cell? _ _ s1) s1,hks _ _ _ (World.block_lt_of_cell? _ _ s2) s2,hks _ _ _ (World.block_lt_of_cell? _ _ s3) s3,hks _ _ _ (World.block_lt_of_cell? _ _ s4) s4,hks _ _ _ (World.block_lt_of_cell? _ _ s5) s5,hks _ _ _ (World.block_lt_of_cell? _ _ s6) s6⟩ (fun hS=>?_)
   refine tk 11 (.bool ok) hS ?_ ?_
   · rintro w' ⟨s0,s1,s2,s3,s4,s5,s6⟩
     go_simp
   simp only [td]
   refine wpAnyH_done (by kernel_rfl) ?_ _
   refine NoPanic.normal ?_
   try simp only [Exit.then]
   have HE1:=Lib.hid (show (set6 V2 (V1.heap.size) p (.int .i64 rr) (.int .i64 a) (.int .i64 b) (.int .i64 c) (.int .i64 dd)).heap[V1.heap.size]?=some (.cells #[p,.int .i64 rr,.int .i64 a,.int .i64 b,.int .i64 c,.int .i64 dd] 120 (0,0)) from blk_set6 hT2 _ _ _ _ _ _)
   have HE2:=Lib.hid (show Below W1.heap.size W1 (set6 V2 (V1.heap.size) p (.int .i64 rr) (.int .i64 a) (.int .i64 b) (.int .i64 c) (.int .i64 dd)) from below_set6 hv2 hTS _ _ _ _ _ _)
   have HLT:Hid (w.heap.size+1<V1.heap.size):=Lib.hid (by have:=HS1.out;omega)
   clear hS hks hthere s0 s1 s2 s3 s4 s5 s6 hTS hpt
   generalize set6 V2 (V1.heap.size) p (.int .i64 rr) (.int .i64 a) (.int .i64 b) (.int .i64 c) (.int .i64 dd)=W9 at *
   obtain ⟨T,hT⟩:∃ T,V1.heap.size=T:=⟨_,rfl⟩
   rw [hT] at HE1 HLT ⊢
   clear hT
   obtain ⟨_,q0,q1,q2,q3,q4,q5⟩:=blk6 HE1.out
   have HC9:=Lib.hid (HC1.out.below HE2.out)
   have HXB:=Lib.hid ((Exw.of_below (R:=wk) (S:=mt) HB1.out).trans ((Exw.of_below (R:=wk) (S:=mt) HE2.out).mono HB1.out.size))
   have HR9:=Lib.hid (blk_below HR.out HE2.out (blk_lt HR.out))
   cases ok with
   | false =>
    go_upto_region 3 with (fail)
    refine wp_region_noPanic ?_
    refine wp_region_held_drew (S:=(fun w'=>w'.cell? ⟨T,0,none⟩=some (p)∧w'.cell? ⟨T,1,none⟩=some (.int .i64 rr)∧w'.cell? ⟨T,2,none⟩=some (.int .i64 a)∧w'.cell? ⟨T,3,none⟩=some (.int .i64 b)∧w'.cell? ⟨T,4,none⟩=some (.int .i64 c)∧w'.cell? ⟨T,5,none⟩=some (.int .i64 dd))) (by kernel_rfl) ⟨q0,q1,q2,q3,q4,q5⟩ ?_
    intro hS
    refine tk 0 (.agg #[p,.int .i64 rr,.int .i64 a,.int .i64 b,.int .i64 c,.int .i64 dd]) hS ?_ ?_
    · rintro w' ⟨q0,q1,q2,q3,q4,q5⟩
      go_simp
    simp only [td]
    refine tk 1 (.bool false) hS ?_ ?_
    · rintro w' ⟨q0,q1,q2,q3,q4,q5⟩
      go_simp
    simp only [td]
    refine tk 2 (.bool false) hS ?_ ?_
    · rintro w' ⟨q0,q1,q2,q3,q4,q5⟩
      go_simp
    simp only [td]
    refine wpAnyH_take (i:=3) (v:=undef) rfl (by kernel_rfl) (by kernel_rfl) (by kernel_rfl) (fun _ _ _ h=>h) (Or.inr ⟨by kernel_rfl,rfl⟩) hS ?_
    simp only [td]
    refine wpAnyH_take (i:=4) (v:=undef) rfl (by kernel_rfl) (by kernel_rfl) (by kernel_rfl) (fun _ _ _ h=>h) (Or.inr ⟨by kernel_rfl,rfl⟩) hS ?_
    simp only [td]
    refine wpAnyH_take (i:=5) (v:=undef) rfl (by kernel_rfl) (by kernel_rfl) (by kernel_rfl) (fun _ _ _ h=>h) (Or.inr ⟨by kernel_rfl,rfl⟩) hS ?_
    simp only [td]
    refine tk 6 (.bool false) hS ?_ ?_
    · rintro w' ⟨q0,q1,q2,q3,q4,q5⟩
      go_simp
    simp only [td]
    have hR10:W9.drew.heap[w.heap.size]?=some (.cells #[.pointer none,.int .i64 0,.int .i64 0,.int .i64 0,.int .i64 0,.int .i64 0] 120 (0,0)):=HR9.out
    have hthere:W9.drew.there (w.heap.size) 0 6:=fun i hi=>by
     have h4:i=0∨i=1∨i=2∨i=3∨i=4∨i=5:=by omega
     obtain ⟨_,v0,v1,v2,v3,v4,v5⟩:=blk6 hR10
     rcases h4 with rfl|rfl|rfl|rfl|rfl|rfl
     · exact ⟨by rw [Nat.add_zero,v0];rfl,blk_frozen hR10 _⟩
     · exact ⟨by rw [Nat.zero_add,v1];rfl,blk_frozen hR10 _⟩
     · exact ⟨by rw [Nat.zero_add,v2];rfl,blk_frozen hR10 _⟩
     · exact ⟨by rw [Nat.zero_add,v3];rfl,blk_frozen hR10 _⟩
     · exact ⟨by rw [Nat.zero_add,v4];rfl,blk_frozen hR10 _⟩
     · exact ⟨by rw [Nat.zero_add,v5];rfl,blk_frozen hR10 _⟩
    refine wpAnyH_ready (rs:=[7]) (by kernel_rfl) (by decide) (AllReadyH.cons rfl (fun K hK=>?_) AllReadyH.nil)
    rw [if_pos (by kernel_rfl)]
    refine wp_store_mid 120 (.tmp 4) (.tmp 21) rfl (w.heap.size) 0 #[p,.int .i64 rr,.int .i64 a,.int .i64 b,.int .i64 c,.int .i64 dd] rfl rfl hthere (by kernel_rfl) (Array.all_eq_true_iff_forall_mem.2 (by intro x hx;simp at hx;rcases hx with rfl|rfl|rfl|rfl|rfl|rfl<;>first|rfl|exact hp1)) ?_
    change K _ (set6 W9.drew w.heap.size p (.int .i64 rr) (.int .i64 a) (.int .i64 b) (.int .i64 c) (.int .i64 dd))
    have hks:∀ (o:Nat) (cc:Value),W9.cell? ⟨T,o,none⟩=some cc→(set6 W9.drew w.heap.size p (.int .i64 rr) (.int .i64 a) (.int .i64 b) (.int .i64 c) (.int .i64 dd)).cell? ⟨T,o,none⟩=some cc:=fun o cc hcc=>keep6 (w:=W9.drew) hcc (by have:=HLT.out;have:=HS1.out;show T≠_;omega)
    refine hK.out _ _ ⟨hks _ _ q0,hks _ _ q1,hks _ _ q2,hks _ _ q3,hks _ _ q4,hks _ _ q5⟩ (fun hS=>?_)
    clear hks
    refine tk 8 (.bool false) hS ?_ ?_
    · rintro w' ⟨q0,q1,q2,q3,q4,q5⟩
      go_simp
    simp only [td]
    refine wpAnyH_done (by kernel_rfl) ?_ _
    refine NoPanic.normal ?_
    try simp only [Exit.then]
    have HE3:=Lib.hid (show (set6 W9.drew w.heap.size p (.int .i64 rr) (.int .i64 a) (.int .i64 b) (.int .i64 c) (.int .i64 dd)).heap[w.heap.size]?=some (.cells #[p,.int .i64 rr,.int .i64 a,.int .i64 b,.int .i64 c,.int .i64 dd] 120 (0,0)) from blk_set6 hR10 _ _ _ _ _ _)
    have HPE:=Lib.hid (show P (.returned (.tuple #[.agg #[p,.int .i64 rr,.int .i64 a,.int .i64 b,.int .i64 c,.int .i64 dd],.bool false])) (set6 W9.drew w.heap.size p (.int .i64 rr) (.int .i64 a) (.int .i64 b) (.int .i64 c) (.int .i64 dd)) by
     rw [HP.out,HRES.out]
     refine ⟨HXB.out.drew.trans (set6_exw (w:=w) (W:=W9.drew) (Exw.refl _ _ _ _) (Nat.le_refl _) _ _ _ _ _ _),.inr ⟨?_,false,left,ml,false,set6_state (HC9.out.st.below ((Below.refl _ W9).drew)) (by have:=HKW.out;omega) (by have:=HKW.out;omega) _ _ _ _ _ _,fun _=>?_,fun h=>by cases h⟩⟩
     · obtain ⟨_,hq⟩:True∧p=p:=⟨trivial,rfl⟩
       exact ⟨_,_,_,_,_,_,HPP.out,rfl⟩
     · rcases hok with ⟨h1,_⟩|⟨_,h1⟩
       · cases h1
       · exact h1)
    clear hS hthere hR10 q0 q1 q2 q3 q4 q5
    generalize set6 W9.drew w.heap.size p (.int .i64 rr) (.int .i64 a) (.int .i64 b) (.int .i64 c) (.int .i64 dd)=W12 at *
    go_wp2
    refine post_gen (fun Wf=>Wf.heap[w.heap.size]?=some (.cells #[p,.int .i64 rr,.int .i64 a,.int .i64 b,.int .i64 c,.int .i64 dd] 120 (0,0))∧P (.returned (.tuple #[.agg #[p,.int .i64 rr,.int .i64 a,.int .i64 b,.int .i64 c,.int .i64 dd],.bool false])) Wf) ⟨HE3.out,HPE.out⟩ ?_
    rintro Wf ⟨e1,e2⟩
    obtain ⟨_,d0,d1,d2,d3,d4,d5⟩:=blk6 e1
    exact bodyPost_ret (v:=.tuple #[.agg #[p,.int .i64 rr,.int .i64 a,.int .i64 b,.int .i64 c,.int .i64 dd],.bool false]) (by simp [results,Tryd.results46,go_sem,d0,d1,d2,d3,d4,d5]) rfl e2
   | true =>
    rcases hok with ⟨_,to,t,hj,ht,hval⟩|⟨h1,_⟩
    case inr=>cases h1
    obtain ⟨e0,e1,e2,e3,e4,e5⟩:=agg6_inj hval
    have hjb:=jump_bd HC1.out.msg.msg.bytes.1 hj
    have hlen:=HC1.out.msg.msg.len
    have hlz:lenZ zs=(zs.length:Int):=rfl
    have HSC:=Lib.hid (fun W (hW:Below W9.heap.size W9 W)=>structR_all.run (HC9.out.below hW) r t to hr ht (by omega))
    unfold strV at HSC hval
    rw [←hval] at HSC
    have HVAL:=Lib.hid hval
    have HEQ:Hid ((pointZ zs 0 fun to=>structAtZ (sRecs ss) zs (nextZ (sRecs ss) es zs 12) r to left)=structT (sRecs ss) zs (nextZ (sRecs ss) es zs 12) r to t left):=Lib.hid (by
     unfold pointZ
     rw [hj]
     exact structAt_some ht)
    have HJT:=Lib.hid (And.intro hj ht)
    clear hjb hlen hlz hj ht hval e0 e1 e2 e3 e4 e5
    go_upto_region 3 with (fail)
    refine wp_region_noPanic ?_
    refine wp_region_held_drew (S:=(fun w'=>w'.cell? ⟨T,0,none⟩=some (p)∧w'.cell? ⟨T,1,none⟩=some (.int .i64 rr)∧w'.cell? ⟨T,2,none⟩=some (.int .i64 a)∧w'.cell? ⟨T,3,none⟩=some (.int .i64 b)∧w'.cell? ⟨T,4,none⟩=some (.int .i64 c)∧w'.cell? ⟨T,5,none⟩=some (.int .i64 dd))) (by kernel_rfl) ⟨q0,q1,q2,q3,q4,q5⟩ ?_
    intro hS
    refine tk 0 (.agg #[p,.int .i64 rr,.int .i64 a,.int .i64 b,.int .i64 c,.int .i64 dd]) hS ?_ ?_
    · rintro w' ⟨q0,q1,q2,q3,q4,q5⟩
      go_simp
    simp only [td]
    refine tk 1 (.bool true) hS ?_ ?_
    · rintro w' ⟨q0,q1,q2,q3,q4,q5⟩
      go_simp
    simp only [td]
    refine tk 2 (.bool true) hS ?_ ?_
    · rintro w' ⟨q0,q1,q2,q3,q4,q5⟩
      go_simp
    simp only [td]
    refine tk 3 (.pointer (some ⟨wk,0,none⟩)) hS ?_ ?_
    · rintro w' ⟨q0,q1,q2,q3,q4,q5⟩
      go_simp
    simp only [td]
    refine tk 4 (.agg #[p,.int .i64 rr,.int .i64 a,.int .i64 b,.int .i64 c,.int .i64 dd]) hS ?_ ?_
    · rintro w' ⟨q0,q1,q2,q3,q4,q5⟩
      go_simp
    simp only [td]
    refine wpAnyH_ready (rs:=[5]) (by kernel_rfl) (by decide) (AllReadyH.cons rfl (fun K hK=>?_) AllReadyH.nil)
    rw [if_pos (by kernel_rfl)]
    go_simp
    refine (HSC.out W9.drew ((Below.refl _ W9).drew)).mono ?_
    rintro e W10 hp10
    obtain ⟨bb,rfl⟩:=rpost_ret hp10
    have hx10:Exw wk mt W9.heap.size W9 W10:=(Exw.refl wk mt W9.heap.size W9).drew.trans hp10.1
    have hTk:T≠wk∧T≠mt:=by have:=HKW.out;have:=HLT.out;have:=HS1.out;omega
    have nn0:=cell_exw hx10 q0 hTk.1 hTk.2
    have nn1:=cell_exw hx10 q1 hTk.1 hTk.2
    have nn2:=cell_exw hx10 q2 hTk.1 hTk.2
    have nn3:=cell_exw hx10 q3 hTk.1 hTk.2
    have nn4:=cell_exw hx10 q4 hTk.1 hTk.2
    have nn5:=cell_exw hx10 q5 hTk.1 hTk.2
    refine hK.out _ _ ⟨nn0,nn1,nn2,nn3,nn4,nn5⟩ (fun hS=>?_)
    refine tk 6 (.bool bb) hS ?_ ?_
    · rintro w' ⟨q0,q1,q2,q3,q4,q5⟩
      go_simp
    simp only [td]
    have hR10:=blk_exw HR9.out hx10 (blk_lt HR9.out) (by have:=HKW.out;omega) (by have:=HKW.out;omega)
    have hthere:W10.there (w.heap.size) 0 6:=fun i hi=>by
     have h4:i=0∨i=1∨i=2∨i=3∨i=4∨i=5:=by omega
     obtain ⟨_,v0,v1,v2,v3,v4,v5⟩:=blk6 hR10
     rcases h4 with rfl|rfl|rfl|rfl|rfl|rfl
     · exact ⟨by rw [Nat.add_zero,v0];rfl,blk_frozen hR10 _⟩
     · exact ⟨by rw [Nat.zero_add,v1];rfl,blk_frozen hR10 _⟩
     · exact ⟨by rw [Nat.zero_add,v2];rfl,blk_frozen hR10 _⟩
     · exact ⟨by rw [Nat.zero_add,v3];rfl,blk_frozen hR10 _⟩
     · exact ⟨by rw [Nat.zero_add,v4];rfl,blk_frozen hR10 _⟩
     · exact ⟨by rw [Nat.zero_add,v5];rfl,blk_frozen hR10 _⟩
    refine wpAnyH_ready (rs:=[7]) (by kernel_rfl) (by decide) (AllReadyH.cons rfl (fun K hK=>?_) AllReadyH.nil)
    rw [if_pos (by kernel_rfl)]
    refine wp_store_mid 120 (.tmp 4) (.tmp 21) rfl (w.heap.size) 0 #[p,.int .i64 rr,.int .i64 a,.int .i64 b,.int .i64 c,.int .i64 dd] rfl rfl hthere (by kernel_rfl) (Array.all_eq_true_iff_forall_mem.2 (by intro x hx;simp at hx;rcases hx with rfl|rfl|rfl|rfl|rfl|rfl<;>first|rfl|exact hp1)) ?_
    change K _ (set6 W10 w.heap.size p (.int .i64 rr) (.int .i64 a) (.int .i64 b) (.int .i64 c) (.int .i64 dd))
    have hks:∀ (o:Nat) (cc:Value),W10.cell? ⟨T,o,none⟩=some cc→(set6 W10 w.heap.size p (.int .i64 rr) (.int .i64 a) (.int .i64 b) (.int .i64 c) (.int .i64 dd)).cell? ⟨T,o,none⟩=some cc:=fun o cc hcc=>keep6 hcc (by have:=HLT.out;have:=HS1.out;show T≠_;omega)
    refine hK.out _ _ ⟨hks _ _ nn0,hks _ _ nn1,hks _ _ nn2,hks _ _ nn3,hks _ _ nn4,hks _ _ nn5⟩ (fun hS=>?_)
    clear hks nn0 nn1 nn2 nn3 nn4 nn5
    refine tk 8 (.bool bb) hS ?_ ?_
    · rintro w' ⟨q0,q1,q2,q3,q4,q5⟩
      go_simp
    simp only [td]
    refine wpAnyH_done (by kernel_rfl) ?_ _
    refine NoPanic.normal ?_
    try simp only [Exit.then]
    have HE3:=Lib.hid (show (set6 W10 w.heap.size p (.int .i64 rr) (.int .i64 a) (.int .i64 b) (.int .i64 c) (.int .i64 dd)).heap[w.heap.size]?=some (.cells #[p,.int .i64 rr,.int .i64 a,.int .i64 b,.int .i64 c,.int .i64 dd] 120 (0,0)) from blk_set6 hR10 _ _ _ _ _ _)
    have HPE:=Lib.hid (show P (.returned (.tuple #[.agg #[p,.int .i64 rr,.int .i64 a,.int .i64 b,.int .i64 c,.int .i64 dd],.bool bb])) (set6 W10 w.heap.size p (.int .i64 rr) (.int .i64 a) (.int .i64 b) (.int .i64 c) (.int .i64 dd)) by
     rw [HP.out,HRES.out,HEQ.out]
     have hxx:Exw wk mt w.heap.size w (set6 W10 w.heap.size p (.int .i64 rr) (.int .i64 a) (.int .i64 b) (.int .i64 c) (.int .i64 dd)):=(HXB.out.trans (hx10.mono HXB.out.size)).trans (set6_exw (Exw.refl _ _ _ _) (Nat.le_refl _) _ _ _ _ _ _)
     refine ⟨hxx,?_⟩
     rcases hp10.2 with ⟨v',l',ml',hres,hl',he,hs',hml',h3'⟩|⟨he,o,l',ml',mo,hs',hno,hout⟩
     · injection he with he
       injection he with he
       subst he
       exact .inl ⟨v',l',ml',to,t,hres,HJT.out.1,HJT.out.2,by rw [HVAL.out];rfl,set6_state hs' (by have:=HKW.out;omega) (by have:=HKW.out;omega) _ _ _ _ _ _,hml'.2⟩
     · injection he with he
       injection he with he
       subst he
       exact .inr ⟨⟨_,_,_,_,_,_,HPP.out,rfl⟩,o,l',ml',mo,set6_state hs' (by have:=HKW.out;omega) (by have:=HKW.out;omega) _ _ _ _ _ _,hno,hout⟩)
    clear hp10 hx10
    clear hS hthere hR10 q0 q1 q2 q3 q4 q5
    generalize set6 W10 w.heap.size p (.int .i64 rr) (.int .i64 a) (.int .i64 b) (.int .i64 c) (.int .i64 dd)=W12 at *
    go_wp2
    refine post_gen (fun Wf=>Wf.heap[w.heap.size]?=some (.cells #[p,.int .i64 rr,.int .i64 a,.int .i64 b,.int .i64 c,.int .i64 dd] 120 (0,0))∧P (.returned (.tuple #[.agg #[p,.int .i64 rr,.int .i64 a,.int .i64 b,.int .i64 c,.int .i64 dd],.bool bb])) Wf) ⟨HE3.out,HPE.out⟩ ?_
    rintro Wf ⟨e1,e2⟩
    obtain ⟨_,d0,d1,d2,d3,d4,d5⟩:=blk6 e1
    exact bodyPost_ret (v:=.tuple #[.agg #[p,.int .i64 rr,.int .i64 a,.int .i64 b,.int .i64 c,.int .i64 dd],.bool bb]) (by simp [results,Tryd.results46,go_sem,d0,d1,d2,d3,d4,d5]) rfl e2
 · rw [if_pos (by kernel_rfl)]
   go_simp
   have hv1:Below W1.heap.size W1 ((W1.alloc (.cells #[.pointer none,.int .i64 0,.int .i64 0,.int .i64 0,.int .i64 0,.int .i64 0] 120)).drew):=((Below.refl _ W1).alloc (Nat.le_refl _) _).drew
   have hT1:((W1.alloc (.cells #[.pointer none,.int .i64 0,.int .i64 0,.int .i64 0,.int .i64 0,.int .i64 0] 120)).drew).heap[W1.heap.size]?=some (.cells #[.pointer none,.int .i64 0,.int .i64 0,.int .i64 0,.int .i64 0,.int .i64 0] 120 (0,0)):=heap_alloc_new W1 _
   have nn0:=cell_stays hv1 s0
   have nn1:=cell_stays hv1 s1
   have nn2:=cell_stays hv1 s2
   have nn3:=cell_stays hv1 s3
   have nn4:=cell_stays hv1 s4
   have nn5:=cell_stays hv1 s5
   have nn6:=cell_stays hv1 s6
   refine hK.out _ _ ⟨nn0,nn1,nn2,nn3,nn4,nn5,nn6⟩ (fun hS=>?_)
   clear nn0 nn1 nn2 nn3 nn4 nn5 nn6
   generalize (W1.alloc (.cells #[.pointer none,.int .i64 0,.int .i64 0,.int .i64 0,.int .i64 0,.int .i64 0] 120)).drew=V1 at *
   refine wpAnyH_ready (rs:=[5]) (by kernel_rfl) (by decide) (AllReadyH.cons rfl (fun K hK=>?_) AllReadyH.nil)
   rw [if_pos (by kernel_rfl)]
   go_simp
   refine (HPT.out V1 hv1).mono ?_
   rintro e V2 ⟨hpt,hb2⟩
   have hv2:Below W1.heap.size W1 V2:=hv1.trans (hb2.mono hv1.size)
   obtain ⟨p,rr,a,b,c,dd,ok,rfl,hp1,hok⟩:=ptd_cases (ss:=sRecs ss) (nx:=nextZ (sRecs ss) es zs 12) (left:=left) hpt
   have HPP:=Lib.hid (ptd_ptr hpt)
   have nn0:=cell_stays hv2 s0
   have nn1:=cell_stays hv2 s1
   have nn2:=cell_stays hv2 s2
   have nn3:=cell_stays hv2 s3
   have nn4:=cell_stays hv2 s4
   have nn5:=cell_stays hv2 s5
   have nn6:=cell_stays hv2 s6
   refine hK.out _ _ ⟨nn0,nn1,nn2,nn3,nn4,nn5,nn6⟩ (fun hS=>?_)
   clear nn0 nn1 nn2 nn3 nn4 nn5 nn6
   refine tk 6 (.tuple #[.agg #[p,.int .i64 rr,.int .i64 a,.int .i64 b,.int .i64 c,.int .i64 dd],.bool ok]) hS ?_ ?_
   · rintro w' ⟨s0,s1,s2,s3,s4,s5,s6⟩
     go_simp
   simp only [td]
   refine tk 7 (.agg #[p,.int .i64 rr,.int .i64 a,.int .i64 b,.int .i64 c,.int .i64 dd]) hS ?_ ?_
   · rintro w' ⟨s0,s1,s2,s3,s4,s5,s6⟩
     go_simp
   simp only [td]
   refine tk 8 (.bool ok) hS ?_ ?_
   · rintro w' ⟨s0,s1,s2,s3,s4,s5,s6⟩
     go_simp
   simp only [td]
   have hT2:=blk_below hT1 hb2 (blk_lt hT1)
   have hthere:V2.there (W1.heap.size) 0 6:=fun i hi=>by
    have h4:i=0∨i=1∨i=2∨i=3∨i=4∨i=5:=by omega
    obtain ⟨_,v0,v1,v2,v3,v4,v5⟩:=blk6 hT2
    rcases h4 with rfl|rfl|rfl|rfl|rfl|rfl
    · exact ⟨by rw [Nat.add_zero,v0];rfl,blk_frozen hT2 _⟩
    · exact ⟨by rw [Nat.zero_add,v1];rfl,blk_frozen hT2 _⟩
    · exact ⟨by rw [Nat.zero_add,v2];rfl,blk_frozen hT2 _⟩
    · exact ⟨by rw [Nat.zero_add,v3];rfl,blk_frozen hT2 _⟩
    · exact ⟨by rw [Nat.zero_add,v4];rfl,blk_frozen hT2 _⟩
    · exact ⟨by rw [Nat.zero_add,v5];rfl,blk_frozen hT2 _⟩
   refine wpAnyH_ready (rs:=[10]) (by kernel_rfl) (by decide) (AllReadyH.cons rfl (fun K hK=>?_) AllReadyH.nil)
   rw [if_pos (by kernel_rfl)]
   refine wp_store_mid 120 (.tmp 7) (.tmp 19) rfl (W1.heap.size) 0 #[p,.int .i64 rr,.int .i64 a,.int .i64 b,.int .i64 c,.int .i64 dd] rfl rfl hthere (by kernel_rfl) (Array.all_eq_true_iff_forall_mem.2 (by intro x hx;simp at hx;rcases hx with rfl|rfl|rfl|rfl|rfl|rfl<;>first|rfl|exact hp1)) ?_
   change K _ (set6 V2 (W1.heap.size) p (.int .i64 rr) (.int .i64 a) (.int .i64 b) (.int .i64 c) (.int .i64 dd))
   have hTS:W1.heap.size≤W1.heap.size:=Nat.le_refl _
   have hks:∀ (bb o:Nat) (cc:Value),bb<W1.heap.size→W1.cell? ⟨bb,o,none⟩=some cc→(set6 V2 (W1.heap.size) p (.int .i64 rr) (.int .i64 a) (.int .i64 b) (.int .i64 c) (.int .i64 dd)).cell? ⟨bb,o,none⟩=some cc:=fun bb o cc hbb hcc=>keep6 (cell_stays hv2 hcc) (by show bb≠_;omega)
   refine hK.out _ _ ⟨hks _ _ _ (World.block_lt_of_cell? _ _ s0) s0,hks _ _ _ (World.block_lt_of_cell? _ _ s1) s1,hks _ _ _ (World.block_lt_of_cell? _ _ s2) s2,hks _ _ _ (World.block_lt_of_cell? _ _ s3) s3,hks _ _ _ (World.block_lt_of_cell? _ _ s4) s4,hks _ _ _ (World.block_lt_of_cell? _ _ s5) s5,hks _ _ _ (World.block_lt_of_cell? _ _ s6) s6⟩ (fun hS=>?_)
   refine tk 11 (.bool ok) hS ?_ ?_
   · rintro w' ⟨s0,s1,s2,s3,s4,s5,s6⟩
     go_simp
   simp only [td]
   refine wpAnyH_done (by kernel_rfl) ?_ _
   refine NoPanic.normal ?_
   try simp only [Exit.then]
   have HE1:=Lib.hid (show (set6 V2 (W1.heap.size) p (.int .i64 rr) (.int .i64 a) (.int .i64 b) (.int .i64 c) (.int .i64 dd)).heap[W1.heap.size]?=some (.cells #[p,.int .i64 rr,.int .i64 a,.int .i64 b,.int .i64 c,.int .i64 dd] 120 (0,0)) from blk_set6 hT2 _ _ _ _ _ _)
   have HE2:=Lib.hid (show Below W1.heap.size W1 (set6 V2 (W1.heap.size) p (.int .i64 rr) (.int .i64 a) (.int .i64 b) (.int .i64 c) (.int .i64 dd)) from below_set6 hv2 hTS _ _ _ _ _ _)
   have HLT:Hid (w.heap.size+1<W1.heap.size):=Lib.hid (by have:=HS1.out;omega)
   clear hS hks hthere s0 s1 s2 s3 s4 s5 s6 hTS hpt
   generalize set6 V2 (W1.heap.size) p (.int .i64 rr) (.int .i64 a) (.int .i64 b) (.int .i64 c) (.int .i64 dd)=W9 at *
   obtain ⟨T,hT⟩:∃ T,W1.heap.size=T:=⟨_,rfl⟩
   rw [hT] at HE1 HLT ⊢
   clear hT
   obtain ⟨_,q0,q1,q2,q3,q4,q5⟩:=blk6 HE1.out
   have HC9:=Lib.hid (HC1.out.below HE2.out)
   have HXB:=Lib.hid ((Exw.of_below (R:=wk) (S:=mt) HB1.out).trans ((Exw.of_below (R:=wk) (S:=mt) HE2.out).mono HB1.out.size))
   have HR9:=Lib.hid (blk_below HR.out HE2.out (blk_lt HR.out))
   cases ok with
   | false =>
    go_upto_region 3 with (fail)
    refine wp_region_noPanic ?_
    refine wp_region_held_drew (S:=(fun w'=>w'.cell? ⟨T,0,none⟩=some (p)∧w'.cell? ⟨T,1,none⟩=some (.int .i64 rr)∧w'.cell? ⟨T,2,none⟩=some (.int .i64 a)∧w'.cell? ⟨T,3,none⟩=some (.int .i64 b)∧w'.cell? ⟨T,4,none⟩=some (.int .i64 c)∧w'.cell? ⟨T,5,none⟩=some (.int .i64 dd))) (by kernel_rfl) ⟨q0,q1,q2,q3,q4,q5⟩ ?_
    intro hS
    refine tk 0 (.agg #[p,.int .i64 rr,.int .i64 a,.int .i64 b,.int .i64 c,.int .i64 dd]) hS ?_ ?_
    · rintro w' ⟨q0,q1,q2,q3,q4,q5⟩
      go_simp
    simp only [td]
    refine tk 1 (.bool false) hS ?_ ?_
    · rintro w' ⟨q0,q1,q2,q3,q4,q5⟩
      go_simp
    simp only [td]
    refine tk 2 (.bool false) hS ?_ ?_
    · rintro w' ⟨q0,q1,q2,q3,q4,q5⟩
      go_simp
    simp only [td]
    refine wpAnyH_take (i:=3) (v:=undef) rfl (by kernel_rfl) (by kernel_rfl) (by kernel_rfl) (fun _ _ _ h=>h) (Or.inr ⟨by kernel_rfl,rfl⟩) hS ?_
    simp only [td]
    refine wpAnyH_take (i:=4) (v:=undef) rfl (by kernel_rfl) (by kernel_rfl) (by kernel_rfl) (fun _ _ _ h=>h) (Or.inr ⟨by kernel_rfl,rfl⟩) hS ?_
    simp only [td]
    refine wpAnyH_take (i:=5) (v:=undef) rfl (by kernel_rfl) (by kernel_rfl) (by kernel_rfl) (fun _ _ _ h=>h) (Or.inr ⟨by kernel_rfl,rfl⟩) hS ?_
    simp only [td]
    refine tk 6 (.bool false) hS ?_ ?_
    · rintro w' ⟨q0,q1,q2,q3,q4,q5⟩
      go_simp
    simp only [td]
    have hR10:W9.drew.heap[w.heap.size]?=some (.cells #[.pointer none,.int .i64 0,.int .i64 0,.int .i64 0,.int .i64 0,.int .i64 0] 120 (0,0)):=HR9.out
    have hthere:W9.drew.there (w.heap.size) 0 6:=fun i hi=>by
     have h4:i=0∨i=1∨i=2∨i=3∨i=4∨i=5:=by omega
     obtain ⟨_,v0,v1,v2,v3,v4,v5⟩:=blk6 hR10
     rcases h4 with rfl|rfl|rfl|rfl|rfl|rfl
     · exact ⟨by rw [Nat.add_zero,v0];rfl,blk_frozen hR10 _⟩
     · exact ⟨by rw [Nat.zero_add,v1];rfl,blk_frozen hR10 _⟩
     · exact ⟨by rw [Nat.zero_add,v2];rfl,blk_frozen hR10 _⟩
     · exact ⟨by rw [Nat.zero_add,v3];rfl,blk_frozen hR10 _⟩
     · exact ⟨by rw [Nat.zero_add,v4];rfl,blk_frozen hR10 _⟩
     · exact ⟨by rw [Nat.zero_add,v5];rfl,blk_frozen hR10 _⟩
    refine wpAnyH_ready (rs:=[7]) (by kernel_rfl) (by decide) (AllReadyH.cons rfl (fun K hK=>?_) AllReadyH.nil)
    rw [if_pos (by kernel_rfl)]
    refine wp_store_mid 120 (.tmp 4) (.tmp 21) rfl (w.heap.size) 0 #[p,.int .i64 rr,.int .i64 a,.int .i64 b,.int .i64 c,.int .i64 dd] rfl rfl hthere (by kernel_rfl) (Array.all_eq_true_iff_forall_mem.2 (by intro x hx;simp at hx;rcases hx with rfl|rfl|rfl|rfl|rfl|rfl<;>first|rfl|exact hp1)) ?_
    change K _ (set6 W9.drew w.heap.size p (.int .i64 rr) (.int .i64 a) (.int .i64 b) (.int .i64 c) (.int .i64 dd))
    have hks:∀ (o:Nat) (cc:Value),W9.cell? ⟨T,o,none⟩=some cc→(set6 W9.drew w.heap.size p (.int .i64 rr) (.int .i64 a) (.int .i64 b) (.int .i64 c) (.int .i64 dd)).cell? ⟨T,o,none⟩=some cc:=fun o cc hcc=>keep6 (w:=W9.drew) hcc (by have:=HLT.out;have:=HS1.out;show T≠_;omega)
    refine hK.out _ _ ⟨hks _ _ q0,hks _ _ q1,hks _ _ q2,hks _ _ q3,hks _ _ q4,hks _ _ q5⟩ (fun hS=>?_)
    clear hks
    refine tk 8 (.bool false) hS ?_ ?_
    · rintro w' ⟨q0,q1,q2,q3,q4,q5⟩
      go_simp
    simp only [td]
    refine wpAnyH_done (by kernel_rfl) ?_ _
    refine NoPanic.normal ?_
    try simp only [Exit.then]
    have HE3:=Lib.hid (show (set6 W9.drew w.heap.size p (.int .i64 rr) (.int .i64 a) (.int .i64 b) (.int .i64 c) (.int .i64 dd)).heap[w.heap.size]?=some (.cells #[p,.int .i64 rr,.int .i64 a,.int .i64 b,.int .i64 c,.int .i64 dd] 120 (0,0)) from blk_set6 hR10 _ _ _ _ _ _)
    have HPE:=Lib.hid (show P (.returned (.tuple #[.agg #[p,.int .i64 rr,.int .i64 a,.int .i64 b,.int .i64 c,.int .i64 dd],.bool false])) (set6 W9.drew w.heap.size p (.int .i64 rr) (.int .i64 a) (.int .i64 b) (.int .i64 c) (.int .i64 dd)) by
     rw [HP.out,HRES.out]
     refine ⟨HXB.out.drew.trans (set6_exw (w:=w) (W:=W9.drew) (Exw.refl _ _ _ _) (Nat.le_refl _) _ _ _ _ _ _),.inr ⟨?_,false,left,ml,false,set6_state (HC9.out.st.below ((Below.refl _ W9).drew)) (by have:=HKW.out;omega) (by have:=HKW.out;omega) _ _ _ _ _ _,fun _=>?_,fun h=>by cases h⟩⟩
     · obtain ⟨_,hq⟩:True∧p=p:=⟨trivial,rfl⟩
       exact ⟨_,_,_,_,_,_,HPP.out,rfl⟩
     · rcases hok with ⟨h1,_⟩|⟨_,h1⟩
       · cases h1
       · exact h1)
    clear hS hthere hR10 q0 q1 q2 q3 q4 q5
    generalize set6 W9.drew w.heap.size p (.int .i64 rr) (.int .i64 a) (.int .i64 b) (.int .i64 c) (.int .i64 dd)=W12 at *
    go_wp2
    refine post_gen (fun Wf=>Wf.heap[w.heap.size]?=some (.cells #[p,.int .i64 rr,.int .i64 a,.int .i64 b,.int .i64 c,.int .i64 dd] 120 (0,0))∧P (.returned (.tuple #[.agg #[p,.int .i64 rr,.int .i64 a,.int .i64 b,.int .i64 c,.int .i64 dd],.bool false])) Wf) ⟨HE3.out,HPE.out⟩ ?_
    rintro Wf ⟨e1,e2⟩
    obtain ⟨_,d0,d1,d2,d3,d4,d5⟩:=blk6 e1
    exact bodyPost_ret (v:=.tuple #[.agg #[p,.int .i64 rr,.int .i64 a,.int .i64 b,.int .i64 c,.int .i64 dd],.bool false]) (by simp [results,Tryd.results46,go_sem,d0,d1,d2,d3,d4,d5]) rfl e2
   | true =>
    rcases hok with ⟨_,to,t,hj,ht,hval⟩|⟨h1,_⟩
    case inr=>cases h1
    obtain ⟨e0,e1,e2,e3,e4,e5⟩:=agg6_inj hval
    have hjb:=jump_bd HC1.out.msg.msg.bytes.1 hj
    have hlen:=HC1.out.msg.msg.len
    have hlz:lenZ zs=(zs.length:Int):=rfl
    have HSC:=Lib.hid (fun W (hW:Below W9.heap.size W9 W)=>structR_all.run (HC9.out.below hW) r t to hr ht (by omega))
    unfold strV at HSC hval
    rw [←hval] at HSC
    have HVAL:=Lib.hid hval
    have HEQ:Hid ((pointZ zs 0 fun to=>structAtZ (sRecs ss) zs (nextZ (sRecs ss) es zs 12) r to left)=structT (sRecs ss) zs (nextZ (sRecs ss) es zs 12) r to t left):=Lib.hid (by
     unfold pointZ
     rw [hj]
     exact structAt_some ht)
    have HJT:=Lib.hid (And.intro hj ht)
    clear hjb hlen hlz hj ht hval e0 e1 e2 e3 e4 e5
    go_upto_region 3 with (fail)
    refine wp_region_noPanic ?_
    refine wp_region_held_drew (S:=(fun w'=>w'.cell? ⟨T,0,none⟩=some (p)∧w'.cell? ⟨T,1,none⟩=some (.int .i64 rr)∧w'.cell? ⟨T,2,none⟩=some (.int .i64 a)∧w'.cell? ⟨T,3,none⟩=some (.int .i64 b)∧w'.cell? ⟨T,4,none⟩=some (.int .i64 c)∧w'.cell? ⟨T,5,none⟩=some (.int .i64 dd))) (by kernel_rfl) ⟨q0,q1,q2,q3,q4,q5⟩ ?_
    intro hS
    refine tk 0 (.agg #[p,.int .i64 rr,.int .i64 a,.int .i64 b,.int .i64 c,.int .i64 dd]) hS ?_ ?_
    · rintro w' ⟨q0,q1,q2,q3,q4,q5⟩
      go_simp
    simp only [td]
    refine tk 1 (.bool true) hS ?_ ?_
    · rintro w' ⟨q0,q1,q2,q3,q4,q5⟩
      go_simp
    simp only [td]
    refine tk 2 (.bool true) hS ?_ ?_
    · rintro w' ⟨q0,q1,q2,q3,q4,q5⟩
      go_simp
    simp only [td]
    refine tk 3 (.pointer (some ⟨wk,0,none⟩)) hS ?_ ?_
    · rintro w' ⟨q0,q1,q2,q3,q4,q5⟩
      go_simp
    simp only [td]
    refine tk 4 (.agg #[p,.int .i64 rr,.int .i64 a,.int .i64 b,.int .i64 c,.int .i64 dd]) hS ?_ ?_
    · rintro w' ⟨q0,q1,q2,q3,q4,q5⟩
      go_simp
    simp only [td]
    refine wpAnyH_ready (rs:=[5]) (by kernel_rfl) (by decide) (AllReadyH.cons rfl (fun K hK=>?_) AllReadyH.nil)
    rw [if_pos (by kernel_rfl)]
    go_simp
    refine (HSC.out W9.drew ((Below.refl _ W9).drew)).mono ?_
    rintro e W10 hp10
    obtain ⟨bb,rfl⟩:=rpost_ret hp10
    have hx10:Exw wk mt W9.heap.size W9 W10:=(Exw.refl wk mt W9.heap.size W9).drew.trans hp10.1
    have hTk:T≠wk∧T≠mt:=by have:=HKW.out;have:=HLT.out;have:=HS1.out;omega
    have nn0:=cell_exw hx10 q0 hTk.1 hTk.2
    have nn1:=cell_exw hx10 q1 hTk.1 hTk.2
    have nn2:=cell_exw hx10 q2 hTk.1 hTk.2
    have nn3:=cell_exw hx10 q3 hTk.1 hTk.2
    have nn4:=cell_exw hx10 q4 hTk.1 hTk.2
    have nn5:=cell_exw hx10 q5 hTk.1 hTk.2
    refine hK.out _ _ ⟨nn0,nn1,nn2,nn3,nn4,nn5⟩ (fun hS=>?_)
    refine tk 6 (.bool bb) hS ?_ ?_
    · rintro w' ⟨q0,q1,q2,q3,q4,q5⟩
      go_simp
    simp only [td]
    have hR10:=blk_exw HR9.out hx10 (blk_lt HR9.out) (by have:=HKW.out;omega) (by have:=HKW.out;omega)
    have hthere:W10.there (w.heap.size) 0 6:=fun i hi=>by
     have h4:i=0∨i=1∨i=2∨i=3∨i=4∨i=5:=by omega
     obtain ⟨_,v0,v1,v2,v3,v4,v5⟩:=blk6 hR10
     rcases h4 with rfl|rfl|rfl|rfl|rfl|rfl
     · exact ⟨by rw [Nat.add_zero,v0];rfl,blk_frozen hR10 _⟩
     · exact ⟨by rw [Nat.zero_add,v1];rfl,blk_frozen hR10 _⟩
     · exact ⟨by rw [Nat.zero_add,v2];rfl,blk_frozen hR10 _⟩
     · exact ⟨by rw [Nat.zero_add,v3];rfl,blk_frozen hR10 _⟩
     · exact ⟨by rw [Nat.zero_add,v4];rfl,blk_frozen hR10 _⟩
     · exact ⟨by rw [Nat.zero_add,v5];rfl,blk_frozen hR10 _⟩
    refine wpAnyH_ready (rs:=[7]) (by kernel_rfl) (by decide) (AllReadyH.cons rfl (fun K hK=>?_) AllReadyH.nil)
    rw [if_pos (by kernel_rfl)]
    refine wp_store_mid 120 (.tmp 4) (.tmp 21) rfl (w.heap.size) 0 #[p,.int .i64 rr,.int .i64 a,.int .i64 b,.int .i64 c,.int .i64 dd] rfl rfl hthere (by kernel_rfl) (Array.all_eq_true_iff_forall_mem.2 (by intro x hx;simp at hx;rcases hx with rfl|rfl|rfl|rfl|rfl|rfl<;>first|rfl|exact hp1)) ?_
    change K _ (set6 W10 w.heap.size p (.int .i64 rr) (.int .i64 a) (.int .i64 b) (.int .i64 c) (.int .i64 dd))
    have hks:∀ (o:Nat) (cc:Value),W10.cell? ⟨T,o,none⟩=some cc→(set6 W10 w.heap.size p (.int .i64 rr) (.int .i64 a) (.int .i64 b) (.int .i64 c) (.int .i64 dd)).cell? ⟨T,o,none⟩=some cc:=fun o cc hcc=>keep6 hcc (by have:=HLT.out;have:=HS1.out;show T≠_;omega)
    refine hK.out _ _ ⟨hks _ _ nn0,hks _ _ nn1,hks _ _ nn2,hks _ _ nn3,hks _ _ nn4,hks _ _ nn5⟩ (fun hS=>?_)
    clear hks nn0 nn1 nn2 nn3 nn4 nn5
    refine tk 8 (.bool bb) hS ?_ ?_
    · rintro w' ⟨q0,q1,q2,q3,q4,q5⟩
      go_simp
    simp only [td]
    refine wpAnyH_done (by kernel_rfl) ?_ _
    refine NoPanic.normal ?_
    try simp only [Exit.then]
    have HE3:=Lib.hid (show (set6 W10 w.heap.size p (.int .i64 rr) (.int .i64 a) (.int .i64 b) (.int .i64 c) (.int .i64 dd)).heap[w.heap.size]?=some (.cells #[p,.int .i64 rr,.int .i64 a,.int .i64 b,.int .i64 c,.int .i64 dd] 120 (0,0)) from blk_set6 hR10 _ _ _ _ _ _)
    have HPE:=Lib.hid (show P (.returned (.tuple #[.agg #[p,.int .i64 rr,.int .i64 a,.int .i64 b,.int .i64 c,.int .i64 dd],.bool bb])) (set6 W10 w.heap.size p (.int .i64 rr) (.int .i64 a) (.int .i64 b) (.int .i64 c) (.int .i64 dd)) by
     rw [HP.out,HRES.out,HEQ.out]
     have hxx:Exw wk mt w.heap.size w (set6 W10 w.heap.size p (.int .i64 rr) (.int .i64 a) (.int .i64 b) (.int .i64 c) (.int .i64 dd)):=(HXB.out.trans (hx10.mono HXB.out.size)).trans (set6_exw (Exw.refl _ _ _ _) (Nat.le_refl _) _ _ _ _ _ _)
     refine ⟨hxx,?_⟩
     rcases hp10.2 with ⟨v',l',ml',hres,hl',he,hs',hml',h3'⟩|⟨he,o,l',ml',mo,hs',hno,hout⟩
     · injection he with he
       injection he with he
       subst he
       exact .inl ⟨v',l',ml',to,t,hres,HJT.out.1,HJT.out.2,by rw [HVAL.out];rfl,set6_state hs' (by have:=HKW.out;omega) (by have:=HKW.out;omega) _ _ _ _ _ _,hml'.2⟩
     · injection he with he
       injection he with he
       subst he
       exact .inr ⟨⟨_,_,_,_,_,_,HPP.out,rfl⟩,o,l',ml',mo,set6_state hs' (by have:=HKW.out;omega) (by have:=HKW.out;omega) _ _ _ _ _ _,hno,hout⟩)
    clear hp10 hx10
    clear hS hthere hR10 q0 q1 q2 q3 q4 q5
    generalize set6 W10 w.heap.size p (.int .i64 rr) (.int .i64 a) (.int .i64 b) (.int .i64 c) (.int .i64 dd)=W12 at *
    go_wp2
    refine post_gen (fun Wf=>Wf.heap[w.heap.size]?=some (.cells #[p,.int .i64 rr,.int .i64 a,.int .i64 b,.int .i64 c,.int .i64 dd] 120 (0,0))∧P (.returned (.tuple #[.agg #[p,.int .i64 rr,.int .i64 a,.int .i64 b,.int .i64 c,.int .i64 dd],.bool bb])) Wf) ⟨HE3.out,HPE.out⟩ ?_
    rintro Wf ⟨e1,e2⟩
    obtain ⟨_,d0,d1,d2,d3,d4,d5⟩:=blk6 e1
    exact bodyPost_ret (v:=.tuple #[.agg #[p,.int .i64 rr,.int .i64 a,.int .i64 b,.int .i64 c,.int .i64 dd],.bool bb]) (by simp [results,Tryd.results46,go_sem,d0,d1,d2,d3,d4,d5]) rfl e2
end Go.Proofs.YtcfjjocmiheiaaaDoor
