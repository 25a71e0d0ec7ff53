/-
  The fixed facts of the tenth chapter's examples (the law's Awake) come out true, and nothing that was there is written. Conditions: the library's tables hold what the row lists.
-/
import Derived.Test.YtcfjjocmiheiaaaDoorPkD52
import Derived.Test.YtcfjjocmiheiaaaDoorPkD3
import Derived.Test.YtcfjjocmiheiaaaDoorPkD6
import Derived.Test.YtcfjjocmiheiaaaDoorPkD48
import Derived.Laws.MakeOwn
import Derived.Deep.RegionHeld3
namespace Go.Proofs.YtcfjjocmiheiaaaDoor
open Go.ChangeShapes Go.WideShapes Go.ChangeAt Go.RowKit Go.Shelf
def awS:SRec:=⟨⟨#[83]⟩,[⟨⟨#[120]⟩,6,0,0,3⟩]⟩
theorem aw_one (fv:Value):flatZ (sRecs [(awS,fv)]) ([].map (Prod.fst:SCho × Value→SCho)) [12,0,0,0,6,0,5,0,4,0,0,0,8,0,0,0,7] 12 13 ((0:Nat):Int) 0 0 ((17:Nat):Int)=some (.mk 0 [] [numV 7] true,6):=by kernel_rfl
theorem aw_two (fv:Value):flatZ (sRecs [(awS,fv)]) ([].map (Prod.fst:SCho × Value→SCho)) [8,0,0,0,4,0,4,0,4,0,0,0] 12 13 ((0:Nat):Int) 0 0 ((12:Nat):Int)=some (.mk 0 [] [numV 3] true,4):=by kernel_rfl
theorem aw_none (fv:Value):flatZ (sRecs [(awS,fv)]) ([].map (Prod.fst:SCho × Value→SCho)) [] 12 13 ((0:Nat):Int) 0 0 ((0:Nat):Int)=none:=by kernel_rfl
theorem aw_M (fv:Value):SchM [(awS,fv)] ([].map (Prod.fst:SCho × Value→SCho)):=⟨(by decide:1≤16),fun q hq=>by
 rw [List.mem_singleton] at hq
 subst hq
 refine ⟨(by decide:1≤16),fun f hf=>?_⟩
 obtain rfl:f=⟨⟨#[120]⟩,6,0,0,3⟩:=by simpa [awS] using hf
 exact ⟨⟨by decide,by decide,by decide,fun h=>absurd h (by decide),fun h=>absurd h (by decide)⟩,by decide,fun _ _=>by decide⟩⟩
theorem aw_D (fv:Value):∀ q ∈ [(awS,fv)],DfltsOk ([].map (Prod.fst:SCho × Value→SCho)) (cR q.1).fields:=fun q hq=>by
 rw [List.mem_singleton] at hq
 subst hq
 intro f hf
 obtain rfl:f=⟨⟨#[120]⟩,6,0,0,3⟩:=by simpa [awS,cR,cF] using hf
 exact ⟨by decide,fun _=>by decide,fun h=>absurd (by decide) h⟩
theorem bytes_blk {w:World}{g:Nat}{zs:List Int}(h:w.heap[g]?=some (.cells (u8Cells zs).toArray 5 (0,0)))(hz:∀ z ∈ zs,0≤z∧z≤255):Bytes w (some ⟨g,0,none⟩) zs:=
 ⟨fun i=>by
  rcases Nat.lt_or_ge i zs.length with hi|hi
  · rw [List.getD,List.getElem?_eq_getElem hi,Option.getD_some]
    exact hz _ (List.getElem_mem hi)
  · rw [List.getD,List.getElem?_eq_none hi,Option.getD_none]
    exact ⟨by decide,by decide⟩,fun _=>⟨g,0,rfl,blk_lt h,fun i hi=>by
  rw [Nat.zero_add]
  refine (blk_cell h i).trans ?_
  unfold u8Cells
  rw [List.getElem?_toArray,List.getElem?_map,List.getElem?_eq_getElem hi,List.getD,List.getElem?_eq_getElem hi]
  rfl⟩⟩
theorem awread (W:World){base B mt:Nat}{fv sv:Value}{bp:Option Addr}{bc:Nat}{zs:List Int}{N:Nat}{l:Int}(h:SchRows base W [(awS,fv)] [] sv (.slice none 0 0))(hz:Bytes W bp zs)(hl:zs.length≤100)(hc:zs.length≤bc)(hm:W.heap[mt]?=some (.cells #[.int .i64 1000,.bool false] 106 (0,0)))(hB:B≤mt)(hA:Amb B W)
  (hv:flatZ (sRecs [(awS,fv)]) ([].map (Prod.fst:SCho × Value→SCho)) zs 12 13 ((0:Nat):Int) 0 0 zs.length=some (.mk 0 [] [numV N] true,l)) :
  Calls Tryd.prog 17 #[.agg #[sv,.slice none 0 0,.int .i64 0],.slice bp zs.length bc,.pointer (some ⟨mt,0,none⟩)] W fun e w'=>Exc mt W.heap.size W w'∧∃ T r f rv,e=.returned (.tuple #[.iface T r,.int .i64 0])∧Meth 2 T r "Num" f rv∧∀ V,Below w'.heap.size w' V→Calls Tryd.prog f #[rv,.int .i64 0] V fun e w''=>e=.returned (.int .u64 N)∧Below V.heap.size V w'':=by
 refine (fread_any W (ss:=[(awS,fv)]) (es:=[]) 0 h (aw_M fv) (aw_D fv) ⟨by decide,fun q hq=>by cases hq⟩ (by decide:0<1) hz (by omega) hc hm (by decide) hB hA).mono ?_
 rintro e w' ⟨hx,ml',mo,hm',hpost⟩
 refine ⟨hx,?_⟩
 rcases hpost with ⟨v,l',x,h1,h2,h3,h4,_⟩|⟨h1,h2⟩|⟨_,h1,h2⟩
 · rw [hv] at h2
   injection h2 with h2
   injection h2 with h2 _
   subst h2
   rcases (show Shown _ (11+1) _ _ _ _ _ _ from h4) with ⟨hs,_⟩|⟨_,_,hask⟩
   · exact absurd hs (by decide)
   · obtain ⟨_,_,T,r,f,rv,hvx,hme,hcc⟩:=(hask 0 (by decide:0<1) (by decide:0<1)).num rfl
     subst hvx
     exact ⟨T,r,f,rv,h3,hme,hcc⟩
 · exfalso
   rcases h2 with h2|h2
   · omega
   · rw [hv] at h2
     cases h2
 · exfalso
   omega
set_option maxRecDepth 100000 in
set_option maxHeartbeats 16000000 in
theorem awake10_any (w:World)(hT:Tabs w):Calls Tryd.prog 15 #[] w fun e w'=>e=.returned (.bool true)∧Below w.heap.size w w':=by
 obtain ⟨hb,hq0,hq1,hq2⟩:=three_start w #[.string ⟨#[120]⟩,.int .u8 6,.int .i64 0,.int .i64 0,.int .u64 3] #[.string ⟨#[83]⟩,.slice (some ⟨w.heap.size,0,none⟩) 1 1] #[.slice (some ⟨w.heap.size+1,0,none⟩) 1 1,.slice none 0 0,.int .i64 0] 52 55 30
 have HSR:Hid (SchRows w.heap.size (((w.alloc (.cells #[.string ⟨#[120]⟩,.int .u8 6,.int .i64 0,.int .i64 0,.int .u64 3] 52)).alloc (.cells #[.string ⟨#[83]⟩,.slice (some ⟨w.heap.size,0,none⟩) 1 1] 55)).alloc (.cells #[.slice (some ⟨w.heap.size+1,0,none⟩) 1 1,.slice none 0 0,.int .i64 0] 30)) [(awS,.slice (some ⟨w.heap.size,0,none⟩) 1 1)] [] (.slice (some ⟨w.heap.size+1,0,none⟩) 1 1) (.slice none 0 0)):=Lib.hid {
  structs:=own_blk hq1 (by omega) (by decide) rfl
  enums:=World.ownsRow_nil _ _ _ _
  fields:=fun q hq=>by rw [List.mem_singleton] at hq;subst hq;exact own_blk hq0 (Nat.le_refl _) (by decide) rfl
  names:=fun q hq=>by cases hq }
 have HB:=Lib.hid hb
 have HQ:Hid ((((w.alloc (.cells #[.string ⟨#[120]⟩,.int .u8 6,.int .i64 0,.int .i64 0,.int .u64 3] 52)).alloc (.cells #[.string ⟨#[83]⟩,.slice (some ⟨w.heap.size,0,none⟩) 1 1] 55)).alloc (.cells #[.slice (some ⟨w.heap.size+1,0,none⟩) 1 1,.slice none 0 0,.int .i64 0] 30)).heap[w.heap.size+1+1]?=some (.cells #[.slice (some ⟨w.heap.size+1,0,none⟩) 1 1,.slice none 0 0,.int .i64 0] 30 (0,0))):=Lib.hid hq2
 have HA:Hid (Amb w.heap.size w):=Lib.hid (fun V hV=>hT.below (Nat.le_refl _) hV)
 clear hT hb hq0 hq1 hq2
 go_enter Tryd.func15,Tryd.ntmps15
 go_upto_region 2 with (fail)
 generalize (((w.alloc (.cells #[.string ⟨#[120]⟩,.int .u8 6,.int .i64 0,.int .i64 0,.int .u64 3] 52)).alloc (.cells #[.string ⟨#[83]⟩,.slice (some ⟨w.heap.size,0,none⟩) 1 1] 55)).alloc (.cells #[.slice (some ⟨w.heap.size+1,0,none⟩) 1 1,.slice none 0 0,.int .i64 0] 30))=W0 at *
 have HA0:=Lib.hid (HA.out.below HB.out)
 have HWL:=Lib.hid HB.out.size
 have HNW:Hid (∀ V,Calls Tryd.prog 14 #[.int .i64 1000] V fun e w'=>e=.returned (.pointer (some ⟨V.heap.size,0,none⟩))∧w'.heap[V.heap.size]?=some (.cells #[.int .i64 1000,.bool false] 106 (0,0))∧Below V.heap.size V w'):=Lib.hid (fun V=>(new_any 1000 V).mono (by
  rintro e w' ⟨rfl,rfl⟩
  exact ⟨rfl,heap_alloc_new V _,(Below.refl _ _).alloc (Nat.le_refl _) _⟩))
 have HRD:Hid (∀ V0 V (PM:Nat) (bp:Option Addr) (zs:List Int) (N:Nat) (l:Int),Below W0.heap.size W0 V0→Below V0.heap.size V0 V→Bytes V bp zs→zs.length≤100→V.heap[PM]?=some (.cells #[.int .i64 1000,.bool false] 106 (0,0))→V0.heap.size≤PM→flatZ (sRecs [(awS,.slice (some ⟨w.heap.size,0,none⟩) 1 1)]) ([].map (Prod.fst:SCho × Value→SCho)) zs 12 13 ((0:Nat):Int) 0 0 zs.length=some (.mk 0 [] [numV N] true,l)→Calls Tryd.prog 17 #[.agg #[.slice (some ⟨w.heap.size+1,0,none⟩) 1 1,.slice none 0 0,.int .i64 0],.slice bp zs.length zs.length,.pointer (some ⟨PM,0,none⟩)] V fun e w'=>Below V0.heap.size V0 w'∧∃ T r f rv,e=.returned (.tuple #[.iface T r,.int .i64 0])∧Meth 2 T r "Num" f rv∧∀ V,Below w'.heap.size w' V→Calls Tryd.prog f #[rv,.int .i64 0] V fun e w''=>e=.returned (.int .u64 N)∧Below V.heap.size V w''):=Lib.hid (fun V0 V PM bp zs N l h0 hV hz hl hm hp hv=>(awread V (HSR.out.below (h0.trans (hV.mono h0.size))) hz hl (Nat.le_refl _) hm (Nat.le_trans HWL.out (Nat.le_trans h0.size hp)) (HA0.out.below ((h0.trans (hV.mono h0.size)).mono HWL.out)) hv).mono (by
  rintro e w' ⟨hx,hr⟩
  exact ⟨hV.trans ((hx.mono hV.size).below hp),hr⟩))
 have HRN:Hid (∀ V0 V (PM:Nat),Below W0.heap.size W0 V0→Below V0.heap.size V0 V→V.heap[PM]?=some (.cells #[.int .i64 1000,.bool false] 106 (0,0))→V0.heap.size≤PM→Calls Tryd.prog 17 #[.agg #[.slice (some ⟨w.heap.size+1,0,none⟩) 1 1,.slice none 0 0,.int .i64 0],.slice none 0 0,.pointer (some ⟨PM,0,none⟩)] V fun e w'=>Below V0.heap.size V0 w'∧e=.returned (.tuple #[.nilIface,.int .i64 20])):=Lib.hid (fun V0 V PM h0 hV hm hp=>(fread_any V (ss:=[(awS,.slice (some ⟨w.heap.size,0,none⟩) 1 1)]) (es:=[]) (zs:=[]) (bp:=none) (bc:=0) 0 (HSR.out.below (h0.trans (hV.mono h0.size))) (aw_M _) (aw_D _) ⟨by decide,fun q hq=>by cases hq⟩ (by decide:0<1) (bytes_nil _) (by decide) (by decide) hm (by decide) (Nat.le_trans HWL.out (Nat.le_trans h0.size hp)) (HA0.out.below ((h0.trans (hV.mono h0.size)).mono HWL.out))).mono (by
  rintro e w' ⟨hx,ml',mo,hm',hpost⟩
  refine ⟨hV.trans ((hx.mono hV.size).below hp),?_⟩
  rcases hpost with ⟨v,l',x,h1,h2,h3,h4,_⟩|⟨h1,h2⟩|⟨_,h1,h2⟩
  · rw [show flatZ (sRecs [(awS,.slice (some ⟨w.heap.size,0,none⟩) 1 1)]) ([].map (Prod.fst:SCho × Value→SCho)) [] 12 13 ((0:Nat):Int) 0 0 (([]:List Int).length:Nat)=none from aw_none _] at h2
    cases h2
  · exact h1
  · exfalso
    simp at h2))
 clear HSR HA HA0
 obtain ⟨_,s0,s1,s2,_⟩:=blk3 HQ.out
 have HB1:=Lib.hid (Below.refl W0.heap.size W0)
 have HQ0:=HQ
 refine wp_region_noPanic ?_
 refine wp_region_held_drew (S:=(fun w'=>w'.cell? ⟨w.heap.size+1+1,0,none⟩=some (.slice (some ⟨w.heap.size+1,0,none⟩) 1 1)∧w'.cell? ⟨w.heap.size+1+1,1,none⟩=some (.slice none 0 0)∧w'.cell? ⟨w.heap.size+1+1,2,none⟩=some (.int .i64 0))) (by kernel_rfl) ⟨s0,s1,s2⟩ ?_
 intro hS
 refine tk 0 (.agg #[.slice (some ⟨w.heap.size+1,0,none⟩) 1 1,.slice none 0 0,.int .i64 0]) hS ?_ ?_
 · rintro w' ⟨s0,s1,s2⟩
   go_simp
 simp only [td]
 refine wpAnyH_ready (rs:=[1,2]) (by kernel_rfl) (by decide) (AllReadyH.cons rfl (fun K hK=>?_) (AllReadyH.cons rfl (fun K hK=>?_) (AllReadyH.nil)))
 · rw [if_pos (by kernel_rfl)]
   go_simp
   have hv1:Below W0.heap.size W0 (W0.alloc (.cells #[.int .u8 12,.int .u8 0,.int .u8 0,.int .u8 0,.int .u8 6,.int .u8 0,.int .u8 5,.int .u8 0,.int .u8 4,.int .u8 0,.int .u8 0,.int .u8 0,.int .u8 8,.int .u8 0,.int .u8 0,.int .u8 0,.int .u8 7] 5)).drew:=((Below.refl _ W0).alloc (Nat.le_refl _) _).drew
   have hby:(W0.alloc (.cells #[.int .u8 12,.int .u8 0,.int .u8 0,.int .u8 0,.int .u8 6,.int .u8 0,.int .u8 5,.int .u8 0,.int .u8 4,.int .u8 0,.int .u8 0,.int .u8 0,.int .u8 8,.int .u8 0,.int .u8 0,.int .u8 0,.int .u8 7] 5)).drew.heap[W0.heap.size]?=some (.cells (u8Cells [12,0,0,0,6,0,5,0,4,0,0,0,8,0,0,0,7]).toArray 5 (0,0)):=heap_alloc_new W0 _
   have n0:=cell_stays hv1 s0
   have n1:=cell_stays hv1 s1
   have n2:=cell_stays hv1 s2
   refine hK.out _ _ ⟨n0,n1,n2⟩ (fun hS=>?_)
   clear n0 n1 n2
   generalize (W0.alloc (.cells #[.int .u8 12,.int .u8 0,.int .u8 0,.int .u8 0,.int .u8 6,.int .u8 0,.int .u8 5,.int .u8 0,.int .u8 4,.int .u8 0,.int .u8 0,.int .u8 0,.int .u8 8,.int .u8 0,.int .u8 0,.int .u8 0,.int .u8 7] 5)).drew=V1 at *
   refine wpAnyH_ready (rs:=[2]) (by kernel_rfl) (by decide) (AllReadyH.cons rfl (fun K hK=>?_) (AllReadyH.nil))
   rw [if_pos (by kernel_rfl)]
   go_simp
   refine (HNW.out V1).mono ?_
   rintro e V2 ⟨rfl,hm,hv2⟩
   have hw2:Below W0.heap.size W0 V2:=hv1.trans (hv2.mono hv1.size)
   have n0:=cell_stays hw2 s0
   have n1:=cell_stays hw2 s1
   have n2:=cell_stays hw2 s2
   refine hK.out _ _ ⟨n0,n1,n2⟩ (fun hS=>?_)
   clear n0 n1 n2
   have hby2:=blk_below hby hv2 (blk_lt hby)
   refine wpAnyH_ready (rs:=[3]) (by kernel_rfl) (by decide) (AllReadyH.cons rfl (fun K hK=>?_) (AllReadyH.nil))
   rw [if_pos (by kernel_rfl)]
   go_simp
   refine (HRD.out W0 V2 V1.heap.size (some ⟨W0.heap.size,0,none⟩) [12,0,0,0,6,0,5,0,4,0,0,0,8,0,0,0,7] 7 6 HB1.out hw2 (bytes_blk hby2 (by decide)) (by decide) hm hv1.size (aw_one _)).mono ?_
   rintro e X1 ⟨hx1,T1,r1,f1,rv1,rfl,hme,hcc⟩
   have hq:=blk_below HQ0.out hx1 (blk_lt HQ0.out)
   have HQ1:=Lib.hid hq
   obtain ⟨_,m0,m1,m2,_⟩:=blk3 hq
   refine hK.out _ _ ⟨m0,m1,m2⟩ (fun hS=>?_)
   refine tk 4 (.tuple #[.iface T1 r1,.int .i64 0]) hS ?_ ?_
   · rintro w' ⟨s0,s1,s2⟩
     go_simp
   simp only [td]
   refine tk 5 (.iface T1 r1) hS ?_ ?_
   · rintro w' ⟨s0,s1,s2⟩
     go_simp
   simp only [td]
   refine tk 6 (.int .i64 0) hS ?_ ?_
   · rintro w' ⟨s0,s1,s2⟩
     go_simp
   simp only [td]
   refine tk 7 (.iface T1 r1) hS ?_ ?_
   · rintro w' ⟨s0,s1,s2⟩
     go_simp
   simp only [td]
   refine tk 8 (.int .i64 0) hS ?_ ?_
   · rintro w' ⟨s0,s1,s2⟩
     go_simp
   simp only [td]
   refine wpAnyH_done (by kernel_rfl) ?_ _
   refine NoPanic.normal ?_
   try simp only [Exit.then]
   have HX1:=Lib.hid hx1
   have HC1:=Lib.hid hcc
   have mN1:=hme.at (by decide)
   have eN1:=hme.enters
   clear hS hq hme hcc hx1 s0 s1 s2
   have s0:=m0
   have s1:=m1
   have s2:=m2
   clear m0 m1 m2
   have HB2:=Lib.hid HX1.out
   go_upto_region 3 with (fail)
   refine wp_region_noPanic ?_
   refine wp_region_held_drew (S:=(fun w'=>w'.cell? ⟨w.heap.size+1+1,0,none⟩=some (.slice (some ⟨w.heap.size+1,0,none⟩) 1 1)∧w'.cell? ⟨w.heap.size+1+1,1,none⟩=some (.slice none 0 0)∧w'.cell? ⟨w.heap.size+1+1,2,none⟩=some (.int .i64 0))) (by kernel_rfl) ⟨s0,s1,s2⟩ ?_
   intro hS
   refine tk 0 (.agg #[.slice (some ⟨w.heap.size+1,0,none⟩) 1 1,.slice none 0 0,.int .i64 0]) hS ?_ ?_
   · rintro w' ⟨s0,s1,s2⟩
     go_simp
   simp only [td]
   refine wpAnyH_ready (rs:=[1,2]) (by kernel_rfl) (by decide) (AllReadyH.cons rfl (fun K hK=>?_) (AllReadyH.cons rfl (fun K hK=>?_) (AllReadyH.nil)))
   · rw [if_pos (by kernel_rfl)]
     go_simp
     have hv1:Below X1.heap.size X1 (X1.alloc (.cells #[.int .u8 8,.int .u8 0,.int .u8 0,.int .u8 0,.int .u8 4,.int .u8 0,.int .u8 4,.int .u8 0,.int .u8 4,.int .u8 0,.int .u8 0,.int .u8 0] 5)).drew:=((Below.refl _ X1).alloc (Nat.le_refl _) _).drew
     have hby:(X1.alloc (.cells #[.int .u8 8,.int .u8 0,.int .u8 0,.int .u8 0,.int .u8 4,.int .u8 0,.int .u8 4,.int .u8 0,.int .u8 4,.int .u8 0,.int .u8 0,.int .u8 0] 5)).drew.heap[X1.heap.size]?=some (.cells (u8Cells [8,0,0,0,4,0,4,0,4,0,0,0]).toArray 5 (0,0)):=heap_alloc_new X1 _
     have n0:=cell_stays hv1 s0
     have n1:=cell_stays hv1 s1
     have n2:=cell_stays hv1 s2
     refine hK.out _ _ ⟨n0,n1,n2⟩ (fun hS=>?_)
     clear n0 n1 n2
     generalize (X1.alloc (.cells #[.int .u8 8,.int .u8 0,.int .u8 0,.int .u8 0,.int .u8 4,.int .u8 0,.int .u8 4,.int .u8 0,.int .u8 4,.int .u8 0,.int .u8 0,.int .u8 0] 5)).drew=V1 at *
     refine wpAnyH_ready (rs:=[2]) (by kernel_rfl) (by decide) (AllReadyH.cons rfl (fun K hK=>?_) (AllReadyH.nil))
     rw [if_pos (by kernel_rfl)]
     go_simp
     refine (HNW.out V1).mono ?_
     rintro e V2 ⟨rfl,hm,hv2⟩
     have hw2:Below X1.heap.size X1 V2:=hv1.trans (hv2.mono hv1.size)
     have n0:=cell_stays hw2 s0
     have n1:=cell_stays hw2 s1
     have n2:=cell_stays hw2 s2
     refine hK.out _ _ ⟨n0,n1,n2⟩ (fun hS=>?_)
     clear n0 n1 n2
     have hby2:=blk_below hby hv2 (blk_lt hby)
     refine wpAnyH_ready (rs:=[3]) (by kernel_rfl) (by decide) (AllReadyH.cons rfl (fun K hK=>?_) (AllReadyH.nil))
     rw [if_pos (by kernel_rfl)]
     go_simp
     refine (HRD.out X1 V2 V1.heap.size (some ⟨X1.heap.size,0,none⟩) [8,0,0,0,4,0,4,0,4,0,0,0] 3 4 HB2.out hw2 (bytes_blk hby2 (by decide)) (by decide) hm hv1.size (aw_two _)).mono ?_
     rintro e X2 ⟨hx2,T2,r2,f2,rv2,rfl,hme,hcc⟩
     have hq:=blk_below HQ1.out hx2 (blk_lt HQ1.out)
     have HQ2:=Lib.hid hq
     obtain ⟨_,m0,m1,m2,_⟩:=blk3 hq
     refine hK.out _ _ ⟨m0,m1,m2⟩ (fun hS=>?_)
     refine tk 4 (.tuple #[.iface T2 r2,.int .i64 0]) hS ?_ ?_
     · rintro w' ⟨s0,s1,s2⟩
       go_simp
     simp only [td]
     refine tk 5 (.iface T2 r2) hS ?_ ?_
     · rintro w' ⟨s0,s1,s2⟩
       go_simp
     simp only [td]
     refine tk 6 (.int .i64 0) hS ?_ ?_
     · rintro w' ⟨s0,s1,s2⟩
       go_simp
     simp only [td]
     refine tk 7 (.iface T2 r2) hS ?_ ?_
     · rintro w' ⟨s0,s1,s2⟩
       go_simp
     simp only [td]
     refine tk 8 (.int .i64 0) hS ?_ ?_
     · rintro w' ⟨s0,s1,s2⟩
       go_simp
     simp only [td]
     refine wpAnyH_done (by kernel_rfl) ?_ _
     refine NoPanic.normal ?_
     try simp only [Exit.then]
     have HX2:=Lib.hid hx2
     have HC2:=Lib.hid hcc
     have mN2:=hme.at (by decide)
     have eN2:=hme.enters
     clear hS hq hme hcc hx2 s0 s1 s2
     have s0:=m0
     have s1:=m1
     have s2:=m2
     clear m0 m1 m2
     have HB3:=Lib.hid (HB2.out.trans (HX2.out.mono HB2.out.size))
     go_upto_region 4 with (fail)
     refine wp_region_noPanic ?_
     refine wp_region_held_drew (S:=(fun w'=>w'.cell? ⟨w.heap.size+1+1,0,none⟩=some (.slice (some ⟨w.heap.size+1,0,none⟩) 1 1)∧w'.cell? ⟨w.heap.size+1+1,1,none⟩=some (.slice none 0 0)∧w'.cell? ⟨w.heap.size+1+1,2,none⟩=some (.int .i64 0))) (by kernel_rfl) ⟨s0,s1,s2⟩ ?_
     intro hS
     refine tk 0 (.agg #[.slice (some ⟨w.heap.size+1,0,none⟩) 1 1,.slice none 0 0,.int .i64 0]) hS ?_ ?_
     · rintro w' ⟨s0,s1,s2⟩
       go_simp
     simp only [td]
     refine wpAnyH_ready (rs:=[1]) (by kernel_rfl) (by decide) (AllReadyH.cons rfl (fun K hK=>?_) (AllReadyH.nil))
     rw [if_pos (by kernel_rfl)]
     go_simp
     refine (HNW.out X2.drew).mono ?_
     rintro e V1 ⟨rfl,hm,hv1'⟩
     have hm':V1.heap[X2.heap.size]?=some (.cells #[.int .i64 1000,.bool false] 106 (0,0)):=hm
     have hv1:Below X2.heap.size X2 V1:=(Below.refl _ X2).drew.trans hv1'
     have n0:=cell_stays hv1 s0
     have n1:=cell_stays hv1 s1
     have n2:=cell_stays hv1 s2
     refine hK.out _ _ ⟨n0,n1,n2⟩ (fun hS=>?_)
     clear n0 n1 n2
     refine wpAnyH_ready (rs:=[2]) (by kernel_rfl) (by decide) (AllReadyH.cons rfl (fun K hK=>?_) (AllReadyH.nil))
     rw [if_pos (by kernel_rfl)]
     go_simp
     refine (HRN.out X2 V1 X2.heap.size HB3.out hv1 hm' (Nat.le_refl _)).mono ?_
     rintro e X3 ⟨hx3,rfl⟩
     have hq:=blk_below HQ2.out hx3 (blk_lt HQ2.out)
     obtain ⟨_,m0,m1,m2,_⟩:=blk3 hq
     refine hK.out _ _ ⟨m0,m1,m2⟩ (fun hS=>?_)
     refine tk 3 (.tuple #[.nilIface,.int .i64 20]) hS ?_ ?_
     · rintro w' ⟨s0,s1,s2⟩
       go_simp
     simp only [td]
     refine tk 4 (.nilIface) hS ?_ ?_
     · rintro w' ⟨s0,s1,s2⟩
       go_simp
     simp only [td]
     refine tk 5 (.int .i64 20) hS ?_ ?_
     · rintro w' ⟨s0,s1,s2⟩
       go_simp
     simp only [td]
     refine tk 6 (.nilIface) hS ?_ ?_
     · rintro w' ⟨s0,s1,s2⟩
       go_simp
     simp only [td]
     refine tk 7 (.int .i64 20) hS ?_ ?_
     · rintro w' ⟨s0,s1,s2⟩
       go_simp
     simp only [td]
     refine wpAnyH_done (by kernel_rfl) ?_ _
     refine NoPanic.normal ?_
     try simp only [Exit.then]
     have HX3:=Lib.hid hx3
     clear hS hq m0 m1 m2 hx3 hv1 hv1' hm hm' s0 s1 s2
     go_wp2_with fail
     refine (HC1.out X3 (HX2.out.trans (HX3.out.mono HX2.out.size))).mono ?_
     rintro e X4 ⟨rfl,hb4⟩
     have HX4:=Lib.hid hb4
     clear hb4
     go_wp2_with fail
     refine (HC2.out X4 (HX3.out.trans (HX4.out.mono HX3.out.size))).mono ?_
     rintro e X5 ⟨rfl,hb5⟩
     have HX5:=Lib.hid (((HX3.out.trans (HX4.out.mono HX3.out.size)).trans (hb5.mono (Nat.le_trans HX3.out.size HX4.out.size))))
     clear hb5 mN1 eN1 mN2 eN2
     go_wp2
     go_ret
     exact ⟨rfl,HB.out.trans ((HB3.out.trans (HX5.out.mono HB3.out.size)).mono HB.out.size)⟩
   · rw [if_pos (by kernel_rfl)]
     go_simp
     refine (HNW.out X1.drew).mono ?_
     rintro e V1 ⟨rfl,hm,hv1'⟩
     have hm':V1.heap[X1.heap.size]?=some (.cells #[.int .i64 1000,.bool false] 106 (0,0)):=hm
     have hv1:Below X1.heap.size X1 V1:=(Below.refl _ X1).drew.trans hv1'
     have n0:=cell_stays hv1 s0
     have n1:=cell_stays hv1 s1
     have n2:=cell_stays hv1 s2
     refine hK.out _ _ ⟨n0,n1,n2⟩ (fun hS=>?_)
     clear n0 n1 n2
     refine wpAnyH_ready (rs:=[1]) (by kernel_rfl) (by decide) (AllReadyH.cons rfl (fun K hK=>?_) (AllReadyH.nil))
     rw [if_pos (by kernel_rfl)]
     go_simp
     have hv2:Below V1.heap.size V1 (V1.alloc (.cells #[.int .u8 8,.int .u8 0,.int .u8 0,.int .u8 0,.int .u8 4,.int .u8 0,.int .u8 4,.int .u8 0,.int .u8 4,.int .u8 0,.int .u8 0,.int .u8 0] 5)):=(Below.refl _ V1).alloc (Nat.le_refl _) _
     have hby:(V1.alloc (.cells #[.int .u8 8,.int .u8 0,.int .u8 0,.int .u8 0,.int .u8 4,.int .u8 0,.int .u8 4,.int .u8 0,.int .u8 4,.int .u8 0,.int .u8 0,.int .u8 0] 5)).heap[V1.heap.size]?=some (.cells (u8Cells [8,0,0,0,4,0,4,0,4,0,0,0]).toArray 5 (0,0)):=heap_alloc_new V1 _
     have hw2:=hv1.trans (hv2.mono hv1.size)
     have n0:=cell_stays hw2 s0
     have n1:=cell_stays hw2 s1
     have n2:=cell_stays hw2 s2
     refine hK.out _ _ ⟨n0,n1,n2⟩ (fun hS=>?_)
     clear n0 n1 n2
     generalize V1.alloc (.cells #[.int .u8 8,.int .u8 0,.int .u8 0,.int .u8 0,.int .u8 4,.int .u8 0,.int .u8 4,.int .u8 0,.int .u8 4,.int .u8 0,.int .u8 0,.int .u8 0] 5)=V2 at *
     have hm2:=blk_below hm' hv2 (blk_lt hm')
     refine wpAnyH_ready (rs:=[3]) (by kernel_rfl) (by decide) (AllReadyH.cons rfl (fun K hK=>?_) (AllReadyH.nil))
     rw [if_pos (by kernel_rfl)]
     go_simp
     refine (HRD.out X1 V2 X1.heap.size (some ⟨V1.heap.size,0,none⟩) [8,0,0,0,4,0,4,0,4,0,0,0] 3 4 HB2.out hw2 (bytes_blk hby (by decide)) (by decide) hm2 (Nat.le_refl _) (aw_two _)).mono ?_
     rintro e X2 ⟨hx2,T2,r2,f2,rv2,rfl,hme,hcc⟩
     have hq:=blk_below HQ1.out hx2 (blk_lt HQ1.out)
     have HQ2:=Lib.hid hq
     obtain ⟨_,m0,m1,m2,_⟩:=blk3 hq
     refine hK.out _ _ ⟨m0,m1,m2⟩ (fun hS=>?_)
     refine tk 4 (.tuple #[.iface T2 r2,.int .i64 0]) hS ?_ ?_
     · rintro w' ⟨s0,s1,s2⟩
       go_simp
     simp only [td]
     refine tk 5 (.iface T2 r2) hS ?_ ?_
     · rintro w' ⟨s0,s1,s2⟩
       go_simp
     simp only [td]
     refine tk 6 (.int .i64 0) hS ?_ ?_
     · rintro w' ⟨s0,s1,s2⟩
       go_simp
     simp only [td]
     refine tk 7 (.iface T2 r2) hS ?_ ?_
     · rintro w' ⟨s0,s1,s2⟩
       go_simp
     simp only [td]
     refine tk 8 (.int .i64 0) hS ?_ ?_
     · rintro w' ⟨s0,s1,s2⟩
       go_simp
     simp only [td]
     refine wpAnyH_done (by kernel_rfl) ?_ _
     refine NoPanic.normal ?_
     try simp only [Exit.then]
     have HX2:=Lib.hid hx2
     have HC2:=Lib.hid hcc
     have mN2:=hme.at (by decide)
     have eN2:=hme.enters
     clear hS hq hme hcc hx2 s0 s1 s2
     have s0:=m0
     have s1:=m1
     have s2:=m2
     clear m0 m1 m2
     have HB3:=Lib.hid (HB2.out.trans (HX2.out.mono HB2.out.size))
     go_upto_region 4 with (fail)
     refine wp_region_noPanic ?_
     refine wp_region_held_drew (S:=(fun w'=>w'.cell? ⟨w.heap.size+1+1,0,none⟩=some (.slice (some ⟨w.heap.size+1,0,none⟩) 1 1)∧w'.cell? ⟨w.heap.size+1+1,1,none⟩=some (.slice none 0 0)∧w'.cell? ⟨w.heap.size+1+1,2,none⟩=some (.int .i64 0))) (by kernel_rfl) ⟨s0,s1,s2⟩ ?_
     intro hS
     refine tk 0 (.agg #[.slice (some ⟨w.heap.size+1,0,none⟩) 1 1,.slice none 0 0,.int .i64 0]) hS ?_ ?_
     · rintro w' ⟨s0,s1,s2⟩
       go_simp
     simp only [td]
     refine wpAnyH_ready (rs:=[1]) (by kernel_rfl) (by decide) (AllReadyH.cons rfl (fun K hK=>?_) (AllReadyH.nil))
     rw [if_pos (by kernel_rfl)]
     go_simp
     refine (HNW.out X2.drew).mono ?_
     rintro e V1 ⟨rfl,hm,hv1'⟩
     have hm':V1.heap[X2.heap.size]?=some (.cells #[.int .i64 1000,.bool false] 106 (0,0)):=hm
     have hv1:Below X2.heap.size X2 V1:=(Below.refl _ X2).drew.trans hv1'
     have n0:=cell_stays hv1 s0
     have n1:=cell_stays hv1 s1
     have n2:=cell_stays hv1 s2
     refine hK.out _ _ ⟨n0,n1,n2⟩ (fun hS=>?_)
     clear n0 n1 n2
     refine wpAnyH_ready (rs:=[2]) (by kernel_rfl) (by decide) (AllReadyH.cons rfl (fun K hK=>?_) (AllReadyH.nil))
     rw [if_pos (by kernel_rfl)]
     go_simp
     refine (HRN.out X2 V1 X2.heap.size HB3.out hv1 hm' (Nat.le_refl _)).mono ?_
     rintro e X3 ⟨hx3,rfl⟩
     have hq:=blk_below HQ2.out hx3 (blk_lt HQ2.out)
     obtain ⟨_,m0,m1,m2,_⟩:=blk3 hq
     refine hK.out _ _ ⟨m0,m1,m2⟩ (fun hS=>?_)
     refine tk 3 (.tuple #[.nilIface,.int .i64 20]) hS ?_ ?_
     · rintro w' ⟨s0,s1,s2⟩
       go_simp
     simp only [td]
     refine tk 4 (.nilIface) hS ?_ ?_
     · rintro w' ⟨s0,s1,s2⟩
       go_simp
     simp only [td]
     refine tk 5 (.int .i64 20) hS ?_ ?_
     · rintro w' ⟨s0,s1,s2⟩
       go_simp
     simp only [td]
     refine tk 6 (.nilIface) hS ?_ ?_
     · rintro w' ⟨s0,s1,s2⟩
       go_simp
     simp only [td]
     refine tk 7 (.int .i64 20) hS ?_ ?_
     · rintro w' ⟨s0,s1,s2⟩
       go_simp
     simp only [td]
     refine wpAnyH_done (by kernel_rfl) ?_ _
     refine NoPanic.normal ?_
     try simp only [Exit.then]
     have HX3:=Lib.hid hx3
     clear hS hq m0 m1 m2 hx3 hv1 hv1' hm hm' s0 s1 s2
     go_wp2_with fail
     refine (HC1.out X3 (HX2.out.trans (HX3.out.mono HX2.out.size))).mono ?_
     rintro e X4 ⟨rfl,hb4⟩
     have HX4:=Lib.hid hb4
     clear hb4
     go_wp2_with fail
     refine (HC2.out X4 (HX3.out.trans (HX4.out.mono HX3.out.size))).mono ?_
     rintro e X5 ⟨rfl,hb5⟩
     have HX5:=Lib.hid (((HX3.out.trans (HX4.out.mono HX3.out.size)).trans (hb5.mono (Nat.le_trans HX3.out.size HX4.out.size))))
     clear hb5 mN1 eN1 mN2 eN2
     go_wp2
     go_ret
     exact ⟨rfl,HB.out.trans ((HB3.out.trans (HX5.out.mono HB3.out.size)).mono HB.out.size)⟩
 · rw [if_pos (by kernel_rfl)]
   go_simp
   refine (HNW.out W0.drew).mono ?_
   rintro e V1 ⟨rfl,hm,hv1'⟩
   have hm':V1.heap[W0.heap.size]?=some (.cells #[.int .i64 1000,.bool false] 106 (0,0)):=hm
   have hv1:Below W0.heap.size W0 V1:=(Below.refl _ W0).drew.trans hv1'
   have n0:=cell_stays hv1 s0
   have n1:=cell_stays hv1 s1
   have n2:=cell_stays hv1 s2
   refine hK.out _ _ ⟨n0,n1,n2⟩ (fun hS=>?_)
   clear n0 n1 n2
   refine wpAnyH_ready (rs:=[1]) (by kernel_rfl) (by decide) (AllReadyH.cons rfl (fun K hK=>?_) (AllReadyH.nil))
   rw [if_pos (by kernel_rfl)]
   go_simp
   have hv2:Below V1.heap.size V1 (V1.alloc (.cells #[.int .u8 12,.int .u8 0,.int .u8 0,.int .u8 0,.int .u8 6,.int .u8 0,.int .u8 5,.int .u8 0,.int .u8 4,.int .u8 0,.int .u8 0,.int .u8 0,.int .u8 8,.int .u8 0,.int .u8 0,.int .u8 0,.int .u8 7] 5)):=(Below.refl _ V1).alloc (Nat.le_refl _) _
   have hby:(V1.alloc (.cells #[.int .u8 12,.int .u8 0,.int .u8 0,.int .u8 0,.int .u8 6,.int .u8 0,.int .u8 5,.int .u8 0,.int .u8 4,.int .u8 0,.int .u8 0,.int .u8 0,.int .u8 8,.int .u8 0,.int .u8 0,.int .u8 0,.int .u8 7] 5)).heap[V1.heap.size]?=some (.cells (u8Cells [12,0,0,0,6,0,5,0,4,0,0,0,8,0,0,0,7]).toArray 5 (0,0)):=heap_alloc_new V1 _
   have hw2:=hv1.trans (hv2.mono hv1.size)
   have n0:=cell_stays hw2 s0
   have n1:=cell_stays hw2 s1
   have n2:=cell_stays hw2 s2
   refine hK.out _ _ ⟨n0,n1,n2⟩ (fun hS=>?_)
   clear n0 n1 n2
   generalize V1.alloc (.cells #[.int .u8 12,.int .u8 0,.int .u8 0,.int .u8 0,.int .u8 6,.int .u8 0,.int .u8 5,.int .u8 0,.int .u8 4,.int .u8 0,.int .u8 0,.int .u8 0,.int .u8 8,.int .u8 0,.int .u8 0,.int .u8 0,.int .u8 7] 5)=V2 at *
   have hm2:=blk_below hm' hv2 (blk_lt hm')
   refine wpAnyH_ready (rs:=[3]) (by kernel_rfl) (by decide) (AllReadyH.cons rfl (fun K hK=>?_) (AllReadyH.nil))
   rw [if_pos (by kernel_rfl)]
   go_simp
   refine (HRD.out W0 V2 W0.heap.size (some ⟨V1.heap.size,0,none⟩) [12,0,0,0,6,0,5,0,4,0,0,0,8,0,0,0,7] 7 6 HB1.out hw2 (bytes_blk hby (by decide)) (by decide) hm2 (Nat.le_refl _) (aw_one _)).mono ?_
   rintro e X1 ⟨hx1,T1,r1,f1,rv1,rfl,hme,hcc⟩
   have hq:=blk_below HQ0.out hx1 (blk_lt HQ0.out)
   have HQ1:=Lib.hid hq
   obtain ⟨_,m0,m1,m2,_⟩:=blk3 hq
   refine hK.out _ _ ⟨m0,m1,m2⟩ (fun hS=>?_)
   refine tk 4 (.tuple #[.iface T1 r1,.int .i64 0]) hS ?_ ?_
   · rintro w' ⟨s0,s1,s2⟩
     go_simp
   simp only [td]
   refine tk 5 (.iface T1 r1) hS ?_ ?_
   · rintro w' ⟨s0,s1,s2⟩
     go_simp
   simp only [td]
   refine tk 6 (.int .i64 0) hS ?_ ?_
   · rintro w' ⟨s0,s1,s2⟩
     go_simp
   simp only [td]
   refine tk 7 (.iface T1 r1) hS ?_ ?_
   · rintro w' ⟨s0,s1,s2⟩
     go_simp
   simp only [td]
   refine tk 8 (.int .i64 0) hS ?_ ?_
   · rintro w' ⟨s0,s1,s2⟩
     go_simp
   simp only [td]
   refine wpAnyH_done (by kernel_rfl) ?_ _
   refine NoPanic.normal ?_
   try simp only [Exit.then]
   have HX1:=Lib.hid hx1
   have HC1:=Lib.hid hcc
   have mN1:=hme.at (by decide)
   have eN1:=hme.enters
   clear hS hq hme hcc hx1 s0 s1 s2
   have s0:=m0
   have s1:=m1
   have s2:=m2
   clear m0 m1 m2
   have HB2:=Lib.hid HX1.out
   go_upto_region 3 with (fail)
   refine wp_region_noPanic ?_
   refine wp_region_held_drew (S:=(fun w'=>w'.cell? ⟨w.heap.size+1+1,0,none⟩=some (.slice (some ⟨w.heap.size+1,0,none⟩) 1 1)∧w'.cell? ⟨w.heap.size+1+1,1,none⟩=some (.slice none 0 0)∧w'.cell? ⟨w.heap.size+1+1,2,none⟩=some (.int .i64 0))) (by kernel_rfl) ⟨s0,s1,s2⟩ ?_
   intro hS
   refine tk 0 (.agg #[.slice (some ⟨w.heap.size+1,0,none⟩) 1 1,.slice none 0 0,.int .i64 0]) hS ?_ ?_
   · rintro w' ⟨s0,s1,s2⟩
     go_simp
   simp only [td]
   refine wpAnyH_ready (rs:=[1,2]) (by kernel_rfl) (by decide) (AllReadyH.cons rfl (fun K hK=>?_) (AllReadyH.cons rfl (fun K hK=>?_) (AllReadyH.nil)))
   · rw [if_pos (by kernel_rfl)]
     go_simp
     have hv1:Below X1.heap.size X1 (X1.alloc (.cells #[.int .u8 8,.int .u8 0,.int .u8 0,.int .u8 0,.int .u8 4,.int .u8 0,.int .u8 4,.int .u8 0,.int .u8 4,.int .u8 0,.int .u8 0,.int .u8 0] 5)).drew:=((Below.refl _ X1).alloc (Nat.le_refl _) _).drew
     have hby:(X1.alloc (.cells #[.int .u8 8,.int .u8 0,.int .u8 0,.int .u8 0,.int .u8 4,.int .u8 0,.int .u8 4,.int .u8 0,.int .u8 4,.int .u8 0,.int .u8 0,.int .u8 0] 5)).drew.heap[X1.heap.size]?=some (.cells (u8Cells [8,0,0,0,4,0,4,0,4,0,0,0]).toArray 5 (0,0)):=heap_alloc_new X1 _
     have n0:=cell_stays hv1 s0
     have n1:=cell_stays hv1 s1
     have n2:=cell_stays hv1 s2
     refine hK.out _ _ ⟨n0,n1,n2⟩ (fun hS=>?_)
     clear n0 n1 n2
     generalize (X1.alloc (.cells #[.int .u8 8,.int .u8 0,.int .u8 0,.int .u8 0,.int .u8 4,.int .u8 0,.int .u8 4,.int .u8 0,.int .u8 4,.int .u8 0,.int .u8 0,.int .u8 0] 5)).drew=V1 at *
     refine wpAnyH_ready (rs:=[2]) (by kernel_rfl) (by decide) (AllReadyH.cons rfl (fun K hK=>?_) (AllReadyH.nil))
     rw [if_pos (by kernel_rfl)]
     go_simp
     refine (HNW.out V1).mono ?_
     rintro e V2 ⟨rfl,hm,hv2⟩
     have hw2:Below X1.heap.size X1 V2:=hv1.trans (hv2.mono hv1.size)
     have n0:=cell_stays hw2 s0
     have n1:=cell_stays hw2 s1
     have n2:=cell_stays hw2 s2
     refine hK.out _ _ ⟨n0,n1,n2⟩ (fun hS=>?_)
     clear n0 n1 n2
     have hby2:=blk_below hby hv2 (blk_lt hby)
     refine wpAnyH_ready (rs:=[3]) (by kernel_rfl) (by decide) (AllReadyH.cons rfl (fun K hK=>?_) (AllReadyH.nil))
     rw [if_pos (by kernel_rfl)]
     go_simp
     refine (HRD.out X1 V2 V1.heap.size (some ⟨X1.heap.size,0,none⟩) [8,0,0,0,4,0,4,0,4,0,0,0] 3 4 HB2.out hw2 (bytes_blk hby2 (by decide)) (by decide) hm hv1.size (aw_two _)).mono ?_
     rintro e X2 ⟨hx2,T2,r2,f2,rv2,rfl,hme,hcc⟩
     have hq:=blk_below HQ1.out hx2 (blk_lt HQ1.out)
     have HQ2:=Lib.hid hq
     obtain ⟨_,m0,m1,m2,_⟩:=blk3 hq
     refine hK.out _ _ ⟨m0,m1,m2⟩ (fun hS=>?_)
     refine tk 4 (.tuple #[.iface T2 r2,.int .i64 0]) hS ?_ ?_
     · rintro w' ⟨s0,s1,s2⟩
       go_simp
     simp only [td]
     refine tk 5 (.iface T2 r2) hS ?_ ?_
     · rintro w' ⟨s0,s1,s2⟩
       go_simp
     simp only [td]
     refine tk 6 (.int .i64 0) hS ?_ ?_
     · rintro w' ⟨s0,s1,s2⟩
       go_simp
     simp only [td]
     refine tk 7 (.iface T2 r2) hS ?_ ?_
     · rintro w' ⟨s0,s1,s2⟩
       go_simp
     simp only [td]
     refine tk 8 (.int .i64 0) hS ?_ ?_
     · rintro w' ⟨s0,s1,s2⟩
       go_simp
     simp only [td]
     refine wpAnyH_done (by kernel_rfl) ?_ _
     refine NoPanic.normal ?_
     try simp only [Exit.then]
     have HX2:=Lib.hid hx2
     have HC2:=Lib.hid hcc
     have mN2:=hme.at (by decide)
     have eN2:=hme.enters
     clear hS hq hme hcc hx2 s0 s1 s2
     have s0:=m0
     have s1:=m1
     have s2:=m2
     clear m0 m1 m2
     have HB3:=Lib.hid (HB2.out.trans (HX2.out.mono HB2.out.size))
     go_upto_region 4 with (fail)
     refine wp_region_noPanic ?_
     refine wp_region_held_drew (S:=(fun w'=>w'.cell? ⟨w.heap.size+1+1,0,none⟩=some (.slice (some ⟨w.heap.size+1,0,none⟩) 1 1)∧w'.cell? ⟨w.heap.size+1+1,1,none⟩=some (.slice none 0 0)∧w'.cell? ⟨w.heap.size+1+1,2,none⟩=some (.int .i64 0))) (by kernel_rfl) ⟨s0,s1,s2⟩ ?_
     intro hS
     refine tk 0 (.agg #[.slice (some ⟨w.heap.size+1,0,none⟩) 1 1,.slice none 0 0,.int .i64 0]) hS ?_ ?_
     · rintro w' ⟨s0,s1,s2⟩
       go_simp
     simp only [td]
     refine wpAnyH_ready (rs:=[1]) (by kernel_rfl) (by decide) (AllReadyH.cons rfl (fun K hK=>?_) (AllReadyH.nil))
     rw [if_pos (by kernel_rfl)]
     go_simp
     refine (HNW.out X2.drew).mono ?_
     rintro e V1 ⟨rfl,hm,hv1'⟩
     have hm':V1.heap[X2.heap.size]?=some (.cells #[.int .i64 1000,.bool false] 106 (0,0)):=hm
     have hv1:Below X2.heap.size X2 V1:=(Below.refl _ X2).drew.trans hv1'
     have n0:=cell_stays hv1 s0
     have n1:=cell_stays hv1 s1
     have n2:=cell_stays hv1 s2
     refine hK.out _ _ ⟨n0,n1,n2⟩ (fun hS=>?_)
     clear n0 n1 n2
     refine wpAnyH_ready (rs:=[2]) (by kernel_rfl) (by decide) (AllReadyH.cons rfl (fun K hK=>?_) (AllReadyH.nil))
     rw [if_pos (by kernel_rfl)]
     go_simp
     refine (HRN.out X2 V1 X2.heap.size HB3.out hv1 hm' (Nat.le_refl _)).mono ?_
     rintro e X3 ⟨hx3,rfl⟩
     have hq:=blk_below HQ2.out hx3 (blk_lt HQ2.out)
     obtain ⟨_,m0,m1,m2,_⟩:=blk3 hq
     refine hK.out _ _ ⟨m0,m1,m2⟩ (fun hS=>?_)
     refine tk 3 (.tuple #[.nilIface,.int .i64 20]) hS ?_ ?_
     · rintro w' ⟨s0,s1,s2⟩
       go_simp
     simp only [td]
     refine tk 4 (.nilIface) hS ?_ ?_
     · rintro w' ⟨s0,s1,s2⟩
       go_simp
     simp only [td]
     refine tk 5 (.int .i64 20) hS ?_ ?_
     · rintro w' ⟨s0,s1,s2⟩
       go_simp
     simp only [td]
     refine tk 6 (.nilIface) hS ?_ ?_
     · rintro w' ⟨s0,s1,s2⟩
       go_simp
     simp only [td]
     refine tk 7 (.int .i64 20) hS ?_ ?_
     · rintro w' ⟨s0,s1,s2⟩
       go_simp
     simp only [td]
     refine wpAnyH_done (by kernel_rfl) ?_ _
     refine NoPanic.normal ?_
     try simp only [Exit.then]
     have HX3:=Lib.hid hx3
     clear hS hq m0 m1 m2 hx3 hv1 hv1' hm hm' s0 s1 s2
     go_wp2_with fail
     refine (HC1.out X3 (HX2.out.trans (HX3.out.mono HX2.out.size))).mono ?_
     rintro e X4 ⟨rfl,hb4⟩
     have HX4:=Lib.hid hb4
     clear hb4
     go_wp2_with fail
     refine (HC2.out X4 (HX3.out.trans (HX4.out.mono HX3.out.size))).mono ?_
     rintro e X5 ⟨rfl,hb5⟩
     have HX5:=Lib.hid (((HX3.out.trans (HX4.out.mono HX3.out.size)).trans (hb5.mono (Nat.le_trans HX3.out.size HX4.out.size))))
     clear hb5 mN1 eN1 mN2 eN2
     go_wp2
     go_ret
     exact ⟨rfl,HB.out.trans ((HB3.out.trans (HX5.out.mono HB3.out.size)).mono HB.out.size)⟩
   · rw [if_pos (by kernel_rfl)]
     go_simp
     refine (HNW.out X1.drew).mono ?_
     rintro e V1 ⟨rfl,hm,hv1'⟩
     have hm':V1.heap[X1.heap.size]?=some (.cells #[.int .i64 1000,.bool false] 106 (0,0)):=hm
     have hv1:Below X1.heap.size X1 V1:=(Below.refl _ X1).drew.trans hv1'
     have n0:=cell_stays hv1 s0
     have n1:=cell_stays hv1 s1
     have n2:=cell_stays hv1 s2
     refine hK.out _ _ ⟨n0,n1,n2⟩ (fun hS=>?_)
     clear n0 n1 n2
     refine wpAnyH_ready (rs:=[1]) (by kernel_rfl) (by decide) (AllReadyH.cons rfl (fun K hK=>?_) (AllReadyH.nil))
     rw [if_pos (by kernel_rfl)]
     go_simp
     have hv2:Below V1.heap.size V1 (V1.alloc (.cells #[.int .u8 8,.int .u8 0,.int .u8 0,.int .u8 0,.int .u8 4,.int .u8 0,.int .u8 4,.int .u8 0,.int .u8 4,.int .u8 0,.int .u8 0,.int .u8 0] 5)):=(Below.refl _ V1).alloc (Nat.le_refl _) _
     have hby:(V1.alloc (.cells #[.int .u8 8,.int .u8 0,.int .u8 0,.int .u8 0,.int .u8 4,.int .u8 0,.int .u8 4,.int .u8 0,.int .u8 4,.int .u8 0,.int .u8 0,.int .u8 0] 5)).heap[V1.heap.size]?=some (.cells (u8Cells [8,0,0,0,4,0,4,0,4,0,0,0]).toArray 5 (0,0)):=heap_alloc_new V1 _
     have hw2:=hv1.trans (hv2.mono hv1.size)
     have n0:=cell_stays hw2 s0
     have n1:=cell_stays hw2 s1
     have n2:=cell_stays hw2 s2
     refine hK.out _ _ ⟨n0,n1,n2⟩ (fun hS=>?_)
     clear n0 n1 n2
     generalize V1.alloc (.cells #[.int .u8 8,.int .u8 0,.int .u8 0,.int .u8 0,.int .u8 4,.int .u8 0,.int .u8 4,.int .u8 0,.int .u8 4,.int .u8 0,.int .u8 0,.int .u8 0] 5)=V2 at *
     have hm2:=blk_below hm' hv2 (blk_lt hm')
     refine wpAnyH_ready (rs:=[3]) (by kernel_rfl) (by decide) (AllReadyH.cons rfl (fun K hK=>?_) (AllReadyH.nil))
     rw [if_pos (by kernel_rfl)]
     go_simp
     refine (HRD.out X1 V2 X1.heap.size (some ⟨V1.heap.size,0,none⟩) [8,0,0,0,4,0,4,0,4,0,0,0] 3 4 HB2.out hw2 (bytes_blk hby (by decide)) (by decide) hm2 (Nat.le_refl _) (aw_two _)).mono ?_
     rintro e X2 ⟨hx2,T2,r2,f2,rv2,rfl,hme,hcc⟩
     have hq:=blk_below HQ1.out hx2 (blk_lt HQ1.out)
     have HQ2:=Lib.hid hq
     obtain ⟨_,m0,m1,m2,_⟩:=blk3 hq
     refine hK.out _ _ ⟨m0,m1,m2⟩ (fun hS=>?_)
     refine tk 4 (.tuple #[.iface T2 r2,.int .i64 0]) hS ?_ ?_
     · rintro w' ⟨s0,s1,s2⟩
       go_simp
     simp only [td]
     refine tk 5 (.iface T2 r2) hS ?_ ?_
     · rintro w' ⟨s0,s1,s2⟩
       go_simp
     simp only [td]
     refine tk 6 (.int .i64 0) hS ?_ ?_
     · rintro w' ⟨s0,s1,s2⟩
       go_simp
     simp only [td]
     refine tk 7 (.iface T2 r2) hS ?_ ?_
     · rintro w' ⟨s0,s1,s2⟩
       go_simp
     simp only [td]
     refine tk 8 (.int .i64 0) hS ?_ ?_
     · rintro w' ⟨s0,s1,s2⟩
       go_simp
     simp only [td]
     refine wpAnyH_done (by kernel_rfl) ?_ _
     refine NoPanic.normal ?_
     try simp only [Exit.then]
     have HX2:=Lib.hid hx2
     have HC2:=Lib.hid hcc
     have mN2:=hme.at (by decide)
     have eN2:=hme.enters
     clear hS hq hme hcc hx2 s0 s1 s2
     have s0:=m0
     have s1:=m1
     have s2:=m2
     clear m0 m1 m2
     have HB3:=Lib.hid (HB2.out.trans (HX2.out.mono HB2.out.size))
     go_upto_region 4 with (fail)
     refine wp_region_noPanic ?_
     refine wp_region_held_drew (S:=(fun w'=>w'.cell? ⟨w.heap.size+1+1,0,none⟩=some (.slice (some ⟨w.heap.size+1,0,none⟩) 1 1)∧w'.cell? ⟨w.heap.size+1+1,1,none⟩=some (.slice none 0 0)∧w'.cell? ⟨w.heap.size+1+1,2,none⟩=some (.int .i64 0))) (by kernel_rfl) ⟨s0,s1,s2⟩ ?_
     intro hS
     refine tk 0 (.agg #[.slice (some ⟨w.heap.size+1,0,none⟩) 1 1,.slice none 0 0,.int .i64 0]) hS ?_ ?_
     · rintro w' ⟨s0,s1,s2⟩
       go_simp
     simp only [td]
     refine wpAnyH_ready (rs:=[1]) (by kernel_rfl) (by decide) (AllReadyH.cons rfl (fun K hK=>?_) (AllReadyH.nil))
     rw [if_pos (by kernel_rfl)]
     go_simp
     refine (HNW.out X2.drew).mono ?_
     rintro e V1 ⟨rfl,hm,hv1'⟩
     have hm':V1.heap[X2.heap.size]?=some (.cells #[.int .i64 1000,.bool false] 106 (0,0)):=hm
     have hv1:Below X2.heap.size X2 V1:=(Below.refl _ X2).drew.trans hv1'
     have n0:=cell_stays hv1 s0
     have n1:=cell_stays hv1 s1
     have n2:=cell_stays hv1 s2
     refine hK.out _ _ ⟨n0,n1,n2⟩ (fun hS=>?_)
     clear n0 n1 n2
     refine wpAnyH_ready (rs:=[2]) (by kernel_rfl) (by decide) (AllReadyH.cons rfl (fun K hK=>?_) (AllReadyH.nil))
     rw [if_pos (by kernel_rfl)]
     go_simp
     refine (HRN.out X2 V1 X2.heap.size HB3.out hv1 hm' (Nat.le_refl _)).mono ?_
     rintro e X3 ⟨hx3,rfl⟩
     have hq:=blk_below HQ2.out hx3 (blk_lt HQ2.out)
     obtain ⟨_,m0,m1,m2,_⟩:=blk3 hq
     refine hK.out _ _ ⟨m0,m1,m2⟩ (fun hS=>?_)
     refine tk 3 (.tuple #[.nilIface,.int .i64 20]) hS ?_ ?_
     · rintro w' ⟨s0,s1,s2⟩
       go_simp
     simp only [td]
     refine tk 4 (.nilIface) hS ?_ ?_
     · rintro w' ⟨s0,s1,s2⟩
       go_simp
     simp only [td]
     refine tk 5 (.int .i64 20) hS ?_ ?_
     · rintro w' ⟨s0,s1,s2⟩
       go_simp
     simp only [td]
     refine tk 6 (.nilIface) hS ?_ ?_
     · rintro w' ⟨s0,s1,s2⟩
       go_simp
     simp only [td]
     refine tk 7 (.int .i64 20) hS ?_ ?_
     · rintro w' ⟨s0,s1,s2⟩
       go_simp
     simp only [td]
     refine wpAnyH_done (by kernel_rfl) ?_ _
     refine NoPanic.normal ?_
     try simp only [Exit.then]
     have HX3:=Lib.hid hx3
     clear hS hq m0 m1 m2 hx3 hv1 hv1' hm hm' s0 s1 s2
     go_wp2_with fail
     refine (HC1.out X3 (HX2.out.trans (HX3.out.mono HX2.out.size))).mono ?_
     rintro e X4 ⟨rfl,hb4⟩
     have HX4:=Lib.hid hb4
     clear hb4
     go_wp2_with fail
     refine (HC2.out X4 (HX3.out.trans (HX4.out.mono HX3.out.size))).mono ?_
     rintro e X5 ⟨rfl,hb5⟩
     have HX5:=Lib.hid (((HX3.out.trans (HX4.out.mono HX3.out.size)).trans (hb5.mono (Nat.le_trans HX3.out.size HX4.out.size))))
     clear hb5 mN1 eN1 mN2 eN2
     go_wp2
     go_ret
     exact ⟨rfl,HB.out.trans ((HB3.out.trans (HX5.out.mono HB3.out.size)).mono HB.out.size)⟩
end Go.Proofs.YtcfjjocmiheiaaaDoor
