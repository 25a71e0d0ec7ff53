/-
  Package flatread: is a list right. Conditions: those that each theorem names.
-/
import Derived.Test.YtcfjjocmiheiaaaDoorPkD52
import Derived.Test.YtcfjjocmiheiaaaDoorPkD23
namespace Go.Proofs.YtcfjjocmiheiaaaDoor
open Go.ChangeShapes Go.WideShapes Go.ChangeAt Go.RowKit Go.Shelf
def set7 (w:World)(g:Nat)(a b c d e f i:Value):World:=((((((w.setCell ⟨g,0,none⟩ a).setCell ⟨g,1,none⟩ b).setCell ⟨g,2,none⟩ c).setCell ⟨g,3,none⟩ d).setCell ⟨g,4,none⟩ e).setCell ⟨g,5,none⟩ f).setCell ⟨g,6,none⟩ i
theorem keep7 {w:World}{g:Nat}{p:Addr}{v x0 x1 x2 x3 x4 x5 x6:Value}(h:w.cell? p=some v)(hp:p.block≠g):(set7 w g x0 x1 x2 x3 x4 x5 x6).cell? p=some v:=by
 have e:∀ (w:World) (i:Nat) (x:Value),(w.setCell ⟨g,i,none⟩ x).cell? p=w.cell? p:=fun w i x=>World.cell?_of_block (Below.heap_setCell _ _ _ _ hp)
 unfold set7
 rw [e,e,e,e,e,e,e,h]
def LrAt (base:Nat)(w:World)(m:Nat)(bp:Option Addr)(bc:Nat)(sv ev:Value)(zs:List Int)(ss:List (SRec × Value))(es:List SCho)(fs:List (List CFld × Value))(ns:List Nat)(wk mt B:Nat)(F:Nat→Int→Option (PV × Int))(left left2 ml:Int)(n L:Nat)(lc:Array Value)(y:Value)(wr:World):Prop:=
 ∃ (j:Nat) (vs:List PV) (l1 ml1:Int),j≤n∧y=.int .i64 j∧seqD F left2 j=some (vs,l1)∧(0≤l1∧l1≤left)∧(0≤ml1∧ml1≤ml)∧(3 * left≤ml→3 * l1≤ml1)∧RCtx base wr m bp bc sv ev zs ss es fs ns wk mt B l1 ml1∧Exw wk mt w.heap.size w wr∧wr.heap[L]?=some (.cells lc 238 (0,0))
theorem listAt_no {zs:List Int}{nx:Option NextD}{k:Nat}{ref lists to left:Int}(hz:∀ i,0≤zs.getD i 0∧zs.getD i 0≤255)(h:itemsOk zs k lists to=false):listAtZ zs nx k ref lists to left=none:=by
 unfold listAtZ
 by_cases h1:inZ (lenZ zs) to 4=true
 · rw [if_pos h1,if_neg ?_]
   rintro ⟨h2,_⟩
   have hi:=inZ_iff.1 h1
   have h2':=inZ_iff.1 h2
   have hn:=leAt_4 zs to.toNat hz
   have hs:=step_bd k lists
   have hm:0≤leAt zs to.toNat 4 * stepZ k lists:=Int.mul_nonneg hn.1 (by omega)
   unfold itemsOk at h
   rw [h1,inZ_iff.2 (show 0≤to+4∧0≤leAt zs to.toNat 4 * stepZ k lists∧_ by omega)] at h
   cases h
 · rw [if_neg h1]
theorem listAt_ok {zs:List Int}{nx:Option NextD}{k:Nat}{ref lists to left:Int}(h:itemsOk zs k lists to=true):listAtZ zs nx k ref lists to left=if 0≤left-(4+leAt zs to.toNat 4 * stepZ k lists) then
   (match nx with
    | none=>if leAt zs to.toNat 4=0 then some (.mk 0 [] [] false,left-(4+leAt zs to.toNat 4 * stepZ k lists)) else none
    | some f=>match seqD (fun j l=>f k ref lists (to+4+j * stepZ k lists) l) (left-(4+leAt zs to.toNat 4 * stepZ k lists)) (leAt zs to.toNat 4).toNat with
     | none=>none
     | some (ks,l)=>some (.mk 0 [] ks false,l)) else none:=by
 unfold itemsOk at h
 rw [Bool.and_eq_true] at h
 have hi:=inZ_iff.1 h.1
 have h2':=inZ_iff.1 h.2
 have h4:inZ (lenZ zs) to (4+leAt zs to.toNat 4 * stepZ k lists)=true:=inZ_iff.2 (by omega)
 unfold listAtZ
 rw [if_pos h.1]
 by_cases hc:0≤left-(4+leAt zs to.toNat 4 * stepZ k lists)
 · rw [if_pos hc,if_pos ⟨h4,hc⟩]
   cases nx<;>rfl
 · rw [if_neg hc,if_neg (fun h=>hc h.2)]
set_option maxRecDepth 100000 in
set_option maxHeartbeats 16000000 in
theorem flistRight (room:Nat)(hroom:room≤12)(hnx:∀ q,room=q+1→KidRAt q):ListRAt room:=by
 constructor
 intro base w m bp bc sv ev zs ss es fs ns wk mt B left ml h k r l d at' hty hlp
 have hzb:=h.msg.msg.bytes.1
 have hlen:=h.msg.msg.len
 have hb:=(Below.refl w.heap.size w).alloc (Nat.le_refl _) (.cells #[.int .u8 k,.int .i64 r,.int .i64 l,.int .i64 at',.int .u64 d,.bool true] 166)
 have HB:=Lib.hid hb
 have HC:=Lib.hid (h.below hb)
 have HX:=Lib.hid (heap_alloc_new w (.cells #[.int .u8 k,.int .i64 r,.int .i64 l,.int .i64 at',.int .u64 d,.bool true] 166))
 have HKW:Hid (wk<w.heap.size∧mt<w.heap.size):=Lib.hid ⟨blk_lt h.st.walk,blk_lt h.st.meter⟩
 have HTG:=Lib.hid (fun W (hW:Below (w.alloc (.cells #[.int .u8 k,.int .i64 r,.int .i64 l,.int .i64 at',.int .u64 d,.bool true] 166)).heap.size (w.alloc (.cells #[.int .u8 k,.int .i64 r,.int .i64 l,.int .i64 at',.int .u64 d,.bool true] 166)) W)=>ftarget_any W ((h.below hb).below hW).msg.msg k r l at' d true)
 obtain ⟨P,hP⟩:∃ P,RPost (pointZ zs at' fun to=>listAtZ zs (nextZ (sRecs ss) es zs room) k r ((l:Int)-1) to left) wk m mt left ml w=P:=⟨_,rfl⟩
 rw [hP]
 have HP:=Lib.hid hP.symm
 have HHL:=Lib.hid h.hl
 have HML:=Lib.hid h.hml
 have HTY:=Lib.hid hty
 have hli:=hty.li
 have hNX:=Lib.hid hnx
 have HL1:Hid (((l-1:Nat):Int)=(l:Int)-1):=Lib.hid (by omega)
 have HTY1:Hid (TyM ss.length es k r (l-1)):=Lib.hid ⟨hty.lo,hty.hi,by have:=hty.li;omega,hty.en,hty.st⟩
 have HEL:=Lib.hid (fun W=>element_any k r l (by omega) W)
 clear hP hb h hnx hty
 unfold kidV at *
 simp only [if_true] at HTG
 obtain ⟨jz,hjz⟩:∃ jz,jumpZ zs at'=jz:=⟨_,rfl⟩
 unfold pointZ at HP
 rw [hjz] at HP HTG
 have hbd:∀ to,jz=some to→0≤to∧to≤16384:=fun to e=>by
  rw [e] at hjz
  have h1:=jump_bd hzb hjz
  unfold lenZ at h1
  omega
 clear hjz
 go_enter Tryd.func130,Tryd.ntmps130
 go_upto_region 1 with (fail)
 generalize w.alloc (.cells #[.int .u8 k,.int .i64 r,.int .i64 l,.int .i64 at',.int .u64 d,.bool true] 166)=W0 at *
 obtain ⟨_,s1,s2,s3,s4,s5,s6⟩:=blk6 HX.out
 obtain ⟨_,s0,_,_,_⟩:=blk4w HC.out.st.walk
 cases jz with
 | none =>
  have HEND:Hid (∀ W,Below w.heap.size w W→WState W wk m mt false left ml false→P (.returned (.bool false)) W):=Lib.hid (fun W hB hs=>by rw [HP.out];exact rpost_none hs (Exw.of_below hB) rfl)
  unfold optV at HTG
  refine wp_region_noPanic ?_
  refine wp_region_held_drew (S:=(fun w'=>w'.cell? ⟨wk,0,none⟩=some (.pointer (some ⟨m,0,none⟩))∧w'.cell? ⟨w.heap.size,0,none⟩=some (.int .u8 k)∧w'.cell? ⟨w.heap.size,1,none⟩=some (.int .i64 r)∧w'.cell? ⟨w.heap.size,2,none⟩=some (.int .i64 l)∧w'.cell? ⟨w.heap.size,3,none⟩=some (.int .i64 at')∧w'.cell? ⟨w.heap.size,4,none⟩=some (.int .u64 d)∧w'.cell? ⟨w.heap.size,5,none⟩=some (.bool true))) (by kernel_rfl) ⟨s0,s1,s2,s3,s4,s5,s6⟩ ?_
  intro hS
  refine tk 0 (.pointer (some ⟨wk,0,none⟩)) hS ?_ ?_
  · rintro w' ⟨s0,s1,s2,s3,s4,s5,s6⟩
    go_simp
  simp only [td]
  refine tk 1 (.pointer (some ⟨wk,0,none⟩)) hS ?_ ?_
  · rintro w' ⟨s0,s1,s2,s3,s4,s5,s6⟩
    go_simp
  simp only [td]
  refine tk 2 (.pointer (some ⟨wk,0,none⟩)) hS ?_ ?_
  · rintro w' ⟨s0,s1,s2,s3,s4,s5,s6⟩
    go_simp
  simp only [td]
  refine tk 3 (.pointer (some ⟨m,0,none⟩)) hS ?_ ?_
  · rintro w' ⟨s0,s1,s2,s3,s4,s5,s6⟩
    go_simp
  simp only [td]
  refine tk 4 (.agg #[.int .u8 k,.int .i64 r,.int .i64 l,.int .i64 at',.int .u64 d,.bool true]) hS ?_ ?_
  · rintro w' ⟨s0,s1,s2,s3,s4,s5,s6⟩
    go_simp
  simp only [td]
  refine wpAnyH_ready (rs:=[5]) (by kernel_rfl) (by decide) (AllReadyH.cons rfl (fun K hK=>?_) AllReadyH.nil)
  rw [if_pos (by kernel_rfl)]
  go_simp
  refine (HTG.out W0.drew ((Below.refl _ W0).drew)).mono ?_
  rintro e Wh1 ⟨rfl,hb1⟩
  have hx1:Below W0.heap.size W0 Wh1:=(Below.refl _ W0).drew.trans hb1
  have nn0:=cell_stays hx1 s0
  have nn1:=cell_stays hx1 s1
  have nn2:=cell_stays hx1 s2
  have nn3:=cell_stays hx1 s3
  have nn4:=cell_stays hx1 s4
  have nn5:=cell_stays hx1 s5
  have nn6:=cell_stays hx1 s6
  refine hK.out _ _ ⟨nn0,nn1,nn2,nn3,nn4,nn5,nn6⟩ (fun hS=>?_)
  clear nn0 nn1 nn2 nn3 nn4 nn5 nn6
  refine tk 6 (.tuple #[.int .i64 0,.bool false]) hS ?_ ?_
  · rintro w' ⟨s0,s1,s2,s3,s4,s5,s6⟩
    go_simp
  simp only [td]
  refine tk 7 (.int .i64 0) hS ?_ ?_
  · rintro w' ⟨s0,s1,s2,s3,s4,s5,s6⟩
    go_simp
  simp only [td]
  refine tk 8 (.bool false) hS ?_ ?_
  · rintro w' ⟨s0,s1,s2,s3,s4,s5,s6⟩
    go_simp
  simp only [td]
  refine tk 9 (.int .i64 0) hS ?_ ?_
  · rintro w' ⟨s0,s1,s2,s3,s4,s5,s6⟩
    go_simp
  simp only [td]
  refine tk 10 (.bool false) hS ?_ ?_
  · rintro w' ⟨s0,s1,s2,s3,s4,s5,s6⟩
    go_simp
  simp only [td]
  refine wpAnyH_done (by kernel_rfl) ?_ _
  refine NoPanic.normal ?_
  try simp only [Exit.then]
  have HBE:=Lib.hid (HB.out.trans (hx1.mono HB.out.size))
  have HWE:=Lib.hid (HC.out.st.below hx1)
  clear hS s0 s1 s2 s3 s4 s5 s6 hx1 hb1
  go_wp2
  exact HEND.out _ HBE.out HWE.out
 | some to =>
  have hto:=hbd to rfl
  unfold optV at HTG
  refine wp_region_noPanic ?_
  refine wp_region_held_drew (S:=(fun w'=>w'.cell? ⟨wk,0,none⟩=some (.pointer (some ⟨m,0,none⟩))∧w'.cell? ⟨w.heap.size,0,none⟩=some (.int .u8 k)∧w'.cell? ⟨w.heap.size,1,none⟩=some (.int .i64 r)∧w'.cell? ⟨w.heap.size,2,none⟩=some (.int .i64 l)∧w'.cell? ⟨w.heap.size,3,none⟩=some (.int .i64 at')∧w'.cell? ⟨w.heap.size,4,none⟩=some (.int .u64 d)∧w'.cell? ⟨w.heap.size,5,none⟩=some (.bool true))) (by kernel_rfl) ⟨s0,s1,s2,s3,s4,s5,s6⟩ ?_
  intro hS
  refine tk 0 (.pointer (some ⟨wk,0,none⟩)) hS ?_ ?_
  · rintro w' ⟨s0,s1,s2,s3,s4,s5,s6⟩
    go_simp
  simp only [td]
  refine tk 1 (.pointer (some ⟨wk,0,none⟩)) hS ?_ ?_
  · rintro w' ⟨s0,s1,s2,s3,s4,s5,s6⟩
    go_simp
  simp only [td]
  refine tk 2 (.pointer (some ⟨wk,0,none⟩)) hS ?_ ?_
  · rintro w' ⟨s0,s1,s2,s3,s4,s5,s6⟩
    go_simp
  simp only [td]
  refine tk 3 (.pointer (some ⟨m,0,none⟩)) hS ?_ ?_
  · rintro w' ⟨s0,s1,s2,s3,s4,s5,s6⟩
    go_simp
  simp only [td]
  refine tk 4 (.agg #[.int .u8 k,.int .i64 r,.int .i64 l,.int .i64 at',.int .u64 d,.bool true]) hS ?_ ?_
  · rintro w' ⟨s0,s1,s2,s3,s4,s5,s6⟩
    go_simp
  simp only [td]
  refine wpAnyH_ready (rs:=[5]) (by kernel_rfl) (by decide) (AllReadyH.cons rfl (fun K hK=>?_) AllReadyH.nil)
  rw [if_pos (by kernel_rfl)]
  go_simp
  refine (HTG.out W0.drew ((Below.refl _ W0).drew)).mono ?_
  rintro e Wh1 ⟨rfl,hb1⟩
  have hx1:Below W0.heap.size W0 Wh1:=(Below.refl _ W0).drew.trans hb1
  have nn0:=cell_stays hx1 s0
  have nn1:=cell_stays hx1 s1
  have nn2:=cell_stays hx1 s2
  have nn3:=cell_stays hx1 s3
  have nn4:=cell_stays hx1 s4
  have nn5:=cell_stays hx1 s5
  have nn6:=cell_stays hx1 s6
  refine hK.out _ _ ⟨nn0,nn1,nn2,nn3,nn4,nn5,nn6⟩ (fun hS=>?_)
  clear nn0 nn1 nn2 nn3 nn4 nn5 nn6
  refine tk 6 (.tuple #[.int .i64 to,.bool true]) hS ?_ ?_
  · rintro w' ⟨s0,s1,s2,s3,s4,s5,s6⟩
    go_simp
  simp only [td]
  refine tk 7 (.int .i64 to) hS ?_ ?_
  · rintro w' ⟨s0,s1,s2,s3,s4,s5,s6⟩
    go_simp
  simp only [td]
  refine tk 8 (.bool true) hS ?_ ?_
  · rintro w' ⟨s0,s1,s2,s3,s4,s5,s6⟩
    go_simp
  simp only [td]
  refine tk 9 (.int .i64 to) hS ?_ ?_
  · rintro w' ⟨s0,s1,s2,s3,s4,s5,s6⟩
    go_simp
  simp only [td]
  refine tk 10 (.bool true) hS ?_ ?_
  · rintro w' ⟨s0,s1,s2,s3,s4,s5,s6⟩
    go_simp
  simp only [td]
  refine wpAnyH_done (by kernel_rfl) ?_ _
  refine NoPanic.normal ?_
  try simp only [Exit.then]
  have HB1:=Lib.hid (HB.out.trans (hx1.mono HB.out.size))
  have HC1:=Lib.hid (HC.out.below hx1)
  have HX1:=Lib.hid (blk_below HX.out hx1 (blk_lt HX.out))
  have HWS1:Hid (w.heap.size<Wh1.heap.size):=Lib.hid (blk_lt HX1.out)
  clear hS s0 s1 s2 s3 s4 s5 s6 hb1 hx1 HTG HC HX
  have HFI:=Lib.hid (fun W (hW:Below Wh1.heap.size Wh1 W)=>fitems_any W (HC1.out.below hW).msg.msg k r ((l:Int)-1) to)
  obtain ⟨_,s1,s2,s3,s4,s5,s6⟩:=blk6 HX1.out
  obtain ⟨_,s0,_,_,_⟩:=blk4w HC1.out.st.walk
  have HNO:=Lib.hid (fun (hh:itemsOk zs k ((l:Int)-1) to=false)=>listAt_no (nx:=nextZ (sRecs ss) es zs room) (ref:=(r:Int)) (left:=left) hzb hh)
  have HOK:=Lib.hid (fun (hh:itemsOk zs k ((l:Int)-1) to=true)=>listAt_ok (nx:=nextZ (sRecs ss) es zs room) (ref:=(r:Int)) (left:=left) hh)
  have hld:=leAt_4 zs to.toNat hzb
  have hstp:=step_bd k ((l:Int)-1)
  have HFIT:Hid (itemsOk zs k ((l:Int)-1) to=true→inZ (lenZ zs) (to+4) (leAt zs to.toNat 4 * stepZ k ((l:Int)-1))=true):=Lib.hid (fun hh=>by
   unfold itemsOk at hh
   rw [Bool.and_eq_true] at hh
   exact hh.2)
  have HSTE:Hid (sortP k ((l:Int)-1)=1→stepZ k ((l:Int)-1)=kSize k):=Lib.hid (fun hh=>by unfold stepZ;rw [if_pos ((sort_num k _).1 hh)])
  obtain ⟨n,hn⟩:∃ n:Nat,leAt zs to.toNat 4=(n:Int):=Int.eq_ofNat_of_zero_le hld.1
  obtain ⟨st,hst⟩:∃ st,stepZ k ((l:Int)-1)=st:=⟨_,rfl⟩
  unfold FItemsPost listV noList at HFI
  simp only [hn,hst] at HFI HOK HFIT HSTE
  rw [hn] at hld
  rw [hst] at hstp
  obtain ⟨okk,hokk⟩:∃ okk,itemsOk zs k ((l:Int)-1) to=okk:=⟨_,rfl⟩
  rw [hokk] at HNO HOK HFIT
  simp only [hokk] at HFI
  clear hn hst hokk
  go_upto_region 4 with (fail)
  refine wp_region_noPanic ?_
  refine wp_region_held_drew (S:=(fun w'=>w'.cell? ⟨wk,0,none⟩=some (.pointer (some ⟨m,0,none⟩))∧w'.cell? ⟨w.heap.size,0,none⟩=some (.int .u8 k)∧w'.cell? ⟨w.heap.size,1,none⟩=some (.int .i64 r)∧w'.cell? ⟨w.heap.size,2,none⟩=some (.int .i64 l)∧w'.cell? ⟨w.heap.size,3,none⟩=some (.int .i64 at')∧w'.cell? ⟨w.heap.size,4,none⟩=some (.int .u64 d)∧w'.cell? ⟨w.heap.size,5,none⟩=some (.bool true))) (by kernel_rfl) ⟨s0,s1,s2,s3,s4,s5,s6⟩ ?_
  intro hS
  refine tk 0 (.pointer (some ⟨wk,0,none⟩)) hS ?_ ?_
  · rintro w' ⟨s0,s1,s2,s3,s4,s5,s6⟩
    go_simp
  simp only [td]
  refine tk 1 (.pointer (some ⟨wk,0,none⟩)) hS ?_ ?_
  · rintro w' ⟨s0,s1,s2,s3,s4,s5,s6⟩
    go_simp
  simp only [td]
  refine tk 2 (.pointer (some ⟨wk,0,none⟩)) hS ?_ ?_
  · rintro w' ⟨s0,s1,s2,s3,s4,s5,s6⟩
    go_simp
  simp only [td]
  refine tk 3 (.pointer (some ⟨m,0,none⟩)) hS ?_ ?_
  · rintro w' ⟨s0,s1,s2,s3,s4,s5,s6⟩
    go_simp
  simp only [td]
  refine tk 4 (.int .i64 to) hS ?_ ?_
  · rintro w' ⟨s0,s1,s2,s3,s4,s5,s6⟩
    go_simp
  simp only [td]
  refine tk 5 (.pointer (some ⟨w.heap.size,0,none⟩)) hS ?_ ?_
  · rintro w' ⟨s0,s1,s2,s3,s4,s5,s6⟩
    go_simp
  simp only [td]
  refine tk 6 (.agg #[.int .u8 k,.int .i64 r,.int .i64 l]) hS ?_ ?_
  · rintro w' ⟨s0,s1,s2,s3,s4,s5,s6⟩
    go_simp
  simp only [td]
  refine wpAnyH_ready (rs:=[7,12]) (by kernel_rfl) (by decide) (AllReadyH.cons rfl (fun K hK=>?_) (AllReadyH.cons rfl (fun K hK=>?_) AllReadyH.nil))
  · rw [if_pos (by kernel_rfl)]
    go_simp
    refine (HEL.out Wh1.drew).mono ?_
    rintro e V1 ⟨rfl,hb1⟩
    have hv1:Below Wh1.heap.size Wh1 V1:=(Below.refl _ Wh1).drew.trans hb1
    have nn0:=cell_stays hv1 s0
    have nn1:=cell_stays hv1 s1
    have nn2:=cell_stays hv1 s2
    have nn3:=cell_stays hv1 s3
    have nn4:=cell_stays hv1 s4
    have nn5:=cell_stays hv1 s5
    have nn6:=cell_stays hv1 s6
    refine hK.out _ _ ⟨nn0,nn1,nn2,nn3,nn4,nn5,nn6⟩ (fun hS=>?_)
    clear nn0 nn1 nn2 nn3 nn4 nn5 nn6
    refine wpAnyH_ready (rs:=[8,12]) (by kernel_rfl) (by decide) (AllReadyH.cons rfl (fun K hK=>?_) (AllReadyH.cons rfl (fun K hK=>?_) AllReadyH.nil))
    · rw [if_pos (by kernel_rfl)]
      go_simp
      refine (HFI.out V1 hv1).mono ?_
      rintro e V2 ⟨hfp,hb2⟩
      have hv2:Below Wh1.heap.size Wh1 V2:=hv1.trans (hb2.mono hv1.size)
      obtain ⟨lp,lk,lr,ll,la,ln,ls,ok,rfl,hlp1,hval⟩:∃ (lp:Value) (lk lr ll la ln ls:Int) (ok:Bool),e=.returned (.tuple #[.agg #[lp,.int .u8 lk,.int .i64 lr,.int .i64 ll,.int .i64 la,.int .i64 ln,.int .i64 ls],.bool ok])∧lp.oneCell'=true∧((ok=true∧okk=true∧lp=.pointer (some ⟨m,0,none⟩)∧lk=k∧lr=r∧ll=(l:Int)-1∧la=to+4∧ln=n∧ls=st)∨(ok=false∧okk=false)):=by
       rcases hfp with ⟨h1,h2⟩|⟨h1,h2⟩
       · exact ⟨_,_,_,_,_,_,_,_,h2,rfl,.inl ⟨rfl,h1,rfl,rfl,rfl,rfl,rfl,rfl,rfl⟩⟩
       · exact ⟨_,_,_,_,_,_,_,_,h2,rfl,.inr ⟨rfl,h1⟩⟩
      have nn0:=cell_stays hv2 s0
      have nn1:=cell_stays hv2 s1
      have nn2:=cell_stays hv2 s2
      have nn3:=cell_stays hv2 s3
      have nn4:=cell_stays hv2 s4
      have nn5:=cell_stays hv2 s5
      have nn6:=cell_stays hv2 s6
      refine hK.out _ _ ⟨nn0,nn1,nn2,nn3,nn4,nn5,nn6⟩ (fun hS=>?_)
      clear nn0 nn1 nn2 nn3 nn4 nn5 nn6
      refine tk 9 (.tuple #[.agg #[lp,.int .u8 lk,.int .i64 lr,.int .i64 ll,.int .i64 la,.int .i64 ln,.int .i64 ls],.bool ok]) hS ?_ ?_
      · rintro w' ⟨s0,s1,s2,s3,s4,s5,s6⟩
        go_simp
      simp only [td]
      refine tk 10 (.agg #[lp,.int .u8 lk,.int .i64 lr,.int .i64 ll,.int .i64 la,.int .i64 ln,.int .i64 ls]) hS ?_ ?_
      · rintro w' ⟨s0,s1,s2,s3,s4,s5,s6⟩
        go_simp
      simp only [td]
      refine tk 11 (.bool ok) hS ?_ ?_
      · rintro w' ⟨s0,s1,s2,s3,s4,s5,s6⟩
        go_simp
      simp only [td]
      refine wpAnyH_ready (rs:=[12]) (by kernel_rfl) (by decide) (AllReadyH.cons rfl (fun K hK=>?_) AllReadyH.nil)
      rw [if_pos (by kernel_rfl)]
      go_simp
      have hv3:Below Wh1.heap.size Wh1 (V2.alloc (.cells #[.pointer none,.int .u8 0,.int .i64 0,.int .i64 0,.int .i64 0,.int .i64 0,.int .i64 0] 238)):=hv2.alloc hv2.size _
      have hT3:=heap_alloc_new V2 (.cells #[.pointer none,.int .u8 0,.int .i64 0,.int .i64 0,.int .i64 0,.int .i64 0,.int .i64 0] 238)
      have nn0:=cell_stays hv3 s0
      have nn1:=cell_stays hv3 s1
      have nn2:=cell_stays hv3 s2
      have nn3:=cell_stays hv3 s3
      have nn4:=cell_stays hv3 s4
      have nn5:=cell_stays hv3 s5
      have nn6:=cell_stays hv3 s6
      refine hK.out _ _ ⟨nn0,nn1,nn2,nn3,nn4,nn5,nn6⟩ (fun hS=>?_)
      clear nn0 nn1 nn2 nn3 nn4 nn5 nn6
      generalize V2.alloc (.cells #[.pointer none,.int .u8 0,.int .i64 0,.int .i64 0,.int .i64 0,.int .i64 0,.int .i64 0] 238)=V3 at *
      have hthere:V3.there (V2.heap.size) 0 7:=fun i hi=>by
       have h4:i=0∨i=1∨i=2∨i=3∨i=4∨i=5∨i=6:=by omega
       obtain ⟨_,v0,v1,v2,v3,v4,v5,v6⟩:=blk7 hT3
       rcases h4 with rfl|rfl|rfl|rfl|rfl|rfl|rfl
       · exact ⟨by rw [Nat.add_zero,v0];rfl,blk_frozen hT3 _⟩
       · exact ⟨by rw [Nat.zero_add,v1];rfl,blk_frozen hT3 _⟩
       · exact ⟨by rw [Nat.zero_add,v2];rfl,blk_frozen hT3 _⟩
       · exact ⟨by rw [Nat.zero_add,v3];rfl,blk_frozen hT3 _⟩
       · exact ⟨by rw [Nat.zero_add,v4];rfl,blk_frozen hT3 _⟩
       · exact ⟨by rw [Nat.zero_add,v5];rfl,blk_frozen hT3 _⟩
       · exact ⟨by rw [Nat.zero_add,v6];rfl,blk_frozen hT3 _⟩
      refine wpAnyH_ready (rs:=[13]) (by kernel_rfl) (by decide) (AllReadyH.cons rfl (fun K hK=>?_) AllReadyH.nil)
      rw [if_pos (by kernel_rfl)]
      refine wp_store_mid 238 (.tmp 9) (.tmp 33) rfl (V2.heap.size) 0 #[lp,.int .u8 lk,.int .i64 lr,.int .i64 ll,.int .i64 la,.int .i64 ln,.int .i64 ls] rfl rfl hthere (by kernel_rfl) (Array.all_eq_true_iff_forall_mem.2 (by intro x hx;simp at hx;rcases hx with rfl|rfl|rfl|rfl|rfl|rfl|rfl<;>first|rfl|exact hlp1)) ?_
      change K _ (set7 V3 (V2.heap.size) lp (.int .u8 lk) (.int .i64 lr) (.int .i64 ll) (.int .i64 la) (.int .i64 ln) (.int .i64 ls))
      have hTS:Wh1.heap.size≤V2.heap.size:=hv2.size
      have hks:∀ (bb o:Nat) (cc:Value),bb<Wh1.heap.size→Wh1.cell? ⟨bb,o,none⟩=some cc→(set7 V3 (V2.heap.size) lp (.int .u8 lk) (.int .i64 lr) (.int .i64 ll) (.int .i64 la) (.int .i64 ln) (.int .i64 ls)).cell? ⟨bb,o,none⟩=some cc:=fun bb o cc hbb hcc=>keep7 (cell_stays hv3 hcc) (by show bb≠_;omega)
      refine hK.out _ _ ⟨hks _ _ _ (World.block_lt_of_cell? _ _ s0) s0,hks _ _ _ (World.block_lt_of_cell? _ _ s1) s1,hks _ _ _ (World.block_lt_of_cell? _ _ s2) s2,hks _ _ _ (World.block_lt_of_cell? _ _ s3) s3,hks _ _ _ (World.block_lt_of_cell? _ _ s4) s4,hks _ _ _ (World.block_lt_of_cell? _ _ s5) s5,hks _ _ _ (World.block_lt_of_cell? _ _ s6) s6⟩ (fun hS=>?_)
      refine tk 14 (.bool ok) hS ?_ ?_
      · rintro w' ⟨s0,s1,s2,s3,s4,s5,s6⟩
        go_simp
      simp only [td]
      refine wpAnyH_done (by kernel_rfl) ?_ _
      refine NoPanic.normal ?_
      try simp only [Exit.then]
      have HE1:=Lib.hid (show (set7 V3 (V2.heap.size) lp (.int .u8 lk) (.int .i64 lr) (.int .i64 ll) (.int .i64 la) (.int .i64 ln) (.int .i64 ls)).heap[V2.heap.size]?=some (.cells #[lp,.int .u8 lk,.int .i64 lr,.int .i64 ll,.int .i64 la,.int .i64 ln,.int .i64 ls] 238 (0,0)) from blk_set7 hT3 _ _ _ _ _ _ _)
      have HE2:=Lib.hid (show Below Wh1.heap.size Wh1 (set7 V3 (V2.heap.size) lp (.int .u8 lk) (.int .i64 lr) (.int .i64 ll) (.int .i64 la) (.int .i64 ln) (.int .i64 ls)) from below_set7 hv3 hTS _ _ _ _ _ _ _)
      have HLT:Hid (w.heap.size<V2.heap.size):=Lib.hid (by have:=HWS1.out;omega)
      clear hS hks hthere s0 s1 s2 s3 s4 s5 s6 hTS hfp
      generalize set7 V3 (V2.heap.size) lp (.int .u8 lk) (.int .i64 lr) (.int .i64 ll) (.int .i64 la) (.int .i64 ln) (.int .i64 ls)=W9 at *
      obtain ⟨L,hL⟩:∃ L,V2.heap.size=L:=⟨_,rfl⟩
      rw [hL] at HE1 HLT ⊢
      clear hL
      have HC9:=Lib.hid (HC1.out.below HE2.out)
      have HB9:=Lib.hid (HB1.out.trans (HE2.out.mono HB1.out.size))
      rcases hval with ⟨rfl,hokt,rfl,rfl,rfl,rfl,rfl,rfl,rfl⟩|⟨rfl,hokf⟩
      case inr =>
       have HEND:Hid (P (.returned (.bool false)) W9):=Lib.hid (by rw [HP.out];exact rpost_none HC9.out.st (Exw.of_below HB9.out) (HNO.out hokf))
       clear hokf
       obtain ⟨_,q0,q1,q2,q3,q4,q5,q6⟩:=blk7 HE1.out
       go_wp2
       exact HEND.out
      obtain ⟨_,q0,q1,q2,q3,q4,q5,q6⟩:=blk7 HE1.out
      have HLA:=Lib.hid (HOK.out hokt)
      have HFT:=Lib.hid (inZ_iff.1 (HFIT.out hokt))
      clear hokt HNO HOK HFIT
      have hz:lenZ zs=(zs.length:Int):=rfl
      have hns:0≤(n:Int) * ls∧(n:Int) * ls≤16384:=by have:=HFT.out;rw [hz] at this;omega
      have hnn:(n:Int)≤16384:=by
       have h1:(n:Int) * 1≤(n:Int) * ls:=Int.mul_le_mul_of_nonneg_left hstp.1 (by omega)
       omega
      obtain ⟨S,hS⟩:∃ S,(n:Int) * ls=S:=⟨_,rfl⟩
      have hws:IntKind.i64.wrap ((n:Int) * ls)=S:=by rw [hS];exact IntWalk.i64_in S ⟨by omega,by omega⟩
      have hws2:=IntWalk.i64_in (4+S) ⟨by omega,by omega⟩
      have hwn:=IntWalk.i64_in (1+(n:Int)) ⟨by omega,by omega⟩
      have hnS:(n:Int)≤S:=by
       have h1:(n:Int) * 1≤(n:Int) * ls:=Int.mul_le_mul_of_nonneg_left hstp.1 (by omega)
       omega
      rw [hS] at HLA HFT hns
      have HSS:=Lib.hid hS
      clear hS
      by_cases hnr:0<n∧room=0
      case pos =>
       obtain ⟨hn0,hr0⟩:=hnr
       have HEND:Hid (P (.returned (.bool false)) W9):=Lib.hid (by
        rw [HP.out]
        refine rpost_none HC9.out.st (Exw.of_below HB9.out) ?_
        show listAtZ zs (nextZ (sRecs ss) es zs room) k r ((l:Int)-1) to left=none
        rw [HLA.out,hr0]
        split
        · show (if (n:Int)=0 then _ else none)=none
          rw [if_neg (by omega)]
        · rfl)
       have hn1:(0:Int)<(n:Int):=by omega
       have hr1:((room:Int)==0)=true:=by simp;omega
       clear hr0 hn0
       go_wp2
       exact HEND.out
      obtain ⟨F,HF⟩:∃ F:Nat→Int→Option (PV × Int),Hid ((∀ q,room=q+1→F=fun (j:Nat) l2=>flatZ (sRecs ss) es zs q k r ((l:Int)-1) (to+4+(j:Int) * ls) l2)∧(0<n→∃ q,room=q+1)):=by
       rcases Nat.eq_zero_or_pos room with h0|h0
       · exact ⟨fun _ _=>none,Lib.hid ⟨fun q hq=>by omega,fun h=>absurd ⟨h,h0⟩ hnr⟩⟩
       · exact ⟨fun (j:Nat) l2=>flatZ (sRecs ss) es zs (room-1) k r ((l:Int)-1) (to+4+(j:Int) * ls) l2,Lib.hid ⟨fun q hq=>by rw [show room-1=q by omega],fun _=>⟨room-1,by omega⟩⟩⟩
      have HLB:Hid (listAtZ zs (nextZ (sRecs ss) es zs room) k r ((l:Int)-1) to left=if 0≤left-(4+S) then (match seqD F (left-(4+S)) n with|none=>none|some (ks,l)=>some (.mk 0 [] ks false,l)) else none):=Lib.hid (by
       rw [HLA.out]
       split
       · rcases Nat.eq_zero_or_pos room with h0|h0
         · have hn0:n=0:=by
            rcases Nat.eq_zero_or_pos n with h1|h1
            · exact h1
            · exact absurd ⟨h1,h0⟩ hnr
           subst hn0
           rw [h0]
           rfl
         · obtain ⟨q,hq⟩:∃ q,room=q+1:=⟨room-1,by omega⟩
           rw [HF.out.1 q hq,hq,Int.toNat_natCast]
           rfl
       · rfl)
      clear HLA
      have hgo:¬(0<n∧(room:Int)=0):=fun h=>hnr ⟨h.1,by omega⟩
      have HRE:=Lib.hid (freach_any W9 HC9.out.st (4+S) (by have:=HHL.out;omega))
      obtain ⟨l2,hl2⟩:∃ l2,left-(4+S)=l2:=⟨_,rfl⟩
      rw [hl2] at HRE HLB
      have HL2:=Lib.hid hl2
      clear hl2
      by_cases hn0:0<n
      case' pos=>have tn:((0:Int)<(n:Int)):=by omega
      case' pos=>have tr:((room:Int)==0)=false:=by simp;omega
      case' neg=>have tn:¬((0:Int)<(n:Int)):=by omega
      all_goals
       clear hnr hgo
       go_wp2_with fail
       refine HRE.out.mono ?_
       rintro e W10 ⟨rfl,hw10,hx10⟩
       have HX10:=Lib.hid ((Exw.of_below (R:=wk) (S:=mt) HB9.out).trans (hx10.mono HB9.out.size))
       have HW10:=Lib.hid hw10
       have HXX10:=Lib.hid hx10
       have HQ10:=Lib.hid (blk_exw HE1.out hx10 (blk_lt HE1.out) (by have:=HKW.out;have:=HLT.out;have:=HWS1.out;omega) (by have:=HKW.out;have:=HLT.out;have:=HWS1.out;omega))
       clear hw10 hx10 q0 q1 q2 q3 q4 q5 q6 HRE
       obtain ⟨_,q0,q1,q2,q3,q4,q5,q6⟩:=blk7 HQ10.out
       by_cases hl3:0≤l2
       case neg =>
        rw [decide_eq_false hl3]
        have HEND:Hid (P (.returned (.bool false)) W10):=Lib.hid (by rw [HP.out];exact rpost_none HW10.out HX10.out (by show listAtZ zs (nextZ (sRecs ss) es zs room) k r ((l:Int)-1) to left=none;rw [HLB.out,if_neg hl3]))
        go_wp2
        exact HEND.out
       rw [decide_eq_true hl3]
       by_cases hpay:1+(n:Int)≤ml
       case neg =>
        have HPY:=Lib.hid (fpay_no W10 HW10.out (1+(n:Int)) (by omega) (by omega))
        go_wp2_with fail
        refine HPY.out.mono ?_
        rintro e W11 ⟨rfl,hw11,hx11⟩
        have HEND:Hid (P (.returned (.bool false)) W11):=Lib.hid (by rw [HP.out];exact rpost_out hw11 (HX10.out.trans (hx11.mono HX10.out.size)) (by have:=HL2.out;omega))
        clear hw11 hx11 q0 q1 q2 q3 q4 q5 q6
        go_wp2
        exact HEND.out
       have HPY:=Lib.hid (fpay_yes W10 HW10.out (1+(n:Int)) (by omega) (by omega) (by have:=HML.out;omega))
       go_wp2_with fail
       refine HPY.out.mono ?_
       rintro e W11 ⟨rfl,hw11,hx11⟩
       have HX11:=Lib.hid (HX10.out.trans (hx11.mono HX10.out.size))
       have HQ11:=Lib.hid (blk_exw HQ10.out hx11 (blk_lt HQ10.out) (by have:=HKW.out;have:=HLT.out;have:=HWS1.out;omega) (by have:=HKW.out;have:=HLT.out;have:=HWS1.out;omega))
       have HC11:=Lib.hid (HC9.out.exw (l':=l2) (ml':=ml-(1+(n:Int))) (HXX10.out.trans (hx11.mono HXX10.out.size)) hw11 (by have:=HL2.out;omega) (by omega))
       clear hw11 hx11 q0 q1 q2 q3 q4 q5 q6 HPY
       obtain ⟨_,q0,q1,q2,q3,q4,q5,q6⟩:=blk7 HQ11.out
       have HSO:=Lib.hid (fun W=>sorts_any k r ((l:Int)-1) W)
       obtain ⟨so,hso⟩:∃ so,sortP k ((l:Int)-1)=so:=⟨_,rfl⟩
       have HSOE:=Lib.hid hso
       simp only [hso] at HSO
       clear hso
       go_wp2_with fail
       refine (HSO.out W11).mono ?_
       rintro e W12 ⟨rfl,hb12⟩
       have HX12:=Lib.hid (HX11.out.trans ((Exw.of_below (R:=wk) (S:=mt) hb12).mono HX11.out.size))
       have HQ12:=Lib.hid (blk_below HQ11.out hb12 (blk_lt HQ11.out))
       have HC12:=Lib.hid (HC11.out.below hb12)
       clear hb12 q0 q1 q2 q3 q4 q5 q6
       obtain ⟨_,q0,q1,q2,q3,q4,q5,q6⟩:=blk7 HQ12.out
       have HST:Hid (LrAt base w m bp bc sv ev zs ss es fs ns wk mt B F left l2 ml n L #[.pointer (some ⟨m,0,none⟩),.int .u8 k,.int .i64 r,.int .i64 ((l:Int)-1),.int .i64 (to+4),.int .i64 n,.int .i64 ls] (.int .i64 ((0:Nat):Int)) W12):=Lib.hid ⟨0,[],l2,ml-(1+(n:Int)),Nat.zero_le _,rfl,rfl,by have:=HL2.out;omega,by omega,by have:=HL2.out;omega,HC12.out,HX12.out,HQ12.out⟩
       clear HX10 HX11 HX12 HQ10 HQ11 HQ12 HC11 HC12 HXX10 HW10 HSO
       go_wp2_with fail
       clear q0 q1 q2 q3 q4 q5 q6
       go_loopw [70] (fun y wr=>LrAt base w m bp bc sv ev zs ss es fs ns wk mt B F left l2 ml n L #[.pointer (some ⟨m,0,none⟩),.int .u8 k,.int .i64 r,.int .i64 ((l:Int)-1),.int .i64 (to+4),.int .i64 n,.int .i64 ls] y wr) (fun y _=>n-(intOf y).toNat)
       case atStart=>exact HST.out
       case round =>
        obtain ⟨j,vs,l1,ml1,hj,rfl,hseq,hl1,hml1,h3,hcx,hx,hkb⟩:=hrel
        have HSEQ:=Lib.hid hseq
        have HCX:=Lib.hid hcx
        have HXW:=Lib.hid hx
        have HKB:=Lib.hid hkb
        have H3:=Lib.hid h3
        clear hseq hcx hx hkb h3
        by_cases hjl:j<n
        case neg =>
         obtain rfl:j=n:=by omega
         have HEND:Hid (P (.returned (.bool true)) wr):=Lib.hid (by
          rw [HP.out]
          refine rpost_some (v:=.mk 0 [] vs false) HCX.out.st HXW.out ?_ hl1.1 hl1.2 hml1.1 hml1.2 H3.out
          show listAtZ zs (nextZ (sRecs ss) es zs room) k r ((l:Int)-1) to left=_
          rw [HLB.out,if_pos hl3,HSEQ.out])
         clear hjl
         go_wp2
         exact HEND.out
        obtain ⟨q,hq⟩:=HF.out.2 (by omega)
        have HKQ:=Lib.hid (hNX.out q hq)
        have HFQ:=Lib.hid (HF.out.1 q hq)
        have hrq:(room:Int)-1=(q:Int):=by omega
        have hrq2:IntKind.i64.wrap (q:Int)=(q:Int):=IntWalk.i64_in _ ⟨by omega,by omega⟩
        have hji:(j:Int)<(n:Int):=by omega
        have hjs:0≤(j:Int) * ls∧(j:Int) * ls+ls≤S:=by
         have h1:0≤(j:Int) * ls:=Int.mul_nonneg (by omega) (by omega)
         have h2:((j:Int)+1) * ls≤(n:Int) * ls:=Int.mul_le_mul_of_nonneg_right (by omega) (by omega)
         rw [HSS.out,Int.add_mul,Int.one_mul] at h2
         exact ⟨h1,h2⟩
        have HLK:=Lib.hid (fun W=>flkid_any W m k r ((l:Int)-1) (to+4) n ls j so hji (by omega) hstp (by omega) HSOE.out)
        have HIN:Hid (sortP k ((l-1:Nat):Int)=1→inZ (lenZ zs) (to+4+(j:Int) * ls) (kSize k)=true):=Lib.hid (fun hs1=>by
         rw [HL1.out] at hs1
         have h5:=HSTE.out hs1
         have h6:=HFT.out
         rw [←h5]
         exact inZ_iff.2 (by omega))
        have HKR:=Lib.hid (fun W (hW:Below wr.heap.size wr W)=>HKQ.out.run (HCX.out.below hW) k r (l-1) 0 (to+4+(j:Int) * ls) HTY1.out HIN.out)
        rw [HL1.out] at HKR
        unfold listV kidV at HLK
        unfold kidV at HKR
        obtain ⟨_,q0,q1,q2,q3,q4,q5,q6⟩:=blk7 HKB.out
        clear hq
        go_wp2_with fail
        refine (HLK.out _).mono ?_
        rintro e W13 ⟨rfl,hb13⟩
        have HKR13:=Lib.hid (HKR.out W13 hb13)
        have HX13:=Lib.hid (HXW.out.trans ((Exw.of_below (R:=wk) (S:=mt) hb13).mono HXW.out.size))
        have HQ13:=Lib.hid (blk_below HKB.out hb13 (blk_lt HKB.out))
        have HC13:=Lib.hid (HCX.out.below hb13)
        clear hb13 q0 q1 q2 q3 q4 q5 q6 HLK HKR
        go_wp2_with fail
        refine HKR13.out.mono ?_
        rintro e W14 hp14
        have HX14:=Lib.hid (HX13.out.trans (hp14.1.mono HX13.out.size))
        have HQ14:=Lib.hid (blk_exw HQ13.out hp14.1 (blk_lt HQ13.out) (by have:=HKW.out;have:=HLT.out;have:=HWS1.out;omega) (by have:=HKW.out;have:=HLT.out;have:=HWS1.out;omega))
        have HXL:=Lib.hid hp14.1
        rcases hp14.2 with ⟨v',l',ml',hres,hl',rfl,hs',hml',h3'⟩|⟨rfl,o,l',ml',mo,hs',hno,hout⟩
        · have HNEW:Hid (seqD F l2 (j+1)=some (vs++[v'],l')):=Lib.hid (by rw [seqD_succ HSEQ.out,HFQ.out];show (match flatZ (sRecs ss) es zs q k r ((l:Int)-1) (to+4+(j:Int) * ls) l1 with|none=>none|some (v,l2)=>some (vs++[v],l2))=_;rw [hres])
          have HC14:=Lib.hid (HC13.out.exw HXL.out hs' hl' hml')
          have H33:=Lib.hid h3'
          clear hp14 hres hs' h3'
          go_wp2
          go_roundw
          case rel=>exact ⟨j+1,_,l',ml',by omega,by go_num,HNEW.out,by omega,by omega,fun h=>H33.out (H3.out h),HC14.out,HX14.out,HQ14.out⟩
          case measure=>simp [intOf];omega
        · have HEND:Hid (P (.returned (.bool false)) W14):=Lib.hid (by
           rw [HP.out]
           cases o with
           | false =>
            have hn:seqD F l2 n=none:=seqD_le (j:=j+1) (by omega) (by rw [seqD_succ HSEQ.out,HFQ.out];show (match flatZ (sRecs ss) es zs q k r ((l:Int)-1) (to+4+(j:Int) * ls) l1 with|none=>none|some (v,l2)=>some (vs++[v],l2))=_;rw [hno rfl])
            refine rpost_none hs' HX14.out ?_
            show listAtZ zs (nextZ (sRecs ss) es zs room) k r ((l:Int)-1) to left=none
            rw [HLB.out,if_pos hl3,hn]
           | true =>
            have h5:=hout rfl
            exact rpost_out hs' HX14.out (by
             rcases Int.lt_or_le ml (3 * left) with h6|h6
             · exact h6
             · have:=H3.out h6
               omega))
          clear hp14 hs' hno hout
          go_wp2
          exact HEND.out
    · rw [if_pos (by kernel_rfl)]
      go_simp
      have hv2:Below Wh1.heap.size Wh1 (V1.alloc (.cells #[.pointer none,.int .u8 0,.int .i64 0,.int .i64 0,.int .i64 0,.int .i64 0,.int .i64 0] 238)):=hv1.alloc hv1.size _
      have hT2:=heap_alloc_new V1 (.cells #[.pointer none,.int .u8 0,.int .i64 0,.int .i64 0,.int .i64 0,.int .i64 0,.int .i64 0] 238)
      have nn0:=cell_stays hv2 s0
      have nn1:=cell_stays hv2 s1
      have nn2:=cell_stays hv2 s2
      have nn3:=cell_stays hv2 s3
      have nn4:=cell_stays hv2 s4
      have nn5:=cell_stays hv2 s5
      have nn6:=cell_stays hv2 s6
      refine hK.out _ _ ⟨nn0,nn1,nn2,nn3,nn4,nn5,nn6⟩ (fun hS=>?_)
      clear nn0 nn1 nn2 nn3 nn4 nn5 nn6
      generalize V1.alloc (.cells #[.pointer none,.int .u8 0,.int .i64 0,.int .i64 0,.int .i64 0,.int .i64 0,.int .i64 0] 238)=V2 at *
      refine wpAnyH_ready (rs:=[8]) (by kernel_rfl) (by decide) (AllReadyH.cons rfl (fun K hK=>?_) AllReadyH.nil)
      rw [if_pos (by kernel_rfl)]
      go_simp
      refine (HFI.out V2 hv2).mono ?_
      rintro e V3 ⟨hfp,hb3⟩
      have hv3:Below Wh1.heap.size Wh1 V3:=hv2.trans (hb3.mono hv2.size)
      obtain ⟨lp,lk,lr,ll,la,ln,ls,ok,rfl,hlp1,hval⟩:∃ (lp:Value) (lk lr ll la ln ls:Int) (ok:Bool),e=.returned (.tuple #[.agg #[lp,.int .u8 lk,.int .i64 lr,.int .i64 ll,.int .i64 la,.int .i64 ln,.int .i64 ls],.bool ok])∧lp.oneCell'=true∧((ok=true∧okk=true∧lp=.pointer (some ⟨m,0,none⟩)∧lk=k∧lr=r∧ll=(l:Int)-1∧la=to+4∧ln=n∧ls=st)∨(ok=false∧okk=false)):=by
       rcases hfp with ⟨h1,h2⟩|⟨h1,h2⟩
       · exact ⟨_,_,_,_,_,_,_,_,h2,rfl,.inl ⟨rfl,h1,rfl,rfl,rfl,rfl,rfl,rfl,rfl⟩⟩
       · exact ⟨_,_,_,_,_,_,_,_,h2,rfl,.inr ⟨rfl,h1⟩⟩
      have nn0:=cell_stays hv3 s0
      have nn1:=cell_stays hv3 s1
      have nn2:=cell_stays hv3 s2
      have nn3:=cell_stays hv3 s3
      have nn4:=cell_stays hv3 s4
      have nn5:=cell_stays hv3 s5
      have nn6:=cell_stays hv3 s6
      refine hK.out _ _ ⟨nn0,nn1,nn2,nn3,nn4,nn5,nn6⟩ (fun hS=>?_)
      clear nn0 nn1 nn2 nn3 nn4 nn5 nn6
      refine tk 9 (.tuple #[.agg #[lp,.int .u8 lk,.int .i64 lr,.int .i64 ll,.int .i64 la,.int .i64 ln,.int .i64 ls],.bool ok]) hS ?_ ?_
      · rintro w' ⟨s0,s1,s2,s3,s4,s5,s6⟩
        go_simp
      simp only [td]
      refine tk 10 (.agg #[lp,.int .u8 lk,.int .i64 lr,.int .i64 ll,.int .i64 la,.int .i64 ln,.int .i64 ls]) hS ?_ ?_
      · rintro w' ⟨s0,s1,s2,s3,s4,s5,s6⟩
        go_simp
      simp only [td]
      refine tk 11 (.bool ok) hS ?_ ?_
      · rintro w' ⟨s0,s1,s2,s3,s4,s5,s6⟩
        go_simp
      simp only [td]
      have hT3:=blk_below hT2 hb3 (blk_lt hT2)
      have hthere:V3.there (V1.heap.size) 0 7:=fun i hi=>by
       have h4:i=0∨i=1∨i=2∨i=3∨i=4∨i=5∨i=6:=by omega
       obtain ⟨_,v0,v1,v2,v3,v4,v5,v6⟩:=blk7 hT3
       rcases h4 with rfl|rfl|rfl|rfl|rfl|rfl|rfl
       · exact ⟨by rw [Nat.add_zero,v0];rfl,blk_frozen hT3 _⟩
       · exact ⟨by rw [Nat.zero_add,v1];rfl,blk_frozen hT3 _⟩
       · exact ⟨by rw [Nat.zero_add,v2];rfl,blk_frozen hT3 _⟩
       · exact ⟨by rw [Nat.zero_add,v3];rfl,blk_frozen hT3 _⟩
       · exact ⟨by rw [Nat.zero_add,v4];rfl,blk_frozen hT3 _⟩
       · exact ⟨by rw [Nat.zero_add,v5];rfl,blk_frozen hT3 _⟩
       · exact ⟨by rw [Nat.zero_add,v6];rfl,blk_frozen hT3 _⟩
      refine wpAnyH_ready (rs:=[13]) (by kernel_rfl) (by decide) (AllReadyH.cons rfl (fun K hK=>?_) AllReadyH.nil)
      rw [if_pos (by kernel_rfl)]
      refine wp_store_mid 238 (.tmp 9) (.tmp 33) rfl (V1.heap.size) 0 #[lp,.int .u8 lk,.int .i64 lr,.int .i64 ll,.int .i64 la,.int .i64 ln,.int .i64 ls] rfl rfl hthere (by kernel_rfl) (Array.all_eq_true_iff_forall_mem.2 (by intro x hx;simp at hx;rcases hx with rfl|rfl|rfl|rfl|rfl|rfl|rfl<;>first|rfl|exact hlp1)) ?_
      change K _ (set7 V3 (V1.heap.size) lp (.int .u8 lk) (.int .i64 lr) (.int .i64 ll) (.int .i64 la) (.int .i64 ln) (.int .i64 ls))
      have hTS:Wh1.heap.size≤V1.heap.size:=hv1.size
      have hks:∀ (bb o:Nat) (cc:Value),bb<Wh1.heap.size→Wh1.cell? ⟨bb,o,none⟩=some cc→(set7 V3 (V1.heap.size) lp (.int .u8 lk) (.int .i64 lr) (.int .i64 ll) (.int .i64 la) (.int .i64 ln) (.int .i64 ls)).cell? ⟨bb,o,none⟩=some cc:=fun bb o cc hbb hcc=>keep7 (cell_stays hv3 hcc) (by show bb≠_;omega)
      refine hK.out _ _ ⟨hks _ _ _ (World.block_lt_of_cell? _ _ s0) s0,hks _ _ _ (World.block_lt_of_cell? _ _ s1) s1,hks _ _ _ (World.block_lt_of_cell? _ _ s2) s2,hks _ _ _ (World.block_lt_of_cell? _ _ s3) s3,hks _ _ _ (World.block_lt_of_cell? _ _ s4) s4,hks _ _ _ (World.block_lt_of_cell? _ _ s5) s5,hks _ _ _ (World.block_lt_of_cell? _ _ s6) s6⟩ (fun hS=>?_)
      refine tk 14 (.bool ok) hS ?_ ?_
      · rintro w' ⟨s0,s1,s2,s3,s4,s5,s6⟩
        go_simp
      simp only [td]
      refine wpAnyH_done (by kernel_rfl) ?_ _
      refine NoPanic.normal ?_
      try simp only [Exit.then]
      have HE1:=Lib.hid (show (set7 V3 (V1.heap.size) lp (.int .u8 lk) (.int .i64 lr) (.int .i64 ll) (.int .i64 la) (.int .i64 ln) (.int .i64 ls)).heap[V1.heap.size]?=some (.cells #[lp,.int .u8 lk,.int .i64 lr,.int .i64 ll,.int .i64 la,.int .i64 ln,.int .i64 ls] 238 (0,0)) from blk_set7 hT3 _ _ _ _ _ _ _)
      have HE2:=Lib.hid (show Below Wh1.heap.size Wh1 (set7 V3 (V1.heap.size) lp (.int .u8 lk) (.int .i64 lr) (.int .i64 ll) (.int .i64 la) (.int .i64 ln) (.int .i64 ls)) from below_set7 hv3 hTS _ _ _ _ _ _ _)
      have HLT:Hid (w.heap.size<V1.heap.size):=Lib.hid (by have:=HWS1.out;omega)
      clear hS hks hthere s0 s1 s2 s3 s4 s5 s6 hTS hfp
      generalize set7 V3 (V1.heap.size) lp (.int .u8 lk) (.int .i64 lr) (.int .i64 ll) (.int .i64 la) (.int .i64 ln) (.int .i64 ls)=W9 at *
      obtain ⟨L,hL⟩:∃ L,V1.heap.size=L:=⟨_,rfl⟩
      rw [hL] at HE1 HLT ⊢
      clear hL
      have HC9:=Lib.hid (HC1.out.below HE2.out)
      have HB9:=Lib.hid (HB1.out.trans (HE2.out.mono HB1.out.size))
      rcases hval with ⟨rfl,hokt,rfl,rfl,rfl,rfl,rfl,rfl,rfl⟩|⟨rfl,hokf⟩
      case inr =>
       have HEND:Hid (P (.returned (.bool false)) W9):=Lib.hid (by rw [HP.out];exact rpost_none HC9.out.st (Exw.of_below HB9.out) (HNO.out hokf))
       clear hokf
       obtain ⟨_,q0,q1,q2,q3,q4,q5,q6⟩:=blk7 HE1.out
       go_wp2
       exact HEND.out
      obtain ⟨_,q0,q1,q2,q3,q4,q5,q6⟩:=blk7 HE1.out
      have HLA:=Lib.hid (HOK.out hokt)
      have HFT:=Lib.hid (inZ_iff.1 (HFIT.out hokt))
      clear hokt HNO HOK HFIT
      have hz:lenZ zs=(zs.length:Int):=rfl
      have hns:0≤(n:Int) * ls∧(n:Int) * ls≤16384:=by have:=HFT.out;rw [hz] at this;omega
      have hnn:(n:Int)≤16384:=by
       have h1:(n:Int) * 1≤(n:Int) * ls:=Int.mul_le_mul_of_nonneg_left hstp.1 (by omega)
       omega
      obtain ⟨S,hS⟩:∃ S,(n:Int) * ls=S:=⟨_,rfl⟩
      have hws:IntKind.i64.wrap ((n:Int) * ls)=S:=by rw [hS];exact IntWalk.i64_in S ⟨by omega,by omega⟩
      have hws2:=IntWalk.i64_in (4+S) ⟨by omega,by omega⟩
      have hwn:=IntWalk.i64_in (1+(n:Int)) ⟨by omega,by omega⟩
      have hnS:(n:Int)≤S:=by
       have h1:(n:Int) * 1≤(n:Int) * ls:=Int.mul_le_mul_of_nonneg_left hstp.1 (by omega)
       omega
      rw [hS] at HLA HFT hns
      have HSS:=Lib.hid hS
      clear hS
      by_cases hnr:0<n∧room=0
      case pos =>
       obtain ⟨hn0,hr0⟩:=hnr
       have HEND:Hid (P (.returned (.bool false)) W9):=Lib.hid (by
        rw [HP.out]
        refine rpost_none HC9.out.st (Exw.of_below HB9.out) ?_
        show listAtZ zs (nextZ (sRecs ss) es zs room) k r ((l:Int)-1) to left=none
        rw [HLA.out,hr0]
        split
        · show (if (n:Int)=0 then _ else none)=none
          rw [if_neg (by omega)]
        · rfl)
       have hn1:(0:Int)<(n:Int):=by omega
       have hr1:((room:Int)==0)=true:=by simp;omega
       clear hr0 hn0
       go_wp2
       exact HEND.out
      obtain ⟨F,HF⟩:∃ F:Nat→Int→Option (PV × Int),Hid ((∀ q,room=q+1→F=fun (j:Nat) l2=>flatZ (sRecs ss) es zs q k r ((l:Int)-1) (to+4+(j:Int) * ls) l2)∧(0<n→∃ q,room=q+1)):=by
       rcases Nat.eq_zero_or_pos room with h0|h0
       · exact ⟨fun _ _=>none,Lib.hid ⟨fun q hq=>by omega,fun h=>absurd ⟨h,h0⟩ hnr⟩⟩
       · exact ⟨fun (j:Nat) l2=>flatZ (sRecs ss) es zs (room-1) k r ((l:Int)-1) (to+4+(j:Int) * ls) l2,Lib.hid ⟨fun q hq=>by rw [show room-1=q by omega],fun _=>⟨room-1,by omega⟩⟩⟩
      have HLB:Hid (listAtZ zs (nextZ (sRecs ss) es zs room) k r ((l:Int)-1) to left=if 0≤left-(4+S) then (match seqD F (left-(4+S)) n with|none=>none|some (ks,l)=>some (.mk 0 [] ks false,l)) else none):=Lib.hid (by
       rw [HLA.out]
       split
       · rcases Nat.eq_zero_or_pos room with h0|h0
         · have hn0:n=0:=by
            rcases Nat.eq_zero_or_pos n with h1|h1
            · exact h1
            · exact absurd ⟨h1,h0⟩ hnr
           subst hn0
           rw [h0]
           rfl
         · obtain ⟨q,hq⟩:∃ q,room=q+1:=⟨room-1,by omega⟩
           rw [HF.out.1 q hq,hq,Int.toNat_natCast]
           rfl
       · rfl)
      clear HLA
      have hgo:¬(0<n∧(room:Int)=0):=fun h=>hnr ⟨h.1,by omega⟩
      have HRE:=Lib.hid (freach_any W9 HC9.out.st (4+S) (by have:=HHL.out;omega))
      obtain ⟨l2,hl2⟩:∃ l2,left-(4+S)=l2:=⟨_,rfl⟩
      rw [hl2] at HRE HLB
      have HL2:=Lib.hid hl2
      clear hl2
      by_cases hn0:0<n
      case' pos=>have tn:((0:Int)<(n:Int)):=by omega
      case' pos=>have tr:((room:Int)==0)=false:=by simp;omega
      case' neg=>have tn:¬((0:Int)<(n:Int)):=by omega
      all_goals
       clear hnr hgo
       go_wp2_with fail
       refine HRE.out.mono ?_
       rintro e W10 ⟨rfl,hw10,hx10⟩
       have HX10:=Lib.hid ((Exw.of_below (R:=wk) (S:=mt) HB9.out).trans (hx10.mono HB9.out.size))
       have HW10:=Lib.hid hw10
       have HXX10:=Lib.hid hx10
       have HQ10:=Lib.hid (blk_exw HE1.out hx10 (blk_lt HE1.out) (by have:=HKW.out;have:=HLT.out;have:=HWS1.out;omega) (by have:=HKW.out;have:=HLT.out;have:=HWS1.out;omega))
       clear hw10 hx10 q0 q1 q2 q3 q4 q5 q6 HRE
       obtain ⟨_,q0,q1,q2,q3,q4,q5,q6⟩:=blk7 HQ10.out
       by_cases hl3:0≤l2
       case neg =>
        rw [decide_eq_false hl3]
        have HEND:Hid (P (.returned (.bool false)) W10):=Lib.hid (by rw [HP.out];exact rpost_none HW10.out HX10.out (by show listAtZ zs (nextZ (sRecs ss) es zs room) k r ((l:Int)-1) to left=none;rw [HLB.out,if_neg hl3]))
        go_wp2
        exact HEND.out
       rw [decide_eq_true hl3]
       by_cases hpay:1+(n:Int)≤ml
       case neg =>
        have HPY:=Lib.hid (fpay_no W10 HW10.out (1+(n:Int)) (by omega) (by omega))
        go_wp2_with fail
        refine HPY.out.mono ?_
        rintro e W11 ⟨rfl,hw11,hx11⟩
        have HEND:Hid (P (.returned (.bool false)) W11):=Lib.hid (by rw [HP.out];exact rpost_out hw11 (HX10.out.trans (hx11.mono HX10.out.size)) (by have:=HL2.out;omega))
        clear hw11 hx11 q0 q1 q2 q3 q4 q5 q6
        go_wp2
        exact HEND.out
       have HPY:=Lib.hid (fpay_yes W10 HW10.out (1+(n:Int)) (by omega) (by omega) (by have:=HML.out;omega))
       go_wp2_with fail
       refine HPY.out.mono ?_
       rintro e W11 ⟨rfl,hw11,hx11⟩
       have HX11:=Lib.hid (HX10.out.trans (hx11.mono HX10.out.size))
       have HQ11:=Lib.hid (blk_exw HQ10.out hx11 (blk_lt HQ10.out) (by have:=HKW.out;have:=HLT.out;have:=HWS1.out;omega) (by have:=HKW.out;have:=HLT.out;have:=HWS1.out;omega))
       have HC11:=Lib.hid (HC9.out.exw (l':=l2) (ml':=ml-(1+(n:Int))) (HXX10.out.trans (hx11.mono HXX10.out.size)) hw11 (by have:=HL2.out;omega) (by omega))
       clear hw11 hx11 q0 q1 q2 q3 q4 q5 q6 HPY
       obtain ⟨_,q0,q1,q2,q3,q4,q5,q6⟩:=blk7 HQ11.out
       have HSO:=Lib.hid (fun W=>sorts_any k r ((l:Int)-1) W)
       obtain ⟨so,hso⟩:∃ so,sortP k ((l:Int)-1)=so:=⟨_,rfl⟩
       have HSOE:=Lib.hid hso
       simp only [hso] at HSO
       clear hso
       go_wp2_with fail
       refine (HSO.out W11).mono ?_
       rintro e W12 ⟨rfl,hb12⟩
       have HX12:=Lib.hid (HX11.out.trans ((Exw.of_below (R:=wk) (S:=mt) hb12).mono HX11.out.size))
       have HQ12:=Lib.hid (blk_below HQ11.out hb12 (blk_lt HQ11.out))
       have HC12:=Lib.hid (HC11.out.below hb12)
       clear hb12 q0 q1 q2 q3 q4 q5 q6
       obtain ⟨_,q0,q1,q2,q3,q4,q5,q6⟩:=blk7 HQ12.out
       have HST:Hid (LrAt base w m bp bc sv ev zs ss es fs ns wk mt B F left l2 ml n L #[.pointer (some ⟨m,0,none⟩),.int .u8 k,.int .i64 r,.int .i64 ((l:Int)-1),.int .i64 (to+4),.int .i64 n,.int .i64 ls] (.int .i64 ((0:Nat):Int)) W12):=Lib.hid ⟨0,[],l2,ml-(1+(n:Int)),Nat.zero_le _,rfl,rfl,by have:=HL2.out;omega,by omega,by have:=HL2.out;omega,HC12.out,HX12.out,HQ12.out⟩
       clear HX10 HX11 HX12 HQ10 HQ11 HQ12 HC11 HC12 HXX10 HW10 HSO
       go_wp2_with fail
       clear q0 q1 q2 q3 q4 q5 q6
       go_loopw [70] (fun y wr=>LrAt base w m bp bc sv ev zs ss es fs ns wk mt B F left l2 ml n L #[.pointer (some ⟨m,0,none⟩),.int .u8 k,.int .i64 r,.int .i64 ((l:Int)-1),.int .i64 (to+4),.int .i64 n,.int .i64 ls] y wr) (fun y _=>n-(intOf y).toNat)
       case atStart=>exact HST.out
       case round =>
        obtain ⟨j,vs,l1,ml1,hj,rfl,hseq,hl1,hml1,h3,hcx,hx,hkb⟩:=hrel
        have HSEQ:=Lib.hid hseq
        have HCX:=Lib.hid hcx
        have HXW:=Lib.hid hx
        have HKB:=Lib.hid hkb
        have H3:=Lib.hid h3
        clear hseq hcx hx hkb h3
        by_cases hjl:j<n
        case neg =>
         obtain rfl:j=n:=by omega
         have HEND:Hid (P (.returned (.bool true)) wr):=Lib.hid (by
          rw [HP.out]
          refine rpost_some (v:=.mk 0 [] vs false) HCX.out.st HXW.out ?_ hl1.1 hl1.2 hml1.1 hml1.2 H3.out
          show listAtZ zs (nextZ (sRecs ss) es zs room) k r ((l:Int)-1) to left=_
          rw [HLB.out,if_pos hl3,HSEQ.out])
         clear hjl
         go_wp2
         exact HEND.out
        obtain ⟨q,hq⟩:=HF.out.2 (by omega)
        have HKQ:=Lib.hid (hNX.out q hq)
        have HFQ:=Lib.hid (HF.out.1 q hq)
        have hrq:(room:Int)-1=(q:Int):=by omega
        have hrq2:IntKind.i64.wrap (q:Int)=(q:Int):=IntWalk.i64_in _ ⟨by omega,by omega⟩
        have hji:(j:Int)<(n:Int):=by omega
        have hjs:0≤(j:Int) * ls∧(j:Int) * ls+ls≤S:=by
         have h1:0≤(j:Int) * ls:=Int.mul_nonneg (by omega) (by omega)
         have h2:((j:Int)+1) * ls≤(n:Int) * ls:=Int.mul_le_mul_of_nonneg_right (by omega) (by omega)
         rw [HSS.out,Int.add_mul,Int.one_mul] at h2
         exact ⟨h1,h2⟩
        have HLK:=Lib.hid (fun W=>flkid_any W m k r ((l:Int)-1) (to+4) n ls j so hji (by omega) hstp (by omega) HSOE.out)
        have HIN:Hid (sortP k ((l-1:Nat):Int)=1→inZ (lenZ zs) (to+4+(j:Int) * ls) (kSize k)=true):=Lib.hid (fun hs1=>by
         rw [HL1.out] at hs1
         have h5:=HSTE.out hs1
         have h6:=HFT.out
         rw [←h5]
         exact inZ_iff.2 (by omega))
        have HKR:=Lib.hid (fun W (hW:Below wr.heap.size wr W)=>HKQ.out.run (HCX.out.below hW) k r (l-1) 0 (to+4+(j:Int) * ls) HTY1.out HIN.out)
        rw [HL1.out] at HKR
        unfold listV kidV at HLK
        unfold kidV at HKR
        obtain ⟨_,q0,q1,q2,q3,q4,q5,q6⟩:=blk7 HKB.out
        clear hq
        go_wp2_with fail
        refine (HLK.out _).mono ?_
        rintro e W13 ⟨rfl,hb13⟩
        have HKR13:=Lib.hid (HKR.out W13 hb13)
        have HX13:=Lib.hid (HXW.out.trans ((Exw.of_below (R:=wk) (S:=mt) hb13).mono HXW.out.size))
        have HQ13:=Lib.hid (blk_below HKB.out hb13 (blk_lt HKB.out))
        have HC13:=Lib.hid (HCX.out.below hb13)
        clear hb13 q0 q1 q2 q3 q4 q5 q6 HLK HKR
        go_wp2_with fail
        refine HKR13.out.mono ?_
        rintro e W14 hp14
        have HX14:=Lib.hid (HX13.out.trans (hp14.1.mono HX13.out.size))
        have HQ14:=Lib.hid (blk_exw HQ13.out hp14.1 (blk_lt HQ13.out) (by have:=HKW.out;have:=HLT.out;have:=HWS1.out;omega) (by have:=HKW.out;have:=HLT.out;have:=HWS1.out;omega))
        have HXL:=Lib.hid hp14.1
        rcases hp14.2 with ⟨v',l',ml',hres,hl',rfl,hs',hml',h3'⟩|⟨rfl,o,l',ml',mo,hs',hno,hout⟩
        · have HNEW:Hid (seqD F l2 (j+1)=some (vs++[v'],l')):=Lib.hid (by rw [seqD_succ HSEQ.out,HFQ.out];show (match flatZ (sRecs ss) es zs q k r ((l:Int)-1) (to+4+(j:Int) * ls) l1 with|none=>none|some (v,l2)=>some (vs++[v],l2))=_;rw [hres])
          have HC14:=Lib.hid (HC13.out.exw HXL.out hs' hl' hml')
          have H33:=Lib.hid h3'
          clear hp14 hres hs' h3'
          go_wp2
          go_roundw
          case rel=>exact ⟨j+1,_,l',ml',by omega,by go_num,HNEW.out,by omega,by omega,fun h=>H33.out (H3.out h),HC14.out,HX14.out,HQ14.out⟩
          case measure=>simp [intOf];omega
        · have HEND:Hid (P (.returned (.bool false)) W14):=Lib.hid (by
           rw [HP.out]
           cases o with
           | false =>
            have hn:seqD F l2 n=none:=seqD_le (j:=j+1) (by omega) (by rw [seqD_succ HSEQ.out,HFQ.out];show (match flatZ (sRecs ss) es zs q k r ((l:Int)-1) (to+4+(j:Int) * ls) l1 with|none=>none|some (v,l2)=>some (vs++[v],l2))=_;rw [hno rfl])
            refine rpost_none hs' HX14.out ?_
            show listAtZ zs (nextZ (sRecs ss) es zs room) k r ((l:Int)-1) to left=none
            rw [HLB.out,if_pos hl3,hn]
           | true =>
            have h5:=hout rfl
            exact rpost_out hs' HX14.out (by
             rcases Int.lt_or_le ml (3 * left) with h6|h6
             · exact h6
             · have:=H3.out h6
               omega))
          clear hp14 hs' hno hout
          go_wp2
          exact HEND.out
  · rw [if_pos (by kernel_rfl)]
    go_simp
    have hv1:Below Wh1.heap.size Wh1 ((Wh1.alloc (.cells #[.pointer none,.int .u8 0,.int .i64 0,.int .i64 0,.int .i64 0,.int .i64 0,.int .i64 0] 238)).drew):=((Below.refl _ Wh1).alloc (Nat.le_refl _) _).drew
    have hT1:((Wh1.alloc (.cells #[.pointer none,.int .u8 0,.int .i64 0,.int .i64 0,.int .i64 0,.int .i64 0,.int .i64 0] 238)).drew).heap[Wh1.heap.size]?=some (.cells #[.pointer none,.int .u8 0,.int .i64 0,.int .i64 0,.int .i64 0,.int .i64 0,.int .i64 0] 238 (0,0)):=heap_alloc_new Wh1 _
    have nn0:=cell_stays hv1 s0
    have nn1:=cell_stays hv1 s1
    have nn2:=cell_stays hv1 s2
    have nn3:=cell_stays hv1 s3
    have nn4:=cell_stays hv1 s4
    have nn5:=cell_stays hv1 s5
    have nn6:=cell_stays hv1 s6
    refine hK.out _ _ ⟨nn0,nn1,nn2,nn3,nn4,nn5,nn6⟩ (fun hS=>?_)
    clear nn0 nn1 nn2 nn3 nn4 nn5 nn6
    generalize (Wh1.alloc (.cells #[.pointer none,.int .u8 0,.int .i64 0,.int .i64 0,.int .i64 0,.int .i64 0,.int .i64 0] 238)).drew=V1 at *
    refine wpAnyH_ready (rs:=[7]) (by kernel_rfl) (by decide) (AllReadyH.cons rfl (fun K hK=>?_) AllReadyH.nil)
    rw [if_pos (by kernel_rfl)]
    go_simp
    refine (HEL.out V1).mono ?_
    rintro e V2 ⟨rfl,hb2⟩
    have hv2:Below Wh1.heap.size Wh1 V2:=hv1.trans (hb2.mono hv1.size)
    have nn0:=cell_stays hv2 s0
    have nn1:=cell_stays hv2 s1
    have nn2:=cell_stays hv2 s2
    have nn3:=cell_stays hv2 s3
    have nn4:=cell_stays hv2 s4
    have nn5:=cell_stays hv2 s5
    have nn6:=cell_stays hv2 s6
    refine hK.out _ _ ⟨nn0,nn1,nn2,nn3,nn4,nn5,nn6⟩ (fun hS=>?_)
    clear nn0 nn1 nn2 nn3 nn4 nn5 nn6
    refine wpAnyH_ready (rs:=[8]) (by kernel_rfl) (by decide) (AllReadyH.cons rfl (fun K hK=>?_) AllReadyH.nil)
    rw [if_pos (by kernel_rfl)]
    go_simp
    refine (HFI.out V2 hv2).mono ?_
    rintro e V3 ⟨hfp,hb3⟩
    have hv3:Below Wh1.heap.size Wh1 V3:=hv2.trans (hb3.mono hv2.size)
    obtain ⟨lp,lk,lr,ll,la,ln,ls,ok,rfl,hlp1,hval⟩:∃ (lp:Value) (lk lr ll la ln ls:Int) (ok:Bool),e=.returned (.tuple #[.agg #[lp,.int .u8 lk,.int .i64 lr,.int .i64 ll,.int .i64 la,.int .i64 ln,.int .i64 ls],.bool ok])∧lp.oneCell'=true∧((ok=true∧okk=true∧lp=.pointer (some ⟨m,0,none⟩)∧lk=k∧lr=r∧ll=(l:Int)-1∧la=to+4∧ln=n∧ls=st)∨(ok=false∧okk=false)):=by
     rcases hfp with ⟨h1,h2⟩|⟨h1,h2⟩
     · exact ⟨_,_,_,_,_,_,_,_,h2,rfl,.inl ⟨rfl,h1,rfl,rfl,rfl,rfl,rfl,rfl,rfl⟩⟩
     · exact ⟨_,_,_,_,_,_,_,_,h2,rfl,.inr ⟨rfl,h1⟩⟩
    have nn0:=cell_stays hv3 s0
    have nn1:=cell_stays hv3 s1
    have nn2:=cell_stays hv3 s2
    have nn3:=cell_stays hv3 s3
    have nn4:=cell_stays hv3 s4
    have nn5:=cell_stays hv3 s5
    have nn6:=cell_stays hv3 s6
    refine hK.out _ _ ⟨nn0,nn1,nn2,nn3,nn4,nn5,nn6⟩ (fun hS=>?_)
    clear nn0 nn1 nn2 nn3 nn4 nn5 nn6
    refine tk 9 (.tuple #[.agg #[lp,.int .u8 lk,.int .i64 lr,.int .i64 ll,.int .i64 la,.int .i64 ln,.int .i64 ls],.bool ok]) hS ?_ ?_
    · rintro w' ⟨s0,s1,s2,s3,s4,s5,s6⟩
      go_simp
    simp only [td]
    refine tk 10 (.agg #[lp,.int .u8 lk,.int .i64 lr,.int .i64 ll,.int .i64 la,.int .i64 ln,.int .i64 ls]) hS ?_ ?_
    · rintro w' ⟨s0,s1,s2,s3,s4,s5,s6⟩
      go_simp
    simp only [td]
    refine tk 11 (.bool ok) hS ?_ ?_
    · rintro w' ⟨s0,s1,s2,s3,s4,s5,s6⟩
      go_simp
    simp only [td]
    have hT3:=blk_below (blk_below hT1 hb2 (blk_lt hT1)) hb3 (blk_lt (blk_below hT1 hb2 (blk_lt hT1)))
    have hthere:V3.there (Wh1.heap.size) 0 7:=fun i hi=>by
     have h4:i=0∨i=1∨i=2∨i=3∨i=4∨i=5∨i=6:=by omega
     obtain ⟨_,v0,v1,v2,v3,v4,v5,v6⟩:=blk7 hT3
     rcases h4 with rfl|rfl|rfl|rfl|rfl|rfl|rfl
     · exact ⟨by rw [Nat.add_zero,v0];rfl,blk_frozen hT3 _⟩
     · exact ⟨by rw [Nat.zero_add,v1];rfl,blk_frozen hT3 _⟩
     · exact ⟨by rw [Nat.zero_add,v2];rfl,blk_frozen hT3 _⟩
     · exact ⟨by rw [Nat.zero_add,v3];rfl,blk_frozen hT3 _⟩
     · exact ⟨by rw [Nat.zero_add,v4];rfl,blk_frozen hT3 _⟩
     · exact ⟨by rw [Nat.zero_add,v5];rfl,blk_frozen hT3 _⟩
     · exact ⟨by rw [Nat.zero_add,v6];rfl,blk_frozen hT3 _⟩
    refine wpAnyH_ready (rs:=[13]) (by kernel_rfl) (by decide) (AllReadyH.cons rfl (fun K hK=>?_) AllReadyH.nil)
    rw [if_pos (by kernel_rfl)]
    refine wp_store_mid 238 (.tmp 9) (.tmp 33) rfl (Wh1.heap.size) 0 #[lp,.int .u8 lk,.int .i64 lr,.int .i64 ll,.int .i64 la,.int .i64 ln,.int .i64 ls] rfl rfl hthere (by kernel_rfl) (Array.all_eq_true_iff_forall_mem.2 (by intro x hx;simp at hx;rcases hx with rfl|rfl|rfl|rfl|rfl|rfl|rfl<;>first|rfl|exact hlp1)) ?_
    change K _ (set7 V3 (Wh1.heap.size) lp (.int .u8 lk) (.int .i64 lr) (.int .i64 ll) (.int .i64 la) (.int .i64 ln) (.int .i64 ls))
    have hTS:Wh1.heap.size≤Wh1.heap.size:=Nat.le_refl _
    have hks:∀ (bb o:Nat) (cc:Value),bb<Wh1.heap.size→Wh1.cell? ⟨bb,o,none⟩=some cc→(set7 V3 (Wh1.heap.size) lp (.int .u8 lk) (.int .i64 lr) (.int .i64 ll) (.int .i64 la) (.int .i64 ln) (.int .i64 ls)).cell? ⟨bb,o,none⟩=some cc:=fun bb o cc hbb hcc=>keep7 (cell_stays hv3 hcc) (by show bb≠_;omega)
    refine hK.out _ _ ⟨hks _ _ _ (World.block_lt_of_cell? _ _ s0) s0,hks _ _ _ (World.block_lt_of_cell? _ _ s1) s1,hks _ _ _ (World.block_lt_of_cell? _ _ s2) s2,hks _ _ _ (World.block_lt_of_cell? _ _ s3) s3,hks _ _ _ (World.block_lt_of_cell? _ _ s4) s4,hks _ _ _ (World.block_lt_of_cell? _ _ s5) s5,hks _ _ _ (World.block_lt_of_cell? _ _ s6) s6⟩ (fun hS=>?_)
    refine tk 14 (.bool ok) hS ?_ ?_
    · rintro w' ⟨s0,s1,s2,s3,s4,s5,s6⟩
      go_simp
    simp only [td]
    refine wpAnyH_done (by kernel_rfl) ?_ _
    refine NoPanic.normal ?_
    try simp only [Exit.then]
    have HE1:=Lib.hid (show (set7 V3 (Wh1.heap.size) lp (.int .u8 lk) (.int .i64 lr) (.int .i64 ll) (.int .i64 la) (.int .i64 ln) (.int .i64 ls)).heap[Wh1.heap.size]?=some (.cells #[lp,.int .u8 lk,.int .i64 lr,.int .i64 ll,.int .i64 la,.int .i64 ln,.int .i64 ls] 238 (0,0)) from blk_set7 hT3 _ _ _ _ _ _ _)
    have HE2:=Lib.hid (show Below Wh1.heap.size Wh1 (set7 V3 (Wh1.heap.size) lp (.int .u8 lk) (.int .i64 lr) (.int .i64 ll) (.int .i64 la) (.int .i64 ln) (.int .i64 ls)) from below_set7 hv3 hTS _ _ _ _ _ _ _)
    have HLT:Hid (w.heap.size<Wh1.heap.size):=Lib.hid (by have:=HWS1.out;omega)
    clear hS hks hthere s0 s1 s2 s3 s4 s5 s6 hTS hfp
    generalize set7 V3 (Wh1.heap.size) lp (.int .u8 lk) (.int .i64 lr) (.int .i64 ll) (.int .i64 la) (.int .i64 ln) (.int .i64 ls)=W9 at *
    obtain ⟨L,hL⟩:∃ L,Wh1.heap.size=L:=⟨_,rfl⟩
    rw [hL] at HE1 HLT ⊢
    clear hL
    have HC9:=Lib.hid (HC1.out.below HE2.out)
    have HB9:=Lib.hid (HB1.out.trans (HE2.out.mono HB1.out.size))
    rcases hval with ⟨rfl,hokt,rfl,rfl,rfl,rfl,rfl,rfl,rfl⟩|⟨rfl,hokf⟩
    case inr =>
     have HEND:Hid (P (.returned (.bool false)) W9):=Lib.hid (by rw [HP.out];exact rpost_none HC9.out.st (Exw.of_below HB9.out) (HNO.out hokf))
     clear hokf
     obtain ⟨_,q0,q1,q2,q3,q4,q5,q6⟩:=blk7 HE1.out
     go_wp2
     exact HEND.out
    obtain ⟨_,q0,q1,q2,q3,q4,q5,q6⟩:=blk7 HE1.out
    have HLA:=Lib.hid (HOK.out hokt)
    have HFT:=Lib.hid (inZ_iff.1 (HFIT.out hokt))
    clear hokt HNO HOK HFIT
    have hz:lenZ zs=(zs.length:Int):=rfl
    have hns:0≤(n:Int) * ls∧(n:Int) * ls≤16384:=by have:=HFT.out;rw [hz] at this;omega
    have hnn:(n:Int)≤16384:=by
     have h1:(n:Int) * 1≤(n:Int) * ls:=Int.mul_le_mul_of_nonneg_left hstp.1 (by omega)
     omega
    obtain ⟨S,hS⟩:∃ S,(n:Int) * ls=S:=⟨_,rfl⟩
    have hws:IntKind.i64.wrap ((n:Int) * ls)=S:=by rw [hS];exact IntWalk.i64_in S ⟨by omega,by omega⟩
    have hws2:=IntWalk.i64_in (4+S) ⟨by omega,by omega⟩
    have hwn:=IntWalk.i64_in (1+(n:Int)) ⟨by omega,by omega⟩
    have hnS:(n:Int)≤S:=by
     have h1:(n:Int) * 1≤(n:Int) * ls:=Int.mul_le_mul_of_nonneg_left hstp.1 (by omega)
     omega
    rw [hS] at HLA HFT hns
    have HSS:=Lib.hid hS
    clear hS
    by_cases hnr:0<n∧room=0
    case pos =>
     obtain ⟨hn0,hr0⟩:=hnr
     have HEND:Hid (P (.returned (.bool false)) W9):=Lib.hid (by
      rw [HP.out]
      refine rpost_none HC9.out.st (Exw.of_below HB9.out) ?_
      show listAtZ zs (nextZ (sRecs ss) es zs room) k r ((l:Int)-1) to left=none
      rw [HLA.out,hr0]
      split
      · show (if (n:Int)=0 then _ else none)=none
        rw [if_neg (by omega)]
      · rfl)
     have hn1:(0:Int)<(n:Int):=by omega
     have hr1:((room:Int)==0)=true:=by simp;omega
     clear hr0 hn0
     go_wp2
     exact HEND.out
    obtain ⟨F,HF⟩:∃ F:Nat→Int→Option (PV × Int),Hid ((∀ q,room=q+1→F=fun (j:Nat) l2=>flatZ (sRecs ss) es zs q k r ((l:Int)-1) (to+4+(j:Int) * ls) l2)∧(0<n→∃ q,room=q+1)):=by
     rcases Nat.eq_zero_or_pos room with h0|h0
     · exact ⟨fun _ _=>none,Lib.hid ⟨fun q hq=>by omega,fun h=>absurd ⟨h,h0⟩ hnr⟩⟩
     · exact ⟨fun (j:Nat) l2=>flatZ (sRecs ss) es zs (room-1) k r ((l:Int)-1) (to+4+(j:Int) * ls) l2,Lib.hid ⟨fun q hq=>by rw [show room-1=q by omega],fun _=>⟨room-1,by omega⟩⟩⟩
    have HLB:Hid (listAtZ zs (nextZ (sRecs ss) es zs room) k r ((l:Int)-1) to left=if 0≤left-(4+S) then (match seqD F (left-(4+S)) n with|none=>none|some (ks,l)=>some (.mk 0 [] ks false,l)) else none):=Lib.hid (by
     rw [HLA.out]
     split
     · rcases Nat.eq_zero_or_pos room with h0|h0
       · have hn0:n=0:=by
          rcases Nat.eq_zero_or_pos n with h1|h1
          · exact h1
          · exact absurd ⟨h1,h0⟩ hnr
         subst hn0
         rw [h0]
         rfl
       · obtain ⟨q,hq⟩:∃ q,room=q+1:=⟨room-1,by omega⟩
         rw [HF.out.1 q hq,hq,Int.toNat_natCast]
         rfl
     · rfl)
    clear HLA
    have hgo:¬(0<n∧(room:Int)=0):=fun h=>hnr ⟨h.1,by omega⟩
    have HRE:=Lib.hid (freach_any W9 HC9.out.st (4+S) (by have:=HHL.out;omega))
    obtain ⟨l2,hl2⟩:∃ l2,left-(4+S)=l2:=⟨_,rfl⟩
    rw [hl2] at HRE HLB
    have HL2:=Lib.hid hl2
    clear hl2
    by_cases hn0:0<n
    case' pos=>have tn:((0:Int)<(n:Int)):=by omega
    case' pos=>have tr:((room:Int)==0)=false:=by simp;omega
    case' neg=>have tn:¬((0:Int)<(n:Int)):=by omega
    all_goals
     clear hnr hgo
     go_wp2_with fail
     refine HRE.out.mono ?_
     rintro e W10 ⟨rfl,hw10,hx10⟩
     have HX10:=Lib.hid ((Exw.of_below (R:=wk) (S:=mt) HB9.out).trans (hx10.mono HB9.out.size))
     have HW10:=Lib.hid hw10
     have HXX10:=Lib.hid hx10
     have HQ10:=Lib.hid (blk_exw HE1.out hx10 (blk_lt HE1.out) (by have:=HKW.out;have:=HLT.out;have:=HWS1.out;omega) (by have:=HKW.out;have:=HLT.out;have:=HWS1.out;omega))
     clear hw10 hx10 q0 q1 q2 q3 q4 q5 q6 HRE
     obtain ⟨_,q0,q1,q2,q3,q4,q5,q6⟩:=blk7 HQ10.out
     by_cases hl3:0≤l2
     case neg =>
      rw [decide_eq_false hl3]
      have HEND:Hid (P (.returned (.bool false)) W10):=Lib.hid (by rw [HP.out];exact rpost_none HW10.out HX10.out (by show listAtZ zs (nextZ (sRecs ss) es zs room) k r ((l:Int)-1) to left=none;rw [HLB.out,if_neg hl3]))
      go_wp2
      exact HEND.out
     rw [decide_eq_true hl3]
     by_cases hpay:1+(n:Int)≤ml
     case neg =>
      have HPY:=Lib.hid (fpay_no W10 HW10.out (1+(n:Int)) (by omega) (by omega))
      go_wp2_with fail
      refine HPY.out.mono ?_
      rintro e W11 ⟨rfl,hw11,hx11⟩
      have HEND:Hid (P (.returned (.bool false)) W11):=Lib.hid (by rw [HP.out];exact rpost_out hw11 (HX10.out.trans (hx11.mono HX10.out.size)) (by have:=HL2.out;omega))
      clear hw11 hx11 q0 q1 q2 q3 q4 q5 q6
      go_wp2
      exact HEND.out
     have HPY:=Lib.hid (fpay_yes W10 HW10.out (1+(n:Int)) (by omega) (by omega) (by have:=HML.out;omega))
     go_wp2_with fail
     refine HPY.out.mono ?_
     rintro e W11 ⟨rfl,hw11,hx11⟩
     have HX11:=Lib.hid (HX10.out.trans (hx11.mono HX10.out.size))
     have HQ11:=Lib.hid (blk_exw HQ10.out hx11 (blk_lt HQ10.out) (by have:=HKW.out;have:=HLT.out;have:=HWS1.out;omega) (by have:=HKW.out;have:=HLT.out;have:=HWS1.out;omega))
     have HC11:=Lib.hid (HC9.out.exw (l':=l2) (ml':=ml-(1+(n:Int))) (HXX10.out.trans (hx11.mono HXX10.out.size)) hw11 (by have:=HL2.out;omega) (by omega))
     clear hw11 hx11 q0 q1 q2 q3 q4 q5 q6 HPY
     obtain ⟨_,q0,q1,q2,q3,q4,q5,q6⟩:=blk7 HQ11.out
     have HSO:=Lib.hid (fun W=>sorts_any k r ((l:Int)-1) W)
     obtain ⟨so,hso⟩:∃ so,sortP k ((l:Int)-1)=so:=⟨_,rfl⟩
     have HSOE:=Lib.hid hso
     simp only [hso] at HSO
     clear hso
     go_wp2_with fail
     refine (HSO.out W11).mono ?_
     rintro e W12 ⟨rfl,hb12⟩
     have HX12:=Lib.hid (HX11.out.trans ((Exw.of_below (R:=wk) (S:=mt) hb12).mono HX11.out.size))
     have HQ12:=Lib.hid (blk_below HQ11.out hb12 (blk_lt HQ11.out))
     have HC12:=Lib.hid (HC11.out.below hb12)
     clear hb12 q0 q1 q2 q3 q4 q5 q6
     obtain ⟨_,q0,q1,q2,q3,q4,q5,q6⟩:=blk7 HQ12.out
     have HST:Hid (LrAt base w m bp bc sv ev zs ss es fs ns wk mt B F left l2 ml n L #[.pointer (some ⟨m,0,none⟩),.int .u8 k,.int .i64 r,.int .i64 ((l:Int)-1),.int .i64 (to+4),.int .i64 n,.int .i64 ls] (.int .i64 ((0:Nat):Int)) W12):=Lib.hid ⟨0,[],l2,ml-(1+(n:Int)),Nat.zero_le _,rfl,rfl,by have:=HL2.out;omega,by omega,by have:=HL2.out;omega,HC12.out,HX12.out,HQ12.out⟩
     clear HX10 HX11 HX12 HQ10 HQ11 HQ12 HC11 HC12 HXX10 HW10 HSO
     go_wp2_with fail
     clear q0 q1 q2 q3 q4 q5 q6
     go_loopw [70] (fun y wr=>LrAt base w m bp bc sv ev zs ss es fs ns wk mt B F left l2 ml n L #[.pointer (some ⟨m,0,none⟩),.int .u8 k,.int .i64 r,.int .i64 ((l:Int)-1),.int .i64 (to+4),.int .i64 n,.int .i64 ls] y wr) (fun y _=>n-(intOf y).toNat)
     case atStart=>exact HST.out
     case round =>
      obtain ⟨j,vs,l1,ml1,hj,rfl,hseq,hl1,hml1,h3,hcx,hx,hkb⟩:=hrel
      have HSEQ:=Lib.hid hseq
      have HCX:=Lib.hid hcx
      have HXW:=Lib.hid hx
      have HKB:=Lib.hid hkb
      have H3:=Lib.hid h3
      clear hseq hcx hx hkb h3
      by_cases hjl:j<n
      case neg =>
       obtain rfl:j=n:=by omega
       have HEND:Hid (P (.returned (.bool true)) wr):=Lib.hid (by
        rw [HP.out]
        refine rpost_some (v:=.mk 0 [] vs false) HCX.out.st HXW.out ?_ hl1.1 hl1.2 hml1.1 hml1.2 H3.out
        show listAtZ zs (nextZ (sRecs ss) es zs room) k r ((l:Int)-1) to left=_
        rw [HLB.out,if_pos hl3,HSEQ.out])
       clear hjl
       go_wp2
       exact HEND.out
      obtain ⟨q,hq⟩:=HF.out.2 (by omega)
      have HKQ:=Lib.hid (hNX.out q hq)
      have HFQ:=Lib.hid (HF.out.1 q hq)
      have hrq:(room:Int)-1=(q:Int):=by omega
      have hrq2:IntKind.i64.wrap (q:Int)=(q:Int):=IntWalk.i64_in _ ⟨by omega,by omega⟩
      have hji:(j:Int)<(n:Int):=by omega
      have hjs:0≤(j:Int) * ls∧(j:Int) * ls+ls≤S:=by
       have h1:0≤(j:Int) * ls:=Int.mul_nonneg (by omega) (by omega)
       have h2:((j:Int)+1) * ls≤(n:Int) * ls:=Int.mul_le_mul_of_nonneg_right (by omega) (by omega)
       rw [HSS.out,Int.add_mul,Int.one_mul] at h2
       exact ⟨h1,h2⟩
      have HLK:=Lib.hid (fun W=>flkid_any W m k r ((l:Int)-1) (to+4) n ls j so hji (by omega) hstp (by omega) HSOE.out)
      have HIN:Hid (sortP k ((l-1:Nat):Int)=1→inZ (lenZ zs) (to+4+(j:Int) * ls) (kSize k)=true):=Lib.hid (fun hs1=>by
       rw [HL1.out] at hs1
       have h5:=HSTE.out hs1
       have h6:=HFT.out
       rw [←h5]
       exact inZ_iff.2 (by omega))
      have HKR:=Lib.hid (fun W (hW:Below wr.heap.size wr W)=>HKQ.out.run (HCX.out.below hW) k r (l-1) 0 (to+4+(j:Int) * ls) HTY1.out HIN.out)
      rw [HL1.out] at HKR
      unfold listV kidV at HLK
      unfold kidV at HKR
      obtain ⟨_,q0,q1,q2,q3,q4,q5,q6⟩:=blk7 HKB.out
      clear hq
      go_wp2_with fail
      refine (HLK.out _).mono ?_
      rintro e W13 ⟨rfl,hb13⟩
      have HKR13:=Lib.hid (HKR.out W13 hb13)
      have HX13:=Lib.hid (HXW.out.trans ((Exw.of_below (R:=wk) (S:=mt) hb13).mono HXW.out.size))
      have HQ13:=Lib.hid (blk_below HKB.out hb13 (blk_lt HKB.out))
      have HC13:=Lib.hid (HCX.out.below hb13)
      clear hb13 q0 q1 q2 q3 q4 q5 q6 HLK HKR
      go_wp2_with fail
      refine HKR13.out.mono ?_
      rintro e W14 hp14
      have HX14:=Lib.hid (HX13.out.trans (hp14.1.mono HX13.out.size))
      have HQ14:=Lib.hid (blk_exw HQ13.out hp14.1 (blk_lt HQ13.out) (by have:=HKW.out;have:=HLT.out;have:=HWS1.out;omega) (by have:=HKW.out;have:=HLT.out;have:=HWS1.out;omega))
      have HXL:=Lib.hid hp14.1
      rcases hp14.2 with ⟨v',l',ml',hres,hl',rfl,hs',hml',h3'⟩|⟨rfl,o,l',ml',mo,hs',hno,hout⟩
      · have HNEW:Hid (seqD F l2 (j+1)=some (vs++[v'],l')):=Lib.hid (by rw [seqD_succ HSEQ.out,HFQ.out];show (match flatZ (sRecs ss) es zs q k r ((l:Int)-1) (to+4+(j:Int) * ls) l1 with|none=>none|some (v,l2)=>some (vs++[v],l2))=_;rw [hres])
        have HC14:=Lib.hid (HC13.out.exw HXL.out hs' hl' hml')
        have H33:=Lib.hid h3'
        clear hp14 hres hs' h3'
        go_wp2
        go_roundw
        case rel=>exact ⟨j+1,_,l',ml',by omega,by go_num,HNEW.out,by omega,by omega,fun h=>H33.out (H3.out h),HC14.out,HX14.out,HQ14.out⟩
        case measure=>simp [intOf];omega
      · have HEND:Hid (P (.returned (.bool false)) W14):=Lib.hid (by
         rw [HP.out]
         cases o with
         | false =>
          have hn:seqD F l2 n=none:=seqD_le (j:=j+1) (by omega) (by rw [seqD_succ HSEQ.out,HFQ.out];show (match flatZ (sRecs ss) es zs q k r ((l:Int)-1) (to+4+(j:Int) * ls) l1 with|none=>none|some (v,l2)=>some (vs++[v],l2))=_;rw [hno rfl])
          refine rpost_none hs' HX14.out ?_
          show listAtZ zs (nextZ (sRecs ss) es zs room) k r ((l:Int)-1) to left=none
          rw [HLB.out,if_pos hl3,hn]
         | true =>
          have h5:=hout rfl
          exact rpost_out hs' HX14.out (by
           rcases Int.lt_or_le ml (3 * left) with h6|h6
           · exact h6
           · have:=H3.out h6
             omega))
        clear hp14 hs' hno hout
        go_wp2
        exact HEND.out
end Go.Proofs.YtcfjjocmiheiaaaDoor
