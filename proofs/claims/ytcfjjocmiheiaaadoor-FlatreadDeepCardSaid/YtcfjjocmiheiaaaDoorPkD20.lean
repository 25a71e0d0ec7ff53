/-
  Package flatread: what its walk is told of; how its questions hang together. Conditions: those that each theorem names.
-/
import Derived.Test.YtcfjjocmiheiaaaDoorPkD52
import Derived.Test.YtcfjjocmiheiaaaDoorPkD16
namespace Go.Proofs.YtcfjjocmiheiaaaDoor
open Go.ChangeShapes Go.WideShapes Go.ChangeAt Go.RowKit Go.Shelf
set_option maxRecDepth 100000 in
set_option maxHeartbeats 16000000 in
theorem fbytesRight (w:World){base m:Nat}{bp:Option Addr}{bc:Nat}{sv ev:Value}{zs:List Int}{ss:List (SRec × Value)}{es:List SCho}{fs:List (List CFld × Value)}{ns:List Nat}(h:MsgOf base w m bp bc sv ev zs ss es fs ns){wk mt B:Nat}{left ml:Int}(hw:WState w wk m mt false left ml false)(hl0:0≤left∧left≤1000000)(hml:0≤ml∧ml≤9223372036854775807)
  (hB:B≤w.heap.size∧B≤wk∧B≤mt) (hA:Amb B w) (k r d:Nat) (at':Int) :
  Calls Tryd.prog 129 #[.pointer (some ⟨wk,0,none⟩),kidV k r 0 at' d true] w (RPost (pointZ zs at' fun to=>bytesAtZ zs k to left) wk m mt left ml w):=by
 have hb:=(Below.refl w.heap.size w).alloc (Nat.le_refl _) (.cells #[.int .u8 k,.int .i64 r,.int .i64 0,.int .i64 at',.int .u64 d,.bool true] 166)
 have HB:=Lib.hid hb
 have hA0:=Lib.hid hA
 have HM:=Lib.hid (h.below hb)
 have HW:=Lib.hid (hw.below hb)
 have HX:=Lib.hid (heap_alloc_new w (.cells #[.int .u8 k,.int .i64 r,.int .i64 0,.int .i64 at',.int .u64 d,.bool true] 166))
 have HAM:Hid (Amb B (w.alloc (.cells #[.int .u8 k,.int .i64 r,.int .i64 0,.int .i64 at',.int .u64 d,.bool true] 166))):=Lib.hid (hA.below (hb.mono hB.1))
 have hzb:=h.msg.bytes.1
 have hlen:=h.msg.len
 have HTG:=Lib.hid (fun W (hW:Below (w.alloc (.cells #[.int .u8 k,.int .i64 r,.int .i64 0,.int .i64 at',.int .u64 d,.bool true] 166)).heap.size (w.alloc (.cells #[.int .u8 k,.int .i64 r,.int .i64 0,.int .i64 at',.int .u64 d,.bool true] 166)) W)=>ftarget_any W ((h.below hb).below hW).msg k r 0 at' d true)
 have HWK:Hid (wk<w.heap.size∧mt<w.heap.size):=Lib.hid ⟨blk_lt hw.walk,blk_lt hw.meter⟩
 obtain ⟨P,hP⟩:∃ P,RPost (pointZ zs at' fun to=>bytesAtZ zs k to left) wk m mt left ml w=P:=⟨_,rfl⟩
 rw [hP]
 have HP:=Lib.hid hP.symm
 clear hP hb h hw hA
 unfold kidV at *
 simp only [if_true] at HTG
 obtain ⟨jz,hjz⟩:∃ jz,jumpZ zs at'=jz:=⟨_,rfl⟩
 unfold pointZ at HP
 rw [hjz] at HP HTG
 have hbd:∀ to,jz=some to→0≤to∧to≤16384:=fun to e=>by
  rw [e] at hjz
  have h1:=jump_bd hzb hjz
  unfold lenZ at h1
  omega
 clear hjz
 go_enter Tryd.func129,Tryd.ntmps129
 go_upto_region 1 with (fail)
 generalize w.alloc (.cells #[.int .u8 k,.int .i64 r,.int .i64 0,.int .i64 at',.int .u64 d,.bool true] 166)=W0 at *
 obtain ⟨_,s1,s2,s3,s4,s5,s6⟩:=blk6 HX.out
 obtain ⟨_,s0,_,_,_⟩:=blk4w HW.out.walk
 cases jz with
 | none =>
  have HEND:Hid (∀ W,Below w.heap.size w W→WState W wk m mt false left ml false→P (.returned (.bool false)) W):=Lib.hid (fun W hB hs=>by rw [HP.out];exact rpost_none hs (Exw.of_below hB) rfl)
  unfold optV at HTG
  refine wp_region_noPanic ?_
  refine wp_region_held_drew (S:=(fun w'=>w'.cell? ⟨wk,0,none⟩=some (.pointer (some ⟨m,0,none⟩))∧w'.cell? ⟨w.heap.size,0,none⟩=some (.int .u8 k)∧w'.cell? ⟨w.heap.size,1,none⟩=some (.int .i64 r)∧w'.cell? ⟨w.heap.size,2,none⟩=some (.int .i64 0)∧w'.cell? ⟨w.heap.size,3,none⟩=some (.int .i64 at')∧w'.cell? ⟨w.heap.size,4,none⟩=some (.int .u64 d)∧w'.cell? ⟨w.heap.size,5,none⟩=some (.bool true))) (by kernel_rfl) ⟨s0,s1,s2,s3,s4,s5,s6⟩ ?_
  intro hS
  refine tk 0 (.pointer (some ⟨wk,0,none⟩)) hS ?_ ?_
  · rintro w' ⟨s0,s1,s2,s3,s4,s5,s6⟩
    go_simp
  simp only [td]
  refine tk 1 (.pointer (some ⟨wk,0,none⟩)) hS ?_ ?_
  · rintro w' ⟨s0,s1,s2,s3,s4,s5,s6⟩
    go_simp
  simp only [td]
  refine tk 2 (.pointer (some ⟨wk,0,none⟩)) hS ?_ ?_
  · rintro w' ⟨s0,s1,s2,s3,s4,s5,s6⟩
    go_simp
  simp only [td]
  refine tk 3 (.pointer (some ⟨m,0,none⟩)) hS ?_ ?_
  · rintro w' ⟨s0,s1,s2,s3,s4,s5,s6⟩
    go_simp
  simp only [td]
  refine tk 4 (.agg #[.int .u8 k,.int .i64 r,.int .i64 0,.int .i64 at',.int .u64 d,.bool true]) hS ?_ ?_
  · rintro w' ⟨s0,s1,s2,s3,s4,s5,s6⟩
    go_simp
  simp only [td]
  refine wpAnyH_ready (rs:=[5]) (by kernel_rfl) (by decide) (AllReadyH.cons rfl (fun K hK=>?_) AllReadyH.nil)
  rw [if_pos (by kernel_rfl)]
  go_simp
  refine (HTG.out W0.drew ((Below.refl _ W0).drew)).mono ?_
  rintro e Wh1 ⟨rfl,hb1⟩
  have hx1:Below W0.heap.size W0 Wh1:=(Below.refl _ W0).drew.trans hb1
  have ns0:=cell_stays hx1 s0
  have ns1:=cell_stays hx1 s1
  have ns2:=cell_stays hx1 s2
  have ns3:=cell_stays hx1 s3
  have ns4:=cell_stays hx1 s4
  have ns5:=cell_stays hx1 s5
  have ns6:=cell_stays hx1 s6
  refine hK.out _ _ ⟨ns0,ns1,ns2,ns3,ns4,ns5,ns6⟩ (fun hS=>?_)
  clear ns0 ns1 ns2 ns3 ns4 ns5 ns6
  refine tk 6 (.tuple #[.int .i64 0,.bool false]) hS ?_ ?_
  · rintro w' ⟨s0,s1,s2,s3,s4,s5,s6⟩
    go_simp
  simp only [td]
  refine tk 7 (.int .i64 0) hS ?_ ?_
  · rintro w' ⟨s0,s1,s2,s3,s4,s5,s6⟩
    go_simp
  simp only [td]
  refine tk 8 (.bool false) hS ?_ ?_
  · rintro w' ⟨s0,s1,s2,s3,s4,s5,s6⟩
    go_simp
  simp only [td]
  refine tk 9 (.int .i64 0) hS ?_ ?_
  · rintro w' ⟨s0,s1,s2,s3,s4,s5,s6⟩
    go_simp
  simp only [td]
  refine tk 10 (.bool false) hS ?_ ?_
  · rintro w' ⟨s0,s1,s2,s3,s4,s5,s6⟩
    go_simp
  simp only [td]
  refine wpAnyH_done (by kernel_rfl) ?_ _
  refine NoPanic.normal ?_
  try simp only [Exit.then]
  have HBE:=Lib.hid (HB.out.trans (hx1.mono HB.out.size))
  have HWE:=Lib.hid (HW.out.below hx1)
  clear hS s0 s1 s2 s3 s4 s5 s6 hx1 hb1
  go_wp2
  exact HEND.out _ HBE.out HWE.out
 | some to =>
  have hto:=hbd to rfl
  unfold optV at HTG
  refine wp_region_noPanic ?_
  refine wp_region_held_drew (S:=(fun w'=>w'.cell? ⟨wk,0,none⟩=some (.pointer (some ⟨m,0,none⟩))∧w'.cell? ⟨w.heap.size,0,none⟩=some (.int .u8 k)∧w'.cell? ⟨w.heap.size,1,none⟩=some (.int .i64 r)∧w'.cell? ⟨w.heap.size,2,none⟩=some (.int .i64 0)∧w'.cell? ⟨w.heap.size,3,none⟩=some (.int .i64 at')∧w'.cell? ⟨w.heap.size,4,none⟩=some (.int .u64 d)∧w'.cell? ⟨w.heap.size,5,none⟩=some (.bool true))) (by kernel_rfl) ⟨s0,s1,s2,s3,s4,s5,s6⟩ ?_
  intro hS
  refine tk 0 (.pointer (some ⟨wk,0,none⟩)) hS ?_ ?_
  · rintro w' ⟨s0,s1,s2,s3,s4,s5,s6⟩
    go_simp
  simp only [td]
  refine tk 1 (.pointer (some ⟨wk,0,none⟩)) hS ?_ ?_
  · rintro w' ⟨s0,s1,s2,s3,s4,s5,s6⟩
    go_simp
  simp only [td]
  refine tk 2 (.pointer (some ⟨wk,0,none⟩)) hS ?_ ?_
  · rintro w' ⟨s0,s1,s2,s3,s4,s5,s6⟩
    go_simp
  simp only [td]
  refine tk 3 (.pointer (some ⟨m,0,none⟩)) hS ?_ ?_
  · rintro w' ⟨s0,s1,s2,s3,s4,s5,s6⟩
    go_simp
  simp only [td]
  refine tk 4 (.agg #[.int .u8 k,.int .i64 r,.int .i64 0,.int .i64 at',.int .u64 d,.bool true]) hS ?_ ?_
  · rintro w' ⟨s0,s1,s2,s3,s4,s5,s6⟩
    go_simp
  simp only [td]
  refine wpAnyH_ready (rs:=[5]) (by kernel_rfl) (by decide) (AllReadyH.cons rfl (fun K hK=>?_) AllReadyH.nil)
  rw [if_pos (by kernel_rfl)]
  go_simp
  refine (HTG.out W0.drew ((Below.refl _ W0).drew)).mono ?_
  rintro e Wh1 ⟨rfl,hb1⟩
  have hx1:Below W0.heap.size W0 Wh1:=(Below.refl _ W0).drew.trans hb1
  have ns0:=cell_stays hx1 s0
  have ns1:=cell_stays hx1 s1
  have ns2:=cell_stays hx1 s2
  have ns3:=cell_stays hx1 s3
  have ns4:=cell_stays hx1 s4
  have ns5:=cell_stays hx1 s5
  have ns6:=cell_stays hx1 s6
  refine hK.out _ _ ⟨ns0,ns1,ns2,ns3,ns4,ns5,ns6⟩ (fun hS=>?_)
  clear ns0 ns1 ns2 ns3 ns4 ns5 ns6
  refine tk 6 (.tuple #[.int .i64 to,.bool true]) hS ?_ ?_
  · rintro w' ⟨s0,s1,s2,s3,s4,s5,s6⟩
    go_simp
  simp only [td]
  refine tk 7 (.int .i64 to) hS ?_ ?_
  · rintro w' ⟨s0,s1,s2,s3,s4,s5,s6⟩
    go_simp
  simp only [td]
  refine tk 8 (.bool true) hS ?_ ?_
  · rintro w' ⟨s0,s1,s2,s3,s4,s5,s6⟩
    go_simp
  simp only [td]
  refine tk 9 (.int .i64 to) hS ?_ ?_
  · rintro w' ⟨s0,s1,s2,s3,s4,s5,s6⟩
    go_simp
  simp only [td]
  refine tk 10 (.bool true) hS ?_ ?_
  · rintro w' ⟨s0,s1,s2,s3,s4,s5,s6⟩
    go_simp
  simp only [td]
  refine wpAnyH_done (by kernel_rfl) ?_ _
  refine NoPanic.normal ?_
  try simp only [Exit.then]
  have HB1:=Lib.hid (HB.out.trans (hx1.mono HB.out.size))
  have HW1:=Lib.hid (HW.out.below hx1)
  have HM1:=Lib.hid (HM.out.below hx1)
  have hx1K:=Lib.hid hx1
  have HB00:Hid (B≤W0.heap.size):=Lib.hid (Nat.le_trans hB.1 HB.out.size)
  have HX1:=Lib.hid (blk_below HX.out hx1 (blk_lt HX.out))
  clear hS s0 s1 s2 s3 s4 s5 s6 hx1 hb1 HTG
  have HAM1:=Lib.hid (fun (W:World) (hW:Below Wh1.heap.size Wh1 W)=>HAM.out W ((hx1K.out.trans (hW.mono hx1K.out.size)).mono HB00.out))
  have HFB:=Lib.hid (fun W (hW:Below Wh1.heap.size Wh1 W)=>fbytes_any W (HM1.out.below hW).msg k r 0 to)
  obtain ⟨_,s1,s2,s3,s4,s5,s6⟩:=blk6 HX1.out
  obtain ⟨_,s0,_,_,_⟩:=blk4w HW1.out.walk
  have hno:=fun (hh:bytesOk zs k to=false)=>bytesAt_no (left:=left) hzb hh
  have hok:=fun (hh:bytesOk zs k to=true)=>bytesAt_ok (left:=left) hzb hh
  have hld:=leAt_4 zs to.toNat hzb
  have hlz:bytesOk zs k to=true→leAt zs to.toNat 4≤16384:=fun hh=>by
   unfold bytesOk at hh
   rw [Bool.and_eq_true,Bool.and_eq_true] at hh
   have h2:=inZ_iff.1 hh.2.1
   unfold lenZ at h2
   omega
  go_upto_region 4 with (fail)
  refine wp_region_noPanic ?_
  refine wp_region_held_drew (S:=(fun w'=>w'.cell? ⟨wk,0,none⟩=some (.pointer (some ⟨m,0,none⟩))∧w'.cell? ⟨w.heap.size,0,none⟩=some (.int .u8 k)∧w'.cell? ⟨w.heap.size,1,none⟩=some (.int .i64 r)∧w'.cell? ⟨w.heap.size,2,none⟩=some (.int .i64 0)∧w'.cell? ⟨w.heap.size,3,none⟩=some (.int .i64 at')∧w'.cell? ⟨w.heap.size,4,none⟩=some (.int .u64 d)∧w'.cell? ⟨w.heap.size,5,none⟩=some (.bool true))) (by kernel_rfl) ⟨s0,s1,s2,s3,s4,s5,s6⟩ ?_
  intro hS
  refine tk 0 (.pointer (some ⟨wk,0,none⟩)) hS ?_ ?_
  · rintro w' ⟨s0,s1,s2,s3,s4,s5,s6⟩
    go_simp
  simp only [td]
  refine tk 1 (.pointer (some ⟨wk,0,none⟩)) hS ?_ ?_
  · rintro w' ⟨s0,s1,s2,s3,s4,s5,s6⟩
    go_simp
  simp only [td]
  refine tk 2 (.pointer (some ⟨wk,0,none⟩)) hS ?_ ?_
  · rintro w' ⟨s0,s1,s2,s3,s4,s5,s6⟩
    go_simp
  simp only [td]
  refine tk 3 (.pointer (some ⟨m,0,none⟩)) hS ?_ ?_
  · rintro w' ⟨s0,s1,s2,s3,s4,s5,s6⟩
    go_simp
  simp only [td]
  refine tk 4 (.int .i64 to) hS ?_ ?_
  · rintro w' ⟨s0,s1,s2,s3,s4,s5,s6⟩
    go_simp
  simp only [td]
  refine tk 5 (.pointer (some ⟨w.heap.size,0,none⟩)) hS ?_ ?_
  · rintro w' ⟨s0,s1,s2,s3,s4,s5,s6⟩
    go_simp
  simp only [td]
  refine tk 6 (.agg #[.int .u8 k,.int .i64 r,.int .i64 0]) hS ?_ ?_
  · rintro w' ⟨s0,s1,s2,s3,s4,s5,s6⟩
    go_simp
  simp only [td]
  refine wpAnyH_ready (rs:=[7]) (by kernel_rfl) (by decide) (AllReadyH.cons rfl (fun K hK=>?_) AllReadyH.nil)
  rw [if_pos (by kernel_rfl)]
  go_simp
  refine (HFB.out Wh1.drew ((Below.refl _ Wh1).drew)).mono ?_
  rintro e Wh2 ⟨hfp,hb2⟩
  rcases hfp with ⟨hbok,gg,oo,rfl,hby⟩|⟨hbok,rfl⟩
  case inr =>
   have hN:=hno hbok
   clear hno hok hlz
   have hx2:Below Wh1.heap.size Wh1 Wh2:=(Below.refl _ Wh1).drew.trans hb2
   have ns0:=cell_stays hx2 s0
   have ns1:=cell_stays hx2 s1
   have ns2:=cell_stays hx2 s2
   have ns3:=cell_stays hx2 s3
   have ns4:=cell_stays hx2 s4
   have ns5:=cell_stays hx2 s5
   have ns6:=cell_stays hx2 s6
   refine hK.out _ _ ⟨ns0,ns1,ns2,ns3,ns4,ns5,ns6⟩ (fun hS=>?_)
   clear ns0 ns1 ns2 ns3 ns4 ns5 ns6
   refine tk 8 (.tuple #[.slice none 0 0,.bool false]) hS ?_ ?_
   · rintro w' ⟨s0,s1,s2,s3,s4,s5,s6⟩
     go_simp
   simp only [td]
   refine tk 9 (.slice none 0 0) hS ?_ ?_
   · rintro w' ⟨s0,s1,s2,s3,s4,s5,s6⟩
     go_simp
   simp only [td]
   refine tk 10 (.bool false) hS ?_ ?_
   · rintro w' ⟨s0,s1,s2,s3,s4,s5,s6⟩
     go_simp
   simp only [td]
   refine tk 11 (.slice none 0 0) hS ?_ ?_
   · rintro w' ⟨s0,s1,s2,s3,s4,s5,s6⟩
     go_simp
   simp only [td]
   refine tk 12 (.bool false) hS ?_ ?_
   · rintro w' ⟨s0,s1,s2,s3,s4,s5,s6⟩
     go_simp
   simp only [td]
   refine wpAnyH_done (by kernel_rfl) ?_ _
   refine NoPanic.normal ?_
   try simp only [Exit.then]
   have HB2:=Lib.hid (HB1.out.trans (hx2.mono HB1.out.size))
   have HW2:=Lib.hid (HW1.out.below hx2)
   have HM2:=Lib.hid (HM1.out.below hx2)
   have HX2:=Lib.hid (blk_below HX1.out hx2 (blk_lt HX1.out))
   have HAM2:=Lib.hid (fun (W:World) (hW:Below Wh2.heap.size Wh2 W)=>HAM1.out W (hx2.trans (hW.mono hx2.size)))
   have HS2:Hid (Wh1.heap.size≤Wh2.heap.size):=Lib.hid hx2.size
   clear hS s0 s1 s2 s3 s4 s5 s6 hx2 hb2 HFB
   obtain ⟨_,s1,s2,s3,s4,s5,s6⟩:=blk6 HX2.out
   have HEND:Hid (∀ W,Below w.heap.size w W→WState W wk m mt false left ml false→P (.returned (.bool false)) W):=Lib.hid (fun W hB hs=>by rw [HP.out];exact rpost_none hs (Exw.of_below hB) hN)
   by_cases hk:k=11
   · subst hk
     go_wp2
     exact HEND.out _ HB2.out HW2.out
   · have t11:((k:Int)==11)=false:=by simp;omega
     go_wp2
     exact HEND.out _ HB2.out HW2.out
  case inl =>
   have hN:=hok hbok
   have hnz:=hlz hbok
   obtain ⟨n,hn⟩:∃ n:Nat,leAt zs to.toNat 4=(n:Int):=Int.eq_ofNat_of_zero_le hld.1
   have hpl0:to.toNat+4+(leAt zs to.toNat 4).toNat≤zs.length:=by
    have hbk:=hbok
    unfold bytesOk at hbk
    rw [Bool.and_eq_true,Bool.and_eq_true] at hbk
    have h2:=inZ_iff.1 hbk.2.1
    unfold lenZ at h2
    omega
   rw [hn,Int.toNat_natCast] at hpl0
   rw [hn] at hN hnz hby
   rw [hn,Int.toNat_natCast] at *
   clear hno hok hlz hld hn
   have hx2:Below Wh1.heap.size Wh1 Wh2:=(Below.refl _ Wh1).drew.trans hb2
   have ns0:=cell_stays hx2 s0
   have ns1:=cell_stays hx2 s1
   have ns2:=cell_stays hx2 s2
   have ns3:=cell_stays hx2 s3
   have ns4:=cell_stays hx2 s4
   have ns5:=cell_stays hx2 s5
   have ns6:=cell_stays hx2 s6
   refine hK.out _ _ ⟨ns0,ns1,ns2,ns3,ns4,ns5,ns6⟩ (fun hS=>?_)
   clear ns0 ns1 ns2 ns3 ns4 ns5 ns6
   refine tk 8 (.tuple #[.slice (some ⟨gg,oo,none⟩) n n,.bool true]) hS ?_ ?_
   · rintro w' ⟨s0,s1,s2,s3,s4,s5,s6⟩
     go_simp
   simp only [td]
   refine tk 9 (.slice (some ⟨gg,oo,none⟩) n n) hS ?_ ?_
   · rintro w' ⟨s0,s1,s2,s3,s4,s5,s6⟩
     go_simp
   simp only [td]
   refine tk 10 (.bool true) hS ?_ ?_
   · rintro w' ⟨s0,s1,s2,s3,s4,s5,s6⟩
     go_simp
   simp only [td]
   refine tk 11 (.slice (some ⟨gg,oo,none⟩) n n) hS ?_ ?_
   · rintro w' ⟨s0,s1,s2,s3,s4,s5,s6⟩
     go_simp
   simp only [td]
   refine tk 12 (.bool true) hS ?_ ?_
   · rintro w' ⟨s0,s1,s2,s3,s4,s5,s6⟩
     go_simp
   simp only [td]
   refine wpAnyH_done (by kernel_rfl) ?_ _
   refine NoPanic.normal ?_
   try simp only [Exit.then]
   have HB2:=Lib.hid (HB1.out.trans (hx2.mono HB1.out.size))
   have HW2:=Lib.hid (HW1.out.below hx2)
   have HM2:=Lib.hid (HM1.out.below hx2)
   have HX2:=Lib.hid (blk_below HX1.out hx2 (blk_lt HX1.out))
   have HAM2:=Lib.hid (fun (W:World) (hW:Below Wh2.heap.size Wh2 W)=>HAM1.out W (hx2.trans (hW.mono hx2.size)))
   have HS2:Hid (Wh1.heap.size≤Wh2.heap.size):=Lib.hid hx2.size
   clear hS s0 s1 s2 s3 s4 s5 s6 hx2 hb2 HFB
   obtain ⟨_,s1,s2,s3,s4,s5,s6⟩:=blk6 HX2.out
   have HBY2:=Lib.hid hby
   clear hby
   have hcw:=IntWalk.i64_in (4+(n:Int)) ⟨by omega,by omega⟩
   have hcw1:=IntWalk.i64_in (1+(n:Int)) ⟨by omega,by omega⟩
   have hpl:(partZ zs (to.toNat+4) n).length=n:=partZ_length hpl0
   have HSM:=Lib.hid (HAM2.out)
   by_cases hk:k=11
   · subst hk
     rw [if_pos rfl] at hN
     have hcw2:=IntWalk.i64_in (4+(n:Int)+1) ⟨by omega,by omega⟩
     have HRE:=Lib.hid (freach_any Wh2 HW2.out (4+(n:Int)+1) (by omega))
     obtain ⟨l2,hl2⟩:∃ l2,left-(4+(n:Int)+1)=l2:=⟨_,rfl⟩
     rw [hl2] at hN HRE
     go_wp2_with fail
     refine HRE.out.mono ?_
     rintro e W3 ⟨rfl,hw3,hx3⟩
     have HX3:=Lib.hid ((Exw.of_below (R:=wk) (S:=mt) HB2.out).trans (hx3.mono HB2.out.size))
     have HW3:=Lib.hid hw3
     have HK3:=Lib.hid (blk_exw HX2.out hx3 (blk_lt HX2.out) (by have:=HWK.out;omega) (by have:=HWK.out;omega))
     have HBY3:Hid (Bytes W3 (some ⟨gg,oo,none⟩) (partZ zs (to.toNat+4) n)):=Lib.hid (bytes_exw HBY2.out hx3 (fun b off e hne=>by injection e with e;injection e with e1 e2 _;subst e1 e2;exact HW2.out.bytes HBY2.out hne))
     clear hw3 hx3 s1 s2 s3 s4 s5 s6
     obtain ⟨_,s1,s2,s3,s4,s5,s6⟩:=blk6 HK3.out
     by_cases hl3:0≤l2
     case neg =>
      rw [decide_eq_false hl3]
      have HEND:Hid (P (.returned (.bool false)) W3):=Lib.hid (by rw [HP.out];exact rpost_none HW3.out HX3.out (by show bytesAtZ zs _ to left=none;rw [hN,if_neg (fun h=>hl3 h.1)]))
      go_wp2
      exact HEND.out
     rw [decide_eq_true hl3]
     by_cases hpay:(n:Int)+1≤ml
     case neg =>
      have HPY:=Lib.hid (fpay_no W3 HW3.out (1+(n:Int)) (by omega) (by omega))
      go_wp2_with fail
      refine HPY.out.mono ?_
      rintro e W4 ⟨rfl,hw4,hx4⟩
      have HEND:Hid (P (.returned (.bool false)) W4):=Lib.hid (by rw [HP.out];exact rpost_out hw4 (HX3.out.trans (hx4.mono HX3.out.size)) (by omega))
      clear hw4 hx4 s1 s2 s3 s4 s5 s6
      go_wp2
      exact HEND.out
     have HPY:=Lib.hid (fpay_yes W3 HW3.out (1+(n:Int)) (by omega) (by omega) (by omega))
     go_wp2_with fail
     refine HPY.out.mono ?_
     rintro e W4 ⟨rfl,hw4,hx4⟩
     have HX4:=Lib.hid (HX3.out.trans (hx4.mono HX3.out.size))
     have HW4:=Lib.hid hw4
     have HK4:=Lib.hid (blk_exw HK3.out hx4 (blk_lt HK3.out) (by have:=HWK.out;omega) (by have:=HWK.out;omega))
     have HBY4:Hid (Bytes W4 (some ⟨gg,oo,none⟩) (partZ zs (to.toNat+4) n)):=Lib.hid (bytes_exw HBY3.out hx4 (fun b off e hne=>by injection e with e;injection e with e1 e2 _;subst e1 e2;exact HW3.out.bytes HBY3.out hne))
     have HT4:Hid (Tabs W4):=Lib.hid (hA0.out W4 ((HX4.out.mono hB.1).below hB.2.1 hB.2.2))
     have HU:=Lib.hid (wutf8_gen (some ⟨gg,oo,none⟩) n n (partZ zs (to.toNat+4) n) W4 HT4.out HBY4.out hpl (by omega) (Nat.le_refl _))
     obtain ⟨u,hu⟩:∃ u,u8At (partZ zs (to.toNat+4) n) 0=u:=⟨_,rfl⟩
     rw [hu] at hN HU
     clear hw4 hx4 s1 s2 s3 s4 s5 s6 hu
     go_wp2_with fail
     refine HU.out.mono ?_
     rintro e W5 ⟨rfl,hb5⟩
     have HX5:=Lib.hid (HX4.out.trans ((Exw.of_below (R:=wk) (S:=mt) hb5).mono HX4.out.size))
     have HW5:=Lib.hid (HW4.out.below hb5)
     clear hb5
     by_cases hu0:u<0
     · have HEND:Hid (P (.returned (.bool true)) W5):=Lib.hid (by rw [HP.out];exact rpost_some HW5.out HX5.out (by show bytesAtZ zs _ to left=_;rw [hN,if_pos ⟨hl3,fun _=>hu0⟩]) hl3 (by omega) (by omega) (by omega) (fun _=>by omega))
       have tu:decide (0≤u)=false:=decide_eq_false (by omega)
       go_wp2
       exact HEND.out
     · have HEND:Hid (P (.returned (.bool false)) W5):=Lib.hid (by rw [HP.out];exact rpost_none HW5.out HX5.out (by show bytesAtZ zs _ to left=none;rw [hN,if_neg (fun h=>hu0 (h.2 (by simp)))]))
       have tu:decide (0≤u)=true:=decide_eq_true (by omega)
       go_wp2
       exact HEND.out
   · have t11:((k:Int)==11)=false:=by simp;omega
     rw [if_neg hk,Int.add_zero] at hN
     have HRE:=Lib.hid (freach_any Wh2 HW2.out (4+(n:Int)) (by omega))
     obtain ⟨l2,hl2⟩:∃ l2,left-(4+(n:Int))=l2:=⟨_,rfl⟩
     rw [hl2] at hN HRE
     go_wp2_with fail
     refine HRE.out.mono ?_
     rintro e W3 ⟨rfl,hw3,hx3⟩
     have HX3:=Lib.hid ((Exw.of_below (R:=wk) (S:=mt) HB2.out).trans (hx3.mono HB2.out.size))
     have HW3:=Lib.hid hw3
     have HK3:=Lib.hid (blk_exw HX2.out hx3 (blk_lt HX2.out) (by have:=HWK.out;omega) (by have:=HWK.out;omega))
     clear hw3 hx3 s1 s2 s3 s4 s5 s6
     obtain ⟨_,s1,s2,s3,s4,s5,s6⟩:=blk6 HK3.out
     by_cases hl3:0≤l2
     case neg =>
      rw [decide_eq_false hl3]
      have HEND:Hid (P (.returned (.bool false)) W3):=Lib.hid (by rw [HP.out];exact rpost_none HW3.out HX3.out (by show bytesAtZ zs _ to left=none;rw [hN,if_neg (fun h=>hl3 h.1)]))
      go_wp2
      exact HEND.out
     rw [decide_eq_true hl3]
     by_cases hpay:(n:Int)+1≤ml
     case neg =>
      have HPY:=Lib.hid (fpay_no W3 HW3.out (1+(n:Int)) (by omega) (by omega))
      go_wp2_with fail
      refine HPY.out.mono ?_
      rintro e W4 ⟨rfl,hw4,hx4⟩
      have HEND:Hid (P (.returned (.bool false)) W4):=Lib.hid (by rw [HP.out];exact rpost_out hw4 (HX3.out.trans (hx4.mono HX3.out.size)) (by omega))
      clear hw4 hx4 s1 s2 s3 s4 s5 s6
      go_wp2
      exact HEND.out
     have HPY:=Lib.hid (fpay_yes W3 HW3.out (1+(n:Int)) (by omega) (by omega) (by omega))
     go_wp2_with fail
     refine HPY.out.mono ?_
     rintro e W4 ⟨rfl,hw4,hx4⟩
     have HX4:=Lib.hid (HX3.out.trans (hx4.mono HX3.out.size))
     have HW4:=Lib.hid hw4
     have HEND:Hid (P (.returned (.bool true)) W4):=Lib.hid (by rw [HP.out];exact rpost_some HW4.out HX4.out (by show bytesAtZ zs _ to left=_;rw [hN,if_pos ⟨hl3,fun h=>absurd h hk⟩]) hl3 (by omega) (by omega) (by omega) (fun _=>by omega))
     clear hw4 hx4 s1 s2 s3 s4 s5 s6
     go_wp2
     exact HEND.out
end Go.Proofs.YtcfjjocmiheiaaaDoor
namespace Go.Proofs.YtcfjjocmiheiaaaDoor
open Go.ChangeShapes Go.WideShapes Go.ChangeAt Go.RowKit Go.Shelf
structure RCtx (base:Nat)(W:World)(m:Nat)(bp:Option Addr)(bc:Nat)(sv ev:Value)(zs:List Int)(ss:List (SRec × Value))(es:List SCho)(fs:List (List CFld × Value))(ns:List Nat)(wk mt B:Nat)(left ml:Int):Prop where
 msg:MsgOf base W m bp bc sv ev zs ss es fs ns
 st:WState W wk m mt false left ml false
 hl:0≤left∧left≤1000000
 hml:0≤ml∧ml≤9223372036854775807
 hB:B≤W.heap.size∧B≤wk∧B≤mt
 amb:Amb B W
 sch:SchM ss es
variable {base:Nat} {W W':World} {m:Nat} {bp:Option Addr} {bc:Nat} {sv ev:Value} {zs:List Int} {ss:List (SRec × Value)} {es:List SCho} {fs:List (List CFld × Value)} {ns:List Nat} {wk mt B:Nat} {left ml l' ml':Int}
theorem RCtx.below (h:RCtx base W m bp bc sv ev zs ss es fs ns wk mt B left ml)(hb:Below W.heap.size W W'):RCtx base W' m bp bc sv ev zs ss es fs ns wk mt B left ml:=
 ⟨h.msg.below hb,h.st.below hb,h.hl,h.hml,⟨Nat.le_trans h.hB.1 hb.size,h.hB.2⟩,h.amb.below (hb.mono h.hB.1),h.sch⟩
theorem RCtx.exw (h:RCtx base W m bp bc sv ev zs ss es fs ns wk mt B left ml)(hx:Exw wk mt W.heap.size W W')(hs:WState W' wk m mt false l' ml' false)(h1:0≤l'∧l'≤left)(h2:0≤ml'∧ml'≤ml):RCtx base W' m bp bc sv ev zs ss es fs ns wk mt B l' ml':=
 ⟨h.msg.exw h.st hx,hs,⟨h1.1,Int.le_trans h1.2 h.hl.2⟩,⟨h2.1,Int.le_trans h2.2 h.hml.2⟩,⟨Nat.le_trans h.hB.1 hx.size,h.hB.2⟩,h.amb.exw h.hB.1 h.hB.2.1 h.hB.2.2 hx,h.sch⟩
def sRecs (ss:List (SRec × Value)):List CRec:=(crow ss).map Prod.fst
def structT (ss:List CRec)(zs:List Int)(nx:Option NextD)(ref to:Int)(t:TabZ)(left:Int):Option (PV × Int):=
 match nx with
 | none=>none
 | some f =>
  if left-(t.size+t.own)<0 then none else
  match seqD (fieldZ zs f (recC ss ref).fields to t) (left-(t.size+t.own)) (recC ss ref).fields.length with
  | none=>none
  | some (ks,l)=>some (.mk 0 [] ks true,l)
theorem structAt_none {ss:List CRec}{zs:List Int}{nx:Option NextD}{ref to left:Int}(h:tabZ zs to=none):structAtZ ss zs nx ref to left=none:=by unfold structAtZ;rw [h]
theorem structAt_some {ss:List CRec}{zs:List Int}{nx:Option NextD}{ref to left:Int}{t:TabZ}(h:tabZ zs to=some t):structAtZ ss zs nx ref to left=structT ss zs nx ref to t left:=by unfold structAtZ;rw [h];rfl
structure KidRAt (room:Nat):Prop where
 run:∀ {base:Nat} {W:World} {m:Nat} {bp:Option Addr} {bc:Nat} {sv ev:Value} {zs:List Int} {ss:List (SRec × Value)} {es:List SCho} {fs:List (List CFld × Value)} {ns:List Nat} {wk mt B:Nat} {left ml:Int},RCtx base W m bp bc sv ev zs ss es fs ns wk mt B left ml →
  ∀ (k r l d:Nat) (at':Int),TyM ss.length es k r l→(sortP k l=1→inZ (lenZ zs) at' (kSize k)=true) →
  Calls Tryd.prog 103 #[.pointer (some ⟨wk,0,none⟩),kidV k r l at' d true,.int .i64 room] W (RPost (flatZ (sRecs ss) es zs room k r l at' left) wk m mt left ml W)
structure StructRAt (room:Nat):Prop where
 run:∀ {base:Nat} {W:World} {m:Nat} {bp:Option Addr} {bc:Nat} {sv ev:Value} {zs:List Int} {ss:List (SRec × Value)} {es:List SCho} {fs:List (List CFld × Value)} {ns:List Nat} {wk mt B:Nat} {left ml:Int},RCtx base W m bp bc sv ev zs ss es fs ns wk mt B left ml →
  ∀ (r:Nat) (t:TabZ) (p:Int),r<ss.length→tabZ zs p=some t→0≤p∧p≤1000000 →
  Calls Tryd.prog 73 #[.pointer (some ⟨wk,0,none⟩),strV m r t p,.int .i64 room] W (RPost (structT (sRecs ss) zs (nextZ (sRecs ss) es zs room) r p t left) wk m mt left ml W)
structure ListRAt (room:Nat):Prop where
 run:∀ {base:Nat} {W:World} {m:Nat} {bp:Option Addr} {bc:Nat} {sv ev:Value} {zs:List Int} {ss:List (SRec × Value)} {es:List SCho} {fs:List (List CFld × Value)} {ns:List Nat} {wk mt B:Nat} {left ml:Int},RCtx base W m bp bc sv ev zs ss es fs ns wk mt B left ml →
  ∀ (k r l d:Nat) (at':Int),TyM ss.length es k r l→0<l →
  Calls Tryd.prog 130 #[.pointer (some ⟨wk,0,none⟩),kidV k r l at' d true,.int .i64 room] W (RPost (pointZ zs at' fun to=>listAtZ zs (nextZ (sRecs ss) es zs room) k r ((l:Int)-1) to left) wk m mt left ml W)
theorem tab_facts {zs:List Int}{p:Int}{t:TabZ}(hz:∀ i,0≤zs.getD i 0∧zs.getD i 0≤255)(h:tabZ zs p=some t):(inZ (lenZ zs) t.la t.size=true∧t.size % 2=0)∧4≤t.size∧t.size<65536∧4≤t.own∧t.own<65536∧inZ (lenZ zs) p t.own=true:=by
 unfold tabZ tabOf at h
 split at h
 · split at h
   · split at h
     · rename_i h3
       injection h with h
       subst h
       exact ⟨⟨h3.2.1,h3.1.2.1⟩,h3.1.1,(leAt_2 zs _ hz).2,h3.1.2.2,(leAt_2 zs _ hz).2,h3.2.2⟩
     · cases h
   · cases h
 · cases h
theorem tyM_sort {n:Nat}{es:List SCho}{k r l:Nat}(h:TyM n es k r l):(0<l∧sortP k l=3)∨(l=0∧0<kSize k∧k≤10∧sortP k l=1)∨(l=0∧(k=11∨k=12)∧sortP k l=2)∨(l=0∧k=13∧sortP k l=4):=by
 rcases Nat.eq_zero_or_pos l with h0|h0
 · subst h0
   have h1:=h.lo
   have h2:=h.hi
   rcases Nat.lt_or_ge 10 k with h3|h3
   · have h4:k=11∨k=12∨k=13:=by omega
     rcases h4 with rfl|rfl|rfl
     · exact .inr (.inr (.inl ⟨rfl,.inl rfl,rfl⟩))
     · exact .inr (.inr (.inl ⟨rfl,.inr rfl,rfl⟩))
     · exact .inr (.inr (.inr ⟨rfl,rfl,rfl⟩))
   · have h5:=k_size h1 h3
     refine .inr (.inl ⟨rfl,h5,h3,?_⟩)
     unfold sortP
     rw [if_neg (by decide),if_neg (by decide),if_pos h5]
 · refine .inl ⟨h0,?_⟩
   unfold sortP
   rw [if_pos (by omega)]
end Go.Proofs.YtcfjjocmiheiaaaDoor
