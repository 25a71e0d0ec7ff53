/-
  The law ViewTrees: of every plan and source it returns true, and nothing that was there is written. Conditions: those that each theorem names; the library's tables hold what the row lists.
-/
import Derived.Test.YtjeoekggdohhiaaDoorPkB12
import Derived.Test.YtjeoekggdohhiaaDoorPkB17
import Derived.Test.YtjeoekggdohhiaaDoorPkB19
import Derived.Test.YtjeoekggdohhiaaDoorPkB23
import Derived.Test.YtjeoekggdohhiaaDoorPkB24
import Derived.Test.YtjeoekggdohhiaaDoorPkB34
import Derived.Test.YtjeoekggdohhiaaDoorPkB46
import Derived.Test.YtjeoekggdohhiaaDoorPkB48
import Derived.Deep.RegionHeld3
namespace Go.Proofs.YtjeoekggdohhiaaDoor
open Go.ChangeShapes Go.WideShapes Go.ChangeAt Go.RowKit Go.Shelf

set_option maxRecDepth 100000 in
set_option maxHeartbeats 8000000 in
theorem vtrees_go (p : Plan) {a0 a1 b0 : Option Addr} {n0 e0 n1 c1 nb cb : Nat} (bs : List Int) (w : World) (hp : IsPlan w p a0 n0 e0 a1 n1 c1) (hb : Bytes w b0 bs) (hbn : bs.length = nb) (hbc : nb ≤ cb) (hT : Tabs w) :
    Calls Tryd.prog 3 #[.agg #[.slice a0 n0 e0, .slice a1 n1 c1, .int .u8 p.root, .bool p.tree], .slice b0 nb cb] w fun e w' => e = .returned (.bool true) ∧ Below w.heap.size w w' := by
  subst hbn
  have hb1 := (Below.refl w.heap.size w).alloc (Nat.le_refl _) (.cells #[.slice a0 n0 e0, .slice a1 n1 c1, .int .u8 p.root, .bool p.tree] 25)
  have HP := Lib.hid (hp.below hb1)
  have HT := Lib.hid (hT.below (Nat.le_refl _) hb1)
  have HBY := Lib.hid (hb.below (Nat.le_refl _) hb1)
  have HB0 := Lib.hid hb1
  have HQ1 := Lib.hid (heap_alloc_new w (.cells #[.slice a0 n0 e0, .slice a1 n1 c1, .int .u8 p.root, .bool p.tree] 25))
  have HBC := Lib.hid hbc
  clear hp hT hb hb1 hbc
  go_enter Tryd.func3, Tryd.ntmps3
  go_upto_region 1 with (fail)
  generalize w.alloc (.cells #[.slice a0 n0 e0, .slice a1 n1 c1, .int .u8 p.root, .bool p.tree] 25) = W0 at *
  go_wp2_with fail
  refine (awake7_any W0 HT.out).mono ?_
  rintro e W1 ⟨rfl, hb1⟩
  have HB1 := Lib.hid (HB0.out.trans (hb1.mono HB0.out.size))
  have HB01 := Lib.hid hb1
  have HQ11 := Lib.hid (blk_below HQ1.out hb1 (blk_lt HQ1.out))
  clear hb1 HB0 HQ1
  obtain ⟨_, y0', y1', y2', y3'⟩ := blk4p HQ11.out
  go_wp2_with fail
  refine (made_any p W1 (HP.out.below HB01.out)).mono ?_
  rintro e W2 ⟨hb2, hpost⟩
  have HB2 := Lib.hid (HB1.out.trans (hb2.mono HB1.out.size))
  have HB02 := Lib.hid (HB01.out.trans (hb2.mono HB01.out.size))
  clear hb2 y0' y1' y2' y3' HQ11 HB1 HB01
  rcases hpost with ⟨hok, ss, es, sv, ev, rfl, hss, hes, hr⟩ | ⟨hno, rfl⟩
  · obtain ⟨sa, sc, ea, ec, rfl, rfl⟩ := hr.forms
    have hlen := made_len hok hss
    have HFO := Lib.hid (made_flds (plan_nums HP.out) hss)
    have HSM := Lib.hid (made_schM hok (plan_nums HP.out) hss hes)
    have hrt : p.root % p.structs.length < ss.length := by rw [hlen.2.2]; exact Nat.mod_lt _ (by omega)
    have HRT := Lib.hid hrt
    have HR := Lib.hid hr
    clear hok hss hes hr hlen hrt
    generalize p.root % p.structs.length = rt at *
    go_upto_region 4 with (fail)
    have hba : Below W2.heap.size W2 (W2.alloc (.cells #[.slice sa ss.length sc, .slice ea es.length ec, .int .i64 rt] 30)) := (Below.refl _ _).alloc (Nat.le_refl _) _
    have HZ := Lib.hid (heap_alloc_new W2 (.cells #[.slice sa ss.length sc, .slice ea es.length ec, .int .i64 rt] 30))
    have HB3 := Lib.hid (HB2.out.trans (hba.mono HB2.out.size))
    have HB03 := Lib.hid (HB02.out.trans (hba.mono HB02.out.size))
    have HR3 := Lib.hid (HR.out.below hba)
    clear hba HR HB2 HB02
    generalize W2.alloc (.cells #[.slice sa ss.length sc, .slice ea es.length ec, .int .i64 rt] 30) = W3 at *
    generalize W2.heap.size = Z at *
    obtain ⟨_, z0, z1, z2, _⟩ := blk3 HZ.out
    by_cases hbig : 2000 < bs.length
    · go_wp2
      go_ret
      exact ⟨rfl, HB3.out⟩
    go_wp2_with fail
    refine (hvalue_any W3 HR3.out HSM.out HRT.out (HBY.out.below (Nat.le_refl _) HB03.out) rfl (by omega) HBC.out).mono ?_
    rintro e W4 ⟨⟨v, val, rfl, hiv, _, hh, hfit, hsm⟩, hb4⟩
    obtain ⟨ba, ka, bc, kc, rfl, _⟩ := hiv.form
    have HB4 := Lib.hid (HB3.out.trans (hb4.mono HB3.out.size))
    have HB04 := Lib.hid (HB03.out.trans (hb4.mono HB03.out.size))
    have HR4 := Lib.hid (HR3.out.below hb4)
    have HZ4 := Lib.hid (blk_below HZ.out hb4 (blk_lt HZ.out))
    have HIV := Lib.hid hiv
    have HSMV := Lib.hid hsm
    have HHF := Lib.hid (And.intro hh hfit)
    clear hb4 hiv hsm hh hfit HB3 HB03 HR3 HZ z0 z1 z2
    go_upto_region 7 with (fail)
    have hba : Below W4.heap.size W4 (W4.alloc (.cells #[.int .u64 v.num, .slice ba v.bytes.length bc, .slice ka v.kids.length kc, .bool v.has] 36)) := (Below.refl _ _).alloc (Nat.le_refl _) _
    have HQV := Lib.hid (heap_alloc_new W4 (.cells #[.int .u64 v.num, .slice ba v.bytes.length bc, .slice ka v.kids.length kc, .bool v.has] 36))
    have HB5 := Lib.hid (HB4.out.trans (hba.mono HB4.out.size))
    have HB05 := Lib.hid (HB04.out.trans (hba.mono HB04.out.size))
    have HR5 : Hid (CRows W1.heap.size _ (crow ss) es (.slice sa ss.length sc) (.slice ea es.length ec)) := Lib.hid ((HR4.out.below hba).crows)
    have HZ5 := Lib.hid (blk_below HZ4.out hba (blk_lt HZ4.out))
    have HV5 := Lib.hid (HIV.out.later hba)
    clear hba HB4 HB04 HR4 HZ4 HIV
    generalize W4.alloc (.cells #[.int .u64 v.num, .slice ba v.bytes.length bc, .slice ka v.kids.length kc, .bool v.has] 36) = W5 at *
    generalize W4.heap.size = VB at *
    obtain ⟨_, v0, v1, v2, v3⟩ := blk4p HQV.out
    go_wp2_with fail
    refine (of_any W5 v _ HV5.out).mono ?_
    rintro e W6 ⟨rfl, hb6⟩
    have HB6 := Lib.hid (HB5.out.trans (hb6.mono HB5.out.size))
    have HB06 := Lib.hid (HB05.out.trans (hb6.mono HB05.out.size))
    have HR6 := Lib.hid (HR5.out.below hb6)
    have HZ6 := Lib.hid (blk_below HZ5.out hb6 (blk_lt HZ5.out))
    have HV6 := Lib.hid (HV5.out.later hb6)
    have HQV6 := Lib.hid (blk_below HQV.out hb6 (blk_lt HQV.out))
    clear hb6 v0 v1 v2 v3 HB5 HB05 HR5 HZ5 HV5 HQV
    obtain ⟨_, z0, z1, z2, _⟩ := blk3 HZ6.out
    go_wp2_with fail
    refine (tree_any W6 rt rt HR6.out HFO.out v _ HV6.out HSMV.out HHF.out.1 HHF.out.2).mono ?_
    rintro e W7 ⟨⟨val7, rfl, hvh7⟩, hb7⟩
    obtain ⟨ta, ua, tc, uc, rfl, _⟩ := IsV.form hvh7
    have HB7 := Lib.hid (HB6.out.trans (hb7.mono HB6.out.size))
    have HB07 := Lib.hid (HB06.out.trans (hb7.mono HB06.out.size))
    have HR7 := Lib.hid (HR6.out.below hb7)
    have HZ7 := Lib.hid (blk_below HZ6.out hb7 (blk_lt HZ6.out))
    have HV7 := Lib.hid (HV6.out.later hb7)
    have HQV7 := Lib.hid (blk_below HQV6.out hb7 (blk_lt HQV6.out))
    have HT7 := Lib.hid hvh7.out
    clear hb7 hvh7 z0 z1 z2 HB6 HB06 HR6 HZ6 HV6 HQV6
    go_upto_region 9 with (fail)
    have hba : Below W7.heap.size W7 (W7.alloc (.cells #[.int .u64 v.num, .slice ta v.bytes.length tc, .slice ua v.kids.length uc, .bool v.has] 36)) := (Below.refl _ _).alloc (Nat.le_refl _) _
    have HQT := Lib.hid (heap_alloc_new W7 (.cells #[.int .u64 v.num, .slice ta v.bytes.length tc, .slice ua v.kids.length uc, .bool v.has] 36))
    have HB8 := Lib.hid (HB7.out.trans (hba.mono HB7.out.size))
    have HB08 := Lib.hid (HB07.out.trans (hba.mono HB07.out.size))
    have HR8 := Lib.hid (HR7.out.below hba)
    have HZ8 := Lib.hid (blk_below HZ7.out hba (blk_lt HZ7.out))
    have HV8 := Lib.hid (HV7.out.later hba)
    have HQV8 := Lib.hid (blk_below HQV7.out hba (blk_lt HQV7.out))
    have HT8 := Lib.hid (HT7.out.later hba)
    clear hba HB7 HB07 HR7 HZ7 HV7 HQV7 HT7
    generalize W7.alloc (.cells #[.int .u64 v.num, .slice ta v.bytes.length tc, .slice ua v.kids.length uc, .bool v.has] 36) = W8 at *
    generalize W7.heap.size = TB at *
    obtain ⟨_, z0, z1, z2, _⟩ := blk3 HZ8.out
    obtain ⟨_, v0, v1, v2, v3⟩ := blk4p HQV8.out
    obtain ⟨_, t0, t1, t2, t3⟩ := blk4p HQT.out
    have HFT : Hid (∀ W, Below W8.heap.size W8 W → Calls Tryd.prog 13 #[.agg #[.slice sa ss.length sc, .slice ea es.length ec, .int .i64 rt], .int .i64 rt, .agg #[.int .u64 v.num, .slice ba v.bytes.length bc, .slice ka v.kids.length kc, .bool v.has]] W fun e w' => e = .returned (.bool true) ∧ Below W.heap.size W w') := Lib.hid (fun W hb => by
      have h := ftop_any W rt rt (HR8.out.below hb) (HT.out.below (Nat.le_refl _) (HB08.out.trans (hb.mono HB08.out.size))) HFO.out v _ (HV8.out.later hb)
      have h1 := HHF.out.1
      have h2 := HHF.out.2
      rw [h2, Bool.and_true] at h
      exact h.mono (fun e w' ⟨h3, h4⟩ => ⟨by rw [h3, h1], h4⟩))
    have HTR : Hid (∀ W, Below W8.heap.size W8 W → ∀ va, IsV W v va → Calls Tryd.prog 12 #[.agg #[.slice sa ss.length sc, .slice ea es.length ec, .int .i64 rt], .int .i64 rt, viewI va] W fun e w' => (∃ val', e = .returned val' ∧ VH (newS W.heap.size) w' v val') ∧ Below W.heap.size W w') := Lib.hid (fun W hb va hva => tree_any W rt rt (HR8.out.below hb) HFO.out v _ hva HSMV.out HHF.out.1 HHF.out.2)
    refine wp_region_noPanic ?_
    refine wp_region_held_drew (S := (fun w' => w'.cell? ⟨Z, 0, none⟩ = some (.slice sa ss.length sc) ∧ w'.cell? ⟨Z, 1, none⟩ = some (.slice ea es.length ec) ∧ w'.cell? ⟨Z, 2, none⟩ = some (.int .i64 rt) ∧ w'.cell? ⟨VB, 0, none⟩ = some (.int .u64 v.num) ∧ w'.cell? ⟨VB, 1, none⟩ = some (.slice ba v.bytes.length bc) ∧ w'.cell? ⟨VB, 2, none⟩ = some (.slice ka v.kids.length kc) ∧ w'.cell? ⟨VB, 3, none⟩ = some (.bool v.has) ∧ w'.cell? ⟨TB, 0, none⟩ = some (.int .u64 v.num) ∧ w'.cell? ⟨TB, 1, none⟩ = some (.slice ta v.bytes.length tc) ∧ w'.cell? ⟨TB, 2, none⟩ = some (.slice ua v.kids.length uc) ∧ w'.cell? ⟨TB, 3, none⟩ = some (.bool v.has))) (by kernel_rfl) ⟨z0, z1, z2, v0, v1, v2, v3, t0, t1, t2, t3⟩ ?_
    intro hS
    refine wpAnyH_take (i := 0) (v := .agg #[.slice sa ss.length sc, .slice ea es.length ec, .int .i64 rt]) rfl (by kernel_rfl) (by kernel_rfl) (by kernel_rfl) (fun _ _ _ h => h) (Or.inl ⟨by rfl, ?_⟩) hS ?_
    · intro w' hSw
      obtain ⟨z0, z1, z2, v0, v1, v2, v3, t0, t1, t2, t3⟩ := hSw
      go_simp
    simp only [Act.put, List.getElem_toArray, List.getElem_cons_zero, List.setIfInBounds_toArray, List.set_cons_zero, List.set_cons_succ]
    refine wpAnyH_take (i := 1) (v := .pointer (some ⟨Z, 2, none⟩)) rfl (by kernel_rfl) (by kernel_rfl) (by kernel_rfl) (fun _ _ _ h => h) (Or.inl ⟨by rfl, ?_⟩) hS ?_
    · intro w' hSw
      obtain ⟨z0, z1, z2, v0, v1, v2, v3, t0, t1, t2, t3⟩ := hSw
      go_simp
    simp only [Act.put, List.getElem_toArray, List.getElem_cons_succ, List.getElem_cons_zero, List.setIfInBounds_toArray, List.set_cons_zero, List.set_cons_succ]
    refine wpAnyH_take (i := 2) (v := .int .i64 rt) rfl (by kernel_rfl) (by kernel_rfl) (by kernel_rfl) (fun _ _ _ h => h) (Or.inl ⟨by rfl, ?_⟩) hS ?_
    · intro w' hSw
      obtain ⟨z0, z1, z2, v0, v1, v2, v3, t0, t1, t2, t3⟩ := hSw
      go_simp
    simp only [Act.put, List.getElem_toArray, List.getElem_cons_succ, List.getElem_cons_zero, List.setIfInBounds_toArray, List.set_cons_zero, List.set_cons_succ]
    refine wpAnyH_take (i := 3) (v := .agg #[.int .u64 v.num, .slice ba v.bytes.length bc, .slice ka v.kids.length kc, .bool v.has]) rfl (by kernel_rfl) (by kernel_rfl) (by kernel_rfl) (fun _ _ _ h => h) (Or.inl ⟨by rfl, ?_⟩) hS ?_
    · intro w' hSw
      obtain ⟨z0, z1, z2, v0, v1, v2, v3, t0, t1, t2, t3⟩ := hSw
      go_simp
    simp only [Act.put, List.getElem_toArray, List.getElem_cons_succ, List.getElem_cons_zero, List.setIfInBounds_toArray, List.set_cons_zero, List.set_cons_succ]
    refine wpAnyH_ready (rs := [4]) (by kernel_rfl) (by decide) (AllReadyH.cons rfl (fun K hK => ?_) AllReadyH.nil)
    rw [if_pos (by kernel_rfl)]
    go_simp
    refine (HFT.out W8.drew (Below.refl _ W8).drew).mono ?_
    rintro e W9 ⟨rfl, hbW9⟩
    have hxW9 : Below W8.heap.size W8 W9 := (Below.refl _ W8).drew.trans hbW9
    have nz0 := cell_stays hxW9 z0
    have nz1 := cell_stays hxW9 z1
    have nz2 := cell_stays hxW9 z2
    have nv0 := cell_stays hxW9 v0
    have nv1 := cell_stays hxW9 v1
    have nv2 := cell_stays hxW9 v2
    have nv3 := cell_stays hxW9 v3
    have nt0 := cell_stays hxW9 t0
    have nt1 := cell_stays hxW9 t1
    have nt2 := cell_stays hxW9 t2
    have nt3 := cell_stays hxW9 t3
    refine hK.out _ _ ⟨nz0, nz1, nz2, nv0, nv1, nv2, nv3, nt0, nt1, nt2, nt3⟩ (fun hS => ?_)
    clear nz0 nz1 nz2 nv0 nv1 nv2 nv3 nt0 nt1 nt2 nt3
    refine wpAnyH_take (i := 5) (v := .bool true) rfl (by kernel_rfl) (by kernel_rfl) (by kernel_rfl) (fun _ _ _ h => h) (Or.inl ⟨by rfl, ?_⟩) hS ?_
    · intro w' hSw
      obtain ⟨z0, z1, z2, v0, v1, v2, v3, t0, t1, t2, t3⟩ := hSw
      go_simp
    simp only [Act.put, List.getElem_toArray, List.getElem_cons_succ, List.getElem_cons_zero, List.setIfInBounds_toArray, List.set_cons_zero, List.set_cons_succ]
    refine wpAnyH_take (i := 6) (v := .agg #[.int .u64 v.num, .slice ta v.bytes.length tc, .slice ua v.kids.length uc, .bool v.has]) rfl (by kernel_rfl) (by kernel_rfl) (by kernel_rfl) (fun _ _ _ h => h) (Or.inl ⟨by rfl, ?_⟩) hS ?_
    · intro w' hSw
      obtain ⟨z0, z1, z2, v0, v1, v2, v3, t0, t1, t2, t3⟩ := hSw
      go_simp
    simp only [Act.put, List.getElem_toArray, List.getElem_cons_succ, List.getElem_cons_zero, List.setIfInBounds_toArray, List.set_cons_zero, List.set_cons_succ]
    refine wpAnyH_take (i := 7) (v := .agg #[.int .u64 v.num, .slice ba v.bytes.length bc, .slice ka v.kids.length kc, .bool v.has]) rfl (by kernel_rfl) (by kernel_rfl) (by kernel_rfl) (fun _ _ _ h => h) (Or.inl ⟨by rfl, ?_⟩) hS ?_
    · intro w' hSw
      obtain ⟨z0, z1, z2, v0, v1, v2, v3, t0, t1, t2, t3⟩ := hSw
      go_simp
    simp only [Act.put, List.getElem_toArray, List.getElem_cons_succ, List.getElem_cons_zero, List.setIfInBounds_toArray, List.set_cons_zero, List.set_cons_succ]
    refine wpAnyH_ready (rs := [8]) (by kernel_rfl) (by decide) (AllReadyH.cons rfl (fun K hK => ?_) AllReadyH.nil)
    rw [if_pos (by kernel_rfl)]
    go_simp
    refine (same_any v W9 v _ _ (HT8.out.later hxW9) (HV8.out.later hxW9)).mono ?_
    rintro e W10 ⟨⟨r, rfl, hiff⟩, hbW10⟩
    have hxW10 : Below W8.heap.size W8 W10 := hxW9.trans (hbW10.mono hxW9.size)
    obtain rfl : r = true := hiff.2 rfl
    have nz0 := cell_stays hxW10 z0
    have nz1 := cell_stays hxW10 z1
    have nz2 := cell_stays hxW10 z2
    have nv0 := cell_stays hxW10 v0
    have nv1 := cell_stays hxW10 v1
    have nv2 := cell_stays hxW10 v2
    have nv3 := cell_stays hxW10 v3
    have nt0 := cell_stays hxW10 t0
    have nt1 := cell_stays hxW10 t1
    have nt2 := cell_stays hxW10 t2
    have nt3 := cell_stays hxW10 t3
    refine hK.out _ _ ⟨nz0, nz1, nz2, nv0, nv1, nv2, nv3, nt0, nt1, nt2, nt3⟩ (fun hS => ?_)
    clear nz0 nz1 nz2 nv0 nv1 nv2 nv3 nt0 nt1 nt2 nt3
    refine wpAnyH_take (i := 9) (v := .bool true) rfl (by kernel_rfl) (by kernel_rfl) (by kernel_rfl) (fun _ _ _ h => h) (Or.inl ⟨by rfl, ?_⟩) hS ?_
    · intro w' hSw
      obtain ⟨z0, z1, z2, v0, v1, v2, v3, t0, t1, t2, t3⟩ := hSw
      go_simp
    simp only [Act.put, List.getElem_toArray, List.getElem_cons_succ, List.getElem_cons_zero, List.setIfInBounds_toArray, List.set_cons_zero, List.set_cons_succ]
    refine wpAnyH_take (i := 10) (v := .bool true) rfl (by kernel_rfl) (by kernel_rfl) (by kernel_rfl) (fun _ _ _ h => h) (Or.inl ⟨by rfl, ?_⟩) hS ?_
    · intro w' hSw
      obtain ⟨z0, z1, z2, v0, v1, v2, v3, t0, t1, t2, t3⟩ := hSw
      go_simp
    simp only [Act.put, List.getElem_toArray, List.getElem_cons_succ, List.getElem_cons_zero, List.setIfInBounds_toArray, List.set_cons_zero, List.set_cons_succ]
    refine wpAnyH_take (i := 11) (v := .agg #[.slice sa ss.length sc, .slice ea es.length ec, .int .i64 rt]) rfl (by kernel_rfl) (by kernel_rfl) (by kernel_rfl) (fun _ _ _ h => h) (Or.inl ⟨by rfl, ?_⟩) hS ?_
    · intro w' hSw
      obtain ⟨z0, z1, z2, v0, v1, v2, v3, t0, t1, t2, t3⟩ := hSw
      go_simp
    simp only [Act.put, List.getElem_toArray, List.getElem_cons_succ, List.getElem_cons_zero, List.setIfInBounds_toArray, List.set_cons_zero, List.set_cons_succ]
    refine wpAnyH_take (i := 12) (v := .pointer (some ⟨Z, 2, none⟩)) rfl (by kernel_rfl) (by kernel_rfl) (by kernel_rfl) (fun _ _ _ h => h) (Or.inl ⟨by rfl, ?_⟩) hS ?_
    · intro w' hSw
      obtain ⟨z0, z1, z2, v0, v1, v2, v3, t0, t1, t2, t3⟩ := hSw
      go_simp
    simp only [Act.put, List.getElem_toArray, List.getElem_cons_succ, List.getElem_cons_zero, List.setIfInBounds_toArray, List.set_cons_zero, List.set_cons_succ]
    refine wpAnyH_take (i := 13) (v := .int .i64 rt) rfl (by kernel_rfl) (by kernel_rfl) (by kernel_rfl) (fun _ _ _ h => h) (Or.inl ⟨by rfl, ?_⟩) hS ?_
    · intro w' hSw
      obtain ⟨z0, z1, z2, v0, v1, v2, v3, t0, t1, t2, t3⟩ := hSw
      go_simp
    simp only [Act.put, List.getElem_toArray, List.getElem_cons_succ, List.getElem_cons_zero, List.setIfInBounds_toArray, List.set_cons_zero, List.set_cons_succ]
    refine wpAnyH_take (i := 14) (v := .agg #[.int .u64 v.num, .slice ta v.bytes.length tc, .slice ua v.kids.length uc, .bool v.has]) rfl (by kernel_rfl) (by kernel_rfl) (by kernel_rfl) (fun _ _ _ h => h) (Or.inl ⟨by rfl, ?_⟩) hS ?_
    · intro w' hSw
      obtain ⟨z0, z1, z2, v0, v1, v2, v3, t0, t1, t2, t3⟩ := hSw
      go_simp
    simp only [Act.put, List.getElem_toArray, List.getElem_cons_succ, List.getElem_cons_zero, List.setIfInBounds_toArray, List.set_cons_zero, List.set_cons_succ]
    refine wpAnyH_take (i := 17) (v := .agg #[.int .u64 v.num, .slice ba v.bytes.length bc, .slice ka v.kids.length kc, .bool v.has]) rfl (by kernel_rfl) (by kernel_rfl) (by kernel_rfl) (fun _ _ _ h => h) (Or.inl ⟨by rfl, ?_⟩) hS ?_
    · intro w' hSw
      obtain ⟨z0, z1, z2, v0, v1, v2, v3, t0, t1, t2, t3⟩ := hSw
      go_simp
    simp only [Act.put, List.getElem_toArray, List.getElem_cons_succ, List.getElem_cons_zero, List.setIfInBounds_toArray, List.set_cons_zero, List.set_cons_succ]
    refine wpAnyH_ready (rs := [15]) (by kernel_rfl) (by decide) (AllReadyH.cons rfl (fun K hK => ?_) AllReadyH.nil)
    rw [if_pos (by kernel_rfl)]
    go_simp
    refine (of_any W10 v _ (HT8.out.later hxW10)).mono ?_
    rintro e W11 ⟨rfl, hbW11⟩
    have hxW11 : Below W8.heap.size W8 W11 := hxW10.trans (hbW11.mono hxW10.size)
    have nz0 := cell_stays hxW11 z0
    have nz1 := cell_stays hxW11 z1
    have nz2 := cell_stays hxW11 z2
    have nv0 := cell_stays hxW11 v0
    have nv1 := cell_stays hxW11 v1
    have nv2 := cell_stays hxW11 v2
    have nv3 := cell_stays hxW11 v3
    have nt0 := cell_stays hxW11 t0
    have nt1 := cell_stays hxW11 t1
    have nt2 := cell_stays hxW11 t2
    have nt3 := cell_stays hxW11 t3
    refine hK.out _ _ ⟨nz0, nz1, nz2, nv0, nv1, nv2, nv3, nt0, nt1, nt2, nt3⟩ (fun hS => ?_)
    clear nz0 nz1 nz2 nv0 nv1 nv2 nv3 nt0 nt1 nt2 nt3
    refine wpAnyH_ready (rs := [16]) (by kernel_rfl) (by decide) (AllReadyH.cons rfl (fun K hK => ?_) AllReadyH.nil)
    rw [if_pos (by kernel_rfl)]
    go_simp
    refine (HTR.out W11 hxW11 _ (HT8.out.later hxW11)).mono ?_
    rintro e W12 ⟨⟨val3, rfl, hvh3⟩, hbW12⟩
    have hxW12 : Below W8.heap.size W8 W12 := hxW11.trans (hbW12.mono hxW11.size)
    have hiv3 := hvh3.out
    have nz0 := cell_stays hxW12 z0
    have nz1 := cell_stays hxW12 z1
    have nz2 := cell_stays hxW12 z2
    have nv0 := cell_stays hxW12 v0
    have nv1 := cell_stays hxW12 v1
    have nv2 := cell_stays hxW12 v2
    have nv3 := cell_stays hxW12 v3
    have nt0 := cell_stays hxW12 t0
    have nt1 := cell_stays hxW12 t1
    have nt2 := cell_stays hxW12 t2
    have nt3 := cell_stays hxW12 t3
    refine hK.out _ _ ⟨nz0, nz1, nz2, nv0, nv1, nv2, nv3, nt0, nt1, nt2, nt3⟩ (fun hS => ?_)
    clear nz0 nz1 nz2 nv0 nv1 nv2 nv3 nt0 nt1 nt2 nt3
    refine wpAnyH_ready (rs := [18]) (by kernel_rfl) (by decide) (AllReadyH.cons rfl (fun K hK => ?_) AllReadyH.nil)
    rw [if_pos (by kernel_rfl)]
    go_simp
    refine (same_any v W12 v _ _ hiv3 (HV8.out.later hxW12)).mono ?_
    rintro e W13 ⟨⟨r, rfl, hiff⟩, hbW13⟩
    have hxW13 : Below W8.heap.size W8 W13 := hxW12.trans (hbW13.mono hxW12.size)
    obtain rfl : r = true := hiff.2 rfl
    have nz0 := cell_stays hxW13 z0
    have nz1 := cell_stays hxW13 z1
    have nz2 := cell_stays hxW13 z2
    have nv0 := cell_stays hxW13 v0
    have nv1 := cell_stays hxW13 v1
    have nv2 := cell_stays hxW13 v2
    have nv3 := cell_stays hxW13 v3
    have nt0 := cell_stays hxW13 t0
    have nt1 := cell_stays hxW13 t1
    have nt2 := cell_stays hxW13 t2
    have nt3 := cell_stays hxW13 t3
    refine hK.out _ _ ⟨nz0, nz1, nz2, nv0, nv1, nv2, nv3, nt0, nt1, nt2, nt3⟩ (fun hS => ?_)
    clear nz0 nz1 nz2 nv0 nv1 nv2 nv3 nt0 nt1 nt2 nt3
    refine wpAnyH_take (i := 19) (v := .bool true) rfl (by kernel_rfl) (by kernel_rfl) (by kernel_rfl) (fun _ _ _ h => h) (Or.inl ⟨by rfl, ?_⟩) hS ?_
    · intro w' hSw
      obtain ⟨z0, z1, z2, v0, v1, v2, v3, t0, t1, t2, t3⟩ := hSw
      go_simp
    simp only [Act.put, List.getElem_toArray, List.getElem_cons_succ, List.getElem_cons_zero, List.setIfInBounds_toArray, List.set_cons_zero, List.set_cons_succ]
    refine wpAnyH_take (i := 20) (v := .bool true) rfl (by kernel_rfl) (by kernel_rfl) (by kernel_rfl) (fun _ _ _ h => h) (Or.inl ⟨by rfl, ?_⟩) hS ?_
    · intro w' hSw
      obtain ⟨z0, z1, z2, v0, v1, v2, v3, t0, t1, t2, t3⟩ := hSw
      go_simp
    simp only [Act.put, List.getElem_toArray, List.getElem_cons_succ, List.getElem_cons_zero, List.setIfInBounds_toArray, List.set_cons_zero, List.set_cons_succ]
    refine wpAnyH_done (by kernel_rfl) ?_ _
    refine NoPanic.normal ?_
    try simp only [Exit.then]
    have HX13 := Lib.hid (HB8.out.trans (hxW13.mono HB8.out.size))
    clear hS hxW9 hxW10 hxW11 hxW12 hxW13 hbW9 hbW10 hbW11 hbW12 hbW13 hvh3 hiv3
    go_wp2
    go_ret
    exact ⟨rfl, HX13.out⟩
  · go_wp2
    go_ret
    exact ⟨rfl, HB2.out.alloc (by have := HB2.out.size; omega) _⟩
theorem bytes_row {w : World} {a : Option Addr} {len cap : Nat} {zs : List Int} (h : IsRow .u8 w a len cap zs) : Bytes w a (zs.take len) ∧ (zs.take len).length = len ∧ len ≤ cap ∧ (cap : Int) ≤ 9223372036854775807 := by
  obtain ⟨h1, h2, h3, h4, h5⟩ := h
  refine ⟨⟨fun i => getD_take_int zs len i h4, fun hne => ?_⟩, by rw [List.length_take]; omega, h1, by unfold maxLen at h2; omega⟩
  have hz : zs ≠ [] := fun e => hne (by rw [e]; exact List.take_nil)
  obtain ⟨b, off, e, hlt, hc⟩ := h5 hz
  refine ⟨b, off, e, hlt, fun i hi => ?_⟩
  rw [List.length_take] at hi
  rw [hc i (by omega), List.getD, List.getD, List.getElem?_take, if_pos (by omega)]
theorem viewTrees_walk (p : Plan) (b0 : Option Addr) (nb cb : Nat) (z1 : List Int) {a0 a1 : Option Addr} {n0 e0 n1 c1 : Nat} (w : World) (hp : IsPlan w p a0 n0 e0 a1 n1 c1) (h1 : IsRow .u8 w b0 nb cb z1) (hT : Tabs w) :
    Calls Tryd.prog 3 #[.agg #[.slice a0 n0 e0, .slice a1 n1 c1, .int .u8 p.root, .bool p.tree], .slice b0 nb cb] w fun e w' => e = .returned (.bool true) ∧ Below w.heap.size w w' := by
  obtain ⟨k1, k2, k3, _⟩ := bytes_row h1
  exact vtrees_go p _ w hp k1 k2 k3 hT
end Go.Proofs.YtjeoekggdohhiaaDoor
