/-
  The statement of the law JsonwriteMeters, from its walk: for every input that can be read the law returns true, and its arguments read as they did. Conditions: those of the given row (the listed tables hold what the program's text lays; the card ties them).
-/
import Derived.Test.YtiknhkkeifemcaaGreatDoorPkM7
import Derived.Test.YtiknhkkeifemcaaGreatDoorPkM32
import Derived.Test.YtiknhkkeifemcaaGreatDoorPkM38
import Derived.Test.YtiknhkkeifemcaaGreatDoorPkM47
import Derived.Deep.RegionHeld3
import Derived.Test.YtiknhkkeifemcaaGreatDoorCards
import Derived.Test.YtiknhkkeifemcaaGreatDoorTie
namespace Go.Proofs.YtiknhkkeifemcaaGreatDoor
open Go.ChangeShapes Go.WideShapes Go.ChangeAt Go.RowKit Go.Shelf

theorem JwOut.later {o : List Int} {L : Int} {W X Y : World} {v n : Value} (h : JwOut o L W X v n) (hb : Below X.heap.size X Y) : JwOut o L W Y v n := by
  obtain ⟨h1, h2⟩ := h
  refine ⟨h1.trans (hb.mono h1.size), ?_⟩
  rcases h2 with ⟨g, hv, hn, ho, hl⟩ | h2 | h2
  · exact .inl ⟨g, hv, hn, ho.below hb ho.facts.2.2.1, hl⟩
  · exact .inr (.inl h2)
  · exact .inr (.inr h2)
set_option maxRecDepth 100000 in
set_option maxHeartbeats 16000000 in
theorem jwmet_go (p : Plan) {a0 a1 b0 : Option Addr} {n0 e0 n1 c1 nb cb : Nat} (bs : List Int) (bud : Int) (hbu : -9223372036854775808 ≤ bud ∧ bud ≤ 9223372036854775807) (w : World) (hp : IsPlan w p a0 n0 e0 a1 n1 c1) (hb : Bytes w b0 bs) (hbn : bs.length = nb) (hbc : nb ≤ cb) (hbm : (cb : Int) ≤ 9223372036854775807) (hT : PowT w) :
    Calls Tryz.prog 13 #[.agg #[.slice a0 n0 e0, .slice a1 n1 c1, .int .u8 p.root, .bool p.tree], .slice b0 nb cb, .int .i64 bud] w fun e w' => e = .returned (.bool true) ∧ Below w.heap.size w w' := by
  subst hbn
  have hb1 := (Below.refl w.heap.size w).alloc (Nat.le_refl _) (.cells #[.slice a0 n0 e0, .slice a1 n1 c1, .int .u8 p.root, .bool p.tree] 25)
  have HP := Lib.hid (hp.below hb1)
  have HT := Lib.hid (hT.below hb1)
  have HBY := Lib.hid (hb.below (Nat.le_refl _) hb1)
  have HB0 := Lib.hid hb1
  have HQ1 := Lib.hid (heap_alloc_new w (.cells #[.slice a0 n0 e0, .slice a1 n1 c1, .int .u8 p.root, .bool p.tree] 25))
  have HBC := Lib.hid hbc
  have HBM := Lib.hid hbm
  clear hp hT hb hb1 hbc hbm
  go_enter Tryz.func13, Tryz.ntmps13
  go_upto_region 1 with (fail)
  generalize w.alloc (.cells #[.slice a0 n0 e0, .slice a1 n1 c1, .int .u8 p.root, .bool p.tree] 25) = W0 at *
  go_wp2_with fail
  refine (awake15_any W0 HT.out).mono ?_
  rintro e W1 ⟨rfl, hb1⟩
  have HB1 := Lib.hid (HB0.out.trans (hb1.mono HB0.out.size))
  have HB01 := Lib.hid hb1
  have HQ11 := Lib.hid (blk_below HQ1.out hb1 (blk_lt HQ1.out))
  clear hb1 HB0 HQ1
  obtain ⟨_, y0', y1', y2', y3'⟩ := blk4p HQ11.out
  go_wp2_with fail
  refine (made_any p W1 (HP.out.below HB01.out)).mono ?_
  rintro e W2 ⟨hb2, hpost⟩
  have HB2 := Lib.hid (HB1.out.trans (hb2.mono HB1.out.size))
  have HB02 := Lib.hid (HB01.out.trans (hb2.mono HB01.out.size))
  clear hb2 y0' y1' y2' y3' HQ11 HB1 HB01
  rcases hpost with ⟨hok, ss, es, sv, ev, rfl, hss, hes, hr⟩ | ⟨hno, rfl⟩
  · obtain ⟨sa, sc, ea, ec, rfl, rfl⟩ := hr.forms
    have hlen := made_len hok hss
    have hm := made_schM hok (plan_nums HP.out) hss hes
    have HSM := Lib.hid hm
    have HJK := Lib.hid (made_jwok hok hss hes hm)
    have hrt : p.root % p.structs.length < ss.length := by rw [hlen.2.2]; exact Nat.mod_lt _ (by omega)
    have HRT := Lib.hid hrt
    have HR := Lib.hid hr
    have HFL : Hid (∀ (root : Nat) (q : PV) (n : Nat), Wt q (1700 * (n + 1)) → (formJ (ss.map Prod.fst) (es.map Prod.fst) 12 root q).length + 1 ≤ 750 * (1700 * (n + 1))) := Lib.hid (fun root q n hw => by rw [hss, hes]; exact formJ_len hok 12 root hw)
    clear hok hss hes hr hlen hrt hm
    generalize p.root % p.structs.length = rt at *
    go_upto_region 4 with (fail)
    have hba : Below W2.heap.size W2 (W2.alloc (.cells #[.slice sa ss.length sc, .slice ea es.length ec, .int .i64 rt] 30)) := (Below.refl _ _).alloc (Nat.le_refl _) _
    have HZ := Lib.hid (heap_alloc_new W2 (.cells #[.slice sa ss.length sc, .slice ea es.length ec, .int .i64 rt] 30))
    have HB3 := Lib.hid (HB2.out.trans (hba.mono HB2.out.size))
    have HB03 := Lib.hid (HB02.out.trans (hba.mono HB02.out.size))
    have HR3 := Lib.hid (HR.out.below hba)
    clear hba HR HB2 HB02
    generalize W2.alloc (.cells #[.slice sa ss.length sc, .slice ea es.length ec, .int .i64 rt] 30) = W3 at *
    generalize W2.heap.size = Z at *
    obtain ⟨_, z0, z1, z2, _⟩ := blk3 HZ.out
    by_cases hbig : 2000 < bs.length
    · go_wp2
      go_ret
      exact ⟨rfl, HB3.out⟩
    have hbL : bs.length ≤ 2000 := by omega
    go_upto_region 6 with (fail)
    go_wp2_with fail
    refine (hvalue_wt W3 HR3.out HSM.out HRT.out (HBY.out.below (Nat.le_refl _) HB03.out) rfl (by omega) HBC.out).mono ?_
    rintro e W4 ⟨⟨v, val, rfl, hv, _, hh, hf, hs, hw⟩, hb4⟩
    obtain ⟨ba, ka, bc, kc, rfl, _, _, _, _, _, _, _⟩ := hv.form
    have HZ4 := Lib.hid (blk_below HZ.out hb4 (blk_lt HZ.out))
    have HB4 := Lib.hid (HB3.out.trans (hb4.mono HB3.out.size))
    have HB04 := Lib.hid (HB03.out.trans (hb4.mono HB03.out.size))
    have HR4 := Lib.hid (HR3.out.below hb4)
    have HLEN := Lib.hid (HFL.out rt v bs.length hw)
    have HFT : Hid (fitsP ((ss.map Prod.fst).map cR) (es.map Prod.fst) 12 13 rt 0 v = true) := Lib.hid (by
      have h1 : (crow ss).map Prod.fst = (ss.map Prod.fst).map cR := by unfold crow; rw [List.map_map, List.map_map]; rfl
      rw [← h1]
      exact hf)
    have HHS := Lib.hid (And.intro hh hs)
    clear hb4 hh hf hs hw HZ HB3 HB03 HR3 z0 z1 z2 HFL HSM
    obtain ⟨_, z0, z1, z2, _⟩ := blk3 HZ4.out
    go_upto_region 7 with (fail)
    have hbv : Below W4.heap.size W4 (W4.alloc (.cells #[.int .u64 v.num, .slice ba v.bytes.length bc, .slice ka v.kids.length kc, .bool v.has] 40)) := (Below.refl _ _).alloc (Nat.le_refl _) _
    have HU := Lib.hid (heap_alloc_new W4 (.cells #[.int .u64 v.num, .slice ba v.bytes.length bc, .slice ka v.kids.length kc, .bool v.has] 40))
    have HZ5 := Lib.hid (blk_below HZ4.out hbv (blk_lt HZ4.out))
    have HB5 := Lib.hid (HB4.out.trans (hbv.mono HB4.out.size))
    have HB05 := Lib.hid (HB04.out.trans (hbv.mono HB04.out.size))
    have HR5 := Lib.hid (HR4.out.below hbv)
    have HV5 := Lib.hid (hv.later hbv)
    clear hbv hv HZ4 HB4 HB04 HR4 z0 z1 z2
    generalize W4.alloc (.cells #[.int .u64 v.num, .slice ba v.bytes.length bc, .slice ka v.kids.length kc, .bool v.has] 40) = W5 at *
    generalize W4.heap.size = U at *
    have HC : Hid (∀ X, Below W5.heap.size W5 X → X.cell? ⟨Z, 0, none⟩ = some (.slice sa ss.length sc) ∧ X.cell? ⟨Z, 1, none⟩ = some (.slice ea es.length ec) ∧ X.cell? ⟨Z, 2, none⟩ = some (.int .i64 rt) ∧ X.cell? ⟨U, 0, none⟩ = some (.int .u64 v.num) ∧ X.cell? ⟨U, 1, none⟩ = some (.slice ba v.bytes.length bc) ∧ X.cell? ⟨U, 2, none⟩ = some (.slice ka v.kids.length kc) ∧ X.cell? ⟨U, 3, none⟩ = some (.bool v.has)) := Lib.hid (fun X hX => by
      obtain ⟨_, z0, z1, z2, _⟩ := blk3 (blk_below HZ5.out hX (blk_lt HZ5.out))
      obtain ⟨_, u0, u1, u2, u3⟩ := blk4p (blk_below HU.out hX (blk_lt HU.out))
      exact ⟨z0, z1, z2, u0, u1, u2, u3⟩)
    have HPT := Lib.hid (HT.out.below HB05.out)
    have HWR := Lib.hid (fun (W : World) (mk : Nat) (left : Int) (hbW : Below W5.heap.size W5 W) (hmk : W5.heap.size ≤ mk) (hm : W.heap[mk]? = some (.cells #[.int .i64 left, .bool false] 152 (0, 0))) (hl0 : 0 ≤ left) (hl1 : left ≤ 9223372036854775807) => jwrite_of HR5.out HJK.out HRT.out HPT.out HV5.out HHS.out.2 HFT.out HHS.out.1 hbW hmk hm hl0 hl1)
    have HLO : Hid (20 * ((formJ (ss.map Prod.fst) (es.map Prod.fst) 12 rt v).length : Int) ≤ 1099511627776) := Lib.hid (by have := HLEN.out; omega)
    generalize formJ (ss.map Prod.fst) (es.map Prod.fst) 12 rt v = o at *
    clear HZ5 HU HR5 HJK HRT HHS HFT HPT HLEN hbig hbL
    have HX0 := Lib.hid (Below.refl W5.heap.size W5)
    refine wp_region_noPanic ?_
    refine wp_region_held_drew (S := (fun w' => w'.cell? ⟨Z, 0, none⟩ = some (.slice sa ss.length sc) ∧ w'.cell? ⟨Z, 1, none⟩ = some (.slice ea es.length ec) ∧ w'.cell? ⟨Z, 2, none⟩ = some (.int .i64 rt) ∧ w'.cell? ⟨U, 0, none⟩ = some (.int .u64 v.num) ∧ w'.cell? ⟨U, 1, none⟩ = some (.slice ba v.bytes.length bc) ∧ w'.cell? ⟨U, 2, none⟩ = some (.slice ka v.kids.length kc) ∧ w'.cell? ⟨U, 3, none⟩ = some (.bool v.has))) (by kernel_rfl) (HC.out _ HX0.out.drew) ?_
    intro hS
    refine wpAnyH_take (i := 0) (v := .agg #[.slice sa ss.length sc, .slice ea es.length ec, .int .i64 rt]) rfl (by kernel_rfl) (by kernel_rfl) (by kernel_rfl) (fun _ _ _ h => h) (Or.inl ⟨by rfl, ?_⟩) hS ?_
    · intro w' hSw
      obtain ⟨z0, z1, z2, u0, u1, u2, u3⟩ := hSw
      go_simp
    simp only [Act.put, List.getElem_toArray, List.getElem_cons_zero, List.setIfInBounds_toArray, List.set_cons_zero, List.set_cons_succ]
    refine wpAnyH_take (i := 1) (v := .agg #[.int .u64 v.num, .slice ba v.bytes.length bc, .slice ka v.kids.length kc, .bool v.has]) rfl (by kernel_rfl) (by kernel_rfl) (by kernel_rfl) (fun _ _ _ h => h) (Or.inl ⟨by rfl, ?_⟩) hS ?_
    · intro w' hSw
      obtain ⟨z0, z1, z2, u0, u1, u2, u3⟩ := hSw
      go_simp
    simp only [Act.put, List.getElem_toArray, List.getElem_cons_succ, List.getElem_cons_zero, List.setIfInBounds_toArray, List.set_cons_zero, List.set_cons_succ]
    refine wpAnyH_ready (rs := [2]) (by kernel_rfl) (by decide) (AllReadyH.cons rfl (fun K hK => ?_) AllReadyH.nil)
    rw [if_pos (by kernel_rfl)]
    go_simp
    have hd : Below W5.heap.size W5 W5.drew := HX0.out.drew
    refine (of_any W5.drew v _ (HV5.out.later hd)).mono ?_
    rintro e Y1 ⟨rfl, hy⟩
    have HY1 := Lib.hid (hd.trans (hy.mono hd.size))
    have HV11 := Lib.hid ((Below.refl _ W5).drew.trans hy)
    refine hK.out _ _ (HC.out _ HY1.out) (fun hS => ?_)
    clear hd hy hK K
    refine wpAnyH_ready (rs := [3]) (by kernel_rfl) (by decide) (AllReadyH.cons rfl (fun K hK => ?_) AllReadyH.nil)
    rw [if_pos (by kernel_rfl)]
    go_simp
    refine (enough15_any Y1).mono ?_
    rintro e X1 ⟨rfl, hm, hy⟩
    have HX1 := Lib.hid (HY1.out.trans (hy.mono HY1.out.size))
    have HV21 := Lib.hid (HV11.out.trans (hy.mono HV11.out.size))
    have HM1 := Lib.hid hm
    refine hK.out _ _ (HC.out _ HX1.out) (fun hS => ?_)
    clear hm hy hK K
    refine wpAnyH_ready (rs := [4]) (by kernel_rfl) (by decide) (AllReadyH.cons rfl (fun K hK => ?_) AllReadyH.nil)
    rw [if_pos (by kernel_rfl)]
    go_simp
    refine (HWR.out X1 Y1.heap.size _ HX1.out HY1.out.size HM1.out (by decide) (by decide)).mono ?_
    rintro e T1 hpost
    obtain ⟨r1, f1, rfl, hout⟩ := hpost.to HV21.out HV11.out.size
    have HO1 := Lib.hid hout
    refine hK.out _ _ (HC.out _ (HX0.out.trans (hout.1.mono HX0.out.size))) (fun hS => ?_)
    clear hout hpost hK K
    refine wpAnyH_take (i := 5) (v := .tuple #[r1, f1]) rfl (by kernel_rfl) (by kernel_rfl) (by kernel_rfl) (fun _ _ _ h => h) (Or.inl ⟨by rfl, ?_⟩) hS ?_
    · intro w' hSw
      obtain ⟨z0, z1, z2, u0, u1, u2, u3⟩ := hSw
      go_simp
    simp only [Act.put, List.getElem_toArray, List.getElem_cons_succ, List.getElem_cons_zero, List.setIfInBounds_toArray, List.set_cons_zero, List.set_cons_succ]
    refine wpAnyH_take (i := 6) (v := r1) rfl (by kernel_rfl) (by kernel_rfl) (by kernel_rfl) (fun _ _ _ h => h) (Or.inl ⟨by rfl, ?_⟩) hS ?_
    · intro w' hSw
      obtain ⟨z0, z1, z2, u0, u1, u2, u3⟩ := hSw
      go_simp
    simp only [Act.put, List.getElem_toArray, List.getElem_cons_succ, List.getElem_cons_zero, List.setIfInBounds_toArray, List.set_cons_zero, List.set_cons_succ]
    refine wpAnyH_take (i := 7) (v := f1) rfl (by kernel_rfl) (by kernel_rfl) (by kernel_rfl) (fun _ _ _ h => h) (Or.inl ⟨by rfl, ?_⟩) hS ?_
    · intro w' hSw
      obtain ⟨z0, z1, z2, u0, u1, u2, u3⟩ := hSw
      go_simp
    simp only [Act.put, List.getElem_toArray, List.getElem_cons_succ, List.getElem_cons_zero, List.setIfInBounds_toArray, List.set_cons_zero, List.set_cons_succ]
    refine wpAnyH_take (i := 8) (v := r1) rfl (by kernel_rfl) (by kernel_rfl) (by kernel_rfl) (fun _ _ _ h => h) (Or.inl ⟨by rfl, ?_⟩) hS ?_
    · intro w' hSw
      obtain ⟨z0, z1, z2, u0, u1, u2, u3⟩ := hSw
      go_simp
    simp only [Act.put, List.getElem_toArray, List.getElem_cons_succ, List.getElem_cons_zero, List.setIfInBounds_toArray, List.set_cons_zero, List.set_cons_succ]
    refine wpAnyH_take (i := 9) (v := f1) rfl (by kernel_rfl) (by kernel_rfl) (by kernel_rfl) (fun _ _ _ h => h) (Or.inl ⟨by rfl, ?_⟩) hS ?_
    · intro w' hSw
      obtain ⟨z0, z1, z2, u0, u1, u2, u3⟩ := hSw
      go_simp
    simp only [Act.put, List.getElem_toArray, List.getElem_cons_succ, List.getElem_cons_zero, List.setIfInBounds_toArray, List.set_cons_zero, List.set_cons_succ]
    refine wpAnyH_done (by kernel_rfl) ?_ _
    refine NoPanic.normal ?_
    try simp only [Exit.then]
    have HBD : Hid (0 ≤ atLeast0 bud ∧ atLeast0 bud ≤ 9223372036854775807) := Lib.hid (by unfold atLeast0; split <;> omega)
    have HT1 := Lib.hid HO1.out.1
    go_upto_region 8 with (fail)
    refine wp_region_noPanic ?_
    refine wp_region_held_drew (S := (fun w' => w'.cell? ⟨Z, 0, none⟩ = some (.slice sa ss.length sc) ∧ w'.cell? ⟨Z, 1, none⟩ = some (.slice ea es.length ec) ∧ w'.cell? ⟨Z, 2, none⟩ = some (.int .i64 rt) ∧ w'.cell? ⟨U, 0, none⟩ = some (.int .u64 v.num) ∧ w'.cell? ⟨U, 1, none⟩ = some (.slice ba v.bytes.length bc) ∧ w'.cell? ⟨U, 2, none⟩ = some (.slice ka v.kids.length kc) ∧ w'.cell? ⟨U, 3, none⟩ = some (.bool v.has))) (by kernel_rfl) (HC.out _ HT1.out.drew) ?_
    intro hS
    refine wpAnyH_take (i := 0) (v := .agg #[.slice sa ss.length sc, .slice ea es.length ec, .int .i64 rt]) rfl (by kernel_rfl) (by kernel_rfl) (by kernel_rfl) (fun _ _ _ h => h) (Or.inl ⟨by rfl, ?_⟩) hS ?_
    · intro w' hSw
      obtain ⟨z0, z1, z2, u0, u1, u2, u3⟩ := hSw
      go_simp
    simp only [Act.put, List.getElem_toArray, List.getElem_cons_zero, List.setIfInBounds_toArray, List.set_cons_zero, List.set_cons_succ]
    refine wpAnyH_take (i := 1) (v := .agg #[.int .u64 v.num, .slice ba v.bytes.length bc, .slice ka v.kids.length kc, .bool v.has]) rfl (by kernel_rfl) (by kernel_rfl) (by kernel_rfl) (fun _ _ _ h => h) (Or.inl ⟨by rfl, ?_⟩) hS ?_
    · intro w' hSw
      obtain ⟨z0, z1, z2, u0, u1, u2, u3⟩ := hSw
      go_simp
    simp only [Act.put, List.getElem_toArray, List.getElem_cons_succ, List.getElem_cons_zero, List.setIfInBounds_toArray, List.set_cons_zero, List.set_cons_succ]
    refine wpAnyH_take (i := 3) (v := .int .i64 bud) rfl (by kernel_rfl) (by kernel_rfl) (by kernel_rfl) (fun _ _ _ h => h) (Or.inl ⟨by rfl, ?_⟩) hS ?_
    · intro w' hSw
      obtain ⟨z0, z1, z2, u0, u1, u2, u3⟩ := hSw
      go_simp
    simp only [Act.put, List.getElem_toArray, List.getElem_cons_succ, List.getElem_cons_zero, List.setIfInBounds_toArray, List.set_cons_zero, List.set_cons_succ]
    refine wpAnyH_ready (rs := [2]) (by kernel_rfl) (by decide) (AllReadyH.cons rfl (fun K hK => ?_) AllReadyH.nil)
    rw [if_pos (by kernel_rfl)]
    go_simp
    have hd : Below W5.heap.size W5 T1.drew := HT1.out.drew
    refine (of_any T1.drew v _ (HV5.out.later hd)).mono ?_
    rintro e Y2 ⟨rfl, hy⟩
    have HY2 := Lib.hid (hd.trans (hy.mono hd.size))
    have HV12 := Lib.hid ((Below.refl _ T1).drew.trans hy)
    refine hK.out _ _ (HC.out _ HY2.out) (fun hS => ?_)
    clear hd hy hK K
    refine wpAnyH_ready (rs := [4]) (by kernel_rfl) (by decide) (AllReadyH.cons rfl (fun K hK => ?_) AllReadyH.nil)
    rw [if_pos (by kernel_rfl)]
    go_simp
    refine (new_any bud Y2).mono ?_
    rintro e X2 ⟨rfl, hX⟩
    have hm : X2.heap[Y2.heap.size]? = some (.cells #[.int .i64 (atLeast0 bud), .bool false] 152 (0, 0)) := by rw [hX]; exact heap_alloc_new Y2 _
    have hy : Below Y2.heap.size Y2 X2 := by rw [hX]; exact (Below.refl _ _).alloc (Nat.le_refl _) _
    clear hX
    have HX2 := Lib.hid (HY2.out.trans (hy.mono HY2.out.size))
    have HV22 := Lib.hid (HV12.out.trans (hy.mono HV12.out.size))
    have HM2 := Lib.hid hm
    refine hK.out _ _ (HC.out _ HX2.out) (fun hS => ?_)
    clear hm hy hK K
    refine wpAnyH_ready (rs := [5]) (by kernel_rfl) (by decide) (AllReadyH.cons rfl (fun K hK => ?_) AllReadyH.nil)
    rw [if_pos (by kernel_rfl)]
    go_simp
    refine (HWR.out X2 Y2.heap.size _ HX2.out HY2.out.size HM2.out HBD.out.1 HBD.out.2).mono ?_
    rintro e T2 hpost
    obtain ⟨r2, f2, rfl, hout⟩ := hpost.to HV22.out HV12.out.size
    have HO2 := Lib.hid hout
    refine hK.out _ _ (HC.out _ (HT1.out.trans (hout.1.mono HT1.out.size))) (fun hS => ?_)
    clear hout hpost hK K
    refine wpAnyH_take (i := 6) (v := .tuple #[r2, f2]) rfl (by kernel_rfl) (by kernel_rfl) (by kernel_rfl) (fun _ _ _ h => h) (Or.inl ⟨by rfl, ?_⟩) hS ?_
    · intro w' hSw
      obtain ⟨z0, z1, z2, u0, u1, u2, u3⟩ := hSw
      go_simp
    simp only [Act.put, List.getElem_toArray, List.getElem_cons_succ, List.getElem_cons_zero, List.setIfInBounds_toArray, List.set_cons_zero, List.set_cons_succ]
    refine wpAnyH_take (i := 7) (v := r2) rfl (by kernel_rfl) (by kernel_rfl) (by kernel_rfl) (fun _ _ _ h => h) (Or.inl ⟨by rfl, ?_⟩) hS ?_
    · intro w' hSw
      obtain ⟨z0, z1, z2, u0, u1, u2, u3⟩ := hSw
      go_simp
    simp only [Act.put, List.getElem_toArray, List.getElem_cons_succ, List.getElem_cons_zero, List.setIfInBounds_toArray, List.set_cons_zero, List.set_cons_succ]
    refine wpAnyH_take (i := 8) (v := f2) rfl (by kernel_rfl) (by kernel_rfl) (by kernel_rfl) (fun _ _ _ h => h) (Or.inl ⟨by rfl, ?_⟩) hS ?_
    · intro w' hSw
      obtain ⟨z0, z1, z2, u0, u1, u2, u3⟩ := hSw
      go_simp
    simp only [Act.put, List.getElem_toArray, List.getElem_cons_succ, List.getElem_cons_zero, List.setIfInBounds_toArray, List.set_cons_zero, List.set_cons_succ]
    refine wpAnyH_take (i := 9) (v := r2) rfl (by kernel_rfl) (by kernel_rfl) (by kernel_rfl) (fun _ _ _ h => h) (Or.inl ⟨by rfl, ?_⟩) hS ?_
    · intro w' hSw
      obtain ⟨z0, z1, z2, u0, u1, u2, u3⟩ := hSw
      go_simp
    simp only [Act.put, List.getElem_toArray, List.getElem_cons_succ, List.getElem_cons_zero, List.setIfInBounds_toArray, List.set_cons_zero, List.set_cons_succ]
    refine wpAnyH_take (i := 10) (v := f2) rfl (by kernel_rfl) (by kernel_rfl) (by kernel_rfl) (fun _ _ _ h => h) (Or.inl ⟨by rfl, ?_⟩) hS ?_
    · intro w' hSw
      obtain ⟨z0, z1, z2, u0, u1, u2, u3⟩ := hSw
      go_simp
    simp only [Act.put, List.getElem_toArray, List.getElem_cons_succ, List.getElem_cons_zero, List.setIfInBounds_toArray, List.set_cons_zero, List.set_cons_succ]
    refine wpAnyH_done (by kernel_rfl) ?_ _
    refine NoPanic.normal ?_
    try simp only [Exit.then]
    have hO1 := HO1.out.later HO2.out.1
    have HE := Lib.hid (HB5.out.trans (hO1.1.mono HB5.out.size))
    have hlo := HLO.out
    have cn : (convert 22 9 (.slice none 0 0)).run Tryz.prog T2 = .ok (.string (strOfNums [])) T2 := conv_zero _ _ 5 _ Tryz.underlying22 Tryz.underlying5 Tryz.underlying9 none 0
    rcases hO1.2 with ⟨g1, rfl, rfl, ho1, hl1⟩ | ⟨rfl, rfl, hl1⟩ | ⟨_, _, hl1⟩
    · have c1 := ho1.str (P := Tryz.prog) 22 9 Tryz.underlying22 Tryz.underlying5 Tryz.underlying9
      rcases HO2.out.2 with ⟨g2, rfl, rfl, ho2, _⟩ | ⟨_, _, hl2⟩ | ⟨rfl, rfl, _⟩
      · have c2 := ho2.str (P := Tryz.prog) 22 9 Tryz.underlying22 Tryz.underlying5 Tryz.underlying9
        clear hO1 ho1 ho2 hlo cn
        go_wp2
        go_ret
        exact ⟨rfl, HE.out⟩
      · omega
      · clear hO1 ho1 hlo
        go_wp2
        go_ret
        exact ⟨rfl, HE.out⟩
    · rcases HO2.out.2 with ⟨g2, rfl, rfl, _, hl2⟩ | ⟨rfl, rfl, _⟩ | ⟨rfl, rfl, _⟩
      · omega
      · clear hO1 hlo
        go_wp2
        go_ret
        exact ⟨rfl, HE.out⟩
      · clear hO1 hlo
        go_wp2
        go_ret
        exact ⟨rfl, HE.out⟩
    · omega
  · go_wp2
    go_ret
    exact ⟨rfl, HB2.out.alloc (by have := HB2.out.size; omega) _⟩
theorem jsonwriteMeters_walk (p : Plan) (b0 : Option Addr) (nb cb : Nat) (z1 : List Int) (bud : Int) {a0 a1 : Option Addr} {n0 e0 n1 c1 : Nat} (w : World) (hp : IsPlan w p a0 n0 e0 a1 n1 c1) (h1 : IsRow .u8 w b0 nb cb z1) (h2 : (Lit.int .i64 bud).wf = true) (hT : PowT w) :
    Calls Tryz.prog 13 #[.agg #[.slice a0 n0 e0, .slice a1 n1 c1, .int .u8 p.root, .bool p.tree], .slice b0 nb cb, .int .i64 bud] w fun e w' => e = .returned (.bool true) ∧ Below w.heap.size w w' := by
  obtain ⟨k1, k2, k3, k4⟩ := bytes_row h1
  exact jwmet_go p _ bud (bounds_i64 h2) w hp k1 k2 k3 k4 hT
end Go.Proofs.YtiknhkkeifemcaaGreatDoor
namespace Go.Proofs.YtiknhkkeifemcaaGreatDoor
open Go.ChangeShapes Go.WideShapes Go.ChangeAt Go.RowKit
open Go.ChangeMaps (open_string shut_string)
namespace jsonwriteMetersFrame
theorem laid_met (os : Os) : laidMet Tryz.prog Rows.jsonwriteMetersRow.laid ((laidWorld os).forCall (fun _ _ => 0) ⟨#[], #[Value.agg #[Value.slice none 0 0, Value.slice none 0 0, Value.int .u8 0, Value.bool false], Value.slice none 0 0, Value.int .i64 0], []⟩).memory :=
  laid3_met os _
theorem reads (os : Os) {H : Type} (enc : TypeId × Value → H) : ∃ places, DataW.whole enc Tryz.prog ((laidWorld os).forCall (fun _ _ => 0) ⟨#[], #[Value.agg #[Value.slice none 0 0, Value.slice none 0 0, Value.int .u8 0, Value.bool false], Value.slice none 0 0, Value.int .i64 0], []⟩).memory Tryz.f13.params.toList Rows.jsonwriteMetersSpec.vars false #[Value.agg #[Value.slice none 0 0, Value.slice none 0 0, Value.int .u8 0, Value.bool false], Value.slice none 0 0, Value.int .i64 0].toList 8 = some ([.agg [.nil, .nil, .lit (.int .u8 0), .lit (.bool false)], .nil, .lit (.int .i64 0)], [], places) :=
  ⟨[], by kernel_rfl⟩
set_option maxRecDepth 100000 in
theorem contract (H : Type) (enc : TypeId × Value → H) (W : World) (base : Nat) (args : Array Value) (ds gs : List (DataW H)) (before : List MemPlace)
    (hval0 : ∀ (j : Nat) t v, Tryz.f13.params[j]? = some t → args[j]? = some v → Value.okWide Tryz.prog W .any base t v)
    (hW : DataW.Whole enc Tryz.prog Tryz.f13.params.toList Rows.jsonwriteMetersSpec.vars false W args.toList ds gs before) (hL : laidMetH Tryz.prog Rows.jsonwriteMetersRow.laid W) :
    Calls Tryz.prog 13 args W fun e W' => ∃ v, e = .returned v ∧ Rows.jsonwriteMetersSpec.post enc Tryz.prog Tryz.f13 false true false false W args v W' := by
  have hval : ∀ (j : Nat) t v, Tryz.f13.params[j]? = some t → args[j]? = some v → Value.okWide Tryz.prog W .any base t v := hval0
  have hW' := hW
  obtain ⟨p, q, hA0, hV, rfl, _hfz, _hnd⟩ := hW
  have hA : DataW.TrodAll enc Tryz.prog W 0 (fun _ => true) true Tryz.f13.params.toList args.toList ds p := hA0
  rw [Tryz.params13] at hA hval
  obtain ⟨v0, vs0, d0, ds0, p0, q0, hargs, rfl, rfl, h0, r0⟩ := trodAll_cons hA
  obtain ⟨v1, vs1, d1, ds1, p1, q1, rfl, rfl, rfl, h1, r1⟩ := trodAll_cons r0
  obtain ⟨v2, vs2, d2, ds2, p2, q2, rfl, rfl, rfl, h2, r2⟩ := trodAll_cons r1
  obtain ⟨rfl, rfl, rfl⟩ := trodAll_nil r2
  obtain rfl : args = #[v0, v1, v2] := by cases args; simp_all
  obtain ⟨rfl, rfl⟩ := trodVars_none hV
  have k0 := h0
  have lt0 : ∀ x ∈ p0, x.block < W.heap.size := by obtain ⟨m, hm⟩ := k0; exact DataW.trod_lt m _ _ _ hm
  obtain ⟨a0, _, _, _, _, _, _, rfl, w0⟩ := open_plan (hval 0 25 v0 rfl rfl) h0
  obtain ⟨a1, len1, cap1, rfl⟩ := okWide_slice Tryz.underlying22 (hval 1 22 v1 rfl rfl)
  have k1 := h1
  have lt1 : ∀ x ∈ p1, x.block < W.heap.size := by obtain ⟨m, hm⟩ := k1; exact DataW.trod_lt m _ _ _ hm
  obtain ⟨z1, w1⟩ : ∃ zs, IsRow .u8 W a1 len1 cap1 zs := by
    obtain ⟨fuel, hf⟩ := h1
    rcases open_ints Tryz.underlying22 Tryz.underlying5 (by kernel_rfl) hf with ⟨hcs, _⟩ | ⟨x, l, c, zs, hcs, _, hl, hm, hz, _, hcell, hwz⟩
    · simp [Value.cells] at hcs
      obtain ⟨rfl, rfl, rfl⟩ := hcs
      exact ⟨[], isRow_nil _ _ _⟩
    · simp [Value.cells] at hcs
      obtain ⟨rfl, rfl, rfl⟩ := hcs
      exact ⟨zs, isRow_of hl hm (by simpa using hz) hcell hwz⟩
  obtain ⟨a2, rfl, rfl, rfl, w2⟩ := open_int Tryz.underlying3 (hval 2 3 v2 rfl rfl) h2
  clear hA0 hval0
  refine (jsonwriteMeters_walk a0 a1 len1 cap1 z1 a2 W w0 w1 w2 (powT_of_laid3 hL)).mono fun e W' ⟨he, bel⟩ => ?_
  subst he
  exact ⟨_, rfl, _, _, _, [], _, [], hW', trodAll_mk1 (shut_bool Tryz.underlying4 _), (trodAll_cons_mk (Below.trod laidOut (by kernel_rfl) (of_decide_eq_true (by kernel_rfl)) k0 bel lt0) (trodAll_cons_mk (Below.trod laidOut (by kernel_rfl) (of_decide_eq_true (by kernel_rfl)) k1 bel lt1) (trodAll_cons_mk (shut_int Tryz.underlying3 w2) trodAll_mk0))), rfl, bel.frame _, fun h => by cases h⟩

set_option maxRecDepth 100000 in
theorem lifted (os : Os) (started : os.Started) (H : Type) (enc : TypeId × Value → H) (F : Stop.Interp) :
    ReturnsInHanded {} Tryz.checked os 13 .any ((OpenSpec.ofChange Rows.jsonwriteMetersSpec).preRow enc Tryz.prog Tryz.f13 Rows.jsonwriteMetersRow.domain false Rows.jsonwriteMetersRow.laid) (((OpenSpec.ofChange Rows.jsonwriteMetersSpec).at F).post enc Tryz.prog Tryz.f13 false true false false) := by
  obtain ⟨places, hx⟩ := reads os enc
  refine returnsInHanded_of_row (C := Tryz.checked) (s := OpenSpec.ofChange Rows.jsonwriteMetersSpec) own started (by kernel_rfl) Tryz.func13
    (witness_row_at (enc := enc) (C := Tryz.checked) false (laidWorld os) #[Value.agg #[Value.slice none 0 0, Value.slice none 0 0, Value.int .u8 0, Value.bool false], Value.slice none 0 0, Value.int .i64 0] rfl (by kernel_rfl) (by kernel_rfl) (by kernel_rfl)
      (OpenSpec.preRow_of_cond 8 hx (by kernel_rfl) (fun k hk => by cases hk) (by kernel_rfl) (laid_met os))) ?_
  intro W base args ds gs before hval hW _ _ _ hL _ _
  exact contract H enc W base args ds gs before hval hW hL
theorem j_na : (Rows.jsonwriteMetersRow.named == Tryz.pinned.checked.prog.varsNamed 13) = true := by kernel_rfl
theorem j_in : (Rows.jsonwriteMetersRow.inPlace == Tryz.pinned.checked.prog.inPlace 13) = true := by kernel_rfl
theorem j_un : (Rows.jsonwriteMetersRow.unfollowed == Tryz.pinned.checked.prog.unfollowed 13) = true := by kernel_rfl
theorem j_re : (Rows.jsonwriteMetersRow.recurses == Tryz.pinned.checked.prog.recurses 13) = true := by kernel_rfl
set_option maxRecDepth 100000 in
theorem closed : joinedFacts Tryz.pinned.checked.prog 13 Tryz.f13 (OpenSpec.ofChange Rows.jsonwriteMetersSpec).bare Rows.jsonwriteMetersRow = true := by
  unfold joinedFacts
  simp only [Bool.and_eq_true]
  repeat' refine And.intro ?_ ?_
  all_goals first | with_reducible exact j_na | with_reducible exact j_in | with_reducible exact j_un | with_reducible exact j_re | kernel_rfl
theorem said : Rows.JsonwriteMetersSaid :=
  OpenClaim.holds_of_cond 13 Tryz.f13 rfl rfl rfl rfl rfl rfl rfl ⟨rfl, rfl, rfl, rfl, rfl⟩ rfl rfl rfl rfl rfl (by kernel_rfl) Tryz.func13 closed
    (of_decide_eq_true (by kernel_rfl)) (by unfold Func.isWrapper; first | (rw [if_pos (by decide +kernel)]; kernel_rfl) | (rw [if_neg (by decide +kernel)]; exact ⟨rfl, rfl⟩))
    (fun os started H enc _ F => by rw [OpenClaim.pre_eq_preRow]; exact lifted os started H enc F)
theorem plain (f : FuncId) (fn : Func) (hf : Tryz.pinned.checked.prog.funcNamed "transom/transomlaw15.JsonwriteMeters" = some f) (hfn : Tryz.pinned.checked.prog.funcs[f]? = some fn) :
    true = Tryz.pinned.checked.prog.looks [] ∧ ∀ (j : Nat) t, fn.params[j]? = some t → Tryz.pinned.checked.prog.wantsStandIn t = false := by
  obtain rfl : f = 13 := Option.some.inj ((show Tryz.prog.funcNamed "transom/transomlaw15.JsonwriteMeters" = some 13 by kernel_rfl).symm.trans hf) |>.symm
  obtain rfl : fn = Tryz.f13 := (Option.some.inj (Tryz.func13.symm.trans hfn)).symm
  refine ⟨by kernel_rfl, fun j t ht => ?_⟩
  rw [Tryz.params13] at ht
  have hm : t = 25 ∨ t = 22 ∨ t = 3 := by simpa using Array.mem_of_getElem? ht
  rcases hm with rfl | rfl | rfl
  · exact (show Tryz.prog.wantsStandIn 25 = false by kernel_rfl)
  · exact (show Tryz.prog.wantsStandIn 22 = false by kernel_rfl)
  · exact (show Tryz.prog.wantsStandIn 3 = false by kernel_rfl)
end jsonwriteMetersFrame
theorem jsonwriteMeters_card : Rows.JsonwriteMetersCardSaid :=
  Claim7.holds_tied_plain_at .later [] _ _ _ _ jsonwriteMetersFrame.said (fun _ h => by cases h) (by kernel_rfl) (fun _ h => by cases h) jsonwriteMeters_row_tie rfl ⟨rfl, rfl⟩ (by kernel_rfl) rfl jsonwriteMetersFrame.plain (by kernel_rfl)
end Go.Proofs.YtiknhkkeifemcaaGreatDoor
