/-
  The package schema's maker: value, the number that a token says as a type's default. Conditions: those that each theorem names.
-/
import Derived.Test.YtgbcchiheddfpaaGreatDoorPkL10
import Derived.Test.YtgbcchiheddfpaaGreatDoorPkL20
import Derived.Test.YtgbcchiheddfpaaGreatDoorPkL34
import Derived.Deep.RegionHeld3
namespace Go.Proofs.YtgbcchiheddfpaaGreatDoor
open Go.ChangeShapes Go.WideShapes Go.ChangeAt Go.RowKit Go.Shelf

theorem numR_opt (x : Option Nat) : numR x = optV x := by cases x <;> rfl
theorem optV_form (x : Option Nat) : ∃ (d : Int) (o : Bool), optV x = .tuple #[.int .u64 d, .bool o] := by cases x <;> exact ⟨_, _, rfl⟩
theorem two_strs (W : World) (x y : ByteArray) : (W.alloc (.cells #[.string x, .string y] 9)).ownsRow W.heap.size 9 1 (.slice (some ⟨W.heap.size, 0, none⟩) 2 2) 2 (strsCells [x, y]) := by
  refine ⟨rfl, .inr ⟨W.heap.size, 2, #[.string x, .string y], rfl, Nat.le_refl _, heap_alloc_new W _, Nat.le_refl _, by unfold maxLen; omega, rfl, rfl⟩⟩
set_option maxRecDepth 100000 in
set_option maxHeartbeats 4000000 in
theorem mvalue_any (W : World) {M b root base : Nat} {sv ev rv ssv esv : Value} {m : List NEnt} {es : List (SCho × Value)} {xs : List RCho} (hM : MAt W M b sv ev rv m ssv esv root) (hR : ChoRows base W es esv) (hes : es.map Prod.fst = xs.map choOut) (k r ls : Nat) (t : Tok)
    (hr : k = 10 → r < xs.length) (hE : ErrV W) (hsz : (tokT t).size ≤ 281474976710656) :
    Calls Tryz.prog 211 #[.pointer (some ⟨M, 0, none⟩), .agg #[.int .u8 (k : Nat), .int .i64 (r : Nat), .int .i64 (ls : Nat)], .agg #[.int .i64 t.kind, .string (tokT t), .int .i64 t.place]] W fun e w' => e = .returned (optV (valueM xs k r ls t)) ∧ Below W.heap.size W w' := by
  obtain ⟨hb, hq1, hq2⟩ := two_blk W #[.int .u8 (k : Nat), .int .i64 (r : Nat), .int .i64 (ls : Nat)] #[.int .i64 t.kind, .string (tokT t), .int .i64 t.place] 62 282
  have HM := Lib.hid (hM.fell hb)
  have HR := Lib.hid (hR.below hb)
  have HE := Lib.hid hE
  have HB := Lib.hid hb
  have HQ1 := Lib.hid hq1
  have HQ2 := Lib.hid hq2
  have HES := Lib.hid hes
  have HV : Hid (valueM xs k r ls t = if t.kind = 0 then some 0 else if ls ≠ 0 then none else if k = 1 then chooseM t falseTrue else if k = 10 then chooseM t (chosenM xs r) else if t.kind = 2 then numV (bts (tokT t)) (kSize k) (kSign k) else none) := Lib.hid rfl
  generalize valueM xs k r ls t = V at *
  clear hM hR hE hb hq1 hq2 hes
  go_enter Tryz.func211, Tryz.ntmps211
  go_upto_region 1 with (fail)
  generalize ((W.alloc (.cells #[.int .u8 (k : Nat), .int .i64 (r : Nat), .int .i64 (ls : Nat)] 62)).alloc (.cells #[.int .i64 t.kind, .string (tokT t), .int .i64 t.place] 282)) = W0 at *
  obtain ⟨_, y0, y1, y2, _⟩ := blk3 HQ1.out
  obtain ⟨_, t0, t1, t2, _⟩ := blk3 HQ2.out
  by_cases h0 : t.kind = 0
  · have HX := Lib.hid (HV.out.trans (if_pos h0))
    generalize t.kind = tk at *
    subst h0
    go_wp2
    go_ret2
    exact ⟨by rw [HX.out]; rfl, HB.out⟩
  have HV1 := Lib.hid (HV.out.trans (if_neg h0))
  have hb0 : (t.kind == 0) = false := by simpa using h0
  by_cases h1 : ls ≠ 0
  · have HX := Lib.hid (HV1.out.trans (if_pos h1))
    have hb1 : ¬ (ls : Int) = 0 := by omega
    have hb2 : ((ls : Int) != 0) = true := by simpa using h1
    clear h1
    go_wp2
    go_ret2
    exact ⟨by rw [HX.out]; rfl, HB.out⟩
  have HV2 := Lib.hid (HV1.out.trans (if_neg h1))
  obtain rfl : ls = 0 := by omega
  clear h1
  by_cases hk1 : k = 1
  · have HX := Lib.hid (HV2.out.trans (if_pos hk1))
    subst hk1
    have hrow := two_strs W0 ⟨#[102, 97, 108, 115, 101]⟩ ⟨#[116, 114, 117, 101]⟩
    have hba : Below W0.heap.size W0 (W0.alloc (.cells #[.string ⟨#[102, 97, 108, 115, 101]⟩, .string ⟨#[116, 114, 117, 101]⟩] 9)) := (Below.refl _ _).alloc (Nat.le_refl _) _
    have HCH := Lib.hid (choose_any t falseTrue _ _ _ hrow)
    have HBA := Lib.hid (HB.out.trans (hba.mono HB.out.size))
    clear hrow hba
    go_wp2_with fail
    refine HCH.out.mono ?_
    rintro e w' ⟨rfl, hb'⟩
    have HBF := Lib.hid (HBA.out.trans (hb'.mono HBA.out.size))
    clear hb'
    rw [← HX.out]
    cases V with
    | none =>
      simp only [optV]
      go_wp2
      go_ret2
      exact ⟨rfl, HBF.out⟩
    | some n =>
      simp only [optV]
      go_wp2
      go_ret2
      exact ⟨rfl, HBF.out⟩
  have HV3 := Lib.hid (HV2.out.trans (if_neg hk1))
  have hk1b : ((k : Int) == 1) = false := by simp; omega
  have hk1n : ¬ (k : Int) = 1 := by omega
  by_cases hk10 : k = 10
  · have HX := Lib.hid (HV3.out.trans (if_pos hk10))
    have hrl := hr hk10
    subst hk10
    have hel : es.length = xs.length := by have := congrArg List.length HES.out; simpa using this
    have hre : r < es.length := by omega
    obtain ⟨g, c, hv, hc, hg, hcell⟩ := row_el schoCells 2 (fun _ => rfl) HR.out.enums r hre
    have hnm := HR.out.names _ (List.getElem_mem hre)
    have heq : es[r].1 = choOut xs[r] := by
      have h1 : (es.map Prod.fst)[r]? = (xs.map choOut)[r]? := by rw [HES.out]
      rw [List.getElem?_map, List.getElem?_map, List.getElem?_eq_getElem hre, List.getElem?_eq_getElem hrl] at h1
      exact Option.some.inj h1
    have hch : chosenM xs r = es[r].1.names := by
      rw [heq]
      unfold chosenM
      rw [List.getD, List.getElem?_eq_getElem hrl]
      rfl
    obtain ⟨na, nc, hnv⟩ := ownsRow_form hnm
    have x1 : W0.cell? ⟨g, r * 2 + 1, none⟩ = some (.slice na es[r].1.names.length nc) := by rw [← hnv]; exact hcell 1 (by omega)
    have x0 : W0.cell? ⟨g, r * 2, none⟩ = some (.string es[r].1.name) := hcell 0 (by omega)
    rw [hnv] at hnm
    rw [hch] at HX
    generalize es[r].1.names = nm at *
    generalize es[r].1.name = nn at *
    subst hv
    obtain ⟨hMl, z0, z1, z2, z3, z4, z5, z6, _⟩ := HM.out.cells
    have HCH := Lib.hid (choose_any t nm (.slice na nm.length nc) base W0.drew hnm)
    have hri : (r : Int) < es.length := by omega
    clear hnm hcell hnv hch heq hel hr hrl HV HV1 HV2 HV3
    go_upto_region 8 with (fail)
    have hl1 : W.heap.size + 1 < W0.heap.size := blk_lt HQ2.out
    have HCC := Lib.hid (show ∀ w', Below W0.heap.size W0 w' → w'.cell? ⟨W.heap.size + 1, 0, none⟩ = some (.int .i64 t.kind) ∧ w'.cell? ⟨W.heap.size + 1, 1, none⟩ = some (.string (tokT t)) ∧ w'.cell? ⟨W.heap.size + 1, 2, none⟩ = some (.int .i64 t.place) ∧ w'.cell? ⟨W.heap.size, 1, none⟩ = some (.int .i64 r) ∧ w'.cell? ⟨M, 5, none⟩ = some (.slice (some ⟨g, 0, none⟩) es.length c) ∧ w'.cell? ⟨g, r * 2 + 1, none⟩ = some (.slice na nm.length nc) from fun w' h => ⟨(h.cell (p := ⟨W.heap.size + 1, 0, none⟩) hl1).trans t0, (h.cell (p := ⟨W.heap.size + 1, 1, none⟩) hl1).trans t1, (h.cell (p := ⟨W.heap.size + 1, 2, none⟩) hl1).trans t2, (h.cell (p := ⟨W.heap.size, 1, none⟩) (by show W.heap.size < _; omega)).trans y1, (h.cell (p := ⟨M, 5, none⟩) hMl).trans z5, (h.cell (p := ⟨g, r * 2 + 1, none⟩) hg).trans x1⟩)
    go_region_held3 (fun w' => w'.cell? ⟨W.heap.size + 1, 0, none⟩ = some (.int .i64 t.kind) ∧ w'.cell? ⟨W.heap.size + 1, 1, none⟩ = some (.string (tokT t)) ∧ w'.cell? ⟨W.heap.size + 1, 2, none⟩ = some (.int .i64 t.place) ∧ w'.cell? ⟨W.heap.size, 1, none⟩ = some (.int .i64 r) ∧ w'.cell? ⟨M, 5, none⟩ = some (.slice (some ⟨g, 0, none⟩) es.length c) ∧ w'.cell? ⟨g, r * 2 + 1, none⟩ = some (.slice na nm.length nc)) (first | assumption | go_keep) (first | (go_at_call 240; (with_reducible refine HCH.out.mono ?_); rintro e w' ⟨rfl, hb'⟩; have hbw := drew_below hb'; obtain ⟨k0, k1, k2, k3, k4, k5⟩ := HCC.out w' hbw; have HBF := Lib.hid (HB.out.trans (hbw.mono HB.out.size)); clear hb' hbw; rw [← HX.out]; obtain ⟨d, o, hdo⟩ := optV_form V; have HDO := Lib.hid hdo; rw [hdo]; clear hdo))
    all_goals
      simp only [Exit.then]
      apply_assumption
      go_wp2
      go_ret2
      exact ⟨by rw [HDO.out]; rfl, HBF.out⟩
  have HV4 := Lib.hid (HV3.out.trans (if_neg hk10))
  have hk2b : ((k : Int) == 10) = false := by simp; omega
  have hk2n : ¬ (k : Int) = 10 := by omega
  by_cases h2 : t.kind = 2
  · have HX := Lib.hid (HV4.out.trans (if_pos h2))
    have HLN := Lib.hid (lexNumber_any (tokT t) (kSize k) (kSign k) W0.drew (HE.out.later (HB.out.drew)) hsz)
    rw [numR_opt, ← HX.out] at HLN
    generalize t.kind = tk at *
    subst h2
    go_upto_region 10 with (fail)
    have hl1 : W.heap.size + 1 < W0.heap.size := blk_lt HQ2.out
    have HCC := Lib.hid (show ∀ w', Below W0.heap.size W0 w' → w'.cell? ⟨W.heap.size + 1, 1, none⟩ = some (.string (tokT t)) ∧ w'.cell? ⟨W.heap.size, 0, none⟩ = some (.int .u8 k) from fun w' h => ⟨(h.cell (p := ⟨W.heap.size + 1, 1, none⟩) hl1).trans t1, (h.cell (p := ⟨W.heap.size, 0, none⟩) (by show W.heap.size < _; omega)).trans y0⟩)
    go_region_held3 (fun w' => w'.cell? ⟨W.heap.size + 1, 1, none⟩ = some (.string (tokT t)) ∧ w'.cell? ⟨W.heap.size, 0, none⟩ = some (.int .u8 k)) (first | assumption | go_keep) (first | (go_at_call 113; refine (wsize_any _ _).mono ?_; rintro e w' ⟨rfl, rfl⟩) | (go_at_call 115; refine (wsign_any _ _).mono ?_; rintro e w' ⟨rfl, rfl⟩) | (go_at_call 241; (with_reducible refine HLN.out.mono ?_); rintro e w' ⟨rfl, hb'⟩; have hbw := drew_below hb'; obtain ⟨k0, k1⟩ := HCC.out w' hbw; have HBF := Lib.hid (HB.out.trans (hbw.mono HB.out.size)); clear hb' hbw; obtain ⟨d, o, hdo⟩ := optV_form V; have HDO := Lib.hid hdo; rw [hdo]; clear hdo))
    all_goals
      simp only [Exit.then]
      apply_assumption
      go_wp2
      go_ret2
      exact ⟨by rw [HDO.out]; rfl, HBF.out⟩
  · have HX := Lib.hid (HV4.out.trans (if_neg h2))
    have hb2 : (t.kind == 2) = false := by simpa using h2
    go_wp2
    go_ret2
    exact ⟨by rw [HX.out]; rfl, HB.out⟩
end Go.Proofs.YtgbcchiheddfpaaGreatDoor
