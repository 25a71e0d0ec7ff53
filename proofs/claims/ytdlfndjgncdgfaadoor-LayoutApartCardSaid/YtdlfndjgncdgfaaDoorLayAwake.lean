/-
  The fixed facts of the sixth chapter's examples (the function Awake) come out true, and nothing that was there is written. Condition: the listed widths lie as the row lists them.
-/
import Derived.Test.YtdlfndjgncdgfaaDoorLayWords
import Derived.Test.YtdlfndjgncdgfaaDoorLayUnits
namespace Go.Proofs.YtdlfndjgncdgfaaDoor
open Go.ChangeShapes Go.WideShapes Go.ChangeAt Go.RowKit Go.Shelf

def exF : List SFld := [⟨⟨#[120]⟩, 1, 0, 0, 0⟩, ⟨⟨#[121]⟩, 8, 0, 0, 0⟩, ⟨⟨#[122]⟩, 11, 0, 0, 0⟩, ⟨⟨#[119]⟩, 6, 0, 0, 0⟩]
theorem ex_words : wordsP exF = 1 ∧ ptrsP exF = 1 ∧ atP exF = [40, 0, 0, 32] := by decide +kernel
theorem ex_units : (unitsP ⟨#[240, 159, 152, 128]⟩).length = 2 := by decide +kernel
theorem ex_row {W : World} {g base : Nat} (hb : base ≤ g) (h : W.heap[g]? = some (.cells (sfldsCells exF).toArray 53 (0, 0))) : W.ownsRow base 53 5 (.slice (some ⟨g, 0, none⟩) 4 4) exF.length (sfldsCells exF) :=
  ⟨rfl, .inr ⟨g, 4, _, rfl, hb, h, Nat.le_refl _, by unfold maxLen; decide, rfl, rfl⟩⟩
set_option maxRecDepth 100000 in
set_option maxHeartbeats 4000000 in
theorem lawake_any (w : World) (hT : WTab w) : Calls Tryd.prog 9 #[] w fun e w' => e = .returned (.bool true) ∧ Below w.heap.size w w' := by
  have HT := Lib.hid hT
  clear hT
  go_enter Tryd.func9, Tryd.ntmps9
  go_upto_region 2 with (fail)
  obtain ⟨hb0, hr0, hs0⟩ := two_start w #[.string ⟨#[120]⟩, .int .u8 1, .int .i64 0, .int .i64 0, .int .u64 0, .string ⟨#[121]⟩, .int .u8 8, .int .i64 0, .int .i64 0, .int .u64 0, .string ⟨#[122]⟩, .int .u8 11, .int .i64 0, .int .i64 0, .int .u64 0, .string ⟨#[119]⟩, .int .u8 6, .int .i64 0, .int .i64 0, .int .u64 0] #[.string ⟨#[83]⟩, .slice (some ⟨w.heap.size, 0, none⟩) 4 4] 53 35
  generalize (w.alloc (.cells #[.string ⟨#[120]⟩, .int .u8 1, .int .i64 0, .int .i64 0, .int .u64 0, .string ⟨#[121]⟩, .int .u8 8, .int .i64 0, .int .i64 0, .int .u64 0, .string ⟨#[122]⟩, .int .u8 11, .int .i64 0, .int .i64 0, .int .u64 0, .string ⟨#[119]⟩, .int .u8 6, .int .i64 0, .int .i64 0, .int .u64 0] 53)).alloc (.cells #[.string ⟨#[83]⟩, .slice (some ⟨w.heap.size, 0, none⟩) 4 4] 35) = W0 at *
  have HB0 := Lib.hid hb0
  have HR0 := Lib.hid (ex_row (Nat.zero_le _) hr0)
  obtain ⟨_, x0, x1, _⟩ := blk2 hs0
  clear hb0 hr0 hs0
  go_wp2_with fail
  refine (words_any W0 ⟨#[83]⟩ exF _ 0 HR0.out (by decide) (HT.out.below HB0.out)).mono ?_
  rintro e W1 ⟨v, rfl, hrow, hb1⟩
  rw [ex_words.1, ex_words.2.1]
  rw [ex_words.2.2] at hrow
  have HB1 := Lib.hid (HB0.out.trans (hb1.mono HB0.out.size))
  obtain ⟨g, c, rfl, hc, hg, hcell⟩ := row_el i64Cell 1 (fun _ => rfl) (l := [40, 0, 0, 32]) hrow 0 (by decide)
  obtain ⟨g2, c2, hv, _, _, hcell3⟩ := row_el i64Cell 1 (fun _ => rfl) (l := [40, 0, 0, 32]) hrow 3 (by decide)
  obtain ⟨he, rfl⟩ := slice_inj hv
  cases he
  have y0 : W1.cell? ⟨g, 0, none⟩ = some (.int .i64 40) := hcell 0 (by decide)
  have y3 : W1.cell? ⟨g, 3, none⟩ = some (.int .i64 32) := hcell3 0 (by decide)
  clear hcell hcell3 hv hrow hb1 x0 x1
  go_upto_region 3 with (fail)
  have hba : Below W1.heap.size W1 (W1.alloc (.cells #[.int .i64 1, .int .i64 1, .slice (some ⟨g, 0, none⟩) 4 c] 38)) := (Below.refl _ _).alloc (Nat.le_refl _) _
  have hp := heap_alloc_new W1 (.cells #[.int .i64 1, .int .i64 1, .slice (some ⟨g, 0, none⟩) 4 c] 38)
  have HB2 := Lib.hid (HB1.out.trans (hba.mono HB1.out.size))
  have u0 := (hba.cell (p := ⟨g, 0, none⟩) hg).trans y0
  have u3 := (hba.cell (p := ⟨g, 3, none⟩) hg).trans y3
  have hc4 : 4 ≤ c := hc
  clear hba y0 y3 hc
  generalize W1.alloc (.cells #[.int .i64 1, .int .i64 1, .slice (some ⟨g, 0, none⟩) 4 c] 38) = W2 at *
  obtain ⟨_, p0, p1, p2, _⟩ := blk3 hp
  clear hp
  go_wp2_with fail
  refine (lunits_any ⟨#[240, 159, 152, 128]⟩ W2 (by decide)).mono ?_
  rintro e W3 ⟨v, rfl, hrow3, hb3⟩
  obtain ⟨ua, uc, rfl⟩ := ownsRow_form hrow3
  rw [ex_units]
  have HB3 := Lib.hid (HB2.out.trans (hb3.mono HB2.out.size))
  clear hrow3 hb3 p0 p1 p2 u0 u3
  go_wp2
  go_ret
  exact ⟨rfl, HB3.out⟩
end Go.Proofs.YtdlfndjgncdgfaaDoor
