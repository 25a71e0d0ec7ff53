/-
  A value in memory as a view shows its value, by the value's own blocks. Conditions: those that each theorem names.
-/
import Derived.Test.YtiknhkkeifemcaaGreatDoorPkN3
import Derived.Test.YtiknhkkeifemcaaGreatDoorPkN12
import Derived.Test.YtiknhkkeifemcaaGreatDoorPkN23
import Derived.Test.YtiknhkkeifemcaaGreatDoorPkN27
import Derived.Test.YtiknhkkeifemcaaGreatDoorPkN28
import Derived.Test.YtiknhkkeifemcaaGreatDoorPkN29
import Derived.Test.YtiknhkkeifemcaaGreatDoorPkN30
namespace Go.Proofs.YtiknhkkeifemcaaGreatDoor
open Go.ChangeShapes Go.WideShapes Go.ChangeAt Go.RowKit

def Avoid (D : Nat → Prop) (wk ak mk : Nat) (A : Option Addr) : Prop := ¬ D wk ∧ ¬ D ak ∧ ¬ D mk ∧ ∀ r, rowOf A = some r → ¬ D r
theorem Fx.avoid {D : Nat → Prop} {wk ak mk : Nat} {A A' : Option Addr} {w w' : World} (h : Fx wk ak mk A A' w w') (hD : ∀ j, D j → j < w.heap.size) (ha : Avoid D wk ak mk A) : OutD D w w' ∧ Avoid D wk ak mk A' := by
  obtain ⟨a1, a2, a3, a4⟩ := ha
  refine ⟨⟨h.os, h.tape, h.output, h.size, fun j hj => h.block j (hD j hj) (fun e => a1 (e ▸ hj)) (fun e => a2 (e ▸ hj)) (fun e => a3 (e ▸ hj)) (fun e => a4 j e.symm hj)⟩, a1, a2, a3, fun r hr hd => ?_⟩
  rcases h.row with e | ⟨j, e, hj⟩
  · exact a4 r (e ▸ hr) hd
  · rw [e] at hr
    injection hr with hr
    have := hD r hd
    omega
theorem bytes_srcrow {w : World} {p : Option Addr} {zs : List Int} {c : Nat} (h : Bytes w p zs) (hc : p = none → c = 0) : SrcRow w p zs.length c (u8s zs) := by
  refine ⟨by simp [u8s], fun u hu => ?_, ?_⟩
  · obtain ⟨z, _, rfl⟩ := List.mem_map.1 hu
    rfl
  · by_cases hz : zs = []
    · subst hz
      cases p with
      | none => exact .inl ⟨rfl, rfl, hc rfl⟩
      | some ad => exact .inr ⟨ad, rfl, fun j u hu => by simp [u8s] at hu⟩
    · obtain ⟨b, off, rfl, _, hcell⟩ := h.2 hz
      refine .inr ⟨_, rfl, fun j u hu => ?_⟩
      have hj : j < zs.length := by
        rcases Nat.lt_or_ge j zs.length with h1 | h1
        · exact h1
        · rw [List.getElem?_eq_none (by simpa [u8s] using h1)] at hu
          cases hu
      have h1 := hcell j hj
      rw [List.getD, List.getElem?_eq_getElem hj, Option.getD_some] at h1
      have h2 : u = .int .u8 zs[j] := by
        simp only [u8s, List.getElem?_map, List.getElem?_eq_getElem hj, Option.map_some] at hu
        injection hu with hu
        exact hu.symm
      rw [h2, show (⟨b, off, none⟩ : Addr).add j = ⟨b, off + j, none⟩ by simp [Addr.add]]
      exact h1
theorem Bytes.outD {w W : World} {p : Option Addr} {zs : List Int} (h : Bytes w p zs) (hx : OutD (fun j => rowOf p = some j) w W) : Bytes W p zs := by
  refine ⟨h.1, fun hne => ?_⟩
  obtain ⟨b, off, rfl, hlt, hc⟩ := h.2 hne
  exact ⟨b, off, rfl, Nat.lt_of_lt_of_le hlt hx.size, fun i hi => (show W.cell? ⟨b, off + i, none⟩ = w.cell? ⟨b, off + i, none⟩ from World.cell?_of_block (w := w) (hx.block b rfl)).trans (hc i hi)⟩
structure SeenD (Dv : Nat → Prop) (w : World) (wk ak mk : Nat) (A : Option Addr) : Prop where
  lt : ∀ j, Dv j → j < w.heap.size
  av : Avoid Dv wk ak mk A
theorem SeenD.step {Dv : Nat → Prop} {w w' : World} {wk ak mk : Nat} {A A' : Option Addr} (h : SeenD Dv w wk ak mk A) (hx : Fx wk ak mk A A' w w') : SeenD Dv w' wk ak mk A' ∧ OutD Dv w w' := by
  obtain ⟨h1, h2⟩ := hx.avoid h.lt h.av
  exact ⟨⟨fun j hj => Nat.lt_of_lt_of_le (h.lt j hj) hx.size, h2⟩, h1⟩
theorem SeenD.hand {Dv D' : Nat → Prop} {W w' : World} {wk ak mk : Nat} {A : Option Addr} (h : SeenD Dv W wk ak mk A) (hb : Below W.heap.size W w') (hw : wk < W.heap.size ∧ ak < W.heap.size ∧ mk < W.heap.size ∧ ∀ r, rowOf A = some r → r < W.heap.size) (hD : ∀ j, D' j → (Dv j ∨ W.heap.size ≤ j) ∧ j < w'.heap.size) : SeenD D' w' wk ak mk A := by
  have hs := hb.size
  refine ⟨fun j hj => (hD j hj).2, fun hd => ?_, fun hd => ?_, fun hd => ?_, fun r hr hd => ?_⟩
  · rcases (hD _ hd).1 with h1 | h1
    · exact h.av.1 h1
    · omega
  · rcases (hD _ hd).1 with h1 | h1
    · exact h.av.2.1 h1
    · omega
  · rcases (hD _ hd).1 with h1 | h1
    · exact h.av.2.2.1 h1
    · omega
  · rcases (hD _ hd).1 with h1 | h1
    · exact h.av.2.2.2 r hr h1
    · have := hw.2.2.2 r hr
      omega
end Go.Proofs.YtiknhkkeifemcaaGreatDoor
namespace Go.Proofs.YtiknhkkeifemcaaGreatDoor
open Go.ChangeShapes Go.WideShapes Go.ChangeAt Go.RowKit Go.Shelf

set_option maxRecDepth 100000 in
theorem meth_vNum (a b c e : Value) : Meth 2 118 (.agg #[a, b, c, e]) "Num" 262 (.agg #[a, b, c, e]) :=
  ⟨fun N W => by kernel_rfl, enters_of Tryz.func262 (by kernel_rfl) rfl⟩
set_option maxRecDepth 100000 in
theorem meth_vBytes (a b c e : Value) : Meth 2 118 (.agg #[a, b, c, e]) "Bytes" 260 (.agg #[a, b, c, e]) :=
  ⟨fun N W => by kernel_rfl, enters_of Tryz.func260 (by kernel_rfl) rfl⟩
set_option maxRecDepth 100000 in
theorem meth_vList (a b c e : Value) : Meth 2 118 (.agg #[a, b, c, e]) "List" 261 (.agg #[a, b, c, e]) :=
  ⟨fun N W => by kernel_rfl, enters_of Tryz.func261 (by kernel_rfl) rfl⟩
set_option maxRecDepth 100000 in
theorem meth_vSub (r : Value) : Meth 2 118 r "Sub" 264 r :=
  ⟨fun N W => by kernel_rfl, enters_of Tryz.func264 (by kernel_rfl) rfl⟩
set_option maxRecDepth 100000 in
theorem meth_iNum (a b c e : Value) : Meth 1 326 (.agg #[a, b, c, e]) "Num" 262 (.agg #[a, b, c, e]) :=
  ⟨fun N W => by kernel_rfl, enters_of Tryz.func262 (by kernel_rfl) rfl⟩
set_option maxRecDepth 100000 in
theorem meth_iBytes (a b c e : Value) : Meth 1 326 (.agg #[a, b, c, e]) "Bytes" 260 (.agg #[a, b, c, e]) :=
  ⟨fun N W => by kernel_rfl, enters_of Tryz.func260 (by kernel_rfl) rfl⟩
set_option maxRecDepth 100000 in
theorem meth_iList (a b c e : Value) : Meth 1 326 (.agg #[a, b, c, e]) "List" 261 (.agg #[a, b, c, e]) :=
  ⟨fun N W => by kernel_rfl, enters_of Tryz.func261 (by kernel_rfl) rfl⟩
set_option maxRecDepth 100000 in
theorem meth_iSub (r : Value) : Meth 1 326 r "Sub" 282 r :=
  ⟨fun N W => by kernel_rfl, enters_of Tryz.func282 (by kernel_rfl) rfl⟩
set_option maxRecDepth 100000 in
theorem meth_iLen (r : Value) : Meth 1 326 r "Len" 281 r :=
  ⟨fun N W => by kernel_rfl, enters_of Tryz.func281 (by kernel_rfl) rfl⟩
theorem fresh_of {W W' : World} {v : Value} {zs : List Int} (h : W'.ownsRow W.heap.size 5 1 v zs.length (u8Cells zs)) (hz : ∀ i, 0 ≤ zs.getD i 0 ∧ zs.getD i 0 ≤ 255) : ∃ A c, v = .slice A zs.length c ∧ FreshB W W' A c zs := by
  obtain ⟨_, h2⟩ := h
  rcases h2 with ⟨hv, h0⟩ | ⟨g, cap, cur, hv, hb, hg, hn, hm, hs, ht⟩
  · have hl : zs = [] := List.eq_nil_of_length_eq_zero h0
    subst hl
    exact ⟨none, 0, hv, ⟨hz, fun hne => absurd rfl hne⟩, Nat.le_refl _, fun _ => rfl, fun g hg => by simp [rowOf] at hg⟩
  · refine ⟨some ⟨g, 0, none⟩, cap, hv, ⟨hz, fun _ => ⟨g, 0, rfl, blk_lt hg, fun i hi => ?_⟩⟩, hn, fun e => (by cases e), fun g' hg' => ?_⟩
    · rw [Nat.zero_add, blk_cell hg, ← Array.getElem?_toList, ← List.getElem?_take_of_lt (by omega : i < zs.length * 1), ht]
      unfold u8Cells
      rw [List.getElem?_map, List.getElem?_eq_getElem hi, List.getD, List.getElem?_eq_getElem hi]
      rfl
    · have : g' = g := by simp [rowOf] at hg'; omega
      subst this
      exact ⟨hb, blk_lt hg⟩
theorem IsV.bts {w : World} {v : PV} {val : Value} (h : IsV w v val) : ∀ i, 0 ≤ v.bytes.getD i 0 ∧ v.bytes.getD i 0 ≤ 255 := by
  obtain ⟨_, _, _, _, _, _, hb, _⟩ := h.form
  exact hb.1
def NotS (S : Nat → Bool) (j : Nat) : Prop := S j = false
theorem VH.stays {S : Nat → Bool} {w W : World} {v : PV} {val : Value} (h : VH S w v val) (hW : OutD (NotS S) w W) : VH S W v val := h.step hW.size (fun k _ hk => ⟨hk, hW.block k hk⟩)
end Go.Proofs.YtiknhkkeifemcaaGreatDoor
