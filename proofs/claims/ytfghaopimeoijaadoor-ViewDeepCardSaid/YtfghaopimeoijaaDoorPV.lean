/-
  Values (package api's Val): plain, and as they lie in memory. Conditions: those that each theorem names.
-/
import Derived.Test.YtfghaopimeoijaaDoorCRows
import Derived.Test.YtfghaopimeoijaaDoorPlanMore
import Derived.Test.YtfghaopimeoijaaDoorByt
namespace Go.Proofs.YtfghaopimeoijaaDoor
open Go.ChangeShapes Go.WideShapes Go.ChangeAt Go.RowKit Go.Shelf

/-- A value: a number, bytes, what is in it, and whether it is there. -/
inductive PV where
  | mk (num : Nat) (bytes : List Int) (kids : List PV) (has : Bool)
def PV.num : PV → Nat | .mk n _ _ _ => n
def PV.bytes : PV → List Int | .mk _ b _ _ => b
def PV.kids : PV → List PV | .mk _ _ k _ => k
def PV.has : PV → Bool | .mk _ _ _ h => h
/-- How a value lies in memory: four cells, its bytes, its kids one behind the other. -/
inductive IsV (w : World) : PV → Value → Prop
  | mk (n : Nat) (bs : List Int) (ks : List PV) (h : Bool) (ba ka : Option Addr) (bc kc kb ko : Nat) (c0 c1 c2 c3 : Nat → Value) (hn : n ≤ 18446744073709551615) (hb : Bytes w ba bs) (hbl : bs.length ≤ bc) (hbm : (bs.length : Int) ≤ 9223372036854775807)
      (hkl : ks.length ≤ kc) (hkm : (ks.length : Int) ≤ 9223372036854775807) (hka : ks.length ≠ 0 → ka = some ⟨kb, ko, none⟩)
      (hc : ∀ i, i < ks.length → w.cell? ⟨kb, ko + i * 4, none⟩ = some (c0 i) ∧ w.cell? ⟨kb, ko + i * 4 + 1, none⟩ = some (c1 i) ∧ w.cell? ⟨kb, ko + i * 4 + 2, none⟩ = some (c2 i) ∧ w.cell? ⟨kb, ko + i * 4 + 3, none⟩ = some (c3 i))
      (hk : ∀ i (hi : i < ks.length), IsV w (ks[i]'hi) (.agg #[c0 i, c1 i, c2 i, c3 i])) :
      IsV w (.mk n bs ks h) (.agg #[.int .u64 n, .slice ba bs.length bc, .slice ka ks.length kc, .bool h])
theorem cell_stays {w W : World} (h : Below w.heap.size w W) {p : Addr} {v : Value} (hp : w.cell? p = some v) : W.cell? p = some v := (h.cell (World.block_lt_of_cell? _ _ hp)).trans hp
/-- It lies in every later world. -/
theorem IsV.later {w W : World} {v : PV} {val : Value} (h : IsV w v val) (hb : Below w.heap.size w W) : IsV W v val := by
  induction h with
  | mk n bs ks h ba ka bc kc kb ko c0 c1 c2 c3 hn hbb hbl hbm hkl hkm hka hc _ ih =>
    exact .mk n bs ks h ba ka bc kc kb ko c0 c1 c2 c3 hn (hbb.below (Nat.le_refl _) hb) hbl hbm hkl hkm hka (fun i hi => by obtain ⟨h0, h1, h2, h3⟩ := hc i hi; exact ⟨cell_stays hb h0, cell_stays hb h1, cell_stays hb h2, cell_stays hb h3⟩) ih
/-- What a value is made of. -/
theorem IsV.form {w : World} {v : PV} {val : Value} (h : IsV w v val) : ∃ (ba ka : Option Addr) (bc kc : Nat), val = .agg #[.int .u64 v.num, .slice ba v.bytes.length bc, .slice ka v.kids.length kc, .bool v.has] ∧ v.num ≤ 18446744073709551615 ∧ Bytes w ba v.bytes ∧ v.bytes.length ≤ bc ∧ (v.bytes.length : Int) ≤ 9223372036854775807 ∧ v.kids.length ≤ kc ∧ (v.kids.length : Int) ≤ 9223372036854775807 ∧
    ∀ i (hi : i < v.kids.length), ∃ (kb ko : Nat) (u0 u1 u2 u3 : Value), ka = some ⟨kb, ko, none⟩ ∧ w.cell? ⟨kb, ko + i * 4, none⟩ = some u0 ∧ w.cell? ⟨kb, ko + i * 4 + 1, none⟩ = some u1 ∧ w.cell? ⟨kb, ko + i * 4 + 2, none⟩ = some u2 ∧ w.cell? ⟨kb, ko + i * 4 + 3, none⟩ = some u3 ∧ IsV w (v.kids[i]'hi) (.agg #[u0, u1, u2, u3]) := by
  cases h with
  | mk n bs ks h ba ka bc kc kb ko c0 c1 c2 c3 hn hbb hbl hbm hkl hkm hka hc hk =>
    refine ⟨ba, ka, bc, kc, rfl, hn, hbb, hbl, hbm, hkl, hkm, fun i hi => ?_⟩
    obtain ⟨h0, h1, h2, h3⟩ := hc i hi
    exact ⟨kb, ko, _, _, _, _, hka (Nat.ne_of_gt (Nat.lt_of_le_of_lt (Nat.zero_le _) hi)), h0, h1, h2, h3, hk i hi⟩
def nilV : PV := .mk 0 [] [] false
theorem bytes_nil (w : World) : Bytes w none [] := ⟨fun i => by simp, fun h => absurd rfl h⟩
theorem isV_nil (w : World) : IsV w nilV (.agg #[.int .u64 0, .slice none 0 0, .slice none 0 0, .bool false]) :=
  .mk 0 [] [] false none none 0 0 0 0 (fun _ => .bool false) (fun _ => .bool false) (fun _ => .bool false) (fun _ => .bool false) (by decide) (bytes_nil w) (Nat.le_refl _) (by decide) (Nat.le_refl _) (by decide) (fun h => absurd rfl h) (fun i hi => absurd hi (Nat.not_lt_zero i)) (fun i hi => absurd hi (Nat.not_lt_zero i))
end Go.Proofs.YtfghaopimeoijaaDoor
