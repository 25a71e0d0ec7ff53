/-
  The document's reader of JSON in memory; its here, Blank, Sign. Conditions: those that each theorem names.
-/
import Derived.Test.YtneadcbadnicfaaDoorExc
import Derived.Test.YtneadcbadnicfaaDoorByt
import Derived.Test.YtneadcbadnicfaaDoorQuiet
import Derived.Deep.QuietTactic
namespace Go.Proofs.YtneadcbadnicfaaDoor
open Go.ChangeShapes Go.WideShapes Go.ChangeAt Go.RowKit

/-- The reader at place a of the bytes zs. -/
structure RdSc (W : World) (r : Nat) (x0 x1 x2 : Value) (p : Option Addr) (n cap : Nat) (zs : List Int) (bad : Value) (a : Nat) : Prop where
  blk : W.heap[r]? = some (.cells #[x0, x1, x2, .slice p n cap, .int .i64 (a : Nat), bad] 32 (0, 0))
  by_ : Bytes W p zs
  len : zs.length = n
  cap_ : n ≤ cap
  np : zs ≠ [] → ∀ q, p = some q → q.block ≠ r
  le : a ≤ n + 1
  high : n ≤ 1099511627776
section
variable {w : World} {r : Nat} {x0 x1 x2 : Value} {p : Option Addr} {n cap : Nat} {zs : List Int} {bad : Value} {a : Nat}
theorem Bytes.excR {W W' : World} {R : Nat} {p : Option Addr} {zs : List Int} (h : Bytes W p zs) (hb : Exc R W.heap.size W W') (hp : zs ≠ [] → ∀ q, p = some q → q.block ≠ R) : Bytes W' p zs := by
  refine ⟨h.1, fun hne => ?_⟩
  obtain ⟨b, off, rfl, hlt, hc⟩ := h.2 hne
  exact ⟨b, off, rfl, Nat.lt_of_lt_of_le hlt hb.size, fun i hi => (hb.cell (p := ⟨b, off + i, none⟩) hlt (hp hne ⟨b, off, none⟩ rfl)).trans (hc i hi)⟩
theorem RdSc.below {w' : World} (h : RdSc w r x0 x1 x2 p n cap zs bad a) (hb : Below w.heap.size w w') : RdSc w' r x0 x1 x2 p n cap zs bad a :=
  ⟨blk_below h.blk hb (blk_lt h.blk), h.by_.below (Nat.le_refl _) hb, h.len, h.cap_, h.np, h.le, h.high⟩
/-- A step of the reader. -/
def RdTo (w : World) (r : Nat) (x0 x1 x2 : Value) (p : Option Addr) (n cap : Nat) (zs : List Int) (bad : Value) (a : Nat) (w' : World) : Prop := Exc r w.heap.size w w' ∧ RdSc w' r x0 x1 x2 p n cap zs bad a
theorem RdTo.then {w1 w2 : World} {b c : Nat} (h : RdTo w r x0 x1 x2 p n cap zs bad b w1) (k : RdTo w1 r x0 x1 x2 p n cap zs bad c w2) : RdTo w r x0 x1 x2 p n cap zs bad c w2 := ⟨h.1.then k.1, k.2⟩
theorem RdTo.after {w1 w2 : World} {c : Nat} (h : Below w.heap.size w w1) (k : RdTo w1 r x0 x1 x2 p n cap zs bad c w2) : RdTo w r x0 x1 x2 p n cap zs bad c w2 := ⟨(Exc.of_below h).then k.1, k.2⟩
theorem RdTo.bel {w1 w2 : World} {c : Nat} (h : RdTo w r x0 x1 x2 p n cap zs bad c w1) (k : Below w1.heap.size w1 w2) : RdTo w r x0 x1 x2 p n cap zs bad c w2 := ⟨h.1.then (.of_below k), h.2.below k⟩
theorem RdTo.refl (h : RdSc w r x0 x1 x2 p n cap zs bad a) : RdTo w r x0 x1 x2 p n cap zs bad a w := ⟨.refl _ _ _, h⟩
theorem rd6 (h : RdSc w r x0 x1 x2 p n cap zs bad a) : r < w.heap.size ∧ w.cell? ⟨r, 3, none⟩ = some (.slice p n cap) ∧ w.cell? ⟨r, 4, none⟩ = some (.int .i64 (a : Nat)) ∧ w.frozen? ⟨r, 3, none⟩ = false ∧ w.frozen? ⟨r, 4, none⟩ = false :=
  ⟨blk_lt h.blk, (blk_cell h.blk 3).trans rfl, (blk_cell h.blk 4).trans rfl, blk_frozen h.blk 3, blk_frozen h.blk 4⟩
theorem RdSc.moved (h : RdSc w r x0 x1 x2 p n cap zs bad a) (b : Nat) (hb : b ≤ n + 1) (x : Int) (hx : x = (b : Nat)) : RdTo w r x0 x1 x2 p n cap zs bad b (w.setCell ⟨r, 4, none⟩ (.int .i64 x)) := by
  subst hx
  have he := exc_set w r 4 (.int .i64 ((b : Nat) : Int))
  exact ⟨he, blk_set h.blk 4 _, h.by_.excR he h.np, h.len, h.cap_, h.np, hb, h.high⟩
end
/-- The byte that is next; -1: none. -/
def hereZ (zs : List Int) (a : Nat) : Int := if a < zs.length then zs.getD a 0 else -1
theorem here_any (r : Nat) (x0 x1 x2 : Value) (p : Option Addr) (n cap : Nat) (zs : List Int) (bad : Value) (a : Nat) (w : World) (h : RdSc w r x0 x1 x2 p n cap zs bad a) :
    Calls Tryd.prog 35 #[.pointer (some ⟨r, 0, none⟩)] w fun e w' => e = .returned (.int .i64 (hereZ zs a)) ∧ Below w.heap.size w w' := by
  obtain ⟨hr, c3, c4, f3, f4⟩ := rd6 h
  have hcap := h.cap_
  have hhigh := h.high
  unfold hereZ
  by_cases hi : a < n
  · rw [if_pos (by rw [h.len]; exact hi)]
    obtain ⟨hbd, hp⟩ := h.by_
    have hlen := h.len
    obtain ⟨b, off, rfl, hlt, hc⟩ := hp (by rintro rfl; simp at hlen; omega)
    have hci := hc a (by omega)
    obtain ⟨z0, z1⟩ := hbd a
    generalize zs.getD a 0 = z at hci z0 z1 ⊢
    clear hc hp hbd hlen h
    go_enter Tryd.func35, Tryd.ntmps35
    go_wp2
    go_quiet (fail)
    go_wp2
    go_quiet (fail)
    go_wp2
    go_ret
    exact ⟨rfl, by first | exact bel_drewN (bel_drewN (Below.refl _ _) _) _ | exact bel_drewN (Below.refl _ _) _⟩
  · rw [if_neg (by rw [h.len]; exact hi)]
    clear h
    go_enter Tryd.func35, Tryd.ntmps35
    go_wp2
    go_quiet (fail)
    go_wp2
    go_ret
    exact ⟨rfl, bel_drewN (Below.refl _ _) _⟩
theorem step1_any (r : Nat) (x0 x1 x2 : Value) (p : Option Addr) (n cap : Nat) (zs : List Int) (bad : Value) (a : Nat) (w : World) (h : RdSc w r x0 x1 x2 p n cap zs bad a) (ha : a ≤ n) (x : Int) (hx : x = (a : Nat) + 1) :
    RdTo w r x0 x1 x2 p n cap zs bad (a + 1) (w.setCell ⟨r, 4, none⟩ (.int .i64 x)) := h.moved (a + 1) (by omega) x (by omega)
end Go.Proofs.YtneadcbadnicfaaDoor
