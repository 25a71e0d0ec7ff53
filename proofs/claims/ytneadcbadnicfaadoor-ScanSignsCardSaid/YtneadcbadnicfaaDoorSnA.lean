/-
  The scanner of the package scan in memory, with a meter that is enough; its calls New, At, stands, take, taken. Conditions: those that each theorem names.
-/
import Derived.Test.YtneadcbadnicfaaDoorExw
import Derived.Test.YtneadcbadnicfaaDoorMeter
import Derived.Test.YtneadcbadnicfaaDoorByt
import Derived.Test.YtneadcbadnicfaaDoorLexPlain
namespace Go.Proofs.YtneadcbadnicfaaDoor
open Go.ChangeShapes Go.WideShapes Go.ChangeAt Go.RowKit

/-- A scanner at place a of the bytes zs; of the meter K - a steps are left, and K is at least as much as there are bytes. -/
structure ScSt (W : World) (s mb : Nat) (p : Option Addr) (n cap K : Nat) (zs : List Int) (a : Nat) : Prop where
  blk : W.heap[s]? = some (.cells #[.slice p n cap, .int .i64 (a : Nat), .pointer (some ⟨mb, 0, none⟩)] 69 (0, 0))
  met : W.heap[mb]? = some (.cells #[.int .i64 ((K : Int) - (a : Int)), .bool false] 74 (0, 0))
  by_ : Bytes W p zs
  len : zs.length = n
  cap_ : n ≤ cap
  ne : s ≠ mb
  np : ∀ q, p = some q → q.block ≠ s ∧ q.block ≠ mb
  le : a ≤ n
  low : n ≤ K
  high : K ≤ 2199023255552
section
variable {w : World} {s mb : Nat} {p : Option Addr} {n cap K : Nat} {zs : List Int} {a : Nat}
theorem Bytes.exw {W W' : World} {R S : Nat} {p : Option Addr} {zs : List Int} (h : Bytes W p zs) (hb : Exw R S W.heap.size W W') (hp : ∀ q, p = some q → q.block ≠ R ∧ q.block ≠ S) : Bytes W' p zs := by
  refine ⟨h.1, fun hne => ?_⟩
  obtain ⟨b, off, rfl, hlt, hc⟩ := h.2 hne
  obtain ⟨h1, h2⟩ := hp _ rfl
  exact ⟨b, off, rfl, Nat.lt_of_lt_of_le hlt hb.size, fun i hi => cell_exw hb (hc i hi) h1 h2⟩
theorem ScSt.below {w' : World} (h : ScSt w s mb p n cap K zs a) (hb : Below w.heap.size w w') : ScSt w' s mb p n cap K zs a :=
  ⟨blk_below h.blk hb (blk_lt h.blk), blk_below h.met hb (blk_lt h.met), h.by_.below (Nat.le_refl _) hb, h.len, h.cap_, h.ne, h.np, h.le, h.low, h.high⟩
/-- A step of the scanner. -/
def ScTo (w : World) (s mb : Nat) (p : Option Addr) (n cap K : Nat) (zs : List Int) (a : Nat) (w' : World) : Prop := Exw s mb w.heap.size w w' ∧ ScSt w' s mb p n cap K zs a
theorem ScTo.then {w1 w2 : World} {b c : Nat} (h : ScTo w s mb p n cap K zs b w1) (k : ScTo w1 s mb p n cap K zs c w2) : ScTo w s mb p n cap K zs c w2 := ⟨h.1.then k.1, k.2⟩
theorem ScTo.after {w1 w2 : World} {c : Nat} (h : Below w.heap.size w w1) (k : ScTo w1 s mb p n cap K zs c w2) : ScTo w s mb p n cap K zs c w2 := ⟨.after h k.1, k.2⟩
theorem ScTo.bel {w1 w2 : World} {c : Nat} (h : ScTo w s mb p n cap K zs c w1) (k : Below w1.heap.size w1 w2) : ScTo w s mb p n cap K zs c w2 := ⟨h.1.bel k, h.2.below k⟩
theorem ScTo.refl (h : ScSt w s mb p n cap K zs a) : ScTo w s mb p n cap K zs a w := ⟨.refl _ _ _ _, h⟩
theorem ScSt.moved (h : ScSt w s mb p n cap K zs a) (d : Nat) (hd : a + d ≤ n) (x : Int) (hx : x = (K : Int) - (a : Int) - (d : Int)) (y : Int) (hy : y = (a : Int) + (d : Int)) :
    ScTo w s mb p n cap K zs (a + d) ((w.setCell ⟨mb, 0, none⟩ (.int .i64 x)).setCell ⟨s, 1, none⟩ (.int .i64 y)) := by
  subst hx hy
  have he : Exw s mb w.heap.size w ((w.setCell ⟨mb, 0, none⟩ (.int .i64 ((K : Int) - (a : Int) - (d : Int)))).setCell ⟨s, 1, none⟩ (.int .i64 ((a : Int) + (d : Int)))) :=
    ((Exw.refl s mb _ w).setCell (p := ⟨mb, 0, none⟩) (.inr (.inl rfl)) _).setCell (p := ⟨s, 1, none⟩) (.inl rfl) _
  refine ⟨he, ?_, ?_, h.by_.exw he h.np, h.len, h.cap_, h.ne, h.np, hd, h.low, h.high⟩
  · rw [blk_set (blk_set_ne h.blk (fun e => h.ne e.symm) _) 1 _]
    simp
  · rw [blk_set_ne (blk_set h.met 0 _) h.ne _]
    simp
    omega
end
theorem take_any (s mb : Nat) (p : Option Addr) (n cap K : Nat) (zs : List Int) (a d : Nat) (w : World) (h : ScSt w s mb p n cap K zs a) (hd : a + d ≤ n) :
    Calls Tryd.prog 39 #[.pointer (some ⟨s, 0, none⟩), .int .i64 (d : Nat)] w fun e w' => e = .returned (.bool true) ∧ ScTo w s mb p n cap K zs (a + d) w' := by
  obtain ⟨hs, c0, c1, c2, f0, f1, f2⟩ := blk3 h.blk
  obtain ⟨hm, m0, m1, g0, g1⟩ := blk2 h.met
  have hlow := h.low
  have hhigh := h.high
  have hne := h.ne
  have hne' : mb ≠ s := fun e => hne e.symm
  have T := Lib.hid (take_yes mb ((K : Int) - (a : Int)) (d : Nat) w ⟨m0, m1, g0, g1⟩ (by omega) (by omega) (by omega))
  have H := Lib.hid h
  have k1 : (w.setCell ⟨mb, 0, none⟩ (.int .i64 ((K : Int) - (a : Int) - (d : Int)))).cell? ⟨s, 1, none⟩ = some (.int .i64 (a : Nat)) := by
    rw [blk_cell (blk_set_ne h.blk (p := ⟨mb, 0, none⟩) hne' _) 1]; rfl
  have k2 : (w.setCell ⟨mb, 0, none⟩ (.int .i64 ((K : Int) - (a : Int) - (d : Int)))).frozen? ⟨s, 1, none⟩ = false :=
    blk_frozen (blk_set_ne h.blk (p := ⟨mb, 0, none⟩) hne' _) 1
  clear h m0 m1 g0 g1 hm
  go_enter Tryd.func39, Tryd.ntmps39
  go_wp2_with fail
  refine T.out.mono ?_
  rintro e w1 ⟨rfl, rfl⟩
  go_wp2
  go_ret
  exact ⟨rfl, H.out.moved d hd _ rfl _ rfl⟩
end Go.Proofs.YtneadcbadnicfaaDoor
