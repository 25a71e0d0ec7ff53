/-
  The scanner's calls stands and taken: is that byte next? Conditions: those that each theorem names.
-/
import Derived.Test.YtneadcbadnicfaaDoorSnA
import Derived.Deep.QuietTactic
import Derived.Test.YtneadcbadnicfaaDoorQuiet
namespace Go.Proofs.YtneadcbadnicfaaDoor
open Go.ChangeShapes Go.WideShapes Go.ChangeAt Go.RowKit

theorem sc_stands (s mb : Nat) (p : Option Addr) (n cap K : Nat) (zs : List Int) (a : Nat) (c : Int) (w : World) (h : ScSt w s mb p n cap K zs a) :
    Calls Tryd.prog 44 #[.pointer (some ⟨s, 0, none⟩), .int .u8 c] w fun e w' => e = .returned (.bool (stA zs (isC c) a)) ∧ Below w.heap.size w w' := by
  obtain ⟨hs, c0, c1, c2, f0, f1, f2⟩ := blk3 h.blk
  have hcap := h.cap_
  have hhigh := h.high
  have hlow := h.low
  by_cases hi : a < n
  · obtain ⟨hbd, hp⟩ := h.by_
    have hlen := h.len
    obtain ⟨b, off, rfl, hlt, hc⟩ := hp (by rintro rfl; simp at hlen; omega)
    have hci := hc a (by omega)
    rw [stA_of (by omega)]
    unfold isC
    generalize zs.getD a 0 = z at hci ⊢
    have t : decide ((a : Int) < (n : Int)) = true := by simp; exact hi
    have e1 : (z == c) = decide (z = c) := by rw [Bool.eq_iff_iff]; simp
    rw [← e1]
    clear e1 hc hp hbd hlen h
    generalize hr : (z == c) = r
    go_enter Tryd.func44, Tryd.ntmps44
    go_wp2
    go_quiet (fail)
    go_wp2
    go_ret
    exact ⟨ret_bool (by first | rfl | exact hr), bel_drewN (Below.refl _ _) _⟩
  · rw [stA_ge (by rw [h.len]; omega)]
    have t : decide ((a : Int) < (n : Int)) = false := by simp; omega
    clear h
    go_enter Tryd.func44, Tryd.ntmps44
    go_wp2
    go_region
    go_wp2
    go_ret
    exact ⟨rfl, (Below.refl _ _).drew⟩
theorem taken_any (s mb : Nat) (p : Option Addr) (n cap K : Nat) (zs : List Int) (a : Nat) (c : Int) (w : World) (h : ScSt w s mb p n cap K zs a) :
    Calls Tryd.prog 32 #[.pointer (some ⟨s, 0, none⟩), .int .u8 c] w fun e w' => e = .returned (.bool (stA zs (isC c) a)) ∧ ScTo w s mb p n cap K zs (if stA zs (isC c) a = true then a + 1 else a) w' := by
  have S1 := Lib.hid (sc_stands s mb p n cap K zs a c w h)
  have H := Lib.hid h
  have hl : stA zs (isC c) a = true → a + 1 ≤ n := fun h' => by have := stA_lt h'; have := h.len; omega
  clear h
  generalize stA zs (isC c) a = r at S1 hl ⊢
  cases r
  · rw [if_neg (by decide)]
    go_enter Tryd.func32, Tryd.ntmps32
    go_wp2_with fail
    refine S1.out.mono ?_
    rintro e w1 ⟨rfl, hb1⟩
    go_wp2
    go_ret
    exact ⟨rfl, (ScTo.refl H.out).bel hb1⟩
  · rw [if_pos rfl]
    have hl' := hl rfl
    clear hl
    go_enter Tryd.func32, Tryd.ntmps32
    go_wp2_with fail
    refine S1.out.mono ?_
    rintro e w1 ⟨rfl, hb1⟩
    have HB := Lib.hid hb1
    clear hb1
    go_wp2_with fail
    refine (take_any s mb p n cap K zs a 1 _ (H.out.below HB.out) hl').mono ?_
    rintro e w2 ⟨rfl, h2⟩
    have H2 := Lib.hid h2
    clear h2
    go_wp2
    go_ret
    exact ⟨rfl, ScTo.after HB.out H2.out⟩
end Go.Proofs.YtneadcbadnicfaaDoor
