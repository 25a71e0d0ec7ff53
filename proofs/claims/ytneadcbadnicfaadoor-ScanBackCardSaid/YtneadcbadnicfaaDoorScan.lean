/-
  Whether a byte of a kind stands at a place, and the place behind all that stand from there on: the package lex's stands and run. Conditions: those that each theorem names.
-/
import Derived.Test.YtneadcbadnicfaaDoorAmong
import Derived.Test.YtneadcbadnicfaaDoorUtf8P
namespace Go.Proofs.YtneadcbadnicfaaDoor
open Go.ChangeShapes Go.WideShapes Go.ChangeAt Go.RowKit Go.Shelf

theorem stands_any (p : Option Addr) (n cap i : Nat) (x : Int) (zs : List Int) (v : Value) (k : Int → Bool) (w : World) (hx : x = i) (hz : Bytes w p zs) (hn : zs.length = n) (hk : KindV w v k) (_hl : n ≤ 281474976710656) :
    Calls Tryd.prog 71 #[.slice p n cap, .int .i64 x, v] w fun e w' => e = .returned (.bool (stA zs k i)) ∧ Below w.heap.size w w' := by
  subst hx
  by_cases hi : i < n
  · obtain ⟨g, lb, rfl, hk⟩ := hk
    obtain ⟨hbd, hp⟩ := hz
    obtain ⟨b, off, rfl, hlt, hc⟩ := hp (by rintro rfl; simp at hn; omega)
    have hci := hc i (by omega)
    have hb := hbd i
    have e1 := hk.enters
    have H := Lib.hid (hk.gives w (zs.getD i 0) hb.1 hb.2 (Below.refl _ _))
    rw [stA_of (by omega)]
    have hd : decide ((i : Int) < (n : Int)) = true := by simp; exact hi
    generalize zs.getD i 0 = z at hci H
    generalize k z = r at H ⊢
    clear hbd hp hb hk hc hn
    go_enter Tryd.func71, Tryd.ntmps71
    go_wp2_with fail
    refine H.out.mono ?_
    rintro e W1 ⟨rfl, hb⟩
    go_wp2
    go_ret
    exact ⟨rfl, hb⟩
  · have hd : decide ((i : Int) < (n : Int)) = false := by simp; omega
    rw [stA_ge (by omega)]
    clear hz hk hn
    go_enter Tryd.func71, Tryd.ntmps71
    go_wp2
    go_ret
    exact ⟨rfl, Below.refl _ _⟩
theorem run_any (p : Option Addr) (n cap i : Nat) (x : Int) (zs : List Int) (v : Value) (k : Int → Bool) (w : World) (hx : x = i) (hz : Bytes w p zs) (hn : zs.length = n) (hk : KindV w v k) (hl : n ≤ 281474976710656) (hi : i ≤ n) :
    Calls Tryd.prog 73 #[.slice p n cap, .int .i64 x, v] w fun e w' => e = .returned (.int .i64 (runTo zs k i : Nat)) ∧ Below w.heap.size w w' := by
  subst hx
  have HS := Lib.hid (fun j W hb => stands_any p n cap j j zs v k W rfl (Bytes.below hz (Nat.le_refl _) hb) hn (hk.later hb) hl)
  have HN := Lib.hid hn
  obtain ⟨g, lb, rfl, _⟩ := hk
  clear hz hn
  go_enter Tryd.func73, Tryd.ntmps73
  go_wp2
  go_loopw [1] (fun i' wr => Below w.heap.size w wr ∧ ∃ j : Nat, j ≤ n ∧ i' = .int .i64 j ∧ runTo zs k i = runTo zs k j) (fun i' _ => n - (intOf i').toNat)
  case atStart => exact ⟨Below.refl _ _, i, hi, rfl, rfl⟩
  case round =>
    obtain ⟨hb, j, hj, rfl, hr⟩ := hrel
    have HB := Lib.hid hb
    have HR := Lib.hid hr
    clear hb hr
    cases hs : stA zs k j
    · have S := HS.out j _ HB.out
      rw [hs] at S
      have HS1 := Lib.hid S
      have HE := Lib.hid (runTo_stop hs)
      clear S hs
      go_wp2_with fail
      refine HS1.out.mono ?_
      rintro e W1 ⟨rfl, hb1⟩
      go_wp2
      go_ret
      exact ⟨ret_int (by rw [HR.out, HE.out]), HB.out.trans (hb1.mono HB.out.size)⟩
    · have S := HS.out j _ HB.out
      rw [hs] at S
      have HS1 := Lib.hid S
      have HE := Lib.hid (runTo_step hs)
      have hlt := stA_lt hs
      rw [HN.out] at hlt
      clear S hs
      go_wp2_with fail
      refine HS1.out.mono ?_
      rintro e W1 ⟨rfl, hb1⟩
      go_wp2
      go_roundw
      case rel => exact ⟨HB.out.trans (hb1.mono HB.out.size), j + 1, by omega, by go_num, by rw [HR.out, HE.out]⟩
      case measure => simp [intOf]; omega
end Go.Proofs.YtneadcbadnicfaaDoor
