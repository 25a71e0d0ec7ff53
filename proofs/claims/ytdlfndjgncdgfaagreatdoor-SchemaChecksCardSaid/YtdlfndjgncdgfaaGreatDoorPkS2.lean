/-
  One byte as a text. Conditions: those that the theorem names.
-/
import Derived.WalkKit
import Derived.Laws.BitsLemmas
import Derived.Laws.EntriesVeiled
import Derived.Shelf.Abstract
import Derived.Test.YtdlfndjgncdgfaaGreatDoorRows
import Derived.ProofKit
import Derived.OpenShut
import Derived.ShutString
import Derived.ChangeOld
import Derived.Below
import Derived.WalkLawsBesides
import Derived.WalkSpells
import Derived.Lib.Hide
import Derived.Outline
import Derived.Handy
import Derived.Shelf.Small.Strs
import Derived.BigQuiet
import Derived.Laws.BytesArg
namespace Go.Proofs.YtdlfndjgncdgfaaGreatDoor
open Go.RowKit
theorem ret_int {k : IntKind} {a b : Int} (h : a = b) : Ending.returned (.int k a) = .returned (.int k b) := by rw [h]
theorem ret_bool {a b : Bool} (h : a = b) : Ending.returned (.bool a) = .returned (.bool b) := by rw [h]
theorem ret_int_bool {k : IntKind} {a b : Int} {c : Bool} (h : a = b) : Ending.returned (.tuple #[.int k a, .bool c]) = .returned (.tuple #[.int k b, .bool c]) := by rw [h]
def kSize (n : Int) : Int :=
  if n = 1 ∨ n = 2 ∨ n = 6 ∨ n = 10 then 1 else if n = 3 ∨ n = 7 then 2 else if n = 4 ∨ n = 8 then 4 else if n = 5 ∨ n = 9 then 8 else 0
theorem kSize_else (n : Int) (h : n < 1 ∨ 10 < n) : kSize n = 0 := by
  unfold kSize
  rw [if_neg (by omega), if_neg (by omega), if_neg (by omega), if_neg (by omega)]
def kSign (n : Int) : Bool := decide (2 ≤ n ∧ n ≤ 5)
def sgn (m n : Int) : Int := if n % (2 * m) < m then n % (2 * m) else n % (2 * m) + (18446744073709551616 - 2 * m)
def sgnOf (n s : Int) : Int := if s = 1 then sgn 128 n else if s = 2 then sgn 32768 n else if s = 4 then sgn 2147483648 n else n
theorem sgnOf_else (n s : Int) (h1 : ¬ s = 1) (h2 : ¬ s = 2) (h4 : ¬ s = 4) : sgnOf n s = n := by
  unfold sgnOf
  rw [if_neg h1, if_neg h2, if_neg h4]
theorem and_8 (n : Int) (h0 : 0 ≤ n) (h1 : n ≤ 18446744073709551615) : bits BinOp.and .u64 n 255 = n % 256 :=
  bits_mask .u64 64 (by decide) (fun n h0 h1 => IntWalk.u64_in n ⟨h0, by omega⟩) 8 (by decide) n h0 (by omega)
theorem and_16 (n : Int) (h0 : 0 ≤ n) (h1 : n ≤ 18446744073709551615) : bits BinOp.and .u64 n 65535 = n % 65536 :=
  bits_mask .u64 64 (by decide) (fun n h0 h1 => IntWalk.u64_in n ⟨h0, by omega⟩) 16 (by decide) n h0 (by omega)
theorem and_32 (n : Int) (h0 : 0 ≤ n) (h1 : n ≤ 18446744073709551615) : bits BinOp.and .u64 n 4294967295 = n % 4294967296 :=
  bits_mask .u64 64 (by decide) (fun n h0 h1 => IntWalk.u64_in n ⟨h0, by omega⟩) 32 (by decide) n h0 (by omega)
theorem or_comm64 (x y : Int) : bits BinOp.or .u64 x y = bits BinOp.or .u64 y x := by simp only [bits, BitVec.or_comm]
theorem or_8 (y : Int) (h0 : 0 ≤ y) (h1 : y < 256) : bits BinOp.or .u64 y 18446744073709551360 = y + 18446744073709551360 := by
  rw [or_comm64, bits_join .u64 64 (by decide) (fun n h0 h1 => IntWalk.u64_in n ⟨h0, by omega⟩) 8 _ _ (by decide) (by decide) (by decide) h0 h1 (by omega)]
  omega
theorem or_16 (y : Int) (h0 : 0 ≤ y) (h1 : y < 65536) : bits BinOp.or .u64 y 18446744073709486080 = y + 18446744073709486080 := by
  rw [or_comm64, bits_join .u64 64 (by decide) (fun n h0 h1 => IntWalk.u64_in n ⟨h0, by omega⟩) 16 _ _ (by decide) (by decide) (by decide) h0 h1 (by omega)]
  omega
theorem or_32 (y : Int) (h0 : 0 ≤ y) (h1 : y < 4294967296) : bits BinOp.or .u64 y 18446744069414584320 = y + 18446744069414584320 := by
  rw [or_comm64, bits_join .u64 64 (by decide) (fun n h0 h1 => IntWalk.u64_in n ⟨h0, by omega⟩) 32 _ _ (by decide) (by decide) (by decide) h0 h1 (by omega)]
  omega
theorem sgnOf_1 (n : Int) : sgnOf n 1 = if n % 256 < 128 then n % 256 else n % 256 + 18446744073709551360 := rfl
theorem sgnOf_2 (n : Int) : sgnOf n 2 = if n % 65536 < 32768 then n % 65536 else n % 65536 + 18446744073709486080 := rfl
theorem sgnOf_4 (n : Int) : sgnOf n 4 = if n % 4294967296 < 2147483648 then n % 4294967296 else n % 4294967296 + 18446744069414584320 := rfl
end Go.Proofs.YtdlfndjgncdgfaaGreatDoor
namespace Go.Proofs.YtdlfndjgncdgfaaGreatDoor
open Go.ChangeShapes Go.WideShapes Go.ChangeAt Go.RowKit Go.Shelf

structure IsKind (w : World) (g : Nat) (lb : Array Value) (p : Int → Bool) : Prop where
  enters : ∀ args w, (callFunc g args).run Tryz.prog w = .ok (.enter g args) w
  gives : ∀ (W : World) (c : Int), 0 ≤ c → c ≤ 255 → Below w.heap.size w W → Calls Tryz.prog g (#[.int .u8 c] ++ lb) W fun e w' => e = .returned (.bool (p c)) ∧ Below W.heap.size W w'
theorem IsKind.later {w W : World} {g : Nat} {lb : Array Value} {p : Int → Bool} (h : IsKind w g lb p) (hb : Below w.heap.size w W) : IsKind W g lb p :=
  ⟨h.enters, fun W' c h0 h1 hb' => h.gives W' c h0 h1 (hb.trans (hb'.mono hb.size))⟩
theorem IsKind.congr {w : World} {g : Nat} {lb : Array Value} {p q : Int → Bool} (h : IsKind w g lb p) (hpq : ∀ c, 0 ≤ c → c ≤ 255 → p c = q c) : IsKind w g lb q :=
  ⟨h.enters, fun W c h0 h1 hb => by rw [← hpq c h0 h1]; exact h.gives W c h0 h1 hb⟩
def KindV (w : World) (v : Value) (p : Int → Bool) : Prop := ∃ g lb, v = .func (.func g) #[] lb ∧ IsKind w g lb p

def betw (a b : Int) (c : Int) : Bool := decide (a ≤ c ∧ c ≤ b)
theorem between1 (W : World) (B C : Nat) (a b c : Int) (hB : W.cell? ⟨B, 0, none⟩ = some (.int .u8 a)) (hC : W.cell? ⟨C, 0, none⟩ = some (.int .u8 b)) :
    Calls Tryz.prog 151 #[.int .u8 c, .pointer (some ⟨B, 0, none⟩), .pointer (some ⟨C, 0, none⟩)] W fun e w' => e = .returned (.bool (betw a b c)) ∧ Below W.heap.size W w' := by
  by_cases h1 : a ≤ c
  · have h1' : decide (a ≤ c) = true := by simpa using h1
    by_cases h2 : c ≤ b
    · have e : betw a b c = true := by simp [betw, h1, h2]
      rw [e]
      clear e
      go_enter Tryz.func151, Tryz.ntmps151
      go_wp2
      go_ret
      exact ⟨rfl, Below.refl _ _⟩
    · have e : betw a b c = false := by simp [betw, h1, h2]
      rw [e]
      clear e
      go_enter Tryz.func151, Tryz.ntmps151
      go_wp2
      go_ret
      exact ⟨rfl, Below.refl _ _⟩
  · have e : betw a b c = false := by simp [betw, h1]
    rw [e]
    clear e
    go_enter Tryz.func151, Tryz.ntmps151
    go_wp2
    go_ret
    exact ⟨rfl, Below.refl _ _⟩
theorem between_any (a b : Int) (w : World) :
    Calls Tryz.prog 133 #[.int .u8 a, .int .u8 b] w fun e w' => ∃ v, e = .returned v ∧ Below w.heap.size w w' ∧ KindV w' v (betw a b) := by
  go_enter Tryz.func133, Tryz.ntmps133
  go_wp2
  go_ret
  refine ⟨_, rfl, ((Below.refl _ _).alloc (Nat.le_refl _) _).alloc (by simp) _, _, _, rfl, enters_of Tryz.func151 (by kernel_rfl) rfl, fun W c _ _ hb => ?_⟩
  have h1 : ∀ i, i < 2 → W.cell? ⟨w.heap.size + i, 0, none⟩ = _ := fun i hi => hb.cell (p := ⟨w.heap.size + i, 0, none⟩) (by simp; omega)
  refine between1 W _ _ a b c ((h1 0 (by omega)).trans ?_) ((h1 1 (by omega)).trans ?_)
  · simp [go_sem]
  · simp [go_sem]
theorem either1 (W w1 w2 : World) (B C g1 g2 : Nat) (l1 l2 : Array Value) (p1 p2 : Int → Bool) (c : Int) (hc0 : 0 ≤ c) (hc1 : c ≤ 255) (hB : W.cell? ⟨B, 0, none⟩ = some (.func (.func g1) #[] l1)) (hC : W.cell? ⟨C, 0, none⟩ = some (.func (.func g2) #[] l2)) (hCs : C < W.heap.size)
    (h1 : IsKind w1 g1 l1 p1) (hb1 : Below w1.heap.size w1 W) (h2 : IsKind w2 g2 l2 p2) (hb2 : Below w2.heap.size w2 W) :
    Calls Tryz.prog 134 #[.int .u8 c, .pointer (some ⟨B, 0, none⟩), .pointer (some ⟨C, 0, none⟩)] W fun e w' => e = .returned (.bool (p1 c || p2 c)) ∧ Below W.heap.size W w' := by
  have e1 := h1.enters
  have e2 := h2.enters
  have H1 := Lib.hid (h1.gives W c hc0 hc1 hb1)
  have H2 := Lib.hid (fun W' hb => h2.gives W' c hc0 hc1 hb)
  have HB := Lib.hid hb2
  have HC := Lib.hid hC
  clear h1 h2 hb1 hb2 hC
  cases hp : p1 c
  · rw [hp] at H1
    rw [Bool.false_or]
    clear hp
    go_enter Tryz.func134, Tryz.ntmps134
    go_wp2_with fail
    refine H1.out.mono ?_
    rintro e W1 ⟨rfl, hb⟩
    have hC' : W1.cell? ⟨C, 0, none⟩ = some (.func (.func g2) #[] l2) := (hb.cell (p := ⟨C, 0, none⟩) hCs).trans HC.out
    have H := Lib.hid hb
    clear hb
    go_wp2_with fail
    refine (H2.out _ (HB.out.trans (H.out.mono HB.out.size))).mono ?_
    rintro e W2 ⟨rfl, hb⟩
    clear hC'
    go_wp2
    go_ret
    exact ⟨rfl, H.out.trans (hb.mono H.out.size)⟩
  · rw [hp] at H1
    rw [Bool.true_or]
    clear hp
    go_enter Tryz.func134, Tryz.ntmps134
    go_wp2_with fail
    refine H1.out.mono ?_
    rintro e W1 ⟨rfl, hb⟩
    go_wp2
    go_ret
    exact ⟨rfl, hb⟩
theorem either_any (v1 v2 : Value) (p1 p2 : Int → Bool) (w : World) (h1 : KindV w v1 p1) (h2 : KindV w v2 p2) :
    Calls Tryz.prog 109 #[v1, v2] w fun e w' => ∃ v, e = .returned v ∧ Below w.heap.size w w' ∧ KindV w' v (fun c => p1 c || p2 c) := by
  obtain ⟨g1, l1, rfl, h1⟩ := h1
  obtain ⟨g2, l2, rfl, h2⟩ := h2
  go_enter Tryz.func109, Tryz.ntmps109
  go_wp2
  go_ret
  refine ⟨_, rfl, ((Below.refl _ _).alloc (Nat.le_refl _) _).alloc (by simp) _, _, _, rfl, enters_of Tryz.func134 (by kernel_rfl) rfl, fun W c h0 h1' hb => ?_⟩
  have hk : ∀ i, i < 2 → W.cell? ⟨w.heap.size + i, 0, none⟩ = _ := fun i hi => hb.cell (p := ⟨w.heap.size + i, 0, none⟩) (by simp; omega)
  have hs := hb.size
  simp at hs
  have hbw : Below w.heap.size w W := (((Below.refl _ _).alloc (Nat.le_refl _) _).alloc (by simp) _).trans (hb.mono (by simp; omega))
  refine either1 W w w _ _ g1 g2 l1 l2 p1 p2 c h0 h1' ((hk 0 (by omega)).trans ?_) ((hk 1 (by omega)).trans ?_) (by omega) h1 hbw h2 hbw
  · simp [go_sem]
  · simp [go_sem]
theorem but1 (W w1 : World) (B g1 : Nat) (l1 : Array Value) (p1 : Int → Bool) (c : Int) (hc0 : 0 ≤ c) (hc1 : c ≤ 255) (hB : W.cell? ⟨B, 0, none⟩ = some (.func (.func g1) #[] l1))
    (h1 : IsKind w1 g1 l1 p1) (hb1 : Below w1.heap.size w1 W) :
    Calls Tryz.prog 132 #[.int .u8 c, .pointer (some ⟨B, 0, none⟩)] W fun e w' => e = .returned (.bool (!p1 c)) ∧ Below W.heap.size W w' := by
  have e1 := h1.enters
  have H1 := Lib.hid (h1.gives W c hc0 hc1 hb1)
  clear h1 hb1
  generalize p1 c = x at H1 ⊢
  go_enter Tryz.func132, Tryz.ntmps132
  go_wp2_with fail
  refine H1.out.mono ?_
  rintro e W1 ⟨rfl, hb⟩
  go_wp2
  go_ret
  exact ⟨rfl, hb⟩
theorem but_any (v1 : Value) (p1 : Int → Bool) (w : World) (h1 : KindV w v1 p1) :
    Calls Tryz.prog 106 #[v1] w fun e w' => ∃ v, e = .returned v ∧ Below w.heap.size w w' ∧ KindV w' v (fun c => !p1 c) := by
  obtain ⟨g1, l1, rfl, h1⟩ := h1
  go_enter Tryz.func106, Tryz.ntmps106
  go_wp2
  go_ret
  refine ⟨_, rfl, (Below.refl _ _).alloc (Nat.le_refl _) _, _, _, rfl, enters_of Tryz.func132 (by kernel_rfl) rfl, fun W c h0 h1' hb => ?_⟩
  have hk : W.cell? ⟨w.heap.size, 0, none⟩ = _ := hb.cell (p := ⟨w.heap.size, 0, none⟩) (by simp)
  have hbw : Below w.heap.size w W := ((Below.refl _ _).alloc (Nat.le_refl _) _).trans (hb.mono (by simp))
  refine but1 W w _ g1 l1 p1 c h0 h1' (hk.trans ?_) h1 hbw
  simp [go_sem]
end Go.Proofs.YtdlfndjgncdgfaaGreatDoor
namespace Go.Proofs.YtdlfndjgncdgfaaGreatDoor
open Go.Proofs Go.Shelf
def Tryz.lays137_ren : Go.Shelf.Ren := ⟨fun | 137 => 116 | 217 => 138 | 266 => 152 | n => n, fun | 9 => 9 | 5 => 5 | 3 => 3 | n => n, fun | n => n⟩
theorem Tryz.lays137 : Go.Proofs.Lays.n137 Tryz.prog Tryz.lays137_ren := {
  mixed := by kernel_rfl
  f137 := Tryz.func116.trans (congrArg some (by kernel_rfl))
  f217 := Tryz.func138.trans (congrArg some (by kernel_rfl))
  f266 := Tryz.func152.trans (congrArg some (by kernel_rfl))
  t3 := Tryz.underlying3
  a3 := Tryz.isAgg3
  z3 := Tryz.sizeOf3
  v3 := Tryz.zeroValue3
  t5 := Tryz.underlying5
  a5 := Tryz.isAgg5
  z5 := Tryz.sizeOf5
  v5 := Tryz.zeroValue5
  t9 := Tryz.underlying9
  a9 := Tryz.isAgg9
  z9 := Tryz.sizeOf9
  v9 := Tryz.zeroValue9 }
open Go.RowKit in
theorem Tryz.strings_IndexByte (s : ByteArray) (c : Int) (w : World) :
    Calls Tryz.prog 116 #[.string s, .int .u8 c] w fun e w' => e = .returned (.int .i64 (Lib.indexByte s.data.toList c.toNat.toUInt8)) ∧ w' = w := Any.strings_IndexByte Tryz.lays137 s c w
end Go.Proofs.YtdlfndjgncdgfaaGreatDoor
namespace Go.Proofs.YtdlfndjgncdgfaaGreatDoor
open Go.RowKit
theorem bel_drewN {B : Nat} {a w : World} (h : Below B a w) (n : Nat) : Below B a (w.drewN n) := h.trans ⟨rfl, rfl, rfl, Nat.le_refl _, fun _ _ => rfl⟩
end Go.Proofs.YtdlfndjgncdgfaaGreatDoor
namespace Go.Proofs.YtdlfndjgncdgfaaGreatDoor
open Go.ChangeShapes Go.WideShapes Go.ChangeAt Go.RowKit

theorem one_str (W : World) (z : Int) : (convert 22 9 (.slice (some ⟨W.heap.size, 0, none⟩) 1 1)).run Tryz.prog (W.alloc (.cells #[.int .u8 z] 5)) = .ok (.string (strOfNums [z])) (W.alloc (.cells #[.int .u8 z] 5)) := by
  refine run_convert_bytes_arg (P := Tryz.prog) _ 22 5 Tryz.underlying22 Tryz.underlying5 W.heap.size 0 1 1 [z] rfl (fun k hk => ?_) 9 Tryz.underlying9
  obtain rfl : k = 0 := by omega
  rw [cell_of_row _ _ _ _ _ (0, 0) (heap_alloc_new W _)]
  rfl
end Go.Proofs.YtdlfndjgncdgfaaGreatDoor
