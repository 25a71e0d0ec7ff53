/-
  What unicode/utf8.DecodeRune hands back at every slice of bytes that is not nil: the library's own contract, laid at this translation; and that the two tables it reads are those that the row lists. Condition: the tables hold what the row lists.
-/
import Derived.WalkKit
import Derived.Laws.BitsLemmas
import Derived.Laws.BytesArg
import Derived.Test.YtgbcchiheddfpaaGreatDoorRows
import Derived.ProofKit
import Derived.OpenShut
import Derived.ShutString
import Derived.ChangeOld
import Derived.Below
import Derived.WalkLawsBesides
import Derived.WalkSpells
import Derived.Lib.Hide
import Derived.Outline
import Derived.Handy
import Derived.Laws.EntriesVeiled
import Derived.Shelf.Abstract
import Derived.Shelf.Spec.DecodeRune
import Derived.Lib.LaidU8T
import Derived.KernelRfl
namespace Go.Proofs.YtgbcchiheddfpaaGreatDoor
open Go.RowKit
theorem ret_int {k : IntKind} {a b : Int} (h : a = b) : Ending.returned (.int k a) = .returned (.int k b) := by rw [h]
theorem ret_bool {a b : Bool} (h : a = b) : Ending.returned (.bool a) = .returned (.bool b) := by rw [h]
theorem ret_int_bool {k : IntKind} {a b : Int} {c : Bool} (h : a = b) : Ending.returned (.tuple #[.int k a, .bool c]) = .returned (.tuple #[.int k b, .bool c]) := by rw [h]
def kSize (n : Int) : Int :=
  if n = 1 ∨ n = 2 ∨ n = 6 ∨ n = 10 then 1 else if n = 3 ∨ n = 7 then 2 else if n = 4 ∨ n = 8 then 4 else if n = 5 ∨ n = 9 then 8 else 0
theorem kSize_else (n : Int) (h : n < 1 ∨ 10 < n) : kSize n = 0 := by
  unfold kSize
  rw [if_neg (by omega), if_neg (by omega), if_neg (by omega), if_neg (by omega)]
def kSign (n : Int) : Bool := decide (2 ≤ n ∧ n ≤ 5)
def sgn (m n : Int) : Int := if n % (2 * m) < m then n % (2 * m) else n % (2 * m) + (18446744073709551616 - 2 * m)
def sgnOf (n s : Int) : Int := if s = 1 then sgn 128 n else if s = 2 then sgn 32768 n else if s = 4 then sgn 2147483648 n else n
theorem sgnOf_else (n s : Int) (h1 : ¬ s = 1) (h2 : ¬ s = 2) (h4 : ¬ s = 4) : sgnOf n s = n := by
  unfold sgnOf
  rw [if_neg h1, if_neg h2, if_neg h4]
theorem and_8 (n : Int) (h0 : 0 ≤ n) (h1 : n ≤ 18446744073709551615) : bits BinOp.and .u64 n 255 = n % 256 :=
  bits_mask .u64 64 (by decide) (fun n h0 h1 => IntWalk.u64_in n ⟨h0, by omega⟩) 8 (by decide) n h0 (by omega)
theorem and_16 (n : Int) (h0 : 0 ≤ n) (h1 : n ≤ 18446744073709551615) : bits BinOp.and .u64 n 65535 = n % 65536 :=
  bits_mask .u64 64 (by decide) (fun n h0 h1 => IntWalk.u64_in n ⟨h0, by omega⟩) 16 (by decide) n h0 (by omega)
theorem and_32 (n : Int) (h0 : 0 ≤ n) (h1 : n ≤ 18446744073709551615) : bits BinOp.and .u64 n 4294967295 = n % 4294967296 :=
  bits_mask .u64 64 (by decide) (fun n h0 h1 => IntWalk.u64_in n ⟨h0, by omega⟩) 32 (by decide) n h0 (by omega)
theorem or_comm64 (x y : Int) : bits BinOp.or .u64 x y = bits BinOp.or .u64 y x := by simp only [bits, BitVec.or_comm]
theorem or_8 (y : Int) (h0 : 0 ≤ y) (h1 : y < 256) : bits BinOp.or .u64 y 18446744073709551360 = y + 18446744073709551360 := by
  rw [or_comm64, bits_join .u64 64 (by decide) (fun n h0 h1 => IntWalk.u64_in n ⟨h0, by omega⟩) 8 _ _ (by decide) (by decide) (by decide) h0 h1 (by omega)]
  omega
theorem or_16 (y : Int) (h0 : 0 ≤ y) (h1 : y < 65536) : bits BinOp.or .u64 y 18446744073709486080 = y + 18446744073709486080 := by
  rw [or_comm64, bits_join .u64 64 (by decide) (fun n h0 h1 => IntWalk.u64_in n ⟨h0, by omega⟩) 16 _ _ (by decide) (by decide) (by decide) h0 h1 (by omega)]
  omega
theorem or_32 (y : Int) (h0 : 0 ≤ y) (h1 : y < 4294967296) : bits BinOp.or .u64 y 18446744069414584320 = y + 18446744069414584320 := by
  rw [or_comm64, bits_join .u64 64 (by decide) (fun n h0 h1 => IntWalk.u64_in n ⟨h0, by omega⟩) 32 _ _ (by decide) (by decide) (by decide) h0 h1 (by omega)]
  omega
theorem sgnOf_1 (n : Int) : sgnOf n 1 = if n % 256 < 128 then n % 256 else n % 256 + 18446744073709551360 := rfl
theorem sgnOf_2 (n : Int) : sgnOf n 2 = if n % 65536 < 32768 then n % 65536 else n % 65536 + 18446744073709486080 := rfl
theorem sgnOf_4 (n : Int) : sgnOf n 4 = if n % 4294967296 < 2147483648 then n % 4294967296 else n % 4294967296 + 18446744069414584320 := rfl
end Go.Proofs.YtgbcchiheddfpaaGreatDoor
namespace Go.Proofs.YtgbcchiheddfpaaGreatDoor
open Go.ChangeShapes Go.WideShapes Go.ChangeAt Go.RowKit

theorem one_str (W : World) (z : Int) : (convert 22 9 (.slice (some ⟨W.heap.size, 0, none⟩) 1 1)).run Tryz.prog (W.alloc (.cells #[.int .u8 z] 5)) = .ok (.string (strOfNums [z])) (W.alloc (.cells #[.int .u8 z] 5)) := by
  refine run_convert_bytes_arg (P := Tryz.prog) _ 22 5 Tryz.underlying22 Tryz.underlying5 W.heap.size 0 1 1 [z] rfl (fun k hk => ?_) 9 Tryz.underlying9
  obtain rfl : k = 0 := by omega
  rw [cell_of_row _ _ _ _ _ (0, 0) (heap_alloc_new W _)]
  rfl
end Go.Proofs.YtgbcchiheddfpaaGreatDoor
namespace Go.Proofs.YtgbcchiheddfpaaGreatDoor
open Go.ChangeShapes Go.WideShapes Go.ChangeAt Go.RowKit Go.Shelf

structure IsKind (w : World) (g : Nat) (lb : Array Value) (p : Int → Bool) : Prop where
  enters : ∀ args w, (callFunc g args).run Tryz.prog w = .ok (.enter g args) w
  gives : ∀ (W : World) (c : Int), 0 ≤ c → c ≤ 255 → Below w.heap.size w W → Calls Tryz.prog g (#[.int .u8 c] ++ lb) W fun e w' => e = .returned (.bool (p c)) ∧ Below W.heap.size W w'
theorem IsKind.later {w W : World} {g : Nat} {lb : Array Value} {p : Int → Bool} (h : IsKind w g lb p) (hb : Below w.heap.size w W) : IsKind W g lb p :=
  ⟨h.enters, fun W' c h0 h1 hb' => h.gives W' c h0 h1 (hb.trans (hb'.mono hb.size))⟩
theorem IsKind.congr {w : World} {g : Nat} {lb : Array Value} {p q : Int → Bool} (h : IsKind w g lb p) (hpq : ∀ c, 0 ≤ c → c ≤ 255 → p c = q c) : IsKind w g lb q :=
  ⟨h.enters, fun W c h0 h1 hb => by rw [← hpq c h0 h1]; exact h.gives W c h0 h1 hb⟩
def KindV (w : World) (v : Value) (p : Int → Bool) : Prop := ∃ g lb, v = .func (.func g) #[] lb ∧ IsKind w g lb p

def betw (a b : Int) (c : Int) : Bool := decide (a ≤ c ∧ c ≤ b)
theorem between1 (W : World) (B C : Nat) (a b c : Int) (hB : W.cell? ⟨B, 0, none⟩ = some (.int .u8 a)) (hC : W.cell? ⟨C, 0, none⟩ = some (.int .u8 b)) :
    Calls Tryz.prog 244 #[.int .u8 c, .pointer (some ⟨B, 0, none⟩), .pointer (some ⟨C, 0, none⟩)] W fun e w' => e = .returned (.bool (betw a b c)) ∧ Below W.heap.size W w' := by
  by_cases h1 : a ≤ c
  · have h1' : decide (a ≤ c) = true := by simpa using h1
    by_cases h2 : c ≤ b
    · have e : betw a b c = true := by simp [betw, h1, h2]
      rw [e]
      clear e
      go_enter Tryz.func244, Tryz.ntmps244
      go_wp2
      go_ret
      exact ⟨rfl, Below.refl _ _⟩
    · have e : betw a b c = false := by simp [betw, h1, h2]
      rw [e]
      clear e
      go_enter Tryz.func244, Tryz.ntmps244
      go_wp2
      go_ret
      exact ⟨rfl, Below.refl _ _⟩
  · have e : betw a b c = false := by simp [betw, h1]
    rw [e]
    clear e
    go_enter Tryz.func244, Tryz.ntmps244
    go_wp2
    go_ret
    exact ⟨rfl, Below.refl _ _⟩
theorem between_any (a b : Int) (w : World) :
    Calls Tryz.prog 228 #[.int .u8 a, .int .u8 b] w fun e w' => ∃ v, e = .returned v ∧ Below w.heap.size w w' ∧ KindV w' v (betw a b) := by
  go_enter Tryz.func228, Tryz.ntmps228
  go_wp2
  go_ret
  refine ⟨_, rfl, ((Below.refl _ _).alloc (Nat.le_refl _) _).alloc (by simp) _, _, _, rfl, enters_of Tryz.func244 (by kernel_rfl) rfl, fun W c _ _ hb => ?_⟩
  have h1 : ∀ i, i < 2 → W.cell? ⟨w.heap.size + i, 0, none⟩ = _ := fun i hi => hb.cell (p := ⟨w.heap.size + i, 0, none⟩) (by simp; omega)
  refine between1 W _ _ a b c ((h1 0 (by omega)).trans ?_) ((h1 1 (by omega)).trans ?_)
  · simp [go_sem]
  · simp [go_sem]
theorem either1 (W w1 w2 : World) (B C g1 g2 : Nat) (l1 l2 : Array Value) (p1 p2 : Int → Bool) (c : Int) (hc0 : 0 ≤ c) (hc1 : c ≤ 255) (hB : W.cell? ⟨B, 0, none⟩ = some (.func (.func g1) #[] l1)) (hC : W.cell? ⟨C, 0, none⟩ = some (.func (.func g2) #[] l2)) (hCs : C < W.heap.size)
    (h1 : IsKind w1 g1 l1 p1) (hb1 : Below w1.heap.size w1 W) (h2 : IsKind w2 g2 l2 p2) (hb2 : Below w2.heap.size w2 W) :
    Calls Tryz.prog 229 #[.int .u8 c, .pointer (some ⟨B, 0, none⟩), .pointer (some ⟨C, 0, none⟩)] W fun e w' => e = .returned (.bool (p1 c || p2 c)) ∧ Below W.heap.size W w' := by
  have e1 := h1.enters
  have e2 := h2.enters
  have H1 := Lib.hid (h1.gives W c hc0 hc1 hb1)
  have H2 := Lib.hid (fun W' hb => h2.gives W' c hc0 hc1 hb)
  have HB := Lib.hid hb2
  have HC := Lib.hid hC
  clear h1 h2 hb1 hb2 hC
  cases hp : p1 c
  · rw [hp] at H1
    rw [Bool.false_or]
    clear hp
    go_enter Tryz.func229, Tryz.ntmps229
    go_wp2_with fail
    refine H1.out.mono ?_
    rintro e W1 ⟨rfl, hb⟩
    have hC' : W1.cell? ⟨C, 0, none⟩ = some (.func (.func g2) #[] l2) := (hb.cell (p := ⟨C, 0, none⟩) hCs).trans HC.out
    have H := Lib.hid hb
    clear hb
    go_wp2_with fail
    refine (H2.out _ (HB.out.trans (H.out.mono HB.out.size))).mono ?_
    rintro e W2 ⟨rfl, hb⟩
    clear hC'
    go_wp2
    go_ret
    exact ⟨rfl, H.out.trans (hb.mono H.out.size)⟩
  · rw [hp] at H1
    rw [Bool.true_or]
    clear hp
    go_enter Tryz.func229, Tryz.ntmps229
    go_wp2_with fail
    refine H1.out.mono ?_
    rintro e W1 ⟨rfl, hb⟩
    go_wp2
    go_ret
    exact ⟨rfl, hb⟩
theorem either_any (v1 v2 : Value) (p1 p2 : Int → Bool) (w : World) (h1 : KindV w v1 p1) (h2 : KindV w v2 p2) :
    Calls Tryz.prog 195 #[v1, v2] w fun e w' => ∃ v, e = .returned v ∧ Below w.heap.size w w' ∧ KindV w' v (fun c => p1 c || p2 c) := by
  obtain ⟨g1, l1, rfl, h1⟩ := h1
  obtain ⟨g2, l2, rfl, h2⟩ := h2
  go_enter Tryz.func195, Tryz.ntmps195
  go_wp2
  go_ret
  refine ⟨_, rfl, ((Below.refl _ _).alloc (Nat.le_refl _) _).alloc (by simp) _, _, _, rfl, enters_of Tryz.func229 (by kernel_rfl) rfl, fun W c h0 h1' hb => ?_⟩
  have hk : ∀ i, i < 2 → W.cell? ⟨w.heap.size + i, 0, none⟩ = _ := fun i hi => hb.cell (p := ⟨w.heap.size + i, 0, none⟩) (by simp; omega)
  have hs := hb.size
  simp at hs
  have hbw : Below w.heap.size w W := (((Below.refl _ _).alloc (Nat.le_refl _) _).alloc (by simp) _).trans (hb.mono (by simp; omega))
  refine either1 W w w _ _ g1 g2 l1 l2 p1 p2 c h0 h1' ((hk 0 (by omega)).trans ?_) ((hk 1 (by omega)).trans ?_) (by omega) h1 hbw h2 hbw
  · simp [go_sem]
  · simp [go_sem]
theorem but1 (W w1 : World) (B g1 : Nat) (l1 : Array Value) (p1 : Int → Bool) (c : Int) (hc0 : 0 ≤ c) (hc1 : c ≤ 255) (hB : W.cell? ⟨B, 0, none⟩ = some (.func (.func g1) #[] l1))
    (h1 : IsKind w1 g1 l1 p1) (hb1 : Below w1.heap.size w1 W) :
    Calls Tryz.prog 227 #[.int .u8 c, .pointer (some ⟨B, 0, none⟩)] W fun e w' => e = .returned (.bool (!p1 c)) ∧ Below W.heap.size W w' := by
  have e1 := h1.enters
  have H1 := Lib.hid (h1.gives W c hc0 hc1 hb1)
  clear h1 hb1
  generalize p1 c = x at H1 ⊢
  go_enter Tryz.func227, Tryz.ntmps227
  go_wp2_with fail
  refine H1.out.mono ?_
  rintro e W1 ⟨rfl, hb⟩
  go_wp2
  go_ret
  exact ⟨rfl, hb⟩
theorem but_any (v1 : Value) (p1 : Int → Bool) (w : World) (h1 : KindV w v1 p1) :
    Calls Tryz.prog 192 #[v1] w fun e w' => ∃ v, e = .returned v ∧ Below w.heap.size w w' ∧ KindV w' v (fun c => !p1 c) := by
  obtain ⟨g1, l1, rfl, h1⟩ := h1
  go_enter Tryz.func192, Tryz.ntmps192
  go_wp2
  go_ret
  refine ⟨_, rfl, (Below.refl _ _).alloc (Nat.le_refl _) _, _, _, rfl, enters_of Tryz.func227 (by kernel_rfl) rfl, fun W c h0 h1' hb => ?_⟩
  have hk : W.cell? ⟨w.heap.size, 0, none⟩ = _ := hb.cell (p := ⟨w.heap.size, 0, none⟩) (by simp)
  have hbw : Below w.heap.size w W := ((Below.refl _ _).alloc (Nat.le_refl _) _).trans (hb.mono (by simp))
  refine but1 W w _ g1 l1 p1 c h0 h1' (hk.trans ?_) h1 hbw
  simp [go_sem]
end Go.Proofs.YtgbcchiheddfpaaGreatDoor
namespace Go.Proofs.YtgbcchiheddfpaaGreatDoor
open Go.ChangeShapes Go.WideShapes Go.ChangeAt Go.RowKit

theorem sized_yes (n : Int) (w : World) (h : n = 1 ∨ n = 2 ∨ n = 4 ∨ n = 8) :
    Calls Tryz.prog 144 #[.int .i64 n] w fun e w' => e = .returned (.bool true) ∧ w = w' := by
  rcases h with rfl | rfl | rfl | rfl
  all_goals
    go_enter Tryz.func144, Tryz.ntmps144
    go_wp2
    go_ret
    exact ⟨rfl, rfl⟩
theorem sized_no (n : Int) (w : World) (h : ¬ (n = 1 ∨ n = 2 ∨ n = 4 ∨ n = 8)) :
    Calls Tryz.prog 144 #[.int .i64 n] w fun e w' => e = .returned (.bool false) ∧ w = w' := by
  have h1 : (n == 1) = false := by simp; omega
  have h2 : (n == 2) = false := by simp; omega
  have h4 : (n == 4) = false := by simp; omega
  have h8 : (n == 8) = false := by simp; omega
  clear h
  go_enter Tryz.func144, Tryz.ntmps144
  go_wp2
  go_ret
  exact ⟨rfl, rfl⟩
end Go.Proofs.YtgbcchiheddfpaaGreatDoor
namespace Go.Proofs.YtgbcchiheddfpaaGreatDoor
open Go.RowKit Go.Lib

def dec7_ren : Go.Shelf.Ren := ⟨fun | 32 => 117 | 49 => 154 | n => n, fun | 30 => 22 | 21 => 21 | 3 => 3 | 0 => 0 | 5 => 5 | 4 => 4 | 33 => 231 | 66 => 321 | 25 => 42 | 69 => 324 | 68 => 323 | n => n, fun | 2 => 1 | 3 => 2 | n => n⟩
theorem dec7 : Go.Proofs.Lays7.n32 Tryz.prog dec7_ren := {
  mixed := by kernel_rfl
  f32 := Tryz.func117.trans (congrArg some (by kernel_rfl))
  f49 := Tryz.func154.trans (congrArg some (by kernel_rfl))
  t0 := Tryz.underlying0
  a0 := Tryz.isAgg0
  z0 := Tryz.sizeOf0
  v0 := Tryz.zeroValue0
  i0 := by kernel_rfl
  t3 := Tryz.underlying3
  a3 := Tryz.isAgg3
  z3 := Tryz.sizeOf3
  v3 := Tryz.zeroValue3
  i3 := by kernel_rfl
  t4 := Tryz.underlying4
  a4 := Tryz.isAgg4
  z4 := Tryz.sizeOf4
  v4 := Tryz.zeroValue4
  i4 := by kernel_rfl
  t5 := Tryz.underlying5
  a5 := Tryz.isAgg5
  z5 := Tryz.sizeOf5
  v5 := Tryz.zeroValue5
  i5 := by kernel_rfl
  t21 := Tryz.underlying21
  a21 := Tryz.isAgg21
  z21 := Tryz.sizeOf21
  v21 := Tryz.zeroValue21
  i21 := by kernel_rfl
  t25 := Tryz.underlying42
  a25 := Tryz.isAgg42
  z25 := Tryz.sizeOf42
  v25 := Tryz.zeroValue42
  i25 := by kernel_rfl
  t30 := Tryz.underlying22
  a30 := Tryz.isAgg22
  z30 := Tryz.sizeOf22
  v30 := Tryz.zeroValue22
  i30 := by kernel_rfl
  t33 := Tryz.underlying231
  a33 := Tryz.isAgg231
  z33 := Tryz.sizeOf231
  v33 := Tryz.zeroValue231
  i33 := by kernel_rfl
  t66 := Tryz.underlying321
  a66 := Tryz.isAgg321
  z66 := Tryz.sizeOf321
  t68 := Tryz.underlying323
  a68 := Tryz.isAgg323
  z68 := Tryz.sizeOf323
  v68 := Tryz.zeroValue323
  i68 := by kernel_rfl
  t69 := Tryz.underlying324
  a69 := Tryz.isAgg324
  z69 := Tryz.sizeOf324
  v69 := Tryz.zeroValue324
  i69 := by kernel_rfl
  g2 := by kernel_rfl
  g3 := by kernel_rfl }

def Tabs (w : World) : Prop := Lib.Utf8Tabs 1 2 w
def tabs_ren : Go.Shelf.Ren := ⟨fun n => n, fun | 5 => 5 | 119 => 321 | 138 => 323 | 139 => 324 | n => n, fun | 3 => 1 | 4 => 2 | n => n⟩
theorem u8types : U8Types Tryz.prog tabs_ren := { t5 := Tryz.underlying5, t119 := Tryz.underlying321, t138 := Tryz.underlying323, t139 := Tryz.underlying324 }
theorem u8extra : U8Extra Tryz.prog tabs_ren := { n3 := by kernel_rfl, n4 := by kernel_rfl, y3 := by kernel_rfl, y4 := by kernel_rfl, c5 := by kernel_rfl, c119 := by kernel_rfl, c138 := by kernel_rfl }
theorem first_is : Rows.laid_unicode_utf8_first = Lib.firstData := by kernel_rfl
theorem accept_is : Rows.laid_unicode_utf8_acceptRanges (H := Unit) = Lib.acceptData := by kernel_rfl
theorem Tabs.sizes {w : World} (h : Tabs w) : 1 < w.heap.size ∧ 2 < w.heap.size := by
  constructor
  · exact World.block_lt_of_cell? _ _ (h.1 0 (by decide))
  · exact World.block_lt_of_cell? _ _ (h.2 0 (by decide)).1
theorem Tabs.below {w w' : World} {B : Nat} (h : Tabs w) (hB : w.heap.size ≤ B) (hb : Below B w w') : Tabs w' := by
  obtain ⟨s0, s1⟩ := h.sizes
  refine ⟨fun c hc => ?_, fun i hi => ⟨?_, ?_⟩⟩
  · exact (hb.cell (p := ⟨_, c, none⟩) (Nat.lt_of_lt_of_le s0 hB)).trans (h.1 c hc)
  · exact (hb.cell (p := ⟨_, 2 * i, none⟩) (Nat.lt_of_lt_of_le s1 hB)).trans (h.2 i hi).1
  · exact (hb.cell (p := ⟨_, 2 * i + 1, none⟩) (Nat.lt_of_lt_of_le s1 hB)).trans (h.2 i hi).2

/-! ### the bytes of a list of numbers -/
def bytesOf (zs : List Int) : ByteArray := ⟨(zs.map fun z => UInt8.ofNat z.toNat).toArray⟩
theorem bytesOf_size (zs : List Int) : (bytesOf zs).size = zs.length := by simp [bytesOf, ByteArray.size]
theorem bytesOf_get (zs : List Int) (hb : ∀ i, 0 ≤ zs.getD i 0 ∧ zs.getD i 0 ≤ 255) (j : Nat) (hj : j < zs.length) : (((bytesOf zs).get! j).toNat : Int) = zs.getD j 0 := by
  have h := hb j
  have e : zs.getD j 0 = zs[j] := by simp [List.getD, hj]
  rw [e] at h ⊢
  have : (bytesOf zs).get! j = UInt8.ofNat zs[j].toNat := by
    simp [bytesOf, ByteArray.get!, hj]
  rw [this]
  simp only [UInt8.toNat_ofNat']
  omega
def dec (zs : List Int) : Int × Int := (((Lib.decodeGo (bytesOf zs)).1 : Int), ((Lib.decodeGo (bytesOf zs)).2 : Int))
theorem dec_any (zs : List Int) (b off cap : Nat) (w : World) (hT : Tabs w) (hc : ∀ i, i < zs.length → w.cell? ⟨b, off + i, none⟩ = some (.int .u8 (zs.getD i 0))) (hb : ∀ i, 0 ≤ zs.getD i 0 ∧ zs.getD i 0 ≤ 255) :
    Calls Tryz.prog 117 #[.slice (some ⟨b, off, none⟩) zs.length cap] w fun e w' => e = .returned (.tuple #[.int .i32 (dec zs).1, .int .i64 (dec zs).2]) ∧ Below w.heap.size w w' := by
  have h := Any7.utf8_DecodeRune dec7 (bytesOf zs) b off cap w hT (fun j hj => by
    have hj' : j < zs.length := by rw [bytesOf_size] at hj; exact hj
    rw [hc j hj', bytesOf_get zs hb j hj'])
  rw [bytesOf_size] at h
  exact h
theorem decodeN_width (n b0 b1 b2 b3 : Nat) (hn : 0 < n) : 1 ≤ (Lib.decodeN n b0 b1 b2 b3).2 ∧ (Lib.decodeN n b0 b1 b2 b3).2 ≤ 4 ∧ (Lib.decodeN n b0 b1 b2 b3).2 ≤ n := by
  unfold Lib.decodeN
  repeat' split
  all_goals (simp only; omega)
theorem dec_width (zs : List Int) (h : 0 < zs.length) : 1 ≤ (dec zs).2 ∧ (dec zs).2 ≤ 4 ∧ (dec zs).2 ≤ zs.length := by
  have e : Lib.decodeGo (bytesOf zs) = Utf8.decode (bytesOf zs) 0 := by
    unfold Lib.decodeGo
    rw [if_neg (by rw [bytesOf_size]; omega)]
  unfold dec
  rw [e, Lib.decode_at, bytesOf_size]
  have := decodeN_width (zs.length - 0) ((bytesOf zs).get! 0).toNat ((bytesOf zs).get! (0 + 1)).toNat ((bytesOf zs).get! (0 + 2)).toNat ((bytesOf zs).get! (0 + 3)).toNat (by omega)
  simp only
  omega
end Go.Proofs.YtgbcchiheddfpaaGreatDoor
