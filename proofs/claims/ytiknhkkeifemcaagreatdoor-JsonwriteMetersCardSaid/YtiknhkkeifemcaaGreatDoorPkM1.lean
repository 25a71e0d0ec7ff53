/-
  Plain facts on decimal numbers as texts: when a text is a number, which one it says, and whether that is one of so many bytes. No run of the program stands in this text. Conditions: those that each theorem names.
-/
import Derived.WalkKit
import Derived.Laws.BitsLemmas
import Derived.Lib.ConvBytes
import Derived.Laws.BytesArg
import Derived.Laws.EntriesVeiled
import Derived.Shelf.Abstract
import Derived.Test.YtiknhkkeifemcaaGreatDoorRows
import Derived.ProofKit
import Derived.OpenShut
import Derived.ShutString
import Derived.ChangeOld
import Derived.Below
import Derived.WalkLawsBesides
import Derived.WalkSpells
import Derived.Lib.Hide
import Derived.Outline
import Derived.Handy
import Derived.Shelf.Spec.DecodeRune
import Derived.Lib.LaidU8T
import Derived.KernelRfl
import Derived.Shelf.Small.Strs
import Derived.Lib.ParseIntB
import Derived.IntWalk
namespace Go.Proofs.YtiknhkkeifemcaaGreatDoor
open Go.RowKit
theorem ret_int {k : IntKind} {a b : Int} (h : a = b) : Ending.returned (.int k a) = .returned (.int k b) := by rw [h]
theorem ret_bool {a b : Bool} (h : a = b) : Ending.returned (.bool a) = .returned (.bool b) := by rw [h]
def kSize (n : Int) : Int :=
  if n = 1 ∨ n = 2 ∨ n = 6 ∨ n = 10 then 1 else if n = 3 ∨ n = 7 then 2 else if n = 4 ∨ n = 8 then 4 else if n = 5 ∨ n = 9 then 8 else 0
theorem kSize_else (n : Int) (h : n < 1 ∨ 10 < n) : kSize n = 0 := by
  unfold kSize
  rw [if_neg (by omega), if_neg (by omega), if_neg (by omega), if_neg (by omega)]
def kSign (n : Int) : Bool := decide (2 ≤ n ∧ n ≤ 5)
def sgn (m n : Int) : Int := if n % (2 * m) < m then n % (2 * m) else n % (2 * m) + (18446744073709551616 - 2 * m)
def sgnOf (n s : Int) : Int := if s = 1 then sgn 128 n else if s = 2 then sgn 32768 n else if s = 4 then sgn 2147483648 n else n
theorem sgnOf_else (n s : Int) (h1 : ¬ s = 1) (h2 : ¬ s = 2) (h4 : ¬ s = 4) : sgnOf n s = n := by
  unfold sgnOf
  rw [if_neg h1, if_neg h2, if_neg h4]
theorem and_8 (n : Int) (h0 : 0 ≤ n) (h1 : n ≤ 18446744073709551615) : bits BinOp.and .u64 n 255 = n % 256 :=
  bits_mask .u64 64 (by decide) (fun n h0 h1 => IntWalk.u64_in n ⟨h0, by omega⟩) 8 (by decide) n h0 (by omega)
theorem and_16 (n : Int) (h0 : 0 ≤ n) (h1 : n ≤ 18446744073709551615) : bits BinOp.and .u64 n 65535 = n % 65536 :=
  bits_mask .u64 64 (by decide) (fun n h0 h1 => IntWalk.u64_in n ⟨h0, by omega⟩) 16 (by decide) n h0 (by omega)
theorem and_32 (n : Int) (h0 : 0 ≤ n) (h1 : n ≤ 18446744073709551615) : bits BinOp.and .u64 n 4294967295 = n % 4294967296 :=
  bits_mask .u64 64 (by decide) (fun n h0 h1 => IntWalk.u64_in n ⟨h0, by omega⟩) 32 (by decide) n h0 (by omega)
theorem or_comm64 (x y : Int) : bits BinOp.or .u64 x y = bits BinOp.or .u64 y x := by simp only [bits, BitVec.or_comm]
theorem or_8 (y : Int) (h0 : 0 ≤ y) (h1 : y < 256) : bits BinOp.or .u64 y 18446744073709551360 = y + 18446744073709551360 := by
  rw [or_comm64, bits_join .u64 64 (by decide) (fun n h0 h1 => IntWalk.u64_in n ⟨h0, by omega⟩) 8 _ _ (by decide) (by decide) (by decide) h0 h1 (by omega)]
  omega
theorem or_16 (y : Int) (h0 : 0 ≤ y) (h1 : y < 65536) : bits BinOp.or .u64 y 18446744073709486080 = y + 18446744073709486080 := by
  rw [or_comm64, bits_join .u64 64 (by decide) (fun n h0 h1 => IntWalk.u64_in n ⟨h0, by omega⟩) 16 _ _ (by decide) (by decide) (by decide) h0 h1 (by omega)]
  omega
theorem or_32 (y : Int) (h0 : 0 ≤ y) (h1 : y < 4294967296) : bits BinOp.or .u64 y 18446744069414584320 = y + 18446744069414584320 := by
  rw [or_comm64, bits_join .u64 64 (by decide) (fun n h0 h1 => IntWalk.u64_in n ⟨h0, by omega⟩) 32 _ _ (by decide) (by decide) (by decide) h0 h1 (by omega)]
  omega
theorem sgnOf_1 (n : Int) : sgnOf n 1 = if n % 256 < 128 then n % 256 else n % 256 + 18446744073709551360 := rfl
theorem sgnOf_2 (n : Int) : sgnOf n 2 = if n % 65536 < 32768 then n % 65536 else n % 65536 + 18446744073709486080 := rfl
theorem sgnOf_4 (n : Int) : sgnOf n 4 = if n % 4294967296 < 2147483648 then n % 4294967296 else n % 4294967296 + 18446744069414584320 := rfl
end Go.Proofs.YtiknhkkeifemcaaGreatDoor
namespace Go.Proofs.YtiknhkkeifemcaaGreatDoor
open Go.RowKit
def isDig (c : Int) : Bool := decide (48 ≤ c ∧ c ≤ 57)
def isC (x : Int) (c : Int) : Bool := decide (c = x)
def stA (zs : List Int) (p : Int → Bool) (i : Nat) : Bool := decide (i < zs.length) && p (zs.getD i 0)
/-! ### blanks and remarks -/
/-! ### numbers, quoted texts, a token -/
def sub (zs : List Int) (i j : Nat) : List Int := (zs.drop i).take (j - i)
def begins (zs : List Int) (i : Nat) : Bool := stA zs isDig i || (stA zs (isC 45) i && stA zs isDig (i + 1))
section
variable {ok : List Int → Bool} {sg : Int → Bool} {zs : List Int} {i : Nat}
end
end Go.Proofs.YtiknhkkeifemcaaGreatDoor
namespace Go.Proofs.YtiknhkkeifemcaaGreatDoor
open Go.ChangeShapes Go.WideShapes Go.ChangeAt Go.RowKit Go.Shelf

structure Exc (R B : Nat) (w w' : World) : Prop where
  os : w'.os = w.os
  tape : w'.tape = w.tape
  output : w'.output = w.output
  size : w.heap.size ≤ w'.heap.size
  block : ∀ k, k < B → k ≠ R → w'.heap[k]? = w.heap[k]?
theorem Exc.refl (R B : Nat) (w : World) : Exc R B w w := ⟨rfl, rfl, rfl, Nat.le_refl _, fun _ _ _ => rfl⟩
theorem Exc.trans {R B : Nat} {a b c : World} (h : Exc R B a b) (k : Exc R B b c) : Exc R B a c :=
  ⟨k.os.trans h.os, k.tape.trans h.tape, k.output.trans h.output, Nat.le_trans h.size k.size, fun i hi hr => (k.block i hi hr).trans (h.block i hi hr)⟩
theorem Exc.mono {R B B' : Nat} {w w' : World} (h : Exc R B w w') (hB : B' ≤ B) : Exc R B' w w' := ⟨h.os, h.tape, h.output, h.size, fun k hk hr => h.block k (Nat.lt_of_lt_of_le hk hB) hr⟩
theorem Exc.of_below {R B : Nat} {w w' : World} (h : Below B w w') : Exc R B w w' := ⟨h.os, h.tape, h.output, h.size, fun k hk _ => h.block k hk⟩
theorem Exc.then {R : Nat} {a b c : World} (h : Exc R a.heap.size a b) (k : Exc R b.heap.size b c) : Exc R a.heap.size a c := h.trans (k.mono h.size)
theorem Exc.thenB {R B : Nat} {a b c : World} (h : Exc R B a b) (hB : B ≤ a.heap.size) (k : Exc R b.heap.size b c) : Exc R B a c := h.trans (k.mono (Nat.le_trans hB h.size))
theorem Exc.bel {R B : Nat} {a b c : World} (h : Exc R B a b) (hB : B ≤ a.heap.size) (k : Below b.heap.size b c) : Exc R B a c := h.thenB hB (.of_below k)
theorem Exc.alloc {R B : Nat} {a w : World} (h : Exc R B a w) (hB : B ≤ w.heap.size) (o : Obj) : Exc R B a (w.alloc o) :=
  h.trans (.of_below ((Below.refl _ _).alloc hB o))
theorem Exc.drew {R B : Nat} {a w : World} (h : Exc R B a w) : Exc R B a w.drew := ⟨h.os, h.tape, h.output, h.size, h.block⟩
theorem Exc.setCell {R B : Nat} {a w : World} (h : Exc R B a w) {p : Addr} (hp : p.block = R ∨ B ≤ p.block) (u : Value) : Exc R B a (w.setCell p u) :=
  h.trans ⟨rfl, rfl, rfl, by simp [World.setCell], fun k hk hr => Below.heap_setCell _ _ _ _ (by rcases hp with h | h <;> omega)⟩
theorem Exc.grown {R B : Nat} {a w w' : World} {row : Option Nat} (h : Exc R B a w) (hg : w.grownBy w' row) (hB : B ≤ w.heap.size) (hr : ∀ k, row = some k → B ≤ k ∨ k = R) : Exc R B a w' :=
  h.trans ⟨hg.os, hg.tape, hg.output, hg.size, fun k hk hkr => hg.block k (by omega) (fun e => by have := hr k e.symm; omega)⟩
theorem Exc.cell {R B : Nat} {w w' : World} (h : Exc R B w w') {p : Addr} (hp : p.block < B) (hr : p.block ≠ R) : w'.cell? p = w.cell? p := World.cell?_of_block (w := w) (h.block p.block hp hr)
theorem Exc.frozen {R B : Nat} {w w' : World} (h : Exc R B w w') {p : Addr} (hp : p.block < B) (hr : p.block ≠ R) : w'.frozen? p = w.frozen? p := World.frozen?_of_block (w := w) (h.block p.block hp hr)
theorem Exc.below {R B : Nat} {w w' : World} (h : Exc R B w w') (hR : B ≤ R) : Below B w w' := ⟨h.os, h.tape, h.output, h.size, fun k hk => h.block k hk (by omega)⟩
theorem Exc.ownsRow {R : Nat} {w w' : World} (h : Exc R w.heap.size w w') {base : Nat} {e : TypeId} {size : Nat} {v : Value} {n : Nat} {xs : List Value} (ho : w.ownsRow base e size v n xs) (hR : v.ownBlock ≠ some R) : w'.ownsRow base e size v n xs := by
  obtain ⟨hl, h'⟩ := ho
  refine ⟨hl, ?_⟩
  rcases h' with h1 | ⟨g', cap', cur, hv, h1, hg, h2⟩
  · exact .inl h1
  · have hlt : g' < w.heap.size := by
      rcases Nat.lt_or_ge g' w.heap.size with h | h
      · exact h
      · rw [Array.getElem?_eq_none h] at hg; cases hg
    subst hv
    exact .inr ⟨g', cap', cur, rfl, h1, (h.block g' hlt (fun e => hR (by simp [Value.ownBlock, e]))).trans hg, h2⟩
theorem ownsRow_base {w : World} {base base' : Nat} {e : TypeId} {size : Nat} {v : Value} {n : Nat} {xs : List Value} (h : w.ownsRow base e size v n xs) (hb : base' ≤ base) : w.ownsRow base' e size v n xs :=
  ⟨h.1, h.2.elim Or.inl (fun ⟨g, cap, cur, hv, hg, r⟩ => Or.inr ⟨g, cap, cur, hv, Nat.le_trans hb hg, r⟩)⟩
theorem ownsRow_lt {w : World} {base : Nat} {e : TypeId} {size : Nat} {v : Value} {n : Nat} {xs : List Value} (h : w.ownsRow base e size v n xs) : ∀ k, v.ownBlock = some k → base ≤ k ∧ k < w.heap.size := by
  intro k hk
  rcases h.2 with ⟨rfl, _⟩ | ⟨g, cap, cur, rfl, hb, hg, _⟩
  · simp [Value.ownBlock] at hk
  · simp [Value.ownBlock] at hk
    subst hk
    refine ⟨hb, ?_⟩
    rcases Nat.lt_or_ge g w.heap.size with h' | h'
    · exact h'
    · rw [Array.getElem?_eq_none h'] at hg; cases hg
theorem ownsRow_form {w : World} {base : Nat} {e : TypeId} {size : Nat} {v : Value} {n : Nat} {xs : List Value} (h : w.ownsRow base e size v n xs) : ∃ a c, v = .slice a n c := by
  rcases h.2 with ⟨rfl, h0⟩ | ⟨g, cap, _, rfl, _⟩
  · rw [h0]
    exact ⟨_, _, rfl⟩
  · exact ⟨_, _, rfl⟩
theorem blk_cell {w : World} {g : Nat} {cs : Array Value} {t : TypeId} (h : w.heap[g]? = some (.cells cs t (0, 0))) (i : Nat) : w.cell? ⟨g, i, none⟩ = cs[i]? := cell_of_row w g i cs t (0, 0) h
theorem blk_frozen {w : World} {g : Nat} {cs : Array Value} {t : TypeId} (h : w.heap[g]? = some (.cells cs t (0, 0))) (i : Nat) : w.frozen? ⟨g, i, none⟩ = false := by
  simp [World.frozen?, show w.heap[g]? = _ from h]
theorem blk_lt {w : World} {g : Nat} {o : Obj} (h : w.heap[g]? = some o) : g < w.heap.size := by
  rcases Nat.lt_or_ge g w.heap.size with h' | h'
  · exact h'
  · rw [Array.getElem?_eq_none h'] at h; cases h
theorem blk_set {w : World} {g : Nat} {cs : Array Value} {t : TypeId} (h : w.heap[g]? = some (.cells cs t (0, 0))) (i : Nat) (u : Value) : (w.setCell ⟨g, i, none⟩ u).heap[g]? = some (.cells (cs.setIfInBounds i u) t (0, 0)) := by
  simp [World.setCell, Array.getElem?_modify, h]
theorem blk_set_ne {w : World} {g : Nat} {o : Obj} (h : w.heap[g]? = some o) {p : Addr} (hp : p.block ≠ g) (u : Value) : (w.setCell p u).heap[g]? = some o :=
  (Below.heap_setCell w p u g (fun e => hp e.symm)).trans h
theorem blk_alloc {w : World} {g : Nat} {o : Obj} (h : w.heap[g]? = some o) (o' : Obj) : (w.alloc o').heap[g]? = some o :=
  (Below.heap_alloc w o' g (blk_lt h)).trans h
theorem blk2 {w : World} {g : Nat} {x y : Value} {t : TypeId} (h : w.heap[g]? = some (.cells #[x, y] t (0, 0))) :
    g < w.heap.size ∧ w.cell? ⟨g, 0, none⟩ = some x ∧ w.cell? ⟨g, 1, none⟩ = some y ∧ w.frozen? ⟨g, 0, none⟩ = false ∧ w.frozen? ⟨g, 1, none⟩ = false :=
  ⟨blk_lt h, (blk_cell h 0).trans rfl, (blk_cell h 1).trans rfl, blk_frozen h 0, blk_frozen h 1⟩
theorem blk3 {w : World} {g : Nat} {x y z : Value} {t : TypeId} (h : w.heap[g]? = some (.cells #[x, y, z] t (0, 0))) :
    g < w.heap.size ∧ w.cell? ⟨g, 0, none⟩ = some x ∧ w.cell? ⟨g, 1, none⟩ = some y ∧ w.cell? ⟨g, 2, none⟩ = some z ∧ w.frozen? ⟨g, 0, none⟩ = false ∧ w.frozen? ⟨g, 1, none⟩ = false ∧ w.frozen? ⟨g, 2, none⟩ = false :=
  ⟨blk_lt h, (blk_cell h 0).trans rfl, (blk_cell h 1).trans rfl, (blk_cell h 2).trans rfl, blk_frozen h 0, blk_frozen h 1, blk_frozen h 2⟩
theorem blk_below {w W : World} {B g : Nat} {o : Obj} (h : w.heap[g]? = some o) (hb : Below B w W) (hg : g < B) : W.heap[g]? = some o := (hb.block g hg).trans h
theorem blk_exc {w W : World} {R B g : Nat} {o : Obj} (h : w.heap[g]? = some o) (hb : Exc R B w W) (hg : g < B) (hne : g ≠ R) : W.heap[g]? = some o := (hb.block g hg hne).trans h
theorem post_gen {P : Program} {f : Func} {Q : Ending → World → Prop} {ex : Exit} {a : Act} {W : World} (p : World → Prop) (hp : p W) (k : ∀ Wf, p Wf → bodyPost P f Q ex a Wf) : bodyPost P f Q ex a W := k W hp
theorem blk_set3 {w : World} {g : Nat} {x y z : Value} {t : TypeId} (h : w.heap[g]? = some (.cells #[x, y, z] t (0, 0))) (x' y' z' : Value) :
    (((w.setCell ⟨g, 0, none⟩ x').setCell ⟨g, 1, none⟩ y').setCell ⟨g, 2, none⟩ z').heap[g]? = some (.cells #[x', y', z'] t (0, 0)) :=
  (blk_set (blk_set (blk_set h 0 x') 1 y') 2 z').trans rfl
theorem exc_set (w : World) (g i : Nat) (x : Value) : Exc g w.heap.size w (w.setCell ⟨g, i, none⟩ x) := (Exc.refl g _ w).setCell (p := ⟨g, i, none⟩) (.inl rfl) x
end Go.Proofs.YtiknhkkeifemcaaGreatDoor
namespace Go.Proofs.YtiknhkkeifemcaaGreatDoor
open Go.RowKit Go.Lib
def Tabs (w : World) : Prop := Lib.Utf8Tabs 3 4 w
theorem Tabs.sizes {w : World} (h : Tabs w) : 3 < w.heap.size ∧ 4 < w.heap.size := by
  constructor
  · exact World.block_lt_of_cell? _ _ (h.1 0 (by decide))
  · exact World.block_lt_of_cell? _ _ (h.2 0 (by decide)).1
theorem Tabs.below {w w' : World} {B : Nat} (h : Tabs w) (hB : w.heap.size ≤ B) (hb : Below B w w') : Tabs w' := by
  obtain ⟨s0, s1⟩ := h.sizes
  refine ⟨fun c hc => ?_, fun i hi => ⟨?_, ?_⟩⟩
  · exact (hb.cell (p := ⟨_, c, none⟩) (Nat.lt_of_lt_of_le s0 hB)).trans (h.1 c hc)
  · exact (hb.cell (p := ⟨_, 2 * i, none⟩) (Nat.lt_of_lt_of_le s1 hB)).trans (h.2 i hi).1
  · exact (hb.cell (p := ⟨_, 2 * i + 1, none⟩) (Nat.lt_of_lt_of_le s1 hB)).trans (h.2 i hi).2

/-! ### the bytes of a list of numbers -/
def bytesOf (zs : List Int) : ByteArray := ⟨(zs.map fun z => UInt8.ofNat z.toNat).toArray⟩
theorem bytesOf_size (zs : List Int) : (bytesOf zs).size = zs.length := by simp [bytesOf, ByteArray.size]
theorem bytesOf_get (zs : List Int) (hb : ∀ i, 0 ≤ zs.getD i 0 ∧ zs.getD i 0 ≤ 255) (j : Nat) (hj : j < zs.length) : (((bytesOf zs).get! j).toNat : Int) = zs.getD j 0 := by
  have h := hb j
  have e : zs.getD j 0 = zs[j] := by simp [List.getD, hj]
  rw [e] at h ⊢
  have : (bytesOf zs).get! j = UInt8.ofNat zs[j].toNat := by
    simp [bytesOf, ByteArray.get!, hj]
  rw [this]
  simp only [UInt8.toNat_ofNat']
  omega
def dec (zs : List Int) : Int × Int := (((Lib.decodeGo (bytesOf zs)).1 : Int), ((Lib.decodeGo (bytesOf zs)).2 : Int))
theorem decodeN_width (n b0 b1 b2 b3 : Nat) (hn : 0 < n) : 1 ≤ (Lib.decodeN n b0 b1 b2 b3).2 ∧ (Lib.decodeN n b0 b1 b2 b3).2 ≤ 4 ∧ (Lib.decodeN n b0 b1 b2 b3).2 ≤ n := by
  unfold Lib.decodeN
  repeat' split
  all_goals (simp only; omega)
theorem dec_width (zs : List Int) (h : 0 < zs.length) : 1 ≤ (dec zs).2 ∧ (dec zs).2 ≤ 4 ∧ (dec zs).2 ≤ zs.length := by
  have e : Lib.decodeGo (bytesOf zs) = Utf8.decode (bytesOf zs) 0 := by
    unfold Lib.decodeGo
    rw [if_neg (by rw [bytesOf_size]; omega)]
  unfold dec
  rw [e, Lib.decode_at, bytesOf_size]
  have := decodeN_width (zs.length - 0) ((bytesOf zs).get! 0).toNat ((bytesOf zs).get! (0 + 1)).toNat ((bytesOf zs).get! (0 + 2)).toNat ((bytesOf zs).get! (0 + 3)).toNat (by omega)
  simp only
  omega
end Go.Proofs.YtiknhkkeifemcaaGreatDoor
namespace Go.Proofs.YtiknhkkeifemcaaGreatDoor
open Go.ChangeShapes Go.WideShapes Go.ChangeAt Go.RowKit Go.Shelf

structure IsKind (w : World) (g : Nat) (lb : Array Value) (p : Int → Bool) : Prop where
  enters : ∀ args w, (callFunc g args).run Tryz.prog w = .ok (.enter g args) w
  gives : ∀ (W : World) (c : Int), 0 ≤ c → c ≤ 255 → Below w.heap.size w W → Calls Tryz.prog g (#[.int .u8 c] ++ lb) W fun e w' => e = .returned (.bool (p c)) ∧ Below W.heap.size W w'
theorem IsKind.later {w W : World} {g : Nat} {lb : Array Value} {p : Int → Bool} (h : IsKind w g lb p) (hb : Below w.heap.size w W) : IsKind W g lb p :=
  ⟨h.enters, fun W' c h0 h1 hb' => h.gives W' c h0 h1 (hb.trans (hb'.mono hb.size))⟩
theorem IsKind.congr {w : World} {g : Nat} {lb : Array Value} {p q : Int → Bool} (h : IsKind w g lb p) (hpq : ∀ c, 0 ≤ c → c ≤ 255 → p c = q c) : IsKind w g lb q :=
  ⟨h.enters, fun W c h0 h1 hb => by rw [← hpq c h0 h1]; exact h.gives W c h0 h1 hb⟩
def KindV (w : World) (v : Value) (p : Int → Bool) : Prop := ∃ g lb, v = .func (.func g) #[] lb ∧ IsKind w g lb p

end Go.Proofs.YtiknhkkeifemcaaGreatDoor
namespace Go.Proofs.YtiknhkkeifemcaaGreatDoor
open Go.ChangeShapes Go.WideShapes Go.ChangeAt Go.RowKit Go.Shelf

def bts (s : ByteArray) : List Int := s.data.toList.map fun b => (b.toNat : Int)
theorem bts_length (s : ByteArray) : (bts s).length = s.size := by simp [bts]
theorem KindV.congr {w : World} {v : Value} {p q : Int → Bool} (h : KindV w v p) (hpq : ∀ c, 0 ≤ c → c ≤ 255 → p c = q c) : KindV w v q := by
  obtain ⟨g, lb, rfl, h⟩ := h
  exact ⟨g, lb, rfl, h.congr hpq⟩
theorem KindV.later {w W : World} {v : Value} {p : Int → Bool} (h : KindV w v p) (hb : Below w.heap.size w W) : KindV W v p := by
  obtain ⟨g, lb, rfl, h⟩ := h
  exact ⟨g, lb, rfl, h.later hb⟩
end Go.Proofs.YtiknhkkeifemcaaGreatDoor
namespace Go.Proofs.YtiknhkkeifemcaaGreatDoor
open Go.RowKit
def maxU : Nat := 18446744073709551615
end Go.Proofs.YtiknhkkeifemcaaGreatDoor
