/-
  The library's Clone of a text, laid at this translation. Conditions: those that each theorem names.
-/
import Derived.Test.YtiknhkkeifemcaaGreatDoorPkM1
import Derived.Test.YtiknhkkeifemcaaGreatDoorPkM2
import Derived.Test.YtiknhkkeifemcaaGreatDoorPkM4
import Derived.Test.YtiknhkkeifemcaaGreatDoorPkM6
import Derived.Deep.QuietTactic
import Derived.Lib.RuneBytes
import Derived.Test.YtiknhkkeifemcaaGreatDoorRows
import Derived.Shelf.Utf8.AppendRunePlain
import Derived.Laws.MakeOwn
import Derived.Lib.SlBytesConst
import Derived.Shelf.Pu.Clone
import Derived.Lib.Hide
namespace Go.Proofs.YtiknhkkeifemcaaGreatDoor
open Go.ChangeShapes Go.WideShapes Go.ChangeAt Go.RowKit

structure Exw (R S B : Nat) (w w' : World) : Prop where
  os : w'.os = w.os
  tape : w'.tape = w.tape
  output : w'.output = w.output
  size : w.heap.size ≤ w'.heap.size
  block : ∀ k, k < B → k ≠ R → k ≠ S → w'.heap[k]? = w.heap[k]?
theorem Exw.refl (R S B : Nat) (w : World) : Exw R S B w w := ⟨rfl, rfl, rfl, Nat.le_refl _, fun _ _ _ _ => rfl⟩
theorem Exw.trans {R S B : Nat} {a b c : World} (h : Exw R S B a b) (k : Exw R S B b c) : Exw R S B a c :=
  ⟨k.os.trans h.os, k.tape.trans h.tape, k.output.trans h.output, Nat.le_trans h.size k.size, fun i hi h1 h2 => (k.block i hi h1 h2).trans (h.block i hi h1 h2)⟩
theorem Exw.mono {R S B B' : Nat} {w w' : World} (h : Exw R S B w w') (hB : B' ≤ B) : Exw R S B' w w' := ⟨h.os, h.tape, h.output, h.size, fun k hk h1 h2 => h.block k (Nat.lt_of_lt_of_le hk hB) h1 h2⟩
theorem Exw.of_below {R S B : Nat} {w w' : World} (h : Below B w w') : Exw R S B w w' := ⟨h.os, h.tape, h.output, h.size, fun k hk _ _ => h.block k hk⟩
theorem Exw.then {R S : Nat} {a b c : World} (h : Exw R S a.heap.size a b) (k : Exw R S b.heap.size b c) : Exw R S a.heap.size a c := h.trans (k.mono h.size)
theorem Exw.bel {R S : Nat} {a b c : World} (h : Exw R S a.heap.size a b) (k : Below b.heap.size b c) : Exw R S a.heap.size a c := h.then (.of_below k)
theorem Exw.setCell {R S B : Nat} {a w : World} (h : Exw R S B a w) {p : Addr} (hp : p.block = R ∨ p.block = S ∨ B ≤ p.block) (u : Value) : Exw R S B a (w.setCell p u) :=
  ⟨h.os, h.tape, h.output, by rw [show (w.setCell p u).heap.size = w.heap.size by simp [World.setCell]]; exact h.size, fun k hk h1 h2 => (Below.heap_setCell _ _ _ _ (by omega)).trans (h.block k hk h1 h2)⟩
theorem Exw.drew {R S B : Nat} {a w : World} (h : Exw R S B a w) : Exw R S B a w.drew := ⟨h.os, h.tape, h.output, h.size, h.block⟩
theorem Exw.drewN {R S B : Nat} {a w : World} (h : Exw R S B a w) (n : Nat) : Exw R S B a (w.drewN n) := h.trans ⟨rfl, rfl, rfl, Nat.le_refl _, fun _ _ _ _ => rfl⟩
theorem Exw.cell {R S B : Nat} {w w' : World} (h : Exw R S B w w') {p : Addr} (hp : p.block < B) (h1 : p.block ≠ R) (h2 : p.block ≠ S) : w'.cell? p = w.cell? p := World.cell?_of_block (w := w) (h.block p.block hp h1 h2)
theorem Exw.below {R S B : Nat} {w w' : World} (h : Exw R S B w w') (hR : B ≤ R) (hS : B ≤ S) : Below B w w' := ⟨h.os, h.tape, h.output, h.size, fun k hk => h.block k hk (by omega) (by omega)⟩
theorem cell_exw {R S : Nat} {w W : World} (h : Exw R S w.heap.size w W) {p : Addr} {v : Value} (hp : w.cell? p = some v) (h1 : p.block ≠ R) (h2 : p.block ≠ S) : W.cell? p = some v := (h.cell (World.block_lt_of_cell? _ _ hp) h1 h2).trans hp
theorem blk_exw {R S B g : Nat} {w W : World} {o : Obj} (h : w.heap[g]? = some o) (hb : Exw R S B w W) (hg : g < B) (h1 : g ≠ R) (h2 : g ≠ S) : W.heap[g]? = some o := (hb.block g hg h1 h2).trans h
theorem Exw.ownsRow {R S : Nat} {w w' : World} (h : Exw R S w.heap.size w w') {base : Nat} {e : TypeId} {size : Nat} {v : Value} {n : Nat} {xs : List Value} (ho : w.ownsRow base e size v n xs) (hR : v.ownBlock ≠ some R) (hS : v.ownBlock ≠ some S) : w'.ownsRow base e size v n xs := by
  obtain ⟨hl, h'⟩ := ho
  refine ⟨hl, ?_⟩
  rcases h' with h1 | ⟨g, cap, cur, hv, hb, hg, hrest⟩
  · exact .inl h1
  · subst hv
    exact .inr ⟨g, cap, cur, rfl, hb, blk_exw hg h (blk_lt hg) (fun e => hR (by rw [e]; rfl)) (fun e => hS (by rw [e]; rfl)), hrest⟩
end Go.Proofs.YtiknhkkeifemcaaGreatDoor
namespace Go.Proofs.YtiknhkkeifemcaaGreatDoor
open Go.ChangeShapes Go.WideShapes Go.ChangeAt Go.RowKit Go.Shelf

structure ScSt (W : World) (s mb : Nat) (p : Option Addr) (n cap K : Nat) (zs : List Int) (a : Nat) : Prop where
  blk : W.heap[s]? = some (.cells #[.slice p n cap, .int .i64 (a : Nat), .pointer (some ⟨mb, 0, none⟩)] 212 (0, 0))
  met : W.heap[mb]? = some (.cells #[.int .i64 ((K : Int) - (a : Int)), .bool false] 152 (0, 0))
  by_ : Bytes W p zs
  len : zs.length = n
  cap_ : n ≤ cap
  ne : s ≠ mb
  np : ∀ q, p = some q → q.block ≠ s ∧ q.block ≠ mb
  le : a ≤ n
  low : n ≤ K
  high : (K : Int) - (a : Int) ≤ 9223372036854775807 ∧ n ≤ 2199023255552
section
variable {w : World} {s mb : Nat} {p : Option Addr} {n cap K : Nat} {zs : List Int} {a : Nat}
theorem ScSt.below {w' : World} (h : ScSt w s mb p n cap K zs a) (hb : Below w.heap.size w w') : ScSt w' s mb p n cap K zs a :=
  ⟨blk_below h.blk hb (blk_lt h.blk), blk_below h.met hb (blk_lt h.met), h.by_.below (Nat.le_refl _) hb, h.len, h.cap_, h.ne, h.np, h.le, h.low, h.high⟩
def ScTo (w : World) (s mb : Nat) (p : Option Addr) (n cap K : Nat) (zs : List Int) (a : Nat) (w' : World) : Prop := Exw s mb w.heap.size w w' ∧ ScSt w' s mb p n cap K zs a
theorem ScTo.then {w1 w2 : World} {b c : Nat} (h : ScTo w s mb p n cap K zs b w1) (k : ScTo w1 s mb p n cap K zs c w2) : ScTo w s mb p n cap K zs c w2 := ⟨h.1.then k.1, k.2⟩
theorem ScTo.bel {w1 w2 : World} {c : Nat} (h : ScTo w s mb p n cap K zs c w1) (k : Below w1.heap.size w1 w2) : ScTo w s mb p n cap K zs c w2 := ⟨h.1.bel k, h.2.below k⟩
theorem ScTo.refl (h : ScSt w s mb p n cap K zs a) : ScTo w s mb p n cap K zs a w := ⟨.refl _ _ _ _, h⟩
end
end Go.Proofs.YtiknhkkeifemcaaGreatDoor
namespace Go.Proofs.YtiknhkkeifemcaaGreatDoor
open Go.ChangeShapes Go.WideShapes Go.ChangeAt Go.RowKit Go.Shelf

def SgnPost (w : World) (s mb : Nat) (p : Option Addr) (n cap K : Nat) (zs : List Int) (o : Option (Nat × Nat)) (e : Ending) (w' : World) : Prop :=
  (∃ r b, o = some (r, b) ∧ e = .returned (.tuple #[.int .i32 (r : Nat), .bool true]) ∧ ScTo w s mb p n cap K zs b w') ∨
  (o = none ∧ ∃ x a', e = .returned (.tuple #[.int .i32 x, .bool false]) ∧ ScTo w s mb p n cap K zs a' w')
section
variable {w w' : World} {s mb : Nat} {p : Option Addr} {n cap K : Nat} {zs : List Int} {o : Option (Nat × Nat)}
theorem SgnPost.no {x : Int} {a' : Nat} (h : o = none) (h2 : ScTo w s mb p n cap K zs a' w') : SgnPost w s mb p n cap K zs o (.returned (.tuple #[.int .i32 x, .bool false])) w' := .inr ⟨h, x, a', rfl, h2⟩
theorem SgnPost.yes {x : Int} {r b : Nat} (h : o = some (r, b)) (hx : x = r) (h2 : ScTo w s mb p n cap K zs b w') : SgnPost w s mb p n cap K zs o (.returned (.tuple #[.int .i32 x, .bool true])) w' := by
  subst hx
  exact .inl ⟨r, b, h, rfl, h2⟩
end
end Go.Proofs.YtiknhkkeifemcaaGreatDoor
namespace Go.Proofs.YtiknhkkeifemcaaGreatDoor
open Go.ChangeShapes Go.WideShapes Go.ChangeAt Go.RowKit Go.Shelf
theorem ScSt.keep {w w' : World} {s mb : Nat} {p : Option Addr} {n cap K : Nat} {zs : List Int} {a B : Nat} (h : ScSt w s mb p n cap K zs a) (hb : Below B w w') (hs : s < B) (hm : mb < B) (hp : ∀ q, p = some q → q.block < B) : ScSt w' s mb p n cap K zs a := by
  refine ⟨blk_below h.blk hb hs, blk_below h.met hb hm, ⟨h.by_.1, fun hne => ?_⟩, h.len, h.cap_, h.ne, h.np, h.le, h.low, h.high⟩
  obtain ⟨b, off, rfl, hlt, hc⟩ := h.by_.2 hne
  exact ⟨b, off, rfl, Nat.lt_of_lt_of_le hlt hb.size, fun i hi => (hb.cell (p := ⟨b, off + i, none⟩) (show b < B from hp ⟨b, off, none⟩ rfl)).trans (hc i hi)⟩
end Go.Proofs.YtiknhkkeifemcaaGreatDoor
namespace Go.Proofs.YtiknhkkeifemcaaGreatDoor
open Go.ChangeShapes Go.WideShapes Go.ChangeAt Go.RowKit Go.Shelf
theorem conv_slice {W : World} {p : Option Addr} {zs : List Int} (h : Bytes W p zs) (c : Nat) : (convert 22 9 (.slice p zs.length c)).run Tryz.prog W = .ok (.string (strOfNums zs)) W := by
  by_cases hz : zs = []
  · subst hz
    exact conv_zero W _ 5 _ Tryz.underlying22 Tryz.underlying5 Tryz.underlying9 p c
  · obtain ⟨b, off, rfl, _, hc⟩ := h.2 hz
    exact run_convert_bytes_arg W _ 5 Tryz.underlying22 Tryz.underlying5 b off zs.length c zs rfl hc _ Tryz.underlying9
end Go.Proofs.YtiknhkkeifemcaaGreatDoor
namespace Go.Proofs.YtiknhkkeifemcaaGreatDoor
open Go.ChangeShapes Go.WideShapes Go.ChangeAt Go.RowKit Go.Shelf
theorem su8_info : (Tryz.prog.info? 5).map (fun i => (i.zero, i.size, i.bytes)) = some (some (.int .u8 0), 1, 1) := by kernel_rfl
end Go.Proofs.YtiknhkkeifemcaaGreatDoor
namespace Go.Proofs.YtiknhkkeifemcaaGreatDoor
open Go.ChangeShapes Go.WideShapes Go.ChangeAt Go.RowKit Go.Shelf
theorem own_bytes {w : World} {B : Nat} {v : Value} {T : List Int} {t : TypeId} (h : w.ownsRow B t 1 v T.length (T.map (Value.int .u8))) (hb : ∀ z ∈ T, 0 ≤ z ∧ z ≤ 255) : ∃ p c, v = .slice p T.length c ∧ T.length ≤ c ∧ Bytes w p T ∧ ∀ q, p = some q → B ≤ q.block ∧ q.block < w.heap.size := by
  rcases h.2 with ⟨rfl, h0⟩ | ⟨g, cap, cur, rfl, hB, hg, hnc, hm, hs, ht⟩
  · rw [h0]
    have : T = [] := List.eq_nil_of_length_eq_zero h0
    subst this
    exact ⟨none, 0, rfl, Nat.le_refl _, ⟨fun i => by simp [List.getD], fun hne => absurd rfl hne⟩, fun q hq => by cases hq⟩
  · refine ⟨some ⟨g, 0, none⟩, cap, rfl, hnc, ⟨bd_le hb, fun _ => ⟨g, 0, rfl, blk_lt hg, fun i hi => ?_⟩⟩, fun q hq => by cases hq; exact ⟨hB, blk_lt hg⟩⟩
    rw [Nat.zero_add, blk_cell hg i]
    have h1 : cur[i]? = (cur.toList.take (T.length * 1))[i]? := by
      rw [List.getElem?_take, if_pos (by omega), Array.getElem?_toList]
    rw [h1, ht]
    simp [List.getD, hi]
theorem conv_own {W : World} {p : Option Addr} {zs : List Int} {n : Nat} (h : Bytes W p zs) (hn : zs.length = n) (c : Nat) : (convert 22 9 (.slice p n c)).run Tryz.prog W = .ok (.string (strOfNums zs)) W := by
  subst hn
  exact conv_slice h c
end Go.Proofs.YtiknhkkeifemcaaGreatDoor
namespace Go.Proofs.YtiknhkkeifemcaaGreatDoor
open Go.ChangeShapes Go.WideShapes Go.ChangeAt Go.RowKit Go.Shelf
theorem ScTo.new {w0 w w' : World} {s mb : Nat} {p : Option Addr} {n cap K : Nat} {zs : List Int} {a : Nat} (h : Below w0.heap.size w0 w) (k : ScTo w s mb p n cap K zs a w') (hs : w0.heap.size ≤ s) (hm : w0.heap.size ≤ mb) : Below w0.heap.size w0 w' :=
  h.trans ((k.1.mono h.size).below hs hm)
/-! awake -/
end Go.Proofs.YtiknhkkeifemcaaGreatDoor
namespace Go.Proofs.YtiknhkkeifemcaaGreatDoor
open Go.Proofs Go.Shelf
def Tryz.cloneRen : Go.Shelf.Ren := ⟨fun | 25 => 126 | n => n, fun | 9 => 9 | 3 => 3 | 4 => 4 | 5 => 5 | 37 => 22 | 0 => 0 | 47 => 242 | n => n, fun n => n⟩
theorem Tryz.cloneLaid : Go.Proofs.LaysPu.n25 Tryz.prog Tryz.cloneRen := {
  mixed := by kernel_rfl
  f25 := Tryz.func126.trans (congrArg some (by kernel_rfl))
  t0 := Tryz.underlying0
  a0 := Tryz.isAgg0
  z0 := Tryz.sizeOf0
  v0 := Tryz.zeroValue0
  i0 := by kernel_rfl
  t3 := Tryz.underlying3
  a3 := Tryz.isAgg3
  z3 := Tryz.sizeOf3
  v3 := Tryz.zeroValue3
  i3 := by kernel_rfl
  t4 := Tryz.underlying4
  a4 := Tryz.isAgg4
  z4 := Tryz.sizeOf4
  v4 := Tryz.zeroValue4
  i4 := by kernel_rfl
  t5 := Tryz.underlying5
  a5 := Tryz.isAgg5
  z5 := Tryz.sizeOf5
  v5 := Tryz.zeroValue5
  i5 := by kernel_rfl
  t9 := Tryz.underlying9
  a9 := Tryz.isAgg9
  z9 := Tryz.sizeOf9
  v9 := Tryz.zeroValue9
  i9 := by kernel_rfl
  t37 := Tryz.underlying22
  a37 := Tryz.isAgg22
  z37 := Tryz.sizeOf22
  v37 := Tryz.zeroValue22
  i37 := by kernel_rfl
  t47 := Tryz.underlying242
  a47 := Tryz.isAgg242
  z47 := Tryz.sizeOf242
  v47 := Tryz.zeroValue242
  i47 := by kernel_rfl }
open Go.ChangeShapes Go.WideShapes Go.ChangeAt Go.RowKit
theorem clone_any (s : ByteArray) (w : World) (hs : s.size ≤ 281474976710656) : Calls Tryz.prog 93 #[.string s] w fun e w' => e = .returned (.string s) ∧ Below w.heap.size w w' := by
  have h := AnyPu.stringslite_Clone Tryz.cloneLaid s w hs
  have H := Lib.hid (show Calls Tryz.prog 126 #[.string s] w _ from h)
  clear h
  go_enter Tryz.func93, Tryz.ntmps93
  go_wp2_with fail
  refine H.out.mono ?_
  rintro e w' ⟨rfl, hb⟩
  have HB := Lib.hid hb
  clear hb
  go_wp2
  go_ret
  exact ⟨rfl, HB.out⟩
end Go.Proofs.YtiknhkkeifemcaaGreatDoor
