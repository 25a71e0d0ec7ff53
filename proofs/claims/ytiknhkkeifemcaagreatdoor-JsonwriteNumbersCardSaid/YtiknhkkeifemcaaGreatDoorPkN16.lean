/-
  The package scan's Digits: bytes as digits of base sixteen, of small letters. Conditions: those that each theorem names.
-/
import Derived.Test.YtiknhkkeifemcaaGreatDoorPkN1
import Derived.Test.YtiknhkkeifemcaaGreatDoorPkN2
import Derived.Test.YtiknhkkeifemcaaGreatDoorPkN3
import Derived.Test.YtiknhkkeifemcaaGreatDoorPkN4
import Derived.Test.YtiknhkkeifemcaaGreatDoorPkN7
import Derived.Test.YtiknhkkeifemcaaGreatDoorPkN8
import Derived.Test.YtiknhkkeifemcaaGreatDoorPkN9
import Derived.Test.YtiknhkkeifemcaaGreatDoorPkN14
import Derived.Deep.QuietTactic
import Derived.Deep.Cut
import Derived.Lib.RuneBytes
import Derived.Test.YtiknhkkeifemcaaGreatDoorRows
import Derived.Shelf.Utf8.AppendRunePlain
import Derived.Laws.MakeOwn
import Derived.Lib.SlBytesConst
import Derived.Deep.RegionLaw
import Derived.Deep.AppendLies
namespace Go.Proofs.YtiknhkkeifemcaaGreatDoor
open Go.ChangeShapes Go.WideShapes Go.ChangeAt Go.RowKit Go.Shelf

theorem IsPlan.below {w W : World} {p : Plan} {a0 a1 : Option Addr} {n0 e0 n1 c1 : Nat} (h : IsPlan w p a0 n0 e0 a1 n1 c1) (hb : Below w.heap.size w W) : IsPlan W p a0 n0 e0 a1 n1 c1 := by
  refine ⟨h.e_len, h.s_len, h.e_cap, h.s_cap, h.rt, fun j hj => ?_, fun r hr => ?_⟩
  · obtain ⟨h1, b, off, h2, h3, h4⟩ := h.e_at j hj
    exact ⟨h1, b, off, h2, Nat.lt_of_lt_of_le h3 hb.size, (hb.cell (p := ⟨b, off + j, none⟩) h3).trans h4⟩
  · obtain ⟨b, off, a, n, c, h2, h3, h4, h5, h6, h7, h8⟩ := h.s_at r hr
    refine ⟨b, off, a, n, c, h2, Nat.lt_of_lt_of_le h3 hb.size, (hb.cell (p := ⟨b, off + r, none⟩) h3).trans h4, h5, h6, h7, fun k hk => ?_⟩
    obtain ⟨b', off', f, g1, g2, g3, x0, x1, x2, x3, x4, q⟩ := h8 k hk
    exact ⟨b', off', f, g1, g2, Nat.lt_of_lt_of_le g3 hb.size, (hb.cell (p := ⟨b', off' + k * 5, none⟩) g3).trans x0, (hb.cell (p := ⟨b', off' + k * 5 + 1, none⟩) g3).trans x1, (hb.cell (p := ⟨b', off' + k * 5 + 2, none⟩) g3).trans x2, (hb.cell (p := ⟨b', off' + k * 5 + 3, none⟩) g3).trans x3, (hb.cell (p := ⟨b', off' + k * 5 + 4, none⟩) g3).trans x4, q⟩
theorem blk4p {w : World} {g : Nat} {x y z u : Value} {t : TypeId} (h : w.heap[g]? = some (.cells #[x, y, z, u] t (0, 0))) :
    g < w.heap.size ∧ w.cell? ⟨g, 0, none⟩ = some x ∧ w.cell? ⟨g, 1, none⟩ = some y ∧ w.cell? ⟨g, 2, none⟩ = some z ∧ w.cell? ⟨g, 3, none⟩ = some u :=
  ⟨blk_lt h, (blk_cell h 0).trans rfl, (blk_cell h 1).trans rfl, (blk_cell h 2).trans rfl, (blk_cell h 3).trans rfl⟩
end Go.Proofs.YtiknhkkeifemcaaGreatDoor
namespace Go.Proofs.YtiknhkkeifemcaaGreatDoor
open Go.ChangeShapes Go.WideShapes Go.ChangeAt Go.RowKit Go.Shelf

structure ScSt (W : World) (s mb : Nat) (p : Option Addr) (n cap K : Nat) (zs : List Int) (a : Nat) : Prop where
  blk : W.heap[s]? = some (.cells #[.slice p n cap, .int .i64 (a : Nat), .pointer (some ⟨mb, 0, none⟩)] 212 (0, 0))
  met : W.heap[mb]? = some (.cells #[.int .i64 ((K : Int) - (a : Int)), .bool false] 152 (0, 0))
  by_ : Bytes W p zs
  len : zs.length = n
  cap_ : n ≤ cap
  ne : s ≠ mb
  np : ∀ q, p = some q → q.block ≠ s ∧ q.block ≠ mb
  le : a ≤ n
  low : n ≤ K
  high : (K : Int) - (a : Int) ≤ 9223372036854775807 ∧ n ≤ 2199023255552
section
variable {w : World} {s mb : Nat} {p : Option Addr} {n cap K : Nat} {zs : List Int} {a : Nat}
theorem ScSt.below {w' : World} (h : ScSt w s mb p n cap K zs a) (hb : Below w.heap.size w w') : ScSt w' s mb p n cap K zs a :=
  ⟨blk_below h.blk hb (blk_lt h.blk), blk_below h.met hb (blk_lt h.met), h.by_.below (Nat.le_refl _) hb, h.len, h.cap_, h.ne, h.np, h.le, h.low, h.high⟩
def ScTo (w : World) (s mb : Nat) (p : Option Addr) (n cap K : Nat) (zs : List Int) (a : Nat) (w' : World) : Prop := Exw s mb w.heap.size w w' ∧ ScSt w' s mb p n cap K zs a
theorem ScTo.then {w1 w2 : World} {b c : Nat} (h : ScTo w s mb p n cap K zs b w1) (k : ScTo w1 s mb p n cap K zs c w2) : ScTo w s mb p n cap K zs c w2 := ⟨h.1.then k.1, k.2⟩
theorem ScTo.bel {w1 w2 : World} {c : Nat} (h : ScTo w s mb p n cap K zs c w1) (k : Below w1.heap.size w1 w2) : ScTo w s mb p n cap K zs c w2 := ⟨h.1.bel k, h.2.below k⟩
theorem ScTo.refl (h : ScSt w s mb p n cap K zs a) : ScTo w s mb p n cap K zs a w := ⟨.refl _ _ _ _, h⟩
end
end Go.Proofs.YtiknhkkeifemcaaGreatDoor
namespace Go.Proofs.YtiknhkkeifemcaaGreatDoor
open Go.ChangeShapes Go.WideShapes Go.ChangeAt Go.RowKit Go.Shelf

def EscPost (w : World) (r : Nat) (x0 x1 x2 : Value) (p : Option Addr) (n cap : Nat) (zs : List Int) (bad : Value) (o : Option (Nat × Nat)) (e : Ending) (w' : World) : Prop :=
  (∃ rn b g, o = some (rn, b) ∧ e = .returned (.tuple #[.slice (some ⟨g, 0, none⟩) (enc rn).length (enc rn).length, .bool true]) ∧ w'.heap[g]? = some (.cells ((enc rn).map (Value.int .u8)).toArray 5 (0, 0)) ∧ w.heap.size ≤ g ∧ RdTo w r x0 x1 x2 p n cap zs bad b w') ∨
  (o = none ∧ e = .returned (.tuple #[.slice none 0 0, .bool false]) ∧ ∃ a', RdTo w r x0 x1 x2 p n cap zs bad a' w')
section
variable {w w' : World} {r : Nat} {x0 x1 x2 : Value} {p : Option Addr} {n cap : Nat} {zs : List Int} {bad : Value} {o : Option (Nat × Nat)}
theorem EscPost.no {a' : Nat} (h : o = none) (h2 : RdTo w r x0 x1 x2 p n cap zs bad a' w') : EscPost w r x0 x1 x2 p n cap zs bad o (.returned (.tuple #[.slice none 0 0, .bool false])) w' := .inr ⟨h, rfl, a', h2⟩
theorem EscPost.yes {W : World} {rn b : Nat} (h : o = some (rn, b)) (h2 : RdTo w r x0 x1 x2 p n cap zs bad b W) : EscPost w r x0 x1 x2 p n cap zs bad o (.returned (.tuple #[.slice (some ⟨W.heap.size, 0, none⟩) (enc rn).length (enc rn).length, .bool true])) (W.alloc (.cells ((enc rn).map (Value.int .u8)).toArray 5)) :=
  .inl ⟨rn, b, W.heap.size, h, rfl, heap_alloc_new W _, h2.1.size, h2.bel ((Below.refl _ _).alloc (Nat.le_refl _) _)⟩
theorem EscPost.one {W : World} {m b : Nat} {x : Int} (h : o = some (m, b)) (hm : m < 128) (hx : x = (m : Nat)) (h2 : RdTo w r x0 x1 x2 p n cap zs bad b W) : EscPost w r x0 x1 x2 p n cap zs bad o (.returned (.tuple #[.slice (some ⟨W.heap.size, 0, none⟩) 1 1, .bool true])) (W.alloc (.cells #[.int .u8 x] 5)) := by
  subst hx
  have e : enc m = [((m : Nat) : Int)] := if_pos hm
  have := EscPost.yes h h2
  rw [e] at this
  exact this
end
end Go.Proofs.YtiknhkkeifemcaaGreatDoor
namespace Go.Proofs.YtiknhkkeifemcaaGreatDoor
open Go.ChangeShapes Go.WideShapes Go.ChangeAt Go.RowKit Go.Shelf

def SgnPost (w : World) (s mb : Nat) (p : Option Addr) (n cap K : Nat) (zs : List Int) (o : Option (Nat × Nat)) (e : Ending) (w' : World) : Prop :=
  (∃ r b, o = some (r, b) ∧ e = .returned (.tuple #[.int .i32 (r : Nat), .bool true]) ∧ ScTo w s mb p n cap K zs b w') ∨
  (o = none ∧ ∃ x a', e = .returned (.tuple #[.int .i32 x, .bool false]) ∧ ScTo w s mb p n cap K zs a' w')
section
variable {w w' : World} {s mb : Nat} {p : Option Addr} {n cap K : Nat} {zs : List Int} {o : Option (Nat × Nat)}
theorem SgnPost.no {x : Int} {a' : Nat} (h : o = none) (h2 : ScTo w s mb p n cap K zs a' w') : SgnPost w s mb p n cap K zs o (.returned (.tuple #[.int .i32 x, .bool false])) w' := .inr ⟨h, x, a', rfl, h2⟩
theorem SgnPost.yes {x : Int} {r b : Nat} (h : o = some (r, b)) (hx : x = r) (h2 : ScTo w s mb p n cap K zs b w') : SgnPost w s mb p n cap K zs o (.returned (.tuple #[.int .i32 x, .bool true])) w' := by
  subst hx
  exact .inl ⟨r, b, h, rfl, h2⟩
end
end Go.Proofs.YtiknhkkeifemcaaGreatDoor
namespace Go.Proofs.YtiknhkkeifemcaaGreatDoor
open Go.ChangeShapes Go.WideShapes Go.ChangeAt Go.RowKit Go.Shelf
theorem ScSt.keep {w w' : World} {s mb : Nat} {p : Option Addr} {n cap K : Nat} {zs : List Int} {a B : Nat} (h : ScSt w s mb p n cap K zs a) (hb : Below B w w') (hs : s < B) (hm : mb < B) (hp : ∀ q, p = some q → q.block < B) : ScSt w' s mb p n cap K zs a := by
  refine ⟨blk_below h.blk hb hs, blk_below h.met hb hm, ⟨h.by_.1, fun hne => ?_⟩, h.len, h.cap_, h.ne, h.np, h.le, h.low, h.high⟩
  obtain ⟨b, off, rfl, hlt, hc⟩ := h.by_.2 hne
  exact ⟨b, off, rfl, Nat.lt_of_lt_of_le hlt hb.size, fun i hi => (hb.cell (p := ⟨b, off + i, none⟩) (show b < B from hp ⟨b, off, none⟩ rfl)).trans (hc i hi)⟩
theorem grown_below {w w' : World} {o : Obj} {B : Nat} {e : TypeId} {v : Value} {n : Nat} {xs : List Value} (ho : w.ownsRow B e 1 v n xs) (hg : (w.alloc o).grownBy w' v.ownBlock) (hB : B ≤ w.heap.size) : Below B w w' := by
  refine ⟨hg.os, hg.tape, hg.output, ?_, fun k hk => ?_⟩
  · have := hg.size; simp at this; omega
  · refine (hg.block k (by simp; omega) ?_).trans (Below.heap_alloc w o k (by omega))
    intro h
    have := (ownsRow_lt ho k h.symm).1
    omega
end Go.Proofs.YtiknhkkeifemcaaGreatDoor
namespace Go.Proofs.YtiknhkkeifemcaaGreatDoor
open Go.ChangeShapes Go.WideShapes Go.ChangeAt Go.RowKit Go.Shelf
theorem conv_slice {W : World} {p : Option Addr} {zs : List Int} (h : Bytes W p zs) (c : Nat) : (convert 22 9 (.slice p zs.length c)).run Tryz.prog W = .ok (.string (strOfNums zs)) W := by
  by_cases hz : zs = []
  · subst hz
    exact conv_zero W _ 5 _ Tryz.underlying22 Tryz.underlying5 Tryz.underlying9 p c
  · obtain ⟨b, off, rfl, _, hc⟩ := h.2 hz
    exact run_convert_bytes_arg W _ 5 Tryz.underlying22 Tryz.underlying5 b off zs.length c zs rfl hc _ Tryz.underlying9
end Go.Proofs.YtiknhkkeifemcaaGreatDoor
namespace Go.Proofs.YtiknhkkeifemcaaGreatDoor
open Go.ChangeShapes Go.WideShapes Go.ChangeAt Go.RowKit Go.Shelf
theorem su8_info : (Tryz.prog.info? 5).map (fun i => (i.zero, i.size, i.bytes)) = some (some (.int .u8 0), 1, 1) := by kernel_rfl
end Go.Proofs.YtiknhkkeifemcaaGreatDoor
namespace Go.Proofs.YtiknhkkeifemcaaGreatDoor
open Go.ChangeShapes Go.WideShapes Go.ChangeAt Go.RowKit Go.Shelf
theorem sbytes_row {w : World} {g : Nat} {zs : List Int} {t : TypeId} {f : Nat × Nat} (h : w.heap[g]? = some (.cells (zs.map (Value.int .u8)).toArray t f)) (hb : ∀ z ∈ zs, 0 ≤ z ∧ z ≤ 255) : Bytes w (some ⟨g, 0, none⟩) zs :=
  ⟨bd_le hb, fun _ => ⟨g, 0, rfl, blk_lt h, fun i hi => by rw [Nat.zero_add, cell_of_row w g i _ t f h]; simp [List.getD, hi]⟩⟩
theorem own_bytes {w : World} {B : Nat} {v : Value} {T : List Int} {t : TypeId} (h : w.ownsRow B t 1 v T.length (T.map (Value.int .u8))) (hb : ∀ z ∈ T, 0 ≤ z ∧ z ≤ 255) : ∃ p c, v = .slice p T.length c ∧ T.length ≤ c ∧ Bytes w p T ∧ ∀ q, p = some q → B ≤ q.block ∧ q.block < w.heap.size := by
  rcases h.2 with ⟨rfl, h0⟩ | ⟨g, cap, cur, rfl, hB, hg, hnc, hm, hs, ht⟩
  · rw [h0]
    have : T = [] := List.eq_nil_of_length_eq_zero h0
    subst this
    exact ⟨none, 0, rfl, Nat.le_refl _, ⟨fun i => by simp [List.getD], fun hne => absurd rfl hne⟩, fun q hq => by cases hq⟩
  · refine ⟨some ⟨g, 0, none⟩, cap, rfl, hnc, ⟨bd_le hb, fun _ => ⟨g, 0, rfl, blk_lt hg, fun i hi => ?_⟩⟩, fun q hq => by cases hq; exact ⟨hB, blk_lt hg⟩⟩
    rw [Nat.zero_add, blk_cell hg i]
    have h1 : cur[i]? = (cur.toList.take (T.length * 1))[i]? := by
      rw [List.getElem?_take, if_pos (by omega), Array.getElem?_toList]
    rw [h1, ht]
    simp [List.getD, hi]
theorem conv_own {W : World} {p : Option Addr} {zs : List Int} {n : Nat} (h : Bytes W p zs) (hn : zs.length = n) (c : Nat) : (convert 22 9 (.slice p n c)).run Tryz.prog W = .ok (.string (strOfNums zs)) W := by
  subst hn
  exact conv_slice h c
end Go.Proofs.YtiknhkkeifemcaaGreatDoor
namespace Go.Proofs.YtiknhkkeifemcaaGreatDoor
open Go.ChangeShapes Go.WideShapes Go.ChangeAt Go.RowKit Go.Shelf
theorem ScTo.new {w0 w w' : World} {s mb : Nat} {p : Option Addr} {n cap K : Nat} {zs : List Int} {a : Nat} (h : Below w0.heap.size w0 w) (k : ScTo w s mb p n cap K zs a w') (hs : w0.heap.size ≤ s) (hm : w0.heap.size ≤ mb) : Below w0.heap.size w0 w' :=
  h.trans ((k.1.mono h.size).below hs hm)
/-! awake -/
end Go.Proofs.YtiknhkkeifemcaaGreatDoor
namespace Go.Proofs.YtiknhkkeifemcaaGreatDoor
open Go.ChangeShapes Go.WideShapes Go.ChangeAt Go.RowKit Go.Shelf

theorem src_u8 {W W' : World} {a : Option Addr} {zs : List Int} {n : Nat} (h : Bytes W a zs) (hn : zs.length = n) (hw : Below W.heap.size W W') (c : Nat) : Go.Src Tryz.prog 1 22 (.slice a n c) n (zs.map (Value.int .u8)) W' := by
  subst hn
  have hl : (zs.map (Value.int .u8)).length = zs.length * 1 := by simp
  have h1 : ∀ u ∈ zs.map (Value.int .u8), u.oneCell' = true := fun u hu => by
    obtain ⟨z, _, rfl⟩ := List.mem_map.1 hu
    rfl
  cases a with
  | none =>
    have : zs = [] := by
      rcases h0 : zs with _ | ⟨z, t⟩
      · rfl
      · obtain ⟨b, off, e, _⟩ := h.2 (by rw [h0]; exact List.cons_ne_nil _ _)
        cases e
    subst this
    exact Go.Src.ofNil W' Tryz.underlying22 c
  | some p =>
    refine Go.Src.ofSlice W' Tryz.underlying22 p zs.length c _ hl (fun j u hu => ?_) h1
    have hj : j < zs.length := by
      have := (List.getElem?_eq_some_iff.1 hu).1
      simpa using this
    obtain ⟨b, off, e, hlt, hc⟩ := h.2 (fun h0 => by rw [h0] at hj; exact Nat.not_lt_zero _ hj)
    injection e with e
    subst e
    have hk := hc j hj
    rw [Addr.add_lit, hw.cell (p := ⟨b, off + j, none⟩) hlt, hk, ← hu]
    simp [List.getD, hj]
theorem sbytes_mem {w : World} {p : Option Addr} {zs : List Int} (h : Bytes w p zs) : ∀ z ∈ zs, 0 ≤ z ∧ z ≤ 255 := bd_mem h.1
structure Duo (w0 W : World) (s mb r : Nat) (p q : Option Addr) (n c1 c2 K : Nat) (zs : List Int) (a b : Nat) : Prop where
  sc : ScSt W s mb p n c1 K zs a
  rd : RdSc W r (.slice none 0 0) (.slice none 0 0) (.int .i64 0) q n c2 zs (.bool false) b
  n1 : r ≠ s
  n2 : r ≠ mb
  n3 : zs ≠ [] → ∀ x, q = some x → x.block ≠ s ∧ x.block ≠ mb
  n4 : ∀ x, p = some x → x.block ≠ r
  bel : Below w0.heap.size w0 W
  l1 : w0.heap.size ≤ s
  l2 : w0.heap.size ≤ mb
  l3 : w0.heap.size ≤ r
theorem bytes_exw {W W' : World} {R S : Nat} {p : Option Addr} {zs : List Int} (h : Bytes W p zs) (hb : Exw R S W.heap.size W W') (hp : zs ≠ [] → ∀ q, p = some q → q.block ≠ R ∧ q.block ≠ S) : Bytes W' p zs := by
  refine ⟨h.1, fun hne => ?_⟩
  obtain ⟨b, off, rfl, hlt, hc⟩ := h.2 hne
  obtain ⟨h1, h2⟩ := hp hne _ rfl
  exact ⟨b, off, rfl, Nat.lt_of_lt_of_le hlt hb.size, fun i hi => cell_exw hb (hc i hi) h1 h2⟩
section
variable {w0 W W' : World} {s mb r : Nat} {p q : Option Addr} {n c1 c2 K : Nat} {zs : List Int} {a b : Nat}
theorem Duo.left {a' : Nat} (h : Duo w0 W s mb r p q n c1 c2 K zs a b) (k : ScTo W s mb p n c1 K zs a' W') : Duo w0 W' s mb r p q n c1 c2 K zs a' b :=
  ⟨k.2, ⟨blk_exw h.rd.blk k.1 (blk_lt h.rd.blk) h.n1 h.n2, bytes_exw h.rd.by_ k.1 h.n3, h.rd.len, h.rd.cap_, h.rd.np, h.rd.le, h.rd.high⟩, h.n1, h.n2, h.n3, h.n4, ScTo.new h.bel k h.l1 h.l2, h.l1, h.l2, h.l3⟩
theorem Duo.right {b' : Nat} (h : Duo w0 W s mb r p q n c1 c2 K zs a b) (k : RdTo W r (.slice none 0 0) (.slice none 0 0) (.int .i64 0) q n c2 zs (.bool false) b' W') : Duo w0 W' s mb r p q n c1 c2 K zs a b' :=
  ⟨⟨blk_exc h.sc.blk k.1 (blk_lt h.sc.blk) (fun e => h.n1 e.symm), blk_exc h.sc.met k.1 (blk_lt h.sc.met) (fun e => h.n2 e.symm), h.sc.by_.excR k.1 (fun _ => h.n4), h.sc.len, h.sc.cap_, h.sc.ne, h.sc.np, h.sc.le, h.sc.low, h.sc.high⟩, k.2, h.n1, h.n2, h.n3, h.n4, h.bel.trans ((k.1.mono h.bel.size).below h.l3), h.l1, h.l2, h.l3⟩
theorem Duo.below (h : Duo w0 W s mb r p q n c1 c2 K zs a b) (hb : Below W.heap.size W W') : Duo w0 W' s mb r p q n c1 c2 K zs a b :=
  ⟨h.sc.below hb, h.rd.below hb, h.n1, h.n2, h.n3, h.n4, h.bel.trans (hb.mono h.bel.size), h.l1, h.l2, h.l3⟩
end
end Go.Proofs.YtiknhkkeifemcaaGreatDoor
namespace Go.Proofs.YtiknhkkeifemcaaGreatDoor
open Go.ChangeShapes Go.WideShapes Go.ChangeAt Go.RowKit Go.Shelf
theorem grown_below' {w w' : World} {B : Nat} {e : TypeId} {v : Value} {n : Nat} {xs : List Value} (ho : w.ownsRow B e 1 v n xs) (hg : w.grownBy w' v.ownBlock) (hB : B ≤ w.heap.size) : Below B w w' :=
  ⟨hg.os, hg.tape, hg.output, hg.size, fun k hk => hg.block k (by omega) (fun h => by have := (ownsRow_lt ho k h.symm).1; omega)⟩
theorem RdSc.keep {w w' : World} {r : Nat} {x0 x1 x2 : Value} {p : Option Addr} {n cap : Nat} {zs : List Int} {bad : Value} {a B : Nat} (h : RdSc w r x0 x1 x2 p n cap zs bad a) (hb : Below B w w') (hr : r < B) (hp : zs ≠ [] → ∀ q, p = some q → q.block < B) : RdSc w' r x0 x1 x2 p n cap zs bad a := by
  refine ⟨blk_below h.blk hb hr, ⟨h.by_.1, fun hne => ?_⟩, h.len, h.cap_, h.np, h.le, h.high⟩
  obtain ⟨b, off, rfl, hlt, hc⟩ := h.by_.2 hne
  exact ⟨b, off, rfl, Nat.lt_of_lt_of_le hlt hb.size, fun i hi => (hb.cell (p := ⟨b, off + i, none⟩) (show b < B from hp hne ⟨b, off, none⟩ rfl)).trans (hc i hi)⟩
theorem Tabs.exc {w w' : World} {R : Nat} (h : Tabs w) (hb : Exc R w.heap.size w w') (hn : 3 ≠ R ∧ 4 ≠ R) : Tabs w' := by
  obtain ⟨s0, s1⟩ := h.sizes
  refine ⟨fun c hc => ?_, fun i hi => ⟨?_, ?_⟩⟩
  · exact (hb.cell (p := ⟨_, c, none⟩) s0 hn.1).trans (h.1 c hc)
  · exact (hb.cell (p := ⟨_, 2 * i, none⟩) s1 hn.2).trans (h.2 i hi).1
  · exact (hb.cell (p := ⟨_, 2 * i + 1, none⟩) s1 hn.2).trans (h.2 i hi).2
end Go.Proofs.YtiknhkkeifemcaaGreatDoor
namespace Go.Proofs.YtiknhkkeifemcaaGreatDoor
open Go.RowKit Go.Lib

def NoCont (Y : List Int) : Prop := Y = [] ∨ Y.getD 0 0 < 128 ∨ 192 ≤ Y.getD 0 0
theorem NoCont.app {M X : List Int} (h : NoCont M) (hx : NoCont X) : NoCont (M ++ X) := by
  cases M with
  | nil => exact hx
  | cons a M =>
    right
    rcases h with h | h
    · cases h
    · exact h
end Go.Proofs.YtiknhkkeifemcaaGreatDoor
namespace Go.Proofs.YtiknhkkeifemcaaGreatDoor
open Go.ChangeShapes Go.WideShapes Go.ChangeAt Go.RowKit Go.Shelf

def hexC (k : Int) : Int := if k < 10 then 48 + k else 87 + k
def digL (zs : List Int) : List Int := zs.flatMap fun z => [hexC (z / 16), hexC (z % 16)]
theorem hexC_bd {k : Int} (h0 : 0 ≤ k) (h1 : k < 16) : 0 ≤ hexC k ∧ hexC k ≤ 255 := by unfold hexC; split <;> omega
theorem digL_bd {zs : List Int} (h : ∀ z ∈ zs, 0 ≤ z ∧ z ≤ 255) : ∀ z ∈ digL zs, 0 ≤ z ∧ z ≤ 255 := by
  intro y hy
  obtain ⟨z, hz, hy⟩ := List.mem_flatMap.1 hy
  have := h z hz
  simp at hy
  rcases hy with rfl | rfl
  · exact hexC_bd (by omega) (by omega)
  · exact hexC_bd (by omega) (by omega)
theorem digL_len (zs : List Int) : (digL zs).length = 2 * zs.length := by
  induction zs with
  | nil => rfl
  | cons z zs ih => unfold digL at ih ⊢; rw [List.flatMap_cons, List.length_append, ih]; simp; omega
theorem digL_take {zs : List Int} {k : Nat} (h : k < zs.length) : digL (zs.take (k + 1)) = digL (zs.take k) ++ [hexC (zs.getD k 0 / 16), hexC (zs.getD k 0 % 16)] := by
  rw [List.take_succ_eq_append_getElem h]
  unfold digL
  rw [List.flatMap_append]
  simp [List.getD, h]
theorem hex_get {k : Int} (h0 : 0 ≤ k) (h1 : k < 16) : ((((⟨#[48, 49, 50, 51, 52, 53, 54, 55, 56, 57, 97, 98, 99, 100, 101, 102]⟩ : ByteArray)[k.toNat]'(by show k.toNat < 16; omega)).toNat : Nat) : Int) = hexC k := by
  have h : k = 0 ∨ k = 1 ∨ k = 2 ∨ k = 3 ∨ k = 4 ∨ k = 5 ∨ k = 6 ∨ k = 7 ∨ k = 8 ∨ k = 9 ∨ k = 10 ∨ k = 11 ∨ k = 12 ∨ k = 13 ∨ k = 14 ∨ k = 15 := by omega
  rcases h with rfl | rfl | rfl | rfl | rfl | rfl | rfl | rfl | rfl | rfl | rfl | rfl | rfl | rfl | rfl | rfl <;> rfl
theorem make_u8c (c : Nat) (hn : c ≤ 1000000) (W : World) : (Instr.makeSlice 22 (.int .i64 0) (.int .i64 (c : Int))).run Tryz.prog W = .ok (.slice (some ⟨W.heap.size, 0, none⟩) 0 c) (W.alloc (.cells (madeCells (Value.int .u8 0).cells (c * 1)) 5)) := by
  obtain ⟨i, hi, hz, hs, hb⟩ := info_parts su8_info
  have h := run_make W 22 5 i (.int .u8 0) Tryz.underlying22 hi hz .i64 .i64 0 c (by omega) (by omega) (by rw [hb]; omega) (by omega)
  rw [hs, Int.toNat_natCast] at h
  exact h
theorem own_made (c : Nat) (hn : c ≤ 1000000) (W : World) : (W.alloc (.cells (madeCells (Value.int .u8 0).cells (c * 1)) 5)).ownsRow W.heap.size 5 1 (.slice (some ⟨W.heap.size, 0, none⟩) 0 c) 0 [] :=
  ⟨rfl, .inr ⟨W.heap.size, c, _, rfl, Nat.le_refl _, heap_alloc_new W _, Nat.zero_le _, by unfold maxLen; omega, size_madeCells _ _, rfl⟩⟩
theorem digits_any (p : Option Addr) (n cap : Nat) (zs : List Int) (w : World) (hz : Bytes w p zs) (hn : zs.length = n) (_hcap : n ≤ cap) (hl : n ≤ 100000) :
    Calls Tryz.prog 105 #[.slice p n cap] w fun e w' => e = .returned (.string (strOfNums (digL zs))) ∧ Below w.heap.size w w' := by
  have mk : ∀ W, (Instr.makeSlice 22 (.int .i64 0) (.int .i64 (2 * (n : Int)))).run Tryz.prog W = .ok (.slice (some ⟨W.heap.size, 0, none⟩) 0 (2 * n)) (W.alloc (.cells (madeCells (Value.int .u8 0).cells (2 * n * 1)) 5)) := fun W => by
    have := make_u8c (2 * n) (by omega) W
    rw [Int.natCast_mul] at this
    exact this
  have HM : Hid ((w.alloc (.cells (madeCells #[Value.int .u8 0] (2 * n)) 5)).ownsRow w.heap.size 5 1 (.slice (some ⟨w.heap.size, 0, none⟩) 0 (2 * n)) 0 []) := by
    have := own_made (2 * n) (by omega) w
    rw [Nat.mul_one] at this
    exact this
  have HZ := Lib.hid hz
  have HN := Lib.hid hn
  obtain ⟨S, hS⟩ : ∃ S, strOfNums (digL zs) = S := ⟨_, rfl⟩
  rw [hS]
  have HSS := Lib.hid hS
  clear hS
  clear hz hn
  go_enter Tryz.func105, Tryz.ntmps105
  obtain ⟨i0, hi0, hzz0, hzz1, hzz2⟩ := info_parts su8_info
  have I1 := Lib.hid hi0
  have I2 := Lib.hid hzz0
  have I3 := Lib.hid hzz1
  have I4 := Lib.hid hzz2
  clear hi0 hzz0 hzz1 hzz2
  go_wp2
  go_loopw [3, 12] (fun v i wr => ∃ k : Nat, k ≤ n ∧ i = .int .i64 k ∧ wr.ownsRow w.heap.size 5 1 v (2 * k) ((digL (zs.take k)).map (Value.int .u8)) ∧ Below w.heap.size w wr) (fun _ i _ => n - (intOf i).toNat)
  case atStart => exact ⟨0, Nat.zero_le _, rfl, HM.out, (Below.refl _ _).alloc (Nat.le_refl _) _⟩
  case round =>
    obtain ⟨k, hk, rfl, ho, hb⟩ := hrel
    obtain ⟨va, vc, rfl⟩ := ownsRow_form ho
    have HO := Lib.hid ho
    have HB := Lib.hid hb
    clear ho hb HM
    by_cases hkn : k < n
    · obtain ⟨b, off, rfl, hlt, hc⟩ := HZ.out.2 (by intro e; have := HN.out; rw [e] at this; simp at this; omega)
      have hci := (HB.out.cell (p := ⟨b, off + k, none⟩) hlt).trans (hc k (by rw [HN.out]; exact hkn))
      have HT := Lib.hid (digL_take (zs := zs) (k := k) (by rw [HN.out]; exact hkn))
      obtain ⟨c0, c1⟩ := HZ.out.1 k
      generalize zs.getD k 0 = c at hci HT c0 c1
      clear hc
      obtain ⟨H, hH⟩ : ∃ H, c / 16 = H := ⟨_, rfl⟩
      obtain ⟨L, hL⟩ : ∃ L, c % 16 = L := ⟨_, rfl⟩
      have aL : bits BinOp.and .u8 c 15 = L := (u8_and15 (x := c) c0 (by omega)).trans hL
      have h0 : 0 ≤ H := by omega
      have h1 : H < 16 := by omega
      have l0 : 0 ≤ L := by omega
      have l1 : L < 16 := by omega
      rw [hH, hL] at HT
      obtain ⟨A, hA⟩ : ∃ A, (⟨#[48, 49, 50, 51, 52, 53, 54, 55, 56, 57, 97, 98, 99, 100, 101, 102]⟩ : ByteArray)[H.toNat]'(by show H.toNat < 16; omega) = A := ⟨_, rfl⟩
      obtain ⟨E, hE⟩ : ∃ E, (⟨#[48, 49, 50, 51, 52, 53, 54, 55, 56, 57, 97, 98, 99, 100, 101, 102]⟩ : ByteArray)[L.toNat]'(by show L.toNat < 16; omega) = E := ⟨_, rfl⟩
      have HA : Hid ((A.toNat : Int) = hexC H) := by unfold Hid; rw [← hA]; exact hex_get h0 h1
      have HE : Hid ((E.toNat : Int) = hexC L) := by unfold Hid; rw [← hE]; exact hex_get l0 l1
      have HW : Hid (∀ (X : World), ((X.alloc (.cells #[.int .u8 (A.toNat : Int), .int .u8 (E.toNat : Int)] 5)).drew).heap[X.heap.size]? = some (.cells #[.int .u8 (A.toNat : Int), .int .u8 (E.toNat : Int)] 5 (0, 0))) := fun X => heap_alloc_new X _
      have HOA : Hid ((wr.alloc (.cells #[.int .u8 (A.toNat : Int), .int .u8 (E.toNat : Int)] 5)).ownsRow w.heap.size 5 1 (.slice va (2 * k) vc) (2 * k) ((digL (zs.take k)).map (Value.int .u8))) := HO.out.alloc _
      go_wp2
      go_region_law (first | (refine step_append_lies _ rfl (.tmp 16) (.tmp 23) 22 rfl w.heap.size 5 i0 _ 1 1 Tryz.underlying22 I1.out I2.out I3.out I4.out rfl (by decide) _ (2 * k) ((digL (zs.take k)).map (Value.int .u8)) rfl HOA.out _ 2 2 [.int .u8 (A.toNat : Int), .int .u8 (E.toNat : Int)] rfl rfl (World.news_of_block (HW.out wr)) (by intro u hu; simp at hu; rcases hu with rfl | rfl <;> rfl) (by decide) (by unfold maxLen; omega) (by omega) (by have := HB.out.size; simp; omega) _ rfl ?_; rintro g4 c4 W8 hown4 hg4 hat4 hlt4; clear hat4))
      all_goals
        have hX : Below w.heap.size w (wr.alloc (.cells #[.int .u8 (A.toNat : Int), .int .u8 (E.toNat : Int)] 5)).drew := (HB.out.alloc HB.out.size _).drew
        have HB8 := Lib.hid (hX.trans (grown_below' HOA.out hg4 (by have := HB.out.size; simp; omega)))
        have HO8 := Lib.hid hown4
        clear hown4 hg4 hX hlt4
        simp only [Exit.inBlock, Exit.then]
        go_wp2
        go_roundw
        case rel =>
          refine ⟨k + 1, by omega, by go_num, ?_, HB8.out⟩
          rw [HT.out, List.map_append]
          have := HO8.out
          rw [HA.out, HE.out] at this
          exact this
        case measure => simp [intOf]; omega
    · obtain rfl : n = k := by omega
      have hT : zs.take n = zs := List.take_of_length_le (by rw [HN.out]; exact Nat.le_refl _)
      have hBY := own_bytes (T := digL zs) (by rw [digL_len, HN.out]; have := HO.out; rw [hT] at this; exact this) (digL_bd (sbytes_mem HZ.out))
      obtain ⟨p', c', e1, h1, h2, _⟩ := hBY
      rw [digL_len, HN.out] at e1
      injection e1 with e2 e3 e4
      subst e2 e4
      have cv := conv_own h2 (show _ = 2 * n by rw [digL_len, HN.out]) vc
      clear h1 h2 hT
      rw [HSS.out] at cv
      go_wp2
      go_ret
      exact ⟨rfl, HB.out⟩
end Go.Proofs.YtiknhkkeifemcaaGreatDoor
