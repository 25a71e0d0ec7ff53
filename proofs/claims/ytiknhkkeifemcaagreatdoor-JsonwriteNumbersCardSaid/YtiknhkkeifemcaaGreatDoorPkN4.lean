/-
  What Out of a meter of the package wire tells. Conditions: those that each theorem names.
-/
import Derived.Test.YtiknhkkeifemcaaGreatDoorPkN1
import Derived.Test.YtiknhkkeifemcaaGreatDoorPkN2
import Derived.Test.YtiknhkkeifemcaaGreatDoorRows
import Derived.WalkKit
import Derived.ProofKit
import Derived.OpenShut
import Derived.ShutString
import Derived.ChangeOld
import Derived.Below
import Derived.Deep.DeepHandedRow
import Derived.Laws.AppendOwn
import Derived.Laws.AppendOwnNone
import Derived.Deep.AppendLies
import Derived.OwnWalk
import Derived.Deep.AppendSrc
import Derived.Laws.MakeOwn
import Derived.WalkLawsBesides
import Derived.WalkSpells
import Derived.Lib.Hide
import Derived.Outline
import Derived.Handy
import Derived.Laws.CopyOwn
namespace Go.Proofs.YtiknhkkeifemcaaGreatDoor
open Go.ChangeShapes Go.WideShapes Go.ChangeAt Go.RowKit

theorem own : ownKnob Tryz.prog.godebug = none := by kernel_rfl
theorem laidOut : laidOutB Tryz.prog = true := by kernel_rfl
def IsRow (k : IntKind) (w : World) (a : Option Addr) (len cap : Nat) (zs : List Int) : Prop :=
  len ≤ cap ∧ cap ≤ maxLen ∧ zs.length = cap ∧ (∀ n ∈ zs, (Lit.int k n).wf = true) ∧
  (zs ≠ [] → ∃ b off, a = some ⟨b, off, none⟩ ∧ b < w.heap.size ∧ ∀ j, j < zs.length → w.cell? ⟨b, off + j, none⟩ = some (.int k (zs.getD j 0)))
theorem isRow_nil (k : IntKind) (w : World) (a : Option Addr) : IsRow k w a 0 0 [] :=
  ⟨Nat.le_refl _, Nat.zero_le _, rfl, (fun n h => by simp at h), (fun h => absurd rfl h)⟩
theorem isRow_of {k : IntKind} {w : World} {x : Addr} {len cap : Nat} {zs : List Int} (hl : len ≤ cap) (hm : cap ≤ maxLen) (hz : zs.length = cap)
    (hc : ∀ i, i < zs.length → w.cell? (x.add i) = some (.int k (zs.getD i 0))) (hw : ∀ n ∈ zs, (Lit.int k n).wf = true) : IsRow k w (some x) len cap zs := by
  refine ⟨hl, hm, hz, hw, fun hne => ?_⟩
  have h0 : 0 < zs.length := List.length_pos_iff.2 hne
  obtain ⟨b, off, rfl, hc'⟩ := ints_at hc h0
  exact ⟨b, off, rfl, World.block_lt_of_cell? _ _ (hc' 0 h0), hc'⟩
end Go.Proofs.YtiknhkkeifemcaaGreatDoor
namespace Go.Proofs.YtiknhkkeifemcaaGreatDoor
open Go.ChangeShapes Go.WideShapes Go.ChangeAt Go.RowKit

def SrcRow (w : World) (A : Option Addr) (m c : Nat) (news : List Value) : Prop :=
  news.length = m ∧ (∀ u ∈ news, u.oneCell' = true) ∧ ((A = none ∧ m = 0 ∧ c = 0) ∨ ∃ ad, A = some ad ∧ ∀ j u, news[j]? = some u → w.cell? (ad.add j) = some u)
def u8s (zs : List Int) : List Value := zs.map (Value.int .u8)
theorem IsRow.src {w w' : World} {a : Option Addr} {len cap : Nat} {zs : List Int} (h : IsRow .u8 w a len cap zs) (hb : Below w.heap.size w w') : SrcRow w' a len cap (u8s (zs.take len)) := by
  obtain ⟨hl, _, hz, _, hp⟩ := h
  refine ⟨by simp [u8s]; omega, fun u hu => ?_, ?_⟩
  · obtain ⟨z, _, rfl⟩ := List.mem_map.1 hu
    rfl
  · cases a with
    | none =>
      have h0 : zs.length = 0 := by
        rcases Nat.eq_zero_or_pos zs.length with h | h
        · exact h
        · obtain ⟨_, _, e, _⟩ := hp (by intro h'; rw [h'] at h; simp at h)
          cases e
      exact .inl ⟨rfl, by omega, by omega⟩
    | some ad =>
      refine .inr ⟨ad, rfl, fun j u hu => ?_⟩
      have hj : j < len ∧ j < zs.length := by
        have := (List.getElem?_eq_some_iff.1 hu).1
        simp [u8s] at this
        omega
      obtain ⟨b, off, e, hlt, hc⟩ := hp (by intro h; rw [h] at hj; simp at hj)
      injection e with e
      subst e
      have h1 := (hb.cell (p := ⟨b, off + j, none⟩) hlt).trans (hc j hj.2)
      have h2 : (u8s (zs.take len))[j]? = some (Value.int .u8 (zs.getD j 0)) := by
        simp [u8s, List.getD, hj.1, hj.2]
      rw [h2] at hu
      rw [Go.WideShapes.add_plain, h1]
      exact hu
def OwnB (w : World) (base : Nat) (v : Value) (zs : List Int) : Prop :=
  ∃ g cap, v = .slice (some ⟨g, 0, none⟩) zs.length cap ∧ base ≤ g ∧ g < w.heap.size ∧ zs.length ≤ cap ∧ cap ≤ maxLen ∧ (∀ i, i < zs.length → w.cell? ⟨g, i, none⟩ = some (.int .u8 (zs.getD i 0))) ∧ (∀ i, w.frozen? ⟨g, i, none⟩ = false)
theorem ownB_of_row {w : World} {base : Nat} {v : Value} {n : Nat} {zs : List Int} {e : TypeId} (h : w.ownsRow base e 1 v n (u8s zs)) (hne : v ≠ .slice none 0 0) : OwnB w base v zs := by
  obtain ⟨hl, h'⟩ := h
  rcases h' with ⟨rfl, _⟩ | ⟨g, cap, cur, rfl, hb, hg, hn, hm, hs, ht⟩
  · exact absurd rfl hne
  · have hn' : n = zs.length := by simpa [u8s] using hl.symm
    subst hn'
    have hlt : g < w.heap.size := by
      rcases Nat.lt_or_ge g w.heap.size with h | h
      · exact h
      · rw [Array.getElem?_eq_none h] at hg; cases hg
    refine ⟨g, cap, rfl, hb, hlt, hn, hm, fun i hi => ?_, fun i => ?_⟩
    · have h1 : (cur.toList.take (zs.length * 1))[i]? = some (Value.int .u8 (zs.getD i 0)) := by
        rw [ht]; simp [u8s, List.getD, hi]
      rw [Nat.mul_one, List.getElem?_take, if_pos hi] at h1
      rw [cell_of_row w g i cur e (0, 0) hg]
      simpa using h1
    · simp [World.frozen?, hg]
theorem u8_info : (Tryz.prog.info? 5).map (fun i => (i.zero, i.size, i.bytes)) = some (some (.int .u8 0), 1, 1) := by kernel_rfl
end Go.Proofs.YtiknhkkeifemcaaGreatDoor
namespace Go.Proofs.YtiknhkkeifemcaaGreatDoor
open Go.ChangeShapes Go.WideShapes Go.ChangeAt Go.RowKit

section
variable {P : Program} (w : World)
end
def OwnR (w : World) (base : Nat) (e : TypeId) (g n cap : Nat) (zs : List Int) : Prop := w.ownsRow base e 1 (.slice (some ⟨g, 0, none⟩) n cap) n (u8s zs)
theorem OwnR.facts {w : World} {base : Nat} {e : TypeId} {g n cap : Nat} {zs : List Int} (h : OwnR w base e g n cap zs) :
    zs.length = n ∧ base ≤ g ∧ g < w.heap.size ∧ n ≤ cap ∧ cap ≤ maxLen ∧ (∀ i, i < zs.length → w.cell? ⟨g, i, none⟩ = some (.int .u8 (zs.getD i 0))) ∧ (∀ i, w.frozen? ⟨g, i, none⟩ = false) := by
  have hl : zs.length = n := by have := h.1; simpa [u8s] using this
  obtain ⟨g', cap', hv, h1, h2, h3, h4, h5, h6⟩ := ownB_of_row h (by intro h; cases h)
  cases hv
  exact ⟨hl, h1, h2, by omega, h4, h5, h6⟩
end Go.Proofs.YtiknhkkeifemcaaGreatDoor
namespace Go.Proofs.YtiknhkkeifemcaaGreatDoor
open Go.ChangeShapes Go.WideShapes Go.ChangeAt Go.RowKit

theorem next_yes (a n m : Int) (w : World) (h0 : 0 ≤ a) (h1 : 0 ≤ n) (h2 : a ≤ m) (h3 : n ≤ m - a) (hm : m ≤ 9223372036854775807) :
    Calls Tryz.prog 160 #[.int .i64 a, .int .i64 n, .int .i64 m] w fun e w' => e = .returned (.tuple #[.int .i64 (a + n), .bool true]) ∧ w = w' := by
  go_enter Tryz.func160, Tryz.ntmps160
  go_wp2
  go_ret2
  exact ⟨rfl, rfl⟩
theorem next_no (a n m : Int) (w : World) (h : a < 0 ∨ n < 0 ∨ m < a ∨ m - a < n) (hm : m ≤ 9223372036854775807) :
    Calls Tryz.prog 160 #[.int .i64 a, .int .i64 n, .int .i64 m] w fun e w' => e = .returned (.tuple #[.int .i64 0, .bool false]) ∧ w = w' := by
  by_cases h0 : a < 0
  · go_enter Tryz.func160, Tryz.ntmps160
    go_wp2
    go_ret2
    exact ⟨rfl, rfl⟩
  by_cases h1 : n < 0
  · go_enter Tryz.func160, Tryz.ntmps160
    go_wp2
    go_ret2
    exact ⟨rfl, rfl⟩
  by_cases h2 : m < a
  · go_enter Tryz.func160, Tryz.ntmps160
    go_wp2
    go_ret2
    exact ⟨rfl, rfl⟩
  have h3 : m - a < n := by omega
  clear h
  go_enter Tryz.func160, Tryz.ntmps160
  go_wp2
  go_ret2
  exact ⟨rfl, rfl⟩
end Go.Proofs.YtiknhkkeifemcaaGreatDoor
namespace Go.Proofs.YtiknhkkeifemcaaGreatDoor
open Go.ChangeShapes Go.WideShapes Go.ChangeAt Go.RowKit
theorem OwnR.set {w : World} {base : Nat} {e : TypeId} {g n cap : Nat} {zs : List Int} (h : OwnR w base e g n cap zs) (j : Nat) (b : Int) : OwnR (w.setCell ⟨g, j, none⟩ (.int .u8 b)) base e g n cap (zs.set j b) := by
  obtain ⟨hl, h'⟩ := h
  rcases h' with ⟨hv, _⟩ | ⟨g', cap', cur, hv, hb, hg, hn, hm, hs, ht⟩
  · cases hv
  · cases hv
    refine ⟨by simpa [u8s] using hl, .inr ⟨g, cap, cur.setIfInBounds j (.int .u8 b), rfl, hb, ?_, hn, hm, by simpa using hs, ?_⟩⟩
    · simp [World.setCell, Array.getElem?_modify, hg]
    · have e1 : u8s (zs.set j b) = (u8s zs).set j (.int .u8 b) := by simp [u8s, List.map_set]
      rw [e1, ← ht]
      simp [List.take_set]
def zeros (n : Nat) : List Int := List.replicate n 0
theorem made_zeros (n : Nat) : (madeCells (Value.int .u8 0).cells n).toList = u8s (zeros n) := by
  apply List.ext_getElem?
  intro i
  by_cases hi : i < n
  · simp [madeCells, zeros, u8s, Value.cells, hi, Nat.mod_one]
  · simp [madeCells, zeros, u8s, hi]
end Go.Proofs.YtiknhkkeifemcaaGreatDoor
namespace Go.Proofs.YtiknhkkeifemcaaGreatDoor
open Go.ChangeShapes Go.WideShapes Go.ChangeAt Go.RowKit

theorem OwnR.opened {w : World} {base : Nat} {e : TypeId} {g n cap : Nat} {zs : List Int} (h : OwnR w base e g n cap zs) :
    ∃ cur : List Value, w.heap[g]? = some (.cells cur.toArray e (0, 0)) ∧ base ≤ g ∧ n ≤ cap ∧ cap ≤ maxLen ∧ cur.length = cap ∧ cur.take n = u8s zs ∧ zs.length = n := by
  have hl : zs.length = n := by have := h.1; simpa [u8s] using this
  obtain ⟨_, h'⟩ := h
  rcases h' with ⟨hv, _⟩ | ⟨g', cap', cur, hv, hb, hg, hn, hm, hs, ht⟩
  · cases hv
  · cases hv
    exact ⟨cur.toList, by simpa using hg, hb, hn, hm, by simpa using hs, by simpa using ht, hl⟩
theorem u8s_splice (L cs : List Int) (off : Nat) : u8s (splice L off cs) = splice (u8s L) off (u8s cs) := by
  simp [splice, u8s, List.map_take, List.map_drop]
theorem take_splice {α : Type} (L cs : List α) (off n : Nat) (h : off + cs.length ≤ n) (hn : n ≤ L.length) : (splice L off cs).take n = splice (L.take n) off cs := by
  unfold splice
  have hoff : (L.take off).length = off := by simp; omega
  rw [List.take_append, hoff, List.take_append, List.take_of_length_le (l := L.take off) (by omega), List.take_of_length_le (l := cs) (by omega)]
  congr 1
  · rw [List.take_take, Nat.min_eq_left (by omega)]
  · congr 1
    rw [List.take_drop]
    congr 1
    congr 1
    omega
theorem ownR_of_splice {w' : World} {base : Nat} {e : TypeId} {g n cap : Nat} {zs news : List Int} {cur : List Value} {a : Nat}
    (hb : base ≤ g) (hn : n ≤ cap) (hm : cap ≤ maxLen) (hc : cur.length = cap) (ht : cur.take n = u8s zs) (hl : zs.length = n) (hfit : a + news.length ≤ n)
    (hg : w'.heap[g]? = some (.cells (splice cur a (u8s news)).toArray e (0, 0))) : OwnR w' base e g n cap (splice zs a news) := by
  have hul : (u8s news).length = news.length := by simp [u8s]
  refine ⟨by simp only [u8s, List.length_map, Nat.mul_one]; rw [length_splice _ _ _ (by omega), hl], .inr ⟨g, cap, _, rfl, hb, hg, hn, hm, ?_, ?_⟩⟩
  · simp only [List.size_toArray, Nat.mul_one]
    rw [length_splice _ _ _ (by omega), hc]
  · rw [Nat.mul_one, u8s_splice, ← ht]
    exact take_splice cur (u8s news) a n (by omega) (by omega)

theorem OwnR.str {P : Program} {w : World} {base : Nat} {e : TypeId} {g n cap : Nat} {zs : List Int} (h : OwnR w base e g n cap zs) (t d : TypeId) (ht : P.underlying t = some (.slice e)) (he : P.underlying e = some (.int .u8)) (hd : P.underlying d = some .string) :
    (convert t d (.slice (some ⟨g, 0, none⟩) n cap)).run P w = .ok (.string (strOfNums zs)) w := by
  obtain ⟨hl, _, _, _, _, hc, _⟩ := h.facts
  exact run_convert_bytes_arg (P := P) w t e ht he g 0 n cap zs hl (fun i hi => by rw [Nat.zero_add]; exact hc i (by omega)) d hd
theorem IsRow.str {P : Program} {w w' : World} {a : Option Addr} {len cap : Nat} {zs : List Int} {e : TypeId} (h : IsRow .u8 w a len cap zs) (hb : Below w.heap.size w w') (t d : TypeId) (ht : P.underlying t = some (.slice e)) (he : P.underlying e = some (.int .u8)) (hd : P.underlying d = some .string) :
    (convert t d (.slice a len cap)).run P w' = .ok (.string (strOfNums (zs.take len))) w' := by
  by_cases h0 : len = 0
  · subst h0
    rw [List.take_zero]
    exact conv_zero w' t e d ht he hd a cap
  · obtain ⟨hl, _, hz, _, hp⟩ := h
    obtain ⟨b, off, rfl, hlt, hc⟩ := hp (by rintro rfl; simp at hz; omega)
    refine run_convert_bytes_arg (P := P) w' t e ht he b off len cap _ (by simp; omega) (fun i hi => ?_) d hd
    rw [(hb.cell (p := ⟨b, off + i, none⟩) hlt).trans (hc i (by omega))]
    simp [List.getD, hi]
theorem OwnR.of_block {w w' : World} {base : Nat} {e : TypeId} {g n cap : Nat} {zs : List Int} (h : OwnR w base e g n cap zs) (hb : w'.heap[g]? = w.heap[g]?) : OwnR w' base e g n cap zs := by
  obtain ⟨hl, h'⟩ := h
  refine ⟨hl, ?_⟩
  rcases h' with h1 | ⟨g', cap', cur, hv, h1, hg, h2⟩
  · exact .inl h1
  · cases hv
    exact .inr ⟨g, cap, cur, rfl, h1, hb.trans hg, h2⟩
theorem OwnR.below {w w' : World} {base B : Nat} {e : TypeId} {g n cap : Nat} {zs : List Int} (h : OwnR w base e g n cap zs) (hb : Below B w w') (hg : g < B) : OwnR w' base e g n cap zs := h.of_block (hb.block g hg)
theorem OwnR.grown {w w' : World} {base : Nat} {row : Option Nat} {e : TypeId} {g n cap : Nat} {zs : List Int} (h : OwnR w base e g n cap zs) (hb : w.grownBy w' row) (hg : some g ≠ row) : OwnR w' base e g n cap zs := h.of_block (hb.block g h.facts.2.2.1 hg)
theorem OwnR.part {P : Program} {w w' : World} {base : Nat} {e : TypeId} {g n cap : Nat} {zs : List Int} (h : OwnR w base e g n cap zs) (hw : ∀ i, w'.cell? ⟨g, i, none⟩ = w.cell? ⟨g, i, none⟩) (t d : TypeId) (ht : P.underlying t = some (.slice e)) (he : P.underlying e = some (.int .u8)) (hd : P.underlying d = some .string)
    (k m c : Nat) (hfit : k + m ≤ n) : (convert t d (.slice (some ⟨g, k, none⟩) m c)).run P w' = .ok (.string (strOfNums ((zs.drop k).take m))) w' := by
  obtain ⟨hl, _, _, _, _, hc, _⟩ := h.facts
  refine run_convert_bytes_arg (P := P) w' t e ht he g k m c _ (by simp; omega) (fun i hi => ?_) d hd
  rw [hw, hc (k + i) (by omega)]
  simp [List.getD, hi]
theorem IsRow.part {P : Program} {w w' : World} {b off len cap : Nat} {zs : List Int} {e : TypeId} (h : IsRow .u8 w (some ⟨b, off, none⟩) len cap zs) (hb : Below w.heap.size w w') (t d : TypeId) (ht : P.underlying t = some (.slice e)) (he : P.underlying e = some (.int .u8)) (hd : P.underlying d = some .string)
    (k m c : Nat) (hfit : k + m ≤ len) : (convert t d (.slice (some ⟨b, off + k, none⟩) m c)).run P w' = .ok (.string (strOfNums (((zs.take len).drop k).take m))) w' := by
  obtain ⟨hl, _, hz, _, hp⟩ := h
  refine run_convert_bytes_arg (P := P) w' t e ht he b (off + k) m c _ (by simp; omega) (fun i hi => ?_) d hd
  obtain ⟨b', off', he', hlt, hc⟩ := hp (by rintro rfl; simp at hz; omega)
  cases he'
  rw [Nat.add_assoc, (hb.cell (p := ⟨b, off + (k + i), none⟩) hlt).trans (hc (k + i) (by omega))]
  have h1 : k + i < len := by omega
  simp [List.getD, hi, h1]
theorem laid_src {w : World} {base : Nat} {e : TypeId} {g n cap : Nat} {zs : List Int} (h : OwnR w base e g n cap zs) : ∀ j v, (u8s zs)[j]? = some v → w.cell? ((⟨g, 0, none⟩ : Addr).add j) = some v := by
  intro j v hv
  obtain ⟨hl, _, _, _, _, hc, _⟩ := h.facts
  have hj : j < zs.length := by
    have := (List.getElem?_eq_some_iff.1 hv).1
    simpa [u8s] using this
  rw [Go.WideShapes.add_plain, Nat.zero_add, hc j hj]
  simpa [u8s, List.getD, hj] using hv
theorem u8s_one (zs : List Int) : ∀ v ∈ u8s zs, v.oneCell' = true := by
  intro v hv
  obtain ⟨z, _, rfl⟩ := List.mem_map.1 hv
  rfl
theorem u8_size : (Tryz.prog.info? 5).map (·.size) = some 1 := by kernel_rfl
end Go.Proofs.YtiknhkkeifemcaaGreatDoor
namespace Go.Proofs.YtiknhkkeifemcaaGreatDoor
open Go.ChangeShapes Go.WideShapes Go.ChangeAt Go.RowKit

theorem zeroCells_u8 (m : Nat) : Builtin.zeroCells (Value.int .u8 0).cells m = (u8s (zeros m)).toArray := by
  apply Array.ext'
  simp only [Builtin.zeroCells]
  apply List.ext_getElem?
  intro i
  by_cases hi : i < m
  · simp [zeros, u8s, Value.cells, hi, Nat.mod_one]
  · simp [zeros, u8s, Value.cells, hi]
theorem u8s_append (a b : List Int) : u8s (a ++ b) = u8s a ++ u8s b := by simp [u8s]
theorem length_u8s (a : List Int) : (u8s a).length = a.length := by simp [u8s]
section
variable {P : Program} (w : World)
def OwnV (w : World) (base : Nat) (e : TypeId) (A : Option Addr) (cap : Nat) (zs : List Int) : Prop := w.ownsRow base e 1 (.slice A zs.length cap) zs.length (u8s zs)
def rowOf (A : Option Addr) : Option Nat := A.map (·.block)
theorem ownBlock_rowOf (A : Option Addr) (n cap : Nat) : (Value.slice A n cap).ownBlock = rowOf A := by cases A <;> rfl

theorem run_append_zeros_grow (t tx ty e : TypeId) (i : TypeInfo) (ht : P.underlying t = some (.slice e)) (hk : P.underlying tx = some (.int .i64)) (hi : P.info? e = some i) (hz : i.zero = some (.int .u8 0)) (hsize : i.size = 1) (hby : i.bytes = 1)
    (A : Option Addr) (n cap : Nat) (olds : List Value) (hold : (Builtin.firstCells 1 n (.slice A n cap)).run P w.drew = .ok olds.toArray w.drew) (m : Nat) (hg : cap < n + m) (hbd : n + m ≤ 140737488355328) :
    (Builtin.append_ #[t, tx] ty #[.slice A n cap, .int .i64 m]).run P w = .ok (.slice (some ⟨w.heap.size, 0, none⟩) (n + m) (grownCap w (n + m) cap e))
        (w.drew.alloc (.cells ((olds ++ u8s (zeros m)).toArray ++ Builtin.zeroCells (Value.int .u8 0).cells (grownCap w (n + m) cap e - (n + m))) e)) := by
  have hwr : IntKind.i64.wrap (m : Int) = m := IntWalk.i64_in m (by omega)
  have hm48 : ¬ (281474976710656 : Int) < (m : Int) := by omega
  have hm0 : ¬ (m : Int) < 0 := by omega
  have hn : ¬ (n + m ≤ cap) := by omega
  have h63' : ¬ (9223372036854775807 < ((n : Int) + (m : Int))) := by omega
  have hfit := growslice_fits (old := cap) (need := n + m) (bytes := 1) hg (by omega)
  have h48' : ¬ (281474976710656 < Builtin.nextslicecap (n + m) cap) := by omega
  have hzz := zeroCells_u8 m
  by_cases h0 : m = 0
  · subst h0
    have hw0 : IntKind.i64.wrap 0 = 0 := IntWalk.i64_in 0 (by decide)
    rw [Nat.add_zero] at hg
    have hn' : ¬ n ≤ cap := by omega
    have h63'' : ¬ (9223372036854775807 < (n : Int)) := by omega
    rw [Nat.add_zero] at h48'
    simp [Builtin.append_, run_underlying ht, run_underlying hk, sizeOf, typeInfo, zeroValue, hi, hz, hsize, hby, hw0, asInt, asIntOf, hn', h63'', h48', Question.forced, hold, newRow, grownCap]
    have hu : olds ++ u8s (zeros 0) = olds := by simp [u8s, zeros]
    rw [hu]
  · simp [Builtin.append_, run_underlying ht, run_underlying hk, sizeOf, typeInfo, zeroValue, hi, hz, hsize, hby, hwr, asInt, asIntOf, hm48, hm0, hn, h63', h48', h0, Question.forced, hold, newRow, grownCap, hzz]
    congr 2
    apply Array.ext'
    simp [List.append_assoc]
theorem run_append_zeros_room (t tx ty e : TypeId) (i : TypeInfo) (ht : P.underlying t = some (.slice e)) (hk : P.underlying tx = some (.int .i64)) (hi : P.info? e = some i) (hz : i.zero = some (.int .u8 0)) (hsize : i.size = 1) (hby : i.bytes = 1)
    (g n cap : Nat) (m : Nat) (w' : World) (hroom : n + m ≤ cap) (hbd : n + m ≤ 140737488355328) (hst : (storeCells (⟨g, n, none⟩ : Addr) (u8s (zeros m))).run P w = .ok () w') :
    (Builtin.append_ #[t, tx] ty #[.slice (some ⟨g, 0, none⟩) n cap, .int .i64 m]).run P w = .ok (.slice (some ⟨g, 0, none⟩) (n + m) cap) w' := by
  have hwr : IntKind.i64.wrap (m : Int) = m := IntWalk.i64_in m (by omega)
  have hm48 : ¬ (281474976710656 : Int) < (m : Int) := by omega
  have hm0 : ¬ (m : Int) < 0 := by omega
  have hzz := zeroCells_u8 m
  by_cases h0 : m = 0
  · subst h0
    have hw0 : IntKind.i64.wrap 0 = 0 := IntWalk.i64_in 0 (by decide)
    rw [Nat.add_zero] at hroom
    have hu : u8s (zeros 0) = [] := rfl
    rw [hu] at hst
    simp [Builtin.append_, run_underlying ht, run_underlying hk, sizeOf, typeInfo, zeroValue, hi, hz, hsize, hby, hw0, asInt, asIntOf, hroom, Addr.add_lit, hst]
  · simp [Builtin.append_, run_underlying ht, run_underlying hk, sizeOf, typeInfo, zeroValue, hi, hz, hsize, hby, hwr, asInt, asIntOf, hm48, hm0, hroom, h0, hzz, Addr.add_lit, hst]
theorem run_append_zeros (base : Nat) (t tx ty e : TypeId) (i : TypeInfo) (ht : P.underlying t = some (.slice e)) (hk : P.underlying tx = some (.int .i64)) (hi : P.info? e = some i) (hz : i.zero = some (.int .u8 0)) (hsize : i.size = 1) (hby : i.bytes = 1)
    (A : Option Addr) (cap : Nat) (zs : List Int) (hown : OwnV w base e A cap zs) (m : Nat) (hbd : zs.length + m ≤ 140737488355328) (hbase : base ≤ w.heap.size) :
    ∃ A' cap' w', (Builtin.append_ #[t, tx] ty #[.slice A zs.length cap, .int .i64 m]).run P w = .ok (.slice A' (zs.length + m) cap') w' ∧ OwnV w' base e A' cap' (zs ++ zeros m) ∧ w.grownBy w' (rowOf A) ∧ (rowOf A' = rowOf A ∨ rowOf A' = some w.heap.size) := by
  have hnl : (u8s (zeros m)).length = m := by simp [u8s, zeros]
  have hll : (zs ++ zeros m).length = zs.length + m := by simp [zeros]
  have hlen : (u8s (zs ++ zeros m)).length = (zs.length + m) * 1 := by simp [u8s, zeros]
  have hoz : (u8s zs).length = zs.length := by simp [u8s]
  have grown : ∀ (old : Nat), old < zs.length + m → ∀ (row : Option Nat),
      OwnV (w.drew.alloc (.cells ((u8s zs ++ u8s (zeros m)).toArray ++ Builtin.zeroCells (Value.int .u8 0).cells (grownCap w (zs.length + m) old e - (zs.length + m))) e)) base e (some ⟨w.heap.size, 0, none⟩) (grownCap w (zs.length + m) old e) (zs ++ zeros m) ∧
      w.grownBy (w.drew.alloc (.cells ((u8s zs ++ u8s (zeros m)).toArray ++ Builtin.zeroCells (Value.int .u8 0).cells (grownCap w (zs.length + m) old e - (zs.length + m))) e)) row := by
    intro old ho row
    have hge := grownCap_ge w (zs.length + m) old e
    have hcm : grownCap w (zs.length + m) old e ≤ maxLen := grownCap_le_maxLen w (zs.length + m) old e (by unfold maxLen; omega)
    refine ⟨?_, ⟨rfl, rfl, rfl, by simp, fun k hk _ => Below.heap_alloc w.drew _ k hk⟩⟩
    unfold OwnV
    rw [hll]
    refine ⟨hlen, .inr ⟨w.heap.size, _, _, rfl, hbase, heap_alloc_new w.drew _, hge, hcm, ?_, ?_⟩⟩
    · simp only [Array.size_append, List.size_toArray, size_zeroCells, List.length_append, hoz, hnl, Value.cells]
      simp
      omega
    · rw [u8s_append]
      simp only [Array.toList_append]
      rw [← hlen, u8s_append]
      exact List.take_left
  have hown0 := hown
  unfold OwnV at hown
  rcases hown.2 with ⟨hv, hn⟩ | ⟨g, cap0, cur, hv, hbg, hg, hnc, hcm, hcs, htake⟩
  · injection hv with h1 h2 h3
    subst h1 h3
    have hzs : zs = [] := List.eq_nil_of_length_eq_zero hn
    subst hzs
    by_cases hm : m = 0
    · subst hm
      refine ⟨none, 0, w, ?_, by simpa [zeros] using hown0, ⟨rfl, rfl, rfl, Nat.le_refl _, fun _ _ _ => rfl⟩, .inl rfl⟩
      have hw0 : IntKind.i64.wrap 0 = 0 := IntWalk.i64_in 0 (by decide)
      simp [Builtin.append_, run_underlying ht, run_underlying hk, sizeOf, typeInfo, hi, hby, hw0, asInt, asIntOf]
    · have hr := run_append_zeros_grow (P := P) w t tx ty e i ht hk hi hz hsize hby none 0 0 [] (run_firstCells_none w.drew 1 0 0 0) m (by omega) (by simpa using hbd)
      have hgr := grown 0 (by simp; omega) (rowOf none)
      exact ⟨_, _, _, hr, hgr.1, hgr.2, .inr rfl⟩
  · injection hv with h1 h2 h3
    subst h1 h3
    by_cases hroom : zs.length + m ≤ cap
    · have hfit : zs.length * 1 + (u8s (zeros m)).length ≤ cur.size := by rw [hnl, hcs]; omega
      have hst := run_storeCells_at P g zs.length e (u8s (zeros m)) 0 cur w hg (by simpa using hfit) (u8s_one _)
      simp only [Nat.add_zero] at hst
      have hr := run_append_zeros_room (P := P) w t tx ty e i ht hk hi hz hsize hby g zs.length cap m _ hroom hbd hst
      refine ⟨_, _, _, hr, ?_, ⟨rfl, rfl, rfl, by simp, fun k _ hk => setRow_other w g k _ (fun e => hk (by simp [rowOf, e]))⟩, .inl rfl⟩
      unfold OwnV
      rw [hll]
      refine ⟨hlen, .inr ⟨g, cap, _, rfl, hbg, setRow_heap w g cur _ e _ hg, hroom, hcm, ?_, ?_⟩⟩
      · simp only [List.size_toArray, List.length_append, List.length_take, List.length_drop, Array.length_toList]
        omega
      · rw [Nat.mul_one] at htake
        rw [htake, ← hlen, u8s_append]
        exact List.take_left
    · have holds : ∀ j u, (u8s zs)[j]? = some u → w.cell? ((⟨g, 0, none⟩ : Addr).add j) = some u := hown.cells (g := g) rfl
      have hf := run_firstCells_some (P := P) w.drew 1 zs.length ⟨g, 0, none⟩ zs.length cap (u8s zs) hown.1 (by simpa using holds)
      have hr := run_append_zeros_grow (P := P) w t tx ty e i ht hk hi hz hsize hby (some ⟨g, 0, none⟩) zs.length cap (u8s zs) hf m (by omega) hbd
      have hgr := grown cap (by omega) (rowOf (some ⟨g, 0, none⟩))
      exact ⟨_, _, _, hr, hgr.1, hgr.2, .inr rfl⟩
theorem wpList_app_zeros {ops : Array Oper} {rest : List Oper} {o : Oper} {a : Act} {Q : Exit → Act → World → Prop} (hgd : o.guard = none) (s x : Operand) (t tx : TypeId)
    (ho : o.op = .call { callee := .builtin .append, args := #[s, x], argTypes := #[t, tx] })
    (base : Nat) (e : TypeId) (i : TypeInfo) (ht : P.underlying t = some (.slice e)) (hk : P.underlying tx = some (.int .i64)) (hi : P.info? e = some i) (hz : i.zero = some (.int .u8 0)) (hsize : i.size = 1) (hby : i.bytes = 1)
    (A : Option Addr) (cap : Nat) (zs : List Int) (n m : Nat) (hn : zs.length = n) (hs : a.eval s = .slice A n cap) (hown : OwnV w base e A cap zs) (hx : a.eval x = .int .i64 m) (hbd : n + m ≤ 140737488355328) (hbase : base ≤ w.heap.size)
    (h : ∀ A' cap' w', OwnV w' base e A' cap' (zs ++ zeros m) → w.grownBy w' (rowOf A) → (rowOf A' = rowOf A ∨ rowOf A' = some w.heap.size) → wpList P ops Q rest (a.put o.dst (.slice A' (n + m) cap')) w') : wpList P ops Q (o :: rest) a w := by
  subst hn
  obtain ⟨A', cap', w', hrun, h2, h3, h4⟩ := run_append_zeros (P := P) w base t tx o.type e i ht hk hi hz hsize hby A cap zs hown m hbd hbase
  refine wpList_plain hgd fun _ hK => ?_
  unfold Oper.wp execOp
  simp only [ho, resolve, invoke, builtin, Sem.run_bind, Sem.run_pure, Result.andThen_ok, List.map_toArray, List.map_cons, List.map_nil, hs, hx, hrun]
  exact hK _ _ (h A' cap' w' h2 h3 h4)
end
end Go.Proofs.YtiknhkkeifemcaaGreatDoor
namespace Go.Proofs.YtiknhkkeifemcaaGreatDoor
open Go.ChangeShapes Go.WideShapes Go.ChangeAt Go.RowKit

def IsMeter (w : World) (b : Nat) (left : Int) (out : Bool) : Prop :=
  w.cell? ⟨b, 0, none⟩ = some (.int .i64 left) ∧ w.cell? ⟨b, 1, none⟩ = some (.bool out) ∧ w.frozen? ⟨b, 0, none⟩ = false ∧ w.frozen? ⟨b, 1, none⟩ = false
def atLeast0 (n : Int) : Int := if 0 ≤ n then n else 0
theorem new_any (n : Int) (w : World) :
    Calls Tryz.prog 40 #[.int .i64 n] w fun e w' => e = .returned (.pointer (some ⟨w.heap.size, 0, none⟩)) ∧ w' = w.alloc (.cells #[.int .i64 (atLeast0 n), .bool false] 152) := by
  by_cases h : 0 ≤ n
  · rw [show atLeast0 n = n from if_pos h]
    go_enter Tryz.func40, Tryz.ntmps40
    go_wp2
    go_ret
    first | exact ⟨rfl, rfl⟩ | (rw [show max n 0 = n by omega]; exact ⟨rfl, rfl⟩) | (rw [show max n 0 = 0 by omega]; exact ⟨rfl, rfl⟩)
  · rw [show atLeast0 n = 0 from if_neg h]
    go_enter Tryz.func40, Tryz.ntmps40
    go_wp2
    go_ret
    first | exact ⟨rfl, rfl⟩ | (rw [show max n 0 = n by omega]; exact ⟨rfl, rfl⟩) | (rw [show max n 0 = 0 by omega]; exact ⟨rfl, rfl⟩)
theorem take_yes (b : Nat) (left n : Int) (w : World) (hm : IsMeter w b left false) (h0 : 0 ≤ n) (h1 : n ≤ left) (h2 : left ≤ 9223372036854775807) :
    Calls Tryz.prog 102 #[.pointer (some ⟨b, 0, none⟩), .int .i64 n] w fun e w' => e = .returned (.bool true) ∧ w' = w.setCell ⟨b, 0, none⟩ (.int .i64 (left - n)) := by
  obtain ⟨c0, c1, f0, f1⟩ := hm
  go_enter Tryz.func102, Tryz.ntmps102
  go_wp2
  go_ret
  exact ⟨rfl, rfl⟩
theorem take_over (b : Nat) (left n : Int) (w : World) (hm : IsMeter w b left false) (h0 : 0 ≤ n) (h1 : left < n) :
    Calls Tryz.prog 102 #[.pointer (some ⟨b, 0, none⟩), .int .i64 n] w fun e w' => e = .returned (.bool false) ∧ w' = (w.setCell ⟨b, 0, none⟩ (.int .i64 0)).setCell ⟨b, 1, none⟩ (.bool true) := by
  obtain ⟨c0, c1, f0, f1⟩ := hm
  go_enter Tryz.func102, Tryz.ntmps102
  go_wp2
  go_ret
  exact ⟨rfl, rfl⟩
end Go.Proofs.YtiknhkkeifemcaaGreatDoor
namespace Go.Proofs.YtiknhkkeifemcaaGreatDoor
open Go.ChangeShapes Go.WideShapes Go.ChangeAt Go.RowKit

theorem out_any (b : Nat) (left : Int) (out : Bool) (w : World) (hm : IsMeter w b left out) :
    Calls Tryz.prog 51 #[.pointer (some ⟨b, 0, none⟩)] w fun e w' => e = .returned (.bool out) ∧ w = w' := by
  obtain ⟨c0, c1, f0, f1⟩ := hm
  go_enter Tryz.func51, Tryz.ntmps51
  go_wp2
  go_ret
  exact ⟨rfl, rfl⟩
end Go.Proofs.YtiknhkkeifemcaaGreatDoor
