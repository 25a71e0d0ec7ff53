/-
  The reader of the package idl: how a schema as it is written lies in memory while it is read. Conditions: those that each theorem names.
-/
import Derived.Test.YtgbcchiheddfpaaGreatDoorPkL26
import Derived.Test.YtgbcchiheddfpaaGreatDoorPkL27
import Derived.Deep.RegionLaw
import Derived.Deep.AppendLies
namespace Go.Proofs.YtgbcchiheddfpaaGreatDoor
open Go.ChangeShapes Go.WideShapes Go.ChangeAt Go.RowKit Go.Shelf

def recCells (p : RRec × Value) : List Value := [.string (strOfNums p.1.name), .int .i64 p.1.place, p.2]
def choCells (p : RCho × Value) : List Value := [.string (strOfNums p.1.name), .int .i64 p.1.place, p.2]
def recsCells (l : List (RRec × Value)) : List Value := l.flatMap recCells
def chosCells (l : List (RCho × Value)) : List Value := l.flatMap choCells
theorem recsCells_snoc (l : List (RRec × Value)) (p : RRec × Value) : recsCells (l ++ [p]) = recsCells l ++ recCells p := by simp [recsCells]
theorem chosCells_snoc (l : List (RCho × Value)) (p : RCho × Value) : chosCells (l ++ [p]) = chosCells l ++ choCells p := by simp [chosCells]
theorem rec_info : (Tryz.prog.info? 298).map (fun i => (i.zero, i.size, i.bytes)) = some (some (.agg #[.string ⟨#[]⟩, .int .i64 0, .slice none 0 0]), 3, 48) := by kernel_rfl
theorem cho_info : (Tryz.prog.info? 291).map (fun i => (i.zero, i.size, i.bytes)) = some (some (.agg #[.string ⟨#[]⟩, .int .i64 0, .slice none 0 0]), 3, 48) := by kernel_rfl
theorem rows_ne {w : World} {b b' : Nat} {e e' : TypeId} {s s' : Nat} {v v' : Value} {n n' : Nat} {xs xs' : List Value} (h : w.ownsRow b e s v n xs) (h' : w.ownsRow b' e' s' v' n' xs') (hne : e ≠ e') : ∀ k, v.ownBlock = some k → v'.ownBlock ≠ some k := by
  intro k hk hk'
  rcases h.2 with ⟨rfl, _⟩ | ⟨g, cap, cur, rfl, _, hg, _⟩
  · simp [Value.ownBlock] at hk
  rcases h'.2 with ⟨rfl, _⟩ | ⟨g', cap', cur', rfl, _, hg', _⟩
  · simp [Value.ownBlock] at hk'
  simp [Value.ownBlock] at hk hk'
  subst hk
  subst hk'
  rw [hg] at hg'
  injection hg' with hg'
  injection hg' with _ ht
  exact hne ht
theorem row_other {w w' : World} {row : Option Nat} (hg : w.grownBy w' row) {b : Nat} {e : TypeId} {s : Nat} {v : Value} {n : Nat} {xs : List Value} (h : w.ownsRow b e s v n xs) (hne : ∀ k, v.ownBlock = some k → row ≠ some k) : w'.ownsRow b e s v n xs := by
  obtain ⟨hl, h'⟩ := h
  refine ⟨hl, ?_⟩
  rcases h' with h1 | ⟨g', cap', cur, hv, h1, hg', h2⟩
  · exact .inl h1
  · have hlt := blk_lt hg'
    subst hv
    exact .inr ⟨g', cap', cur, rfl, h1, (hg.block g' hlt (fun e => hne g' (by simp [Value.ownBlock]) e.symm)).trans hg', h2⟩
structure RawAt (A : Nat) (W : World) (ss : List (RRec × Value)) (es : List (RCho × Value)) (ts : List Tok) (sv ev rv : Value) : Prop where
  blk : W.heap[A]? = some (.cells #[sv, ev, rv] 188 (0, 0))
  structs : W.ownsRow (A + 1) 298 3 sv ss.length (recsCells ss)
  enums : W.ownsRow (A + 1) 291 3 ev es.length (chosCells es)
  roots : W.ownsRow (A + 1) 282 3 rv ts.length (toksCells ts)
  apart : ∀ p ∈ es, ∀ k, p.2.ownBlock = some k → rv.ownBlock ≠ some k
  fields : ∀ p ∈ ss, W.ownsRow (A + 1) 303 8 p.2 p.1.fields.length (fieldsCells p.1.fields)
  names : ∀ p ∈ es, W.ownsRow (A + 1) 282 3 p.2 p.1.names.length (toksCells p.1.names)
theorem RawAt.stay {A R : Nat} {W W' : World} {ss : List (RRec × Value)} {es : List (RCho × Value)} {ts : List Tok} {sv ev rv : Value} (h : RawAt A W ss es ts sv ev rv) (hR : R < A) (hx : Exc R W.heap.size W W') : RawAt A W' ss es ts sv ev rv :=
  ⟨blk_exc h.blk hx (blk_lt h.blk) (by omega), exc_row h.structs hR hx, exc_row h.enums hR hx, exc_row h.roots hR hx, h.apart, fun p hp => exc_row (h.fields p hp) hR hx, fun p hp => exc_row (h.names p hp) hR hx⟩
theorem RawAt.fell {A : Nat} {W W' : World} {ss : List (RRec × Value)} {es : List (RCho × Value)} {ts : List Tok} {sv ev rv : Value} (h : RawAt A W ss es ts sv ev rv) (hb : Below W.heap.size W W') : RawAt A W' ss es ts sv ev rv := by
  refine ⟨blk_below h.blk hb (blk_lt h.blk), ?_, ?_, ?_, h.apart, fun p hp => ?_, fun p hp => ?_⟩
  · exact (Exc.of_below (R := 0) hb).ownsRow h.structs (fun e => by have := (ownsRow_lt h.structs 0 e).1; omega)
  · exact (Exc.of_below (R := 0) hb).ownsRow h.enums (fun e => by have := (ownsRow_lt h.enums 0 e).1; omega)
  · exact (Exc.of_below (R := 0) hb).ownsRow h.roots (fun e => by have := (ownsRow_lt h.roots 0 e).1; omega)
  · exact (Exc.of_below (R := 0) hb).ownsRow (h.fields p hp) (fun e => by have := (ownsRow_lt (h.fields p hp) 0 e).1; omega)
  · exact (Exc.of_below (R := 0) hb).ownsRow (h.names p hp) (fun e => by have := (ownsRow_lt (h.names p hp) 0 e).1; omega)
theorem mem_snoc {α : Type} {l : List α} {a p : α} (h : p ∈ l ++ [a]) : p ∈ l ∨ p = a := by
  rcases List.mem_append.1 h with h | h
  · exact .inl h
  · exact .inr (List.mem_singleton.1 h)
theorem RawAt.struct {A : Nat} {W W4 : World} {ss : List (RRec × Value)} {es : List (RCho × Value)} {ts : List Tok} {sv ev rv : Value} (h : RawAt A W ss es ts sv ev rv) {p : RRec × Value} (hp : W.ownsRow (A + 1) 303 8 p.2 p.1.fields.length (fieldsCells p.1.fields))
    (hg : W.grownBy W4 sv.ownBlock) {sv' : Value} (hown : W4.ownsRow (A + 1) 298 3 sv' (ss.length + 1) (recsCells ss ++ recCells p)) : RawAt A (W4.setCell ⟨A, 0, none⟩ sv') (ss ++ [p]) es ts sv' ev rv := by
  have hA : ∀ k, sv.ownBlock = some k → A ≠ k := fun k hk => by have := (ownsRow_lt h.structs k hk).1; omega
  have hb4 : W4.heap[A]? = some (.cells #[sv, ev, rv] 188 (0, 0)) := (hg.block A (blk_lt h.blk) (fun e => hA A e.symm rfl)).trans h.blk
  refine ⟨(blk_set hb4 0 sv').trans rfl, ?_, ?_, ?_, h.apart, fun q hq => ?_, fun q hq => ?_⟩
  · rw [recsCells_snoc, List.length_append]
    exact ownsRow_setCell_below hown (Nat.lt_succ_self A) _
  · exact ownsRow_setCell_below (row_other hg h.enums (rows_ne h.enums h.structs (by decide))) (Nat.lt_succ_self A) _
  · exact ownsRow_setCell_below (row_other hg h.roots (rows_ne h.roots h.structs (by decide))) (Nat.lt_succ_self A) _
  · rcases mem_snoc hq with hq | rfl
    · exact ownsRow_setCell_below (row_other hg (h.fields q hq) (rows_ne (h.fields q hq) h.structs (by decide))) (Nat.lt_succ_self A) _
    · exact ownsRow_setCell_below (row_other hg hp (rows_ne hp h.structs (by decide))) (Nat.lt_succ_self A) _
  · exact ownsRow_setCell_below (row_other hg (h.names q hq) (rows_ne (h.names q hq) h.structs (by decide))) (Nat.lt_succ_self A) _
theorem RawAt.enum {A : Nat} {W W4 : World} {ss : List (RRec × Value)} {es : List (RCho × Value)} {ts : List Tok} {sv ev rv : Value} (h : RawAt A W ss es ts sv ev rv) {p : RCho × Value} (hp : W.ownsRow (A + 1) 282 3 p.2 p.1.names.length (toksCells p.1.names))
    (hap : ∀ k, p.2.ownBlock = some k → rv.ownBlock ≠ some k) (hg : W.grownBy W4 ev.ownBlock) {ev' : Value} (hown : W4.ownsRow (A + 1) 291 3 ev' (es.length + 1) (chosCells es ++ choCells p)) : RawAt A (W4.setCell ⟨A, 1, none⟩ ev') ss (es ++ [p]) ts sv ev' rv := by
  have hA : ∀ k, ev.ownBlock = some k → A ≠ k := fun k hk => by have := (ownsRow_lt h.enums k hk).1; omega
  have hb4 : W4.heap[A]? = some (.cells #[sv, ev, rv] 188 (0, 0)) := (hg.block A (blk_lt h.blk) (fun e => hA A e.symm rfl)).trans h.blk
  refine ⟨(blk_set hb4 1 ev').trans rfl, ?_, ?_, ?_, fun q hq => ?_, fun q hq => ?_, fun q hq => ?_⟩
  · exact ownsRow_setCell_below (row_other hg h.structs (rows_ne h.structs h.enums (by decide))) (Nat.lt_succ_self A) _
  · rw [chosCells_snoc, List.length_append]
    exact ownsRow_setCell_below hown (Nat.lt_succ_self A) _
  · exact ownsRow_setCell_below (row_other hg h.roots (rows_ne h.roots h.enums (by decide))) (Nat.lt_succ_self A) _
  · rcases mem_snoc hq with hq | rfl
    · exact h.apart q hq
    · exact hap
  · exact ownsRow_setCell_below (row_other hg (h.fields q hq) (rows_ne (h.fields q hq) h.enums (by decide))) (Nat.lt_succ_self A) _
  · rcases mem_snoc hq with hq | rfl
    · exact ownsRow_setCell_below (row_other hg (h.names q hq) (rows_ne (h.names q hq) h.enums (by decide))) (Nat.lt_succ_self A) _
    · exact ownsRow_setCell_below (row_other hg hp (rows_ne hp h.enums (by decide))) (Nat.lt_succ_self A) _
theorem RawAt.root {A : Nat} {W W4 : World} {ss : List (RRec × Value)} {es : List (RCho × Value)} {ts : List Tok} {sv ev rv : Value} (h : RawAt A W ss es ts sv ev rv) {t : Tok}
    (hg : W.grownBy W4 rv.ownBlock) {rv' : Value} (hown : W4.ownsRow (A + 1) 282 3 rv' (ts.length + 1) (toksCells ts ++ tokCells t)) (hat : rv'.ownBlock = rv.ownBlock ∨ ∃ k, rv'.ownBlock = some k ∧ W.heap.size ≤ k) : RawAt A (W4.setCell ⟨A, 2, none⟩ rv') ss es (ts ++ [t]) sv ev rv' := by
  have hA : ∀ k, rv.ownBlock = some k → A ≠ k := fun k hk => by have := (ownsRow_lt h.roots k hk).1; omega
  have hb4 : W4.heap[A]? = some (.cells #[sv, ev, rv] 188 (0, 0)) := (hg.block A (blk_lt h.blk) (fun e => hA A e.symm rfl)).trans h.blk
  refine ⟨(blk_set hb4 2 rv').trans rfl, ?_, ?_, ?_, fun q hq k hk => ?_, fun q hq => ?_, fun q hq => ?_⟩
  · exact ownsRow_setCell_below (row_other hg h.structs (rows_ne h.structs h.roots (by decide))) (Nat.lt_succ_self A) _
  · exact ownsRow_setCell_below (row_other hg h.enums (rows_ne h.enums h.roots (by decide))) (Nat.lt_succ_self A) _
  · rw [toksCells_snoc, List.length_append]
    exact ownsRow_setCell_below hown (Nat.lt_succ_self A) _
  · rcases hat with e | ⟨k', e, hk'⟩
    · rw [e]
      exact h.apart q hq k hk
    · rw [e]
      have := (ownsRow_lt (h.names q hq) k hk).2
      intro e'
      injection e' with e'
      omega
  · exact ownsRow_setCell_below (row_other hg (h.fields q hq) (rows_ne (h.fields q hq) h.roots (by decide))) (Nat.lt_succ_self A) _
  · exact ownsRow_setCell_below (row_other hg (h.names q hq) (h.apart q hq)) (Nat.lt_succ_self A) _
end Go.Proofs.YtgbcchiheddfpaaGreatDoor
