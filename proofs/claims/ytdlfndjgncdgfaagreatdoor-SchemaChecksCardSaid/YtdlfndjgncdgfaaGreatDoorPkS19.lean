/-
  The reader of the package idl: a struct or an enum, put to those before it. Conditions: those that each theorem names.
-/
import Derived.Test.YtdlfndjgncdgfaaGreatDoorPkS17
import Derived.Test.YtdlfndjgncdgfaaGreatDoorPkS18
import Derived.Deep.RegionLaw
import Derived.Deep.AppendLies
namespace Go.Proofs.YtdlfndjgncdgfaaGreatDoor
open Go.ChangeShapes Go.WideShapes Go.ChangeAt Go.RowKit Go.Shelf

def recCells (p : RRec × Value) : List Value := [.string (strOfNums p.1.name), .int .i64 p.1.place, p.2]
def choCells (p : RCho × Value) : List Value := [.string (strOfNums p.1.name), .int .i64 p.1.place, p.2]
def recsCells (l : List (RRec × Value)) : List Value := l.flatMap recCells
def chosCells (l : List (RCho × Value)) : List Value := l.flatMap choCells
theorem recsCells_snoc (l : List (RRec × Value)) (p : RRec × Value) : recsCells (l ++ [p]) = recsCells l ++ recCells p := by simp [recsCells]
theorem chosCells_snoc (l : List (RCho × Value)) (p : RCho × Value) : chosCells (l ++ [p]) = chosCells l ++ choCells p := by simp [chosCells]
theorem rec_info : (Tryz.prog.info? 113).map (fun i => (i.zero, i.size, i.bytes)) = some (some (.agg #[.string ⟨#[]⟩, .int .i64 0, .slice none 0 0]), 3, 48) := by kernel_rfl
theorem cho_info : (Tryz.prog.info? 116).map (fun i => (i.zero, i.size, i.bytes)) = some (some (.agg #[.string ⟨#[]⟩, .int .i64 0, .slice none 0 0]), 3, 48) := by kernel_rfl
theorem rows_ne {w : World} {b b' : Nat} {e e' : TypeId} {s s' : Nat} {v v' : Value} {n n' : Nat} {xs xs' : List Value} (h : w.ownsRow b e s v n xs) (h' : w.ownsRow b' e' s' v' n' xs') (hne : e ≠ e') : ∀ k, v.ownBlock = some k → v'.ownBlock ≠ some k := by
  intro k hk hk'
  rcases h.2 with ⟨rfl, _⟩ | ⟨g, cap, cur, rfl, _, hg, _⟩
  · simp [Value.ownBlock] at hk
  rcases h'.2 with ⟨rfl, _⟩ | ⟨g', cap', cur', rfl, _, hg', _⟩
  · simp [Value.ownBlock] at hk'
  simp [Value.ownBlock] at hk hk'
  subst hk
  subst hk'
  rw [hg] at hg'
  injection hg' with hg'
  injection hg' with _ ht
  exact hne ht
theorem row_other {w w' : World} {row : Option Nat} (hg : w.grownBy w' row) {b : Nat} {e : TypeId} {s : Nat} {v : Value} {n : Nat} {xs : List Value} (h : w.ownsRow b e s v n xs) (hne : ∀ k, v.ownBlock = some k → row ≠ some k) : w'.ownsRow b e s v n xs := by
  obtain ⟨hl, h'⟩ := h
  refine ⟨hl, ?_⟩
  rcases h' with h1 | ⟨g', cap', cur, hv, h1, hg', h2⟩
  · exact .inl h1
  · have hlt := blk_lt hg'
    subst hv
    exact .inr ⟨g', cap', cur, rfl, h1, (hg.block g' hlt (fun e => hne g' (by simp [Value.ownBlock]) e.symm)).trans hg', h2⟩
structure RawAt (A : Nat) (W : World) (ss : List (RRec × Value)) (es : List (RCho × Value)) (ts : List Tok) (sv ev rv : Value) : Prop where
  blk : W.heap[A]? = some (.cells #[sv, ev, rv] 71 (0, 0))
  structs : W.ownsRow (A + 1) 113 3 sv ss.length (recsCells ss)
  enums : W.ownsRow (A + 1) 116 3 ev es.length (chosCells es)
  roots : W.ownsRow (A + 1) 108 3 rv ts.length (toksCells ts)
  apart : ∀ p ∈ es, ∀ k, p.2.ownBlock = some k → rv.ownBlock ≠ some k
  fields : ∀ p ∈ ss, W.ownsRow (A + 1) 124 8 p.2 p.1.fields.length (fieldsCells p.1.fields)
  names : ∀ p ∈ es, W.ownsRow (A + 1) 108 3 p.2 p.1.names.length (toksCells p.1.names)
theorem RawAt.stay {A R : Nat} {W W' : World} {ss : List (RRec × Value)} {es : List (RCho × Value)} {ts : List Tok} {sv ev rv : Value} (h : RawAt A W ss es ts sv ev rv) (hR : R < A) (hx : Exc R W.heap.size W W') : RawAt A W' ss es ts sv ev rv :=
  ⟨blk_exc h.blk hx (blk_lt h.blk) (by omega), exc_row h.structs hR hx, exc_row h.enums hR hx, exc_row h.roots hR hx, h.apart, fun p hp => exc_row (h.fields p hp) hR hx, fun p hp => exc_row (h.names p hp) hR hx⟩
theorem RawAt.fell {A : Nat} {W W' : World} {ss : List (RRec × Value)} {es : List (RCho × Value)} {ts : List Tok} {sv ev rv : Value} (h : RawAt A W ss es ts sv ev rv) (hb : Below W.heap.size W W') : RawAt A W' ss es ts sv ev rv := by
  refine ⟨blk_below h.blk hb (blk_lt h.blk), ?_, ?_, ?_, h.apart, fun p hp => ?_, fun p hp => ?_⟩
  · exact (Exc.of_below (R := 0) hb).ownsRow h.structs (fun e => by have := (ownsRow_lt h.structs 0 e).1; omega)
  · exact (Exc.of_below (R := 0) hb).ownsRow h.enums (fun e => by have := (ownsRow_lt h.enums 0 e).1; omega)
  · exact (Exc.of_below (R := 0) hb).ownsRow h.roots (fun e => by have := (ownsRow_lt h.roots 0 e).1; omega)
  · exact (Exc.of_below (R := 0) hb).ownsRow (h.fields p hp) (fun e => by have := (ownsRow_lt (h.fields p hp) 0 e).1; omega)
  · exact (Exc.of_below (R := 0) hb).ownsRow (h.names p hp) (fun e => by have := (ownsRow_lt (h.names p hp) 0 e).1; omega)
theorem mem_snoc {α : Type} {l : List α} {a p : α} (h : p ∈ l ++ [a]) : p ∈ l ∨ p = a := by
  rcases List.mem_append.1 h with h | h
  · exact .inl h
  · exact .inr (List.mem_singleton.1 h)
theorem RawAt.struct {A : Nat} {W W4 : World} {ss : List (RRec × Value)} {es : List (RCho × Value)} {ts : List Tok} {sv ev rv : Value} (h : RawAt A W ss es ts sv ev rv) {p : RRec × Value} (hp : W.ownsRow (A + 1) 124 8 p.2 p.1.fields.length (fieldsCells p.1.fields))
    (hg : W.grownBy W4 sv.ownBlock) {sv' : Value} (hown : W4.ownsRow (A + 1) 113 3 sv' (ss.length + 1) (recsCells ss ++ recCells p)) : RawAt A (W4.setCell ⟨A, 0, none⟩ sv') (ss ++ [p]) es ts sv' ev rv := by
  have hA : ∀ k, sv.ownBlock = some k → A ≠ k := fun k hk => by have := (ownsRow_lt h.structs k hk).1; omega
  have hb4 : W4.heap[A]? = some (.cells #[sv, ev, rv] 71 (0, 0)) := (hg.block A (blk_lt h.blk) (fun e => hA A e.symm rfl)).trans h.blk
  refine ⟨(blk_set hb4 0 sv').trans rfl, ?_, ?_, ?_, h.apart, fun q hq => ?_, fun q hq => ?_⟩
  · rw [recsCells_snoc, List.length_append]
    exact ownsRow_setCell_below hown (Nat.lt_succ_self A) _
  · exact ownsRow_setCell_below (row_other hg h.enums (rows_ne h.enums h.structs (by decide))) (Nat.lt_succ_self A) _
  · exact ownsRow_setCell_below (row_other hg h.roots (rows_ne h.roots h.structs (by decide))) (Nat.lt_succ_self A) _
  · rcases mem_snoc hq with hq | rfl
    · exact ownsRow_setCell_below (row_other hg (h.fields q hq) (rows_ne (h.fields q hq) h.structs (by decide))) (Nat.lt_succ_self A) _
    · exact ownsRow_setCell_below (row_other hg hp (rows_ne hp h.structs (by decide))) (Nat.lt_succ_self A) _
  · exact ownsRow_setCell_below (row_other hg (h.names q hq) (rows_ne (h.names q hq) h.structs (by decide))) (Nat.lt_succ_self A) _
theorem RawAt.enum {A : Nat} {W W4 : World} {ss : List (RRec × Value)} {es : List (RCho × Value)} {ts : List Tok} {sv ev rv : Value} (h : RawAt A W ss es ts sv ev rv) {p : RCho × Value} (hp : W.ownsRow (A + 1) 108 3 p.2 p.1.names.length (toksCells p.1.names))
    (hap : ∀ k, p.2.ownBlock = some k → rv.ownBlock ≠ some k) (hg : W.grownBy W4 ev.ownBlock) {ev' : Value} (hown : W4.ownsRow (A + 1) 116 3 ev' (es.length + 1) (chosCells es ++ choCells p)) : RawAt A (W4.setCell ⟨A, 1, none⟩ ev') ss (es ++ [p]) ts sv ev' rv := by
  have hA : ∀ k, ev.ownBlock = some k → A ≠ k := fun k hk => by have := (ownsRow_lt h.enums k hk).1; omega
  have hb4 : W4.heap[A]? = some (.cells #[sv, ev, rv] 71 (0, 0)) := (hg.block A (blk_lt h.blk) (fun e => hA A e.symm rfl)).trans h.blk
  refine ⟨(blk_set hb4 1 ev').trans rfl, ?_, ?_, ?_, fun q hq => ?_, fun q hq => ?_, fun q hq => ?_⟩
  · exact ownsRow_setCell_below (row_other hg h.structs (rows_ne h.structs h.enums (by decide))) (Nat.lt_succ_self A) _
  · rw [chosCells_snoc, List.length_append]
    exact ownsRow_setCell_below hown (Nat.lt_succ_self A) _
  · exact ownsRow_setCell_below (row_other hg h.roots (rows_ne h.roots h.enums (by decide))) (Nat.lt_succ_self A) _
  · rcases mem_snoc hq with hq | rfl
    · exact h.apart q hq
    · exact hap
  · exact ownsRow_setCell_below (row_other hg (h.fields q hq) (rows_ne (h.fields q hq) h.enums (by decide))) (Nat.lt_succ_self A) _
  · rcases mem_snoc hq with hq | rfl
    · exact ownsRow_setCell_below (row_other hg (h.names q hq) (rows_ne (h.names q hq) h.enums (by decide))) (Nat.lt_succ_self A) _
    · exact ownsRow_setCell_below (row_other hg hp (rows_ne hp h.enums (by decide))) (Nat.lt_succ_self A) _
theorem RawAt.root {A : Nat} {W W4 : World} {ss : List (RRec × Value)} {es : List (RCho × Value)} {ts : List Tok} {sv ev rv : Value} (h : RawAt A W ss es ts sv ev rv) {t : Tok}
    (hg : W.grownBy W4 rv.ownBlock) {rv' : Value} (hown : W4.ownsRow (A + 1) 108 3 rv' (ts.length + 1) (toksCells ts ++ tokCells t)) (hat : rv'.ownBlock = rv.ownBlock ∨ ∃ k, rv'.ownBlock = some k ∧ W.heap.size ≤ k) : RawAt A (W4.setCell ⟨A, 2, none⟩ rv') ss es (ts ++ [t]) sv ev rv' := by
  have hA : ∀ k, rv.ownBlock = some k → A ≠ k := fun k hk => by have := (ownsRow_lt h.roots k hk).1; omega
  have hb4 : W4.heap[A]? = some (.cells #[sv, ev, rv] 71 (0, 0)) := (hg.block A (blk_lt h.blk) (fun e => hA A e.symm rfl)).trans h.blk
  refine ⟨(blk_set hb4 2 rv').trans rfl, ?_, ?_, ?_, fun q hq k hk => ?_, fun q hq => ?_, fun q hq => ?_⟩
  · exact ownsRow_setCell_below (row_other hg h.structs (rows_ne h.structs h.roots (by decide))) (Nat.lt_succ_self A) _
  · exact ownsRow_setCell_below (row_other hg h.enums (rows_ne h.enums h.roots (by decide))) (Nat.lt_succ_self A) _
  · rw [toksCells_snoc, List.length_append]
    exact ownsRow_setCell_below hown (Nat.lt_succ_self A) _
  · rcases hat with e | ⟨k', e, hk'⟩
    · rw [e]
      exact h.apart q hq k hk
    · rw [e]
      have := (ownsRow_lt (h.names q hq) k hk).2
      intro e'
      injection e' with e'
      omega
  · exact ownsRow_setCell_below (row_other hg (h.fields q hq) (rows_ne (h.fields q hq) h.roots (by decide))) (Nat.lt_succ_self A) _
  · exact ownsRow_setCell_below (row_other hg (h.names q hq) (h.apart q hq)) (Nat.lt_succ_self A) _
end Go.Proofs.YtdlfndjgncdgfaaGreatDoor
namespace Go.Proofs.YtdlfndjgncdgfaaGreatDoor
open Go.ChangeShapes Go.WideShapes Go.ChangeAt Go.RowKit Go.Shelf

def rawOf (ss : List (RRec × Value)) (es : List (RCho × Value)) (ts : List Tok) : RRaw := ⟨ss.map Prod.fst, es.map Prod.fst, ts⟩
def PartPost (R g c : Nat) (l : List Tok) (A : Nat) (w : World) (x : Res RRaw) (e : Ending) (w' : World) : Prop :=
  match x with
  | .ok a r' => e = .returned (.bool true) ∧ (∃ ss es ts sv ev rv, a = rawOf ss es ts ∧ RawAt A w' ss es ts sv ev rv ∧ ss.length + es.length + ts.length + r'.length ≤ l.length) ∧ Rd w' R g c l r' (0, 0) ∧ Exc R A w w'
  | .no cc p => e = .returned (.bool false) ∧ (∃ r', Rd w' R g c l r' (cc, p)) ∧ Exc R A w w'
theorem rec_new (W : World) (x y z : Value) (e : TypeId) (hx : x.oneCell' = true) (hy : y.oneCell' = true) (hz : z.oneCell' = true) :
    (∀ j u, [x, y, z][j]? = some u → (W.alloc (.cells #[x, y, z] e)).cell? ((⟨W.heap.size, 0, none⟩ : Addr).add j) = some u) ∧ ∀ u ∈ [x, y, z], u.oneCell' = true := by
  refine ⟨fun j u hu => ?_, fun u hu => ?_⟩
  · rw [add_plain, Nat.zero_add, cell_of_row _ _ _ _ _ (0, 0) (heap_alloc_new W _)]
    simpa using hu
  · simp at hu
    rcases hu with rfl | rfl | rfl <;> assumption
theorem apart_new {rv : Value} {n k : Nat} (hap : rv.ownBlock = none ∨ ∃ k, rv.ownBlock = some k ∧ k < n) (h : n ≤ k) : rv.ownBlock ≠ some k := by
  rcases hap with h' | ⟨k', h', hk'⟩
  · rw [h']
    intro e
    cases e
  · rw [h']
    intro e
    injection e with e
    omega
theorem part_deep {R g c A : Nat} {l r : List Tok} {F : Int × Nat} {w W Wp W4 : World} {row : Option Nat} (hr : Rd W R g c l r F) (hx : Exc R A w W) (hb : Below W.heap.size W Wp) (hg4 : Wp.grownBy W4 row) (hrow : ∀ k, row = some k → A ≤ k) (hR : R < A) (hg : g < A) (hA : A ≤ W.heap.size) (i : Nat) (v : Value) :
    Rd (W4.setCell ⟨A, i, none⟩ v) R g c l r F ∧ Exc R A w (W4.setCell ⟨A, i, none⟩ v) := by
  have h : Below A W (W4.setCell ⟨A, i, none⟩ v) := ((hb.mono hA).grown hg4 (Nat.le_trans hA hb.size) hrow).setCell (p := ⟨A, i, none⟩) (Nat.le_refl _) v
  exact ⟨hr.deep h hR hg, hx.trans (.of_below h)⟩
def structSays (w : World) (x : Res RRec) (S : ByteArray) (n : Int) (v : Value) (ok : Bool) (r2 : List Tok) (F : Int × Nat) (W : World) : Prop :=
  match x with
  | .ok s r' => ok = true ∧ S = strOfNums s.name ∧ n = s.place ∧ W.ownsRow w.heap.size 124 8 v s.fields.length (fieldsCells s.fields) ∧ r2 = r' ∧ F = (0, 0)
  | .no cc p => ok = false ∧ F = (cc, p)
theorem struct_form {R g c : Nat} {l : List Tok} {w W : World} {x : Res RRec} {e : Ending} (h : RecPost R g c l w x e W) :
    ∃ (S : ByteArray) (n : Int) (a : Option Addr) (m c' : Nat) (ok : Bool) (r2 : List Tok) (F : Int × Nat), e = .returned (.tuple #[.agg #[.string S, .int .i64 n, .slice a m c'], .bool ok]) ∧ Rd W R g c l r2 F ∧ Exc R w.heap.size w W ∧ structSays w x S n (.slice a m c') ok r2 F W := by
  cases x with
  | ok s r' =>
    obtain ⟨v, rfl, ho, hr, hx⟩ := h
    obtain ⟨a, c', rfl⟩ := ownsRow_form ho
    exact ⟨_, _, _, _, _, _, _, _, rfl, hr, hx, rfl, rfl, rfl, ho, rfl, rfl⟩
  | no cc p =>
    obtain ⟨S, n, a, m, c', r', rfl, hr, hx⟩ := h
    exact ⟨_, _, _, _, _, _, _, _, rfl, hr, hx, rfl, rfl⟩
theorem struct_end {R g c A : Nat} {l r r2 : List Tok} {F : Int × Nat} {w W W3 Wp W4 w1 : World} {ss : List (RRec × Value)} {es : List (RCho × Value)} {ts : List Tok} {sv ev rv v v4 : Value} {S : ByteArray} {n : Int} {ok : Bool} {row : Option Nat}
    {x : Res RRec} {y : Res RRaw} (hy : y = x.bind fun s r' => .ok ⟨(ss.map Prod.fst) ++ [s], es.map Prod.fst, ts⟩ r') (hs : structSays w1 x S n v ok r2 F W) (ha : RawAt A W3 ss es ts sv ev rv) (_hap : rv.ownBlock = none ∨ ∃ k, rv.ownBlock = some k ∧ k < w1.heap.size) (hr : Rd W3 R g c l r2 F) (hx : Exc R A w W3) (hW : Below W.heap.size W W3) (hw1 : A + 1 ≤ w1.heap.size)
    (hb : Below W3.heap.size W3 Wp) (hg4 : Wp.grownBy W4 row) (hrow : row = sv.ownBlock) (ho4 : W4.ownsRow (A + 1) 113 3 v4 (ss.length + 1) (recsCells ss ++ [.string S, .int .i64 n, v])) (hR : R < A) (hg : g < A)
    (hE : Eats r x) (hc : ss.length + es.length + ts.length + (r.length + 1) ≤ l.length) : PartPost R g c l A w y (.returned (.bool ok)) (W4.setCell ⟨A, 0, none⟩ v4) := by
  have hA3 := blk_lt ha.blk
  subst hrow
  obtain ⟨hr4, hx4⟩ := part_deep hr hx hb hg4 (fun k hk => by have := (ownsRow_lt ha.structs k hk).1; omega) hR hg (Nat.le_of_lt hA3) 0 v4
  subst hy
  cases x with
  | ok s r' =>
    obtain ⟨rfl, rfl, rfl, ho, rfl, rfl⟩ := hs
    have ho3 : Wp.ownsRow (A + 1) 124 8 v s.fields.length (fieldsCells s.fields) := ownsRow_base ((Exc.of_below (R := 0) hb).ownsRow ((Exc.of_below (R := 0) hW).ownsRow ho (fun e => by have := (ownsRow_lt ho 0 e).1; omega)) (fun e => by have := (ownsRow_lt ho 0 e).1; omega)) hw1
    refine ⟨rfl, ⟨ss ++ [(s, v)], es, ts, v4, ev, rv, ?_, RawAt.struct (p := (s, v)) (ha.fell hb) ho3 hg4 ho4, ?_⟩, hr4, hx4⟩
    · simp [rawOf]
    · have := (hE s r2 rfl).2
      simp
      omega
  | no cc p =>
    obtain ⟨rfl, rfl⟩ := hs
    exact ⟨rfl, ⟨r2, hr4⟩, hx4⟩
set_option maxRecDepth 100000 in
set_option maxHeartbeats 4000000 in
theorem part_struct (w : World) (R g c A : Nat) (l r : List Tok) (ss : List (RRec × Value)) (es : List (RCho × Value)) (ts : List Tok) (sv ev rv : Value) (hl : l.length ≤ 2048) (hR : R < A) (hg : g < A) (h : Rd w R g c l r (0, 0)) (ha : RawAt A w ss es ts sv ev rv) (hc : ss.length + es.length + ts.length + r.length ≤ l.length) (hb : isT 1 wStruct r = true) :
    Calls Tryz.prog 83 #[.pointer (some ⟨R, 0, none⟩), .pointer (some ⟨A, 0, none⟩)] w (PartPost R g c l A w (partR (rawOf ss es ts) r)) := by
  have HT : Hid (partR (rawOf ss es ts) r = (recR r.tail).bind fun s r' => .ok ⟨(ss.map Prod.fst) ++ [s], es.map Prod.fst, ts⟩ r') := Lib.hid (if_pos hb)
  have HW := Lib.hid (fun W hr => word_any W R g c l r (0, 0) ⟨#[115, 116, 114, 117, 99, 116]⟩ wStruct (by kernel_rfl) hr)
  rw [hb] at HW
  have hend := h.ends.len
  have HEND := Lib.hid (h.ends.tail (by rw [(isT_kind hb).1]; decide))
  have HA := Lib.hid ha
  have HR := Lib.hid h
  have hA := blk_lt ha.blk
  obtain ⟨i0, hi0, hz0, hz1, hz2⟩ := info_parts rec_info
  have I1 := Lib.hid hi0
  have I2 := Lib.hid hz0
  have I3 := Lib.hid hz1
  have I4 := Lib.hid hz2
  clear h ha hb hi0 hz0 hz1 hz2
  go_enter Tryz.func83, Tryz.ntmps83
  go_wp2_with fail
  refine (HW.out _ HR.out).mono ?_
  rintro e W1 ⟨rfl, hr1, hx1⟩
  replace hr1 : Rd W1 R g c l r.tail (0, 0) := hr1
  have HX1 := Lib.hid ((Exc.refl R A w).thenB (Nat.le_of_lt hA) hx1)
  have HA1 := Lib.hid (HA.out.stay hR hx1)
  have HR1 := Lib.hid hr1
  have hA1 : A < W1.heap.size := blk_lt HA1.out.blk
  clear hr1 hx1
  go_wp2_with fail
  refine (record_any _ R g c l r.tail hl HR1.out).mono ?_
  rintro e W2 hp
  obtain ⟨S, n, va, vm, vc, ok, r2, F2, rfl, hr2, hx2, hs2⟩ := struct_form hp
  have HP := Lib.hid hs2
  clear hp hs2
  have HEAT := Lib.hid (rec_eats HEND.out)
  have HAP : Hid (rv.ownBlock = none ∨ ∃ k, rv.ownBlock = some k ∧ k < W1.heap.size) := Lib.hid (by
    cases hk : rv.ownBlock with
    | none => exact .inl rfl
    | some k => exact .inr ⟨k, rfl, (ownsRow_lt HA1.out.roots k hk).2⟩)
  have HA2 := Lib.hid (HA1.out.stay hR hx2)
  have HX2 := Lib.hid (HX1.out.thenB (Nat.le_of_lt hA) hx2)
  have HR2 := Lib.hid hr2
  have hs2 := hx2.size
  clear hx2 hr2 HA1 HX1 HR1
  go_upto_region 3 with (fail)
  have HR3 := Lib.hid (HR2.out.alloc (.cells #[.string S, .int .i64 n, .slice va vm vc] 113))
  have HX3 := Lib.hid (HX2.out.alloc (by omega) (.cells #[.string S, .int .i64 n, .slice va vm vc] 113))
  have HA3 := Lib.hid (HA2.out.fell ((Below.refl _ _).alloc (Nat.le_refl _) (.cells #[.string S, .int .i64 n, .slice va vm vc] 113)))
  have HB3 := Lib.hid (show Below W2.heap.size W2 (W2.alloc (.cells #[.string S, .int .i64 n, .slice va vm vc] 113)) from (Below.refl _ _).alloc (Nat.le_refl _) _)
  have HS3 := Lib.hid (heap_alloc_new W2 (.cells #[.string S, .int .i64 n, .slice va vm vc] 113))
  clear HR2 HX2 HA2
  generalize hW3 : W2.alloc (.cells #[.string S, .int .i64 n, .slice va vm vc] 113) = W3 at *
  clear hW3
  have hlt3 : W2.heap.size < W3.heap.size := blk_lt HS3.out
  generalize hBS : W2.heap.size = BS at *
  obtain ⟨hA3, a0, a1, a2, b0, b1, b2⟩ := blk3 HA3.out.blk
  obtain ⟨_, x0, x1, x2, _⟩ := blk3 HS3.out
  have HBS := Lib.hid hBS
  clear hBS
  go_region_law (first | (refine step_append_lies _ rfl (.tmp 23) (.tmp 25) 67 rfl (A + 1) 113 i0 _ 3 48 Tryz.underlying67 I1.out I2.out I3.out I4.out rfl (by decide) _ ss.length (recsCells ss) rfl (exc_row HA3.out.structs hR ((Exc.refl R _ W3).drew.alloc (Nat.le_refl _) _)) _ 1 1 [.string S, .int .i64 n, .slice va vm vc] rfl rfl (rec_new W3.drew _ _ _ _ rfl rfl rfl).1 (rec_new W3 _ _ _ 0 rfl rfl rfl).2 (by decide) (by unfold maxLen; omega) (by omega) (by simp; omega) _ rfl ?_; rintro g4 c4 W4 hown4 hg4 hat4 hlt4; have hv4 := (hg4.block A (by simp; omega) (fun e => by have := (ownsRow_lt HA3.out.structs A e.symm).1; omega)).trans (blk_alloc (w := W3.drew) HA3.out.blk _); obtain ⟨hA4, m0, m1, m2, n0, n1, n2⟩ := blk3 hv4; have HG4 := Lib.hid hg4; have HO4 := Lib.hid hown4; clear hg4 hown4 hat4 hv4))
  all_goals
    go_wp2
    go_ret
    exact struct_end HT.out HP.out HA3.out HAP.out HR3.out HX3.out (by rw [HBS.out]; exact HB3.out) hA1 (((Below.refl _ W3).alloc (Nat.le_refl _) _).drew) HG4.out rfl HO4.out hR hg HEAT.out (by omega)
def enumSays (w : World) (x : Res RCho) (S : ByteArray) (n : Int) (v : Value) (ok : Bool) (r2 : List Tok) (F : Int × Nat) (W : World) : Prop :=
  match x with
  | .ok s r' => ok = true ∧ S = strOfNums s.name ∧ n = s.place ∧ W.ownsRow w.heap.size 108 3 v s.names.length (toksCells s.names) ∧ r2 = r' ∧ F = (0, 0)
  | .no cc p => ok = false ∧ F = (cc, p)
theorem enum_form {R g c : Nat} {l : List Tok} {w W : World} {x : Res RCho} {e : Ending} (h : ChoPost R g c l w x e W) :
    ∃ (S : ByteArray) (n : Int) (a : Option Addr) (m c' : Nat) (ok : Bool) (r2 : List Tok) (F : Int × Nat), e = .returned (.tuple #[.agg #[.string S, .int .i64 n, .slice a m c'], .bool ok]) ∧ Rd W R g c l r2 F ∧ Exc R w.heap.size w W ∧ enumSays w x S n (.slice a m c') ok r2 F W := by
  cases x with
  | ok s r' =>
    obtain ⟨v, rfl, ho, hr, hx⟩ := h
    obtain ⟨a, c', rfl⟩ := ownsRow_form ho
    exact ⟨_, _, _, _, _, _, _, _, rfl, hr, hx, rfl, rfl, rfl, ho, rfl, rfl⟩
  | no cc p =>
    obtain ⟨S, n, a, m, c', r', rfl, hr, hx⟩ := h
    exact ⟨_, _, _, _, _, _, _, _, rfl, hr, hx, rfl, rfl⟩
theorem enum_end {R g c A : Nat} {l r r2 : List Tok} {F : Int × Nat} {w W W3 Wp W4 w1 : World} {ss : List (RRec × Value)} {es : List (RCho × Value)} {ts : List Tok} {sv ev rv v v4 : Value} {S : ByteArray} {n : Int} {ok : Bool} {row : Option Nat}
    {x : Res RCho} {y : Res RRaw} (hy : y = x.bind fun s r' => .ok ⟨ss.map Prod.fst, (es.map Prod.fst) ++ [s], ts⟩ r') (hs : enumSays w1 x S n v ok r2 F W) (ha : RawAt A W3 ss es ts sv ev rv) (hap : rv.ownBlock = none ∨ ∃ k, rv.ownBlock = some k ∧ k < w1.heap.size) (hr : Rd W3 R g c l r2 F) (hx : Exc R A w W3) (hW : Below W.heap.size W W3) (hw1 : A + 1 ≤ w1.heap.size)
    (hb : Below W3.heap.size W3 Wp) (hg4 : Wp.grownBy W4 row) (hrow : row = ev.ownBlock) (ho4 : W4.ownsRow (A + 1) 116 3 v4 (es.length + 1) (chosCells es ++ [.string S, .int .i64 n, v])) (hR : R < A) (hg : g < A)
    (hE : Eats r x) (hc : ss.length + es.length + ts.length + (r.length + 1) ≤ l.length) : PartPost R g c l A w y (.returned (.bool ok)) (W4.setCell ⟨A, 1, none⟩ v4) := by
  have hA3 := blk_lt ha.blk
  subst hrow
  obtain ⟨hr4, hx4⟩ := part_deep hr hx hb hg4 (fun k hk => by have := (ownsRow_lt ha.enums k hk).1; omega) hR hg (Nat.le_of_lt hA3) 1 v4
  subst hy
  cases x with
  | ok s r' =>
    obtain ⟨rfl, rfl, rfl, ho, rfl, rfl⟩ := hs
    have ho3 : Wp.ownsRow (A + 1) 108 3 v s.names.length (toksCells s.names) := ownsRow_base ((Exc.of_below (R := 0) hb).ownsRow ((Exc.of_below (R := 0) hW).ownsRow ho (fun e => by have := (ownsRow_lt ho 0 e).1; omega)) (fun e => by have := (ownsRow_lt ho 0 e).1; omega)) hw1
    refine ⟨rfl, ⟨ss, es ++ [(s, v)], ts, sv, v4, rv, ?_, RawAt.enum (p := (s, v)) (ha.fell hb) ho3 (fun k hk => apart_new hap (ownsRow_lt ho k hk).1) hg4 ho4, ?_⟩, hr4, hx4⟩
    · simp [rawOf]
    · have := (hE s r2 rfl).2
      simp
      omega
  | no cc p =>
    obtain ⟨rfl, rfl⟩ := hs
    exact ⟨rfl, ⟨r2, hr4⟩, hx4⟩
set_option maxRecDepth 100000 in
set_option maxHeartbeats 4000000 in
theorem part_enum (w : World) (R g c A : Nat) (l r : List Tok) (ss : List (RRec × Value)) (es : List (RCho × Value)) (ts : List Tok) (sv ev rv : Value) (hl : l.length ≤ 2048) (hR : R < A) (hg : g < A) (h : Rd w R g c l r (0, 0)) (ha : RawAt A w ss es ts sv ev rv) (hc : ss.length + es.length + ts.length + r.length ≤ l.length) (hn : isT 1 wStruct r = false) (hb : isT 1 wEnum r = true) :
    Calls Tryz.prog 83 #[.pointer (some ⟨R, 0, none⟩), .pointer (some ⟨A, 0, none⟩)] w (PartPost R g c l A w (partR (rawOf ss es ts) r)) := by
  have HT : Hid (partR (rawOf ss es ts) r = (choR r.tail).bind fun s r' => .ok ⟨ss.map Prod.fst, (es.map Prod.fst) ++ [s], ts⟩ r') := Lib.hid ((if_neg (by rw [hn]; decide)).trans (if_pos hb))
  have HW1 := Lib.hid (word_any w R g c l r (0, 0) ⟨#[115, 116, 114, 117, 99, 116]⟩ wStruct (by kernel_rfl) h)
  rw [hn] at HW1
  have HW := Lib.hid (fun W hr => word_any W R g c l r (0, 0) ⟨#[101, 110, 117, 109]⟩ wEnum (by kernel_rfl) hr)
  rw [hb] at HW
  have hend := h.ends.len
  have HEND := Lib.hid (h.ends.tail (by rw [(isT_kind hb).1]; decide))
  have HA := Lib.hid ha
  have HR := Lib.hid h
  have hA := blk_lt ha.blk
  obtain ⟨i0, hi0, hz0, hz1, hz2⟩ := info_parts cho_info
  have I1 := Lib.hid hi0
  have I2 := Lib.hid hz0
  have I3 := Lib.hid hz1
  have I4 := Lib.hid hz2
  clear h ha hb hi0 hz0 hz1 hz2
  go_enter Tryz.func83, Tryz.ntmps83
  go_wp2_with fail
  refine HW1.out.mono ?_
  rintro e W0 ⟨rfl, hr0, hx0⟩
  replace hr0 : Rd W0 R g c l r (0, 0) := hr0
  have HX0 := Lib.hid ((Exc.refl R A w).thenB (Nat.le_of_lt hA) hx0)
  have HA0 := Lib.hid (HA.out.stay hR hx0)
  have HR0 := Lib.hid hr0
  clear hr0 hx0
  go_wp2_with fail
  refine (HW.out _ HR0.out).mono ?_
  rintro e W1 ⟨rfl, hr1, hx1⟩
  replace hr1 : Rd W1 R g c l r.tail (0, 0) := hr1
  have HX1 := Lib.hid (HX0.out.thenB (Nat.le_of_lt hA) hx1)
  have HA1 := Lib.hid (HA0.out.stay hR hx1)
  have HR1 := Lib.hid hr1
  have hA1 : A < W1.heap.size := blk_lt HA1.out.blk
  clear hr1 hx1
  go_wp2_with fail
  refine (choice_any _ R g c l r.tail hl HR1.out).mono ?_
  rintro e W2 hp
  obtain ⟨S, n, va, vm, vc, ok, r2, F2, rfl, hr2, hx2, hs2⟩ := enum_form hp
  have HP := Lib.hid hs2
  clear hp hs2
  have HEAT := Lib.hid (cho_eats HEND.out)
  have HAP : Hid (rv.ownBlock = none ∨ ∃ k, rv.ownBlock = some k ∧ k < W1.heap.size) := Lib.hid (by
    cases hk : rv.ownBlock with
    | none => exact .inl rfl
    | some k => exact .inr ⟨k, rfl, (ownsRow_lt HA1.out.roots k hk).2⟩)
  have HA2 := Lib.hid (HA1.out.stay hR hx2)
  have HX2 := Lib.hid (HX1.out.thenB (Nat.le_of_lt hA) hx2)
  have HR2 := Lib.hid hr2
  have hs2 := hx2.size
  clear hx2 hr2 HA1 HX1 HR1
  go_upto_region 7 with (fail)
  have HR3 := Lib.hid (HR2.out.alloc (.cells #[.string S, .int .i64 n, .slice va vm vc] 116))
  have HX3 := Lib.hid (HX2.out.alloc (by omega) (.cells #[.string S, .int .i64 n, .slice va vm vc] 116))
  have HA3 := Lib.hid (HA2.out.fell ((Below.refl _ _).alloc (Nat.le_refl _) (.cells #[.string S, .int .i64 n, .slice va vm vc] 116)))
  have HB3 := Lib.hid (show Below W2.heap.size W2 (W2.alloc (.cells #[.string S, .int .i64 n, .slice va vm vc] 116)) from (Below.refl _ _).alloc (Nat.le_refl _) _)
  have HS3 := Lib.hid (heap_alloc_new W2 (.cells #[.string S, .int .i64 n, .slice va vm vc] 116))
  clear HR2 HX2 HA2
  generalize hW3 : W2.alloc (.cells #[.string S, .int .i64 n, .slice va vm vc] 116) = W3 at *
  clear hW3
  have hlt3 : W2.heap.size < W3.heap.size := blk_lt HS3.out
  generalize hBS : W2.heap.size = BS at *
  obtain ⟨hA3, a0, a1, a2, b0, b1, b2⟩ := blk3 HA3.out.blk
  obtain ⟨_, x0, x1, x2, _⟩ := blk3 HS3.out
  have HBS := Lib.hid hBS
  clear hBS
  go_region_law (first | (refine step_append_lies _ rfl (.tmp 42) (.tmp 44) 68 rfl (A + 1) 116 i0 _ 3 48 Tryz.underlying68 I1.out I2.out I3.out I4.out rfl (by decide) _ es.length (chosCells es) rfl (exc_row HA3.out.enums hR ((Exc.refl R _ W3).drew.alloc (Nat.le_refl _) _)) _ 1 1 [.string S, .int .i64 n, .slice va vm vc] rfl rfl (rec_new W3.drew _ _ _ _ rfl rfl rfl).1 (rec_new W3 _ _ _ 0 rfl rfl rfl).2 (by decide) (by unfold maxLen; omega) (by omega) (by simp; omega) _ rfl ?_; rintro g4 c4 W4 hown4 hg4 hat4 hlt4; have hv4 := (hg4.block A (by simp; omega) (fun e => by have := (ownsRow_lt HA3.out.enums A e.symm).1; omega)).trans (blk_alloc (w := W3.drew) HA3.out.blk _); obtain ⟨hA4, m0, m1, m2, n0, n1, n2⟩ := blk3 hv4; have HG4 := Lib.hid hg4; have HO4 := Lib.hid hown4; clear hg4 hown4 hat4 hv4))
  all_goals
    go_wp2
    go_ret
    exact enum_end HT.out HP.out HA3.out HAP.out HR3.out HX3.out (by rw [HBS.out]; exact HB3.out) hA1 (((Below.refl _ W3).alloc (Nat.le_refl _) _).drew) HG4.out rfl HO4.out hR hg HEAT.out (by omega)
end Go.Proofs.YtdlfndjgncdgfaaGreatDoor
