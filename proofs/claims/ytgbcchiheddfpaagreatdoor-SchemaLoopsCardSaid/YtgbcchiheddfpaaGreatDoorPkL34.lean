/-
  The package schema's maker: how it lies in memory, what its steps leave as it is. Conditions: those that each theorem names.
-/
import Derived.Test.YtgbcchiheddfpaaGreatDoorPkL33
import Derived.Deep.Cut
import Derived.Deep.AppendLies
import Derived.Deep.RegionWith
namespace Go.Proofs.YtgbcchiheddfpaaGreatDoor
open Go.ChangeShapes Go.WideShapes Go.ChangeAt Go.RowKit Go.Shelf

structure Ex2 (R S B : Nat) (w w' : World) : Prop where
  os : w'.os = w.os
  tape : w'.tape = w.tape
  output : w'.output = w.output
  size : w.heap.size ≤ w'.heap.size
  block : ∀ k, k < B → k ≠ R → k ≠ S → w'.heap[k]? = w.heap[k]?
theorem Ex2.refl (R S B : Nat) (w : World) : Ex2 R S B w w := ⟨rfl, rfl, rfl, Nat.le_refl _, fun _ _ _ _ => rfl⟩
theorem Ex2.trans {R S B : Nat} {a b c : World} (h : Ex2 R S B a b) (k : Ex2 R S B b c) : Ex2 R S B a c :=
  ⟨k.os.trans h.os, k.tape.trans h.tape, k.output.trans h.output, Nat.le_trans h.size k.size, fun i hi h1 h2 => (k.block i hi h1 h2).trans (h.block i hi h1 h2)⟩
theorem Ex2.mono {R S B B' : Nat} {w w' : World} (h : Ex2 R S B w w') (hB : B' ≤ B) : Ex2 R S B' w w' := ⟨h.os, h.tape, h.output, h.size, fun k hk h1 h2 => h.block k (Nat.lt_of_lt_of_le hk hB) h1 h2⟩
theorem Ex2.of_below {R S B : Nat} {w w' : World} (h : Below B w w') : Ex2 R S B w w' := ⟨h.os, h.tape, h.output, h.size, fun k hk _ _ => h.block k hk⟩
theorem Ex2.of_exc2 {R S B : Nat} {w w' : World} (h : Exc S B w w') : Ex2 R S B w w' := ⟨h.os, h.tape, h.output, h.size, fun k hk _ h2 => h.block k hk h2⟩
theorem Ex2.thenB {R S B : Nat} {a b c : World} (h : Ex2 R S B a b) (hB : B ≤ b.heap.size) (k : Ex2 R S b.heap.size b c) : Ex2 R S B a c := h.trans (k.mono hB)
theorem Ex2.alloc {R S B : Nat} {a w : World} (h : Ex2 R S B a w) (hB : B ≤ w.heap.size) (o : Obj) : Ex2 R S B a (w.alloc o) := h.trans (.of_below ((Below.refl _ _).alloc hB o))
theorem Ex2.drew {R S B : Nat} {a w : World} (h : Ex2 R S B a w) : Ex2 R S B a w.drew := ⟨h.os, h.tape, h.output, h.size, h.block⟩
theorem Ex2.setCell {R S B : Nat} {a w : World} (h : Ex2 R S B a w) {p : Addr} (hp : p.block = R ∨ p.block = S ∨ B ≤ p.block) (u : Value) : Ex2 R S B a (w.setCell p u) :=
  h.trans ⟨rfl, rfl, rfl, by simp [World.setCell], fun k hk h1 h2 => Below.heap_setCell _ _ _ _ (by rcases hp with h | h | h <;> omega)⟩
theorem Ex2.grown {R S B : Nat} {a w w' : World} {row : Option Nat} (h : Ex2 R S B a w) (hg : w.grownBy w' row) (hB : B ≤ w.heap.size) (hr : ∀ k, row = some k → B ≤ k ∨ k = R ∨ k = S) : Ex2 R S B a w' :=
  h.trans ⟨hg.os, hg.tape, hg.output, hg.size, fun k hk h1 h2 => hg.block k (by omega) (fun e => by have := hr k e.symm; omega)⟩
theorem Ex2.cell {R S B : Nat} {w w' : World} (h : Ex2 R S B w w') {p : Addr} (hp : p.block < B) (h1 : p.block ≠ R) (h2 : p.block ≠ S) : w'.cell? p = w.cell? p := World.cell?_of_block (w := w) (h.block p.block hp h1 h2)
theorem Ex2.below {R S B : Nat} {w w' : World} (h : Ex2 R S B w w') (hR : B ≤ R) (hS : B ≤ S) : Below B w w' := ⟨h.os, h.tape, h.output, h.size, fun k hk => h.block k hk (by omega) (by omega)⟩
theorem Ex2.far {R S B : Nat} {w w' : World} (h : Ex2 R S B w w') {g : Nat} {o : Obj} (hg : w.heap[g]? = some o) (hB : g < B) (h1 : g ≠ R) (h2 : g ≠ S) : w'.heap[g]? = some o := (h.block g hB h1 h2).trans hg
theorem Ex2.row {R S : Nat} {w w' : World} (h : Ex2 R S w.heap.size w w') {base : Nat} {e : TypeId} {size : Nat} {v : Value} {n : Nat} {xs : List Value} (ho : w.ownsRow base e size v n xs) (h1 : v.ownBlock ≠ some R) (h2 : v.ownBlock ≠ some S) : w'.ownsRow base e size v n xs := by
  obtain ⟨hl, h'⟩ := ho
  refine ⟨hl, ?_⟩
  rcases h' with k1 | ⟨g', cap', cur, hv, k1, hg, k2⟩
  · exact .inl k1
  · have hlt := blk_lt hg
    subst hv
    exact .inr ⟨g', cap', cur, rfl, k1, (h.block g' hlt (fun e => h1 (by simp [Value.ownBlock, e])) (fun e => h2 (by simp [Value.ownBlock, e]))).trans hg, k2⟩
theorem Ex2.rowB {R S : Nat} {w w' : World} (h : Ex2 R S w.heap.size w w') {base : Nat} {e : TypeId} {size : Nat} {v : Value} {n : Nat} {xs : List Value} (ho : w.ownsRow base e size v n xs) (h1 : R < base) (h2 : S < base) : w'.ownsRow base e size v n xs :=
  h.row ho (fun e => by have := (ownsRow_lt ho R e).1; omega) (fun e => by have := (ownsRow_lt ho S e).1; omega)
structure MAt (W : World) (M b : Nat) (sv ev rv : Value) (m : List NEnt) (ssv esv : Value) (root : Nat) : Prop where
  blk : W.heap[M]? = some (.cells #[sv, ev, rv, .map (some b), ssv, esv, .int .i64 root] 244 (0, 0))
  map : MapAt W b (m.map entP)
  ne : M ≠ b
theorem MAt.below {W W' : World} {M b B root : Nat} {sv ev rv ssv esv : Value} {m : List NEnt} (h : MAt W M b sv ev rv m ssv esv root) (hb : Below B W W') (hM : M < B) (hB : b < B) : MAt W' M b sv ev rv m ssv esv root :=
  ⟨blk_below h.blk hb hM, h.map.below hb hB, h.ne⟩
theorem MAt.fell {W W' : World} {M b root : Nat} {sv ev rv ssv esv : Value} {m : List NEnt} (h : MAt W M b sv ev rv m ssv esv root) (hb : Below W.heap.size W W') : MAt W' M b sv ev rv m ssv esv root :=
  h.below hb (blk_lt h.blk) h.map.lt
theorem MAt.cells {W : World} {M b root : Nat} {sv ev rv ssv esv : Value} {m : List NEnt} (h : MAt W M b sv ev rv m ssv esv root) :
    M < W.heap.size ∧ W.cell? ⟨M, 0, none⟩ = some sv ∧ W.cell? ⟨M, 1, none⟩ = some ev ∧ W.cell? ⟨M, 2, none⟩ = some rv ∧ W.cell? ⟨M, 3, none⟩ = some (.map (some b)) ∧ W.cell? ⟨M, 4, none⟩ = some ssv ∧ W.cell? ⟨M, 5, none⟩ = some esv ∧ W.cell? ⟨M, 6, none⟩ = some (.int .i64 root) ∧
    W.frozen? ⟨M, 4, none⟩ = false ∧ W.frozen? ⟨M, 5, none⟩ = false ∧ W.frozen? ⟨M, 6, none⟩ = false :=
  ⟨blk_lt h.blk, (blk_cell h.blk 0).trans rfl, (blk_cell h.blk 1).trans rfl, (blk_cell h.blk 2).trans rfl, (blk_cell h.blk 3).trans rfl, (blk_cell h.blk 4).trans rfl, (blk_cell h.blk 5).trans rfl, (blk_cell h.blk 6).trans rfl, blk_frozen h.blk 4, blk_frozen h.blk 5, blk_frozen h.blk 6⟩
theorem maker_cells {W : World} {M : Nat} {x0 x1 x2 x3 x4 x5 x6 : Value} (h : W.heap[M]? = some (.cells #[x0, x1, x2, x3, x4, x5, x6] 244 (0, 0))) :
    M < W.heap.size ∧ W.cell? ⟨M, 0, none⟩ = some x0 ∧ W.cell? ⟨M, 1, none⟩ = some x1 ∧ W.cell? ⟨M, 2, none⟩ = some x2 ∧ W.cell? ⟨M, 3, none⟩ = some x3 ∧ W.cell? ⟨M, 4, none⟩ = some x4 ∧ W.cell? ⟨M, 5, none⟩ = some x5 ∧ W.cell? ⟨M, 6, none⟩ = some x6 ∧
    W.frozen? ⟨M, 4, none⟩ = false ∧ W.frozen? ⟨M, 5, none⟩ = false ∧ W.frozen? ⟨M, 6, none⟩ = false :=
  ⟨blk_lt h, (blk_cell h 0).trans rfl, (blk_cell h 1).trans rfl, (blk_cell h 2).trans rfl, (blk_cell h 3).trans rfl, (blk_cell h 4).trans rfl, (blk_cell h 5).trans rfl, (blk_cell h 6).trans rfl, blk_frozen h 4, blk_frozen h 5, blk_frozen h 6⟩
theorem decl_out {W w' : World} {b : Nat} {m : List NEnt} {name : ByteArray} {place k r : Nat} {few : Bool} {e : Ending} (h : DeclPost W b m name place k r few e w') :
    (∃ code : Int, (code = 13 ∧ (lookN m name).isSome = true ∨ code = 16 ∧ (lookN m name).isSome = false ∧ few = false) ∧ e = .returned (.agg #[.int .i64 code, .int .i64 place]) ∧ Exc b W.heap.size W w') ∨
    ((lookN m name).isSome = false ∧ few = true ∧ e = .returned (.agg #[.int .i64 0, .int .i64 0]) ∧ MapAt w' b ((m ++ [(⟨name, k, r⟩ : NEnt)]).map entP) ∧ Exc b W.heap.size W w') := by
  unfold DeclPost at h
  cases hl : (lookN m name).isSome
  · rw [if_neg (by rw [hl]; decide)] at h
    cases few
    · rw [if_neg (by decide)] at h
      exact .inl ⟨16, .inr ⟨rfl, rfl, rfl⟩, h.1, .of_below h.2⟩
    · rw [if_pos rfl] at h
      exact .inr ⟨rfl, rfl, h.1, h.2.1, h.2.2⟩
  · rw [if_pos hl] at h
    exact .inl ⟨13, .inl ⟨rfl, rfl⟩, h.1, .of_below h.2⟩
def DeclS (m : List NEnt) (name : ByteArray) (place : Nat) (few : Bool) (code pl : Int) : Prop :=
  (code = 13 ∧ (lookN m name).isSome = true ∧ pl = place) ∨ (code = 16 ∧ (lookN m name).isSome = false ∧ few = false ∧ pl = place) ∨ (code = 0 ∧ (lookN m name).isSome = false ∧ few = true)
theorem declare_s (name : ByteArray) (place k r : Nat) (kd : Int) (hkd : ((k : Nat) : Int) = kd) (few : Bool) (W : World) {M b root : Nat} {sv ev rv ssv esv : Value} {m : List NEnt} (h : MAt W M b sv ev rv m ssv esv root) :
    Calls Tryz.prog 160 #[.pointer (some ⟨M, 0, none⟩), .string name, .int .i64 place, .agg #[.int .u8 kd, .int .i64 (r : Nat), .int .i64 0], .bool few] W fun e w' =>
      ∃ code pl : Int, e = .returned (.agg #[.int .i64 code, .int .i64 pl]) ∧ Exc b W.heap.size W w' ∧ DeclS m name place few code pl ∧ (code = 0 → MapAt w' b ((m ++ [(⟨name, k, r⟩ : NEnt)]).map entP)) := by
  subst hkd
  refine (declare_any W M b m sv ev rv ssv esv _ name place k r few h.blk h.map).mono ?_
  intro e w' hd
  rcases decl_out hd with ⟨code, h1, rfl, h3⟩ | ⟨h1, h2, rfl, h4, h5⟩
  · refine ⟨code, place, rfl, h3, ?_, ?_⟩
    · rcases h1 with ⟨h1, h2⟩ | ⟨h1, h2, h4⟩
      · exact .inl ⟨h1, h2, rfl⟩
      · exact .inr (.inl ⟨h1, h2, h4, rfl⟩)
    · intro h0
      rcases h1 with ⟨h1, h2⟩ | ⟨h1, h2, h4⟩ <;> omega
  · exact ⟨0, 0, rfl, h5, .inr (.inr ⟨rfl, h1, h2⟩), fun _ => h4⟩
theorem samong_still (a b : Int) (c : Bool) (hc : decide (0 ≤ a ∧ a < b) = c) (w : World) : Calls Tryz.prog 50 #[.int .i64 a, .int .i64 b] w fun e w' => e = .returned (.bool c) ∧ w' = w :=
  (samong_any a b c hc w).mono fun _ _ h => ⟨h.1, h.2.symm⟩
theorem drew_below {W W' : World} (h : Below W.drew.heap.size W.drew W') : Below W.heap.size W W' := (Below.refl _ W).drew.trans h
structure ChoRows (base : Nat) (W : World) (es : List (SCho × Value)) (ev : Value) : Prop where
  enums : W.ownsRow base 74 2 ev es.length (schosCells es)
  names : ∀ q ∈ es, W.ownsRow base 9 1 q.2 q.1.names.length (strsCells q.1.names)
theorem ChoRows.below {base : Nat} {W W' : World} {es : List (SCho × Value)} {ev : Value} (h : ChoRows base W es ev) (hb : Below W.heap.size W W') : ChoRows base W' es ev := ⟨row_keep hb h.enums, fun q hq => row_keep hb (h.names q hq)⟩
theorem ChoRows.base {base base' : Nat} {W : World} {es : List (SCho × Value)} {ev : Value} (h : ChoRows base W es ev) (hb : base' ≤ base) : ChoRows base' W es ev := ⟨ownsRow_base h.enums hb, fun q hq => ownsRow_base (h.names q hq) hb⟩
theorem ChoRows.ex2 {base R S : Nat} {W W' : World} {es : List (SCho × Value)} {ev : Value} (h : ChoRows base W es ev) (hb : Ex2 R S W.heap.size W W') (h1 : R < base) (h2 : S < base) : ChoRows base W' es ev := ⟨hb.rowB h.enums h1 h2, fun q hq => hb.rowB (h.names q hq) h1 h2⟩
end Go.Proofs.YtgbcchiheddfpaaGreatDoor
