/-
  The hand's Made: the loop over the enums. Conditions: those that each theorem names.
-/
import Derived.Test.YtleclhnlojalbaaGreatDoorPkW9
import Derived.Test.YtleclhnlojalbaaGreatDoorPkW16
import Derived.Test.YtleclhnlojalbaaGreatDoorPkW17
import Derived.Test.YtleclhnlojalbaaGreatDoorPkW19
import Derived.StillTailTactics
import Derived.Deep.Cut
import Derived.Deep.AppendLies
import Derived.Deep.RegionWith
import Derived.Deep.RegionHeld3
namespace Go.Proofs.YtleclhnlojalbaaGreatDoor
open Go.ChangeShapes Go.WideShapes Go.ChangeAt Go.RowKit Go.Shelf
theorem ents_snoc (m : List NEnt) (n : ByteArray) (k r : Nat) : (m ++ [(⟨n, k, r⟩ : NEnt)]).map entP = m.map entP ++ [(n, .agg #[.int .u8 (k : Nat), .int .i64 (r : Nat), .int .i64 0])] := by simp [entP, mtyV]
theorem two_blk (w : World) (a b : Array Value) (s t : TypeId) : Below w.heap.size w ((w.alloc (.cells a s)).alloc (.cells b t)) ∧ ((w.alloc (.cells a s)).alloc (.cells b t)).heap[w.heap.size]? = some (.cells a s (0, 0)) ∧ ((w.alloc (.cells a s)).alloc (.cells b t)).heap[w.heap.size + 1]? = some (.cells b t (0, 0)) := by
  refine ⟨((Below.refl _ _).alloc (Nat.le_refl _) _).alloc (by simp) _, blk_alloc (heap_alloc_new w _) _, ?_⟩
  have := heap_alloc_new (w.alloc (.cells a s)) (.cells b t)
  rwa [World.size_alloc] at this
theorem ents_none {m : List NEnt} {s : ByteArray} (h : (lookN m s).isSome = false) : lookK (m.map entP) s = none := by
  have hn : lookN m s = none := Option.not_isSome_iff_eq_none.1 (by rw [h]; decide)
  rw [look_ents, hn]
  rfl
theorem ents_look {W : World} {b : Nat} {m : List NEnt} (h : MapAt W b (m.map entP)) (s : ByteArray) {c : Bool} (hc : (lookN m s).isSome = c) :
    ∃ k r l : Int, (Instr.lookup 123 (.map (some b)) (.string s) true).run Tryz.prog W = .ok (.tuple #[.agg #[.int .u8 k, .int .i64 r, .int .i64 l], .bool c]) W := by
  have := h.look ty_key ty_map (ty_zero W) s true
  rw [if_pos rfl, look_ents, Option.isSome_map, hc] at this
  cases hl : lookN m s with
  | none =>
    rw [hl] at this
    exact ⟨_, _, _, this⟩
  | some q =>
    rw [hl] at this
    exact ⟨_, _, _, this⟩
def DeclPost (W : World) (b : Nat) (m : List NEnt) (name : ByteArray) (place k r : Nat) (few : Bool) (e : Ending) (w' : World) : Prop :=
  if (lookN m name).isSome = true then e = .returned (.agg #[.int .i64 13, .int .i64 place]) ∧ Below W.heap.size W w'
  else if few = true then e = .returned (.agg #[.int .i64 0, .int .i64 0]) ∧ MapAt w' b ((m ++ [(⟨name, k, r⟩ : NEnt)]).map entP) ∧ Exc b W.heap.size W w'
  else e = .returned (.agg #[.int .i64 16, .int .i64 place]) ∧ Below W.heap.size W w'
set_option maxRecDepth 100000 in
set_option maxHeartbeats 2000000 in
theorem declare_any (W : World) (M b : Nat) (m : List NEnt) (sv ev rv x4 x5 x6 : Value) (name : ByteArray) (place k r : Nat) (few : Bool)
    (hM : W.heap[M]? = some (.cells #[sv, ev, rv, .map (some b), x4, x5, x6] 126 (0, 0))) (hm : MapAt W b (m.map entP)) :
    Calls Tryz.prog 82 #[.pointer (some ⟨M, 0, none⟩), .string name, .int .i64 place, .agg #[.int .u8 (k : Nat), .int .i64 (r : Nat), .int .i64 0], .bool few] W (DeclPost W b m name place k r few) := by
  obtain ⟨hb0, hz0, hf0⟩ := two_blk W #[.int .u8 (k : Nat), .int .i64 (r : Nat), .int .i64 0] #[.int .i64 0, .int .i64 0] 53 43
  have hM0 := blk_below hM hb0 (blk_lt hM)
  have hm0 := hm.below hb0 hm.lt
  have hbl := hm.lt
  have hs0 : W.heap.size + 2 = ((W.alloc (.cells #[.int .u8 (k : Nat), .int .i64 (r : Nat), .int .i64 0] 53)).alloc (.cells #[.int .i64 0, .int .i64 0] 43)).heap.size := by simp
  have HB0 := Lib.hid hb0
  have HZ0 := Lib.hid hz0
  have HF0 := Lib.hid hf0
  have HM0 := Lib.hid hm0
  have HS0 := Lib.hid hs0
  obtain ⟨_, y0, y1, y2, _⟩ := blk3 hz0
  have hbM : M < W.heap.size := blk_lt hM
  have m3 : ((W.alloc (.cells #[.int .u8 (k : Nat), .int .i64 (r : Nat), .int .i64 0] 53)).alloc (.cells #[.int .i64 0, .int .i64 0] 43)).cell? ⟨M, 3, none⟩ = some (.map (some b)) := (blk_cell hM0 3).trans rfl
  have HK0 := Lib.hid hM0
  clear hb0 hz0 hf0 hm0 hM hM0 hm hs0
  go_enter Tryz.func82, Tryz.ntmps82
  go_upto_region 1 with (fail)
  generalize (W.alloc (.cells #[.int .u8 (k : Nat), .int .i64 (r : Nat), .int .i64 0] 53)).alloc (.cells #[.int .i64 0, .int .i64 0] 43) = W0 at *
  obtain ⟨c, hc⟩ : ∃ c, (lookN m name).isSome = c := ⟨_, rfl⟩
  obtain ⟨k1, r1, l1, hr⟩ := ents_look HM0.out name hc
  have HC := Lib.hid hc
  clear hc
  go_upto_region 2 with (fail)
  have hb1 : Below W0.heap.size W0 (W0.alloc (.cells #[.int .u8 k1, .int .i64 r1, .int .i64 l1] 53)) := (Below.refl _ _).alloc (Nat.le_refl _) _
  have hf1 := blk_below HF0.out hb1 (blk_lt HF0.out)
  have hz1 := blk_below HZ0.out hb1 (blk_lt HZ0.out)
  have hk1 := blk_below HK0.out hb1 (blk_lt HK0.out)
  have HM1 := Lib.hid (HM0.out.below hb1 HM0.out.lt)
  have HB1 := Lib.hid (HB0.out.trans (hb1.mono HB0.out.size))
  have HF1 := Lib.hid hf1
  clear hr y0 y1 y2 m3 hb1 HM0 HB0 HF0 HZ0 HK0
  generalize W0.alloc (.cells #[.int .u8 k1, .int .i64 r1, .int .i64 l1] 53) = W1 at *
  obtain ⟨hfl, f0, f1, g0, g1⟩ := blk2 hf1
  obtain ⟨hzl, y0, y1, y2, _⟩ := blk3 hz1
  have m3 : W1.cell? ⟨M, 3, none⟩ = some (.map (some b)) := (blk_cell hk1 3).trans rfl
  clear hf1 hz1 hk1
  cases c
  · cases few
    · go_wp2
      refine post_gen (fun Wf => Wf.heap[W.heap.size + 1]? = some (.cells #[.int .i64 16, .int .i64 place] 43 (0, 0)) ∧ Below W.heap.size W Wf) ⟨blk_set2 HF1.out _ _, (HB1.out.setCell (p := ⟨W.heap.size + 1, 0, none⟩) (Nat.le_succ _) _).setCell (p := ⟨W.heap.size + 1, 1, none⟩) (Nat.le_succ _) _⟩ ?_
      rintro Wf ⟨e1, e2⟩
      obtain ⟨_, c0, c1, _⟩ := blk2 e1
      exact bodyPost_ret (v := .agg #[.int .i64 16, .int .i64 place]) (by simp [results, Tryz.results82, go_sem, c0, c1]) rfl (by unfold DeclPost; rw [if_neg (by rw [HC.out]; decide), if_neg (by decide)]; exact ⟨rfl, e2⟩)
    · go_upto_region 6 with (fail)
      obtain ⟨W2, hr2, hm2, hx2⟩ := (MapAt.drew HM1.out).store ty_key ty_map name (.agg #[.int .u8 (k : Nat), .int .i64 (r : Nat), .int .i64 0]) (ents_none HC.out)
      have HM2 := Lib.hid hm2
      have HX2 := Lib.hid (show Exc b W1.heap.size W1 W2 from ⟨(hx2 0).os, (hx2 0).tape, (hx2 0).output, (hx2 0).size, fun i hi hr => (hx2 (i + 1)).block i (Nat.lt_succ_self i) hr⟩)
      clear hm2 hx2
      go_region
      clear hr2
      simp only [Exit.then]
      apply_assumption
      have HF2 := Lib.hid (blk_exc HF1.out HX2.out hfl (by omega))
      have HE2 := Lib.hid (((Exc.of_below HB1.out).thenB (Nat.le_refl _) HX2.out))
      have hfl2 : W.heap.size + 1 < W2.heap.size := blk_lt HF2.out
      clear f0 f1 g0 g1 y0 y1 y2 m3 HX2
      obtain ⟨_, f0, f1, g0, g1⟩ := blk2 HF2.out
      go_wp2
      refine post_gen (fun Wf => Wf.heap[W.heap.size + 1]? = some (.cells #[.int .i64 0, .int .i64 0] 43 (0, 0)) ∧ Exc b W.heap.size W Wf ∧ MapAt Wf b ((m ++ [(⟨name, k, r⟩ : NEnt)]).map entP)) ⟨blk_set2 HF2.out _ _, (HE2.out.setCell (p := ⟨W.heap.size + 1, 0, none⟩) (.inr (Nat.le_succ _)) _).setCell (p := ⟨W.heap.size + 1, 1, none⟩) (.inr (Nat.le_succ _)) _, ?_⟩ ?_
      · rw [ents_snoc]
        exact (HM2.out.setCell (p := ⟨W.heap.size + 1, 0, none⟩) (by show W.heap.size + 1 ≠ b; omega) _).setCell (p := ⟨W.heap.size + 1, 1, none⟩) (by show W.heap.size + 1 ≠ b; omega) _
      · rintro Wf ⟨e1, e2, e3⟩
        obtain ⟨_, c0, c1, _⟩ := blk2 e1
        exact bodyPost_ret (v := .agg #[.int .i64 0, .int .i64 0]) (by simp [results, Tryz.results82, go_sem, c0, c1]) rfl (by unfold DeclPost; rw [if_neg (by rw [HC.out]; decide), if_pos rfl]; exact ⟨rfl, e3, e2⟩)
  · go_wp2
    refine post_gen (fun Wf => Wf.heap[W.heap.size + 1]? = some (.cells #[.int .i64 13, .int .i64 place] 43 (0, 0)) ∧ Below W.heap.size W Wf) ⟨blk_set2 HF1.out _ _, (HB1.out.setCell (p := ⟨W.heap.size + 1, 0, none⟩) (Nat.le_succ _) _).setCell (p := ⟨W.heap.size + 1, 1, none⟩) (Nat.le_succ _) _⟩ ?_
    rintro Wf ⟨e1, e2⟩
    obtain ⟨_, c0, c1, _⟩ := blk2 e1
    exact bodyPost_ret (v := .agg #[.int .i64 13, .int .i64 place]) (by simp [results, Tryz.results82, go_sem, c0, c1]) rfl (by unfold DeclPost; rw [if_pos HC.out]; exact ⟨rfl, e2⟩)
end Go.Proofs.YtleclhnlojalbaaGreatDoor
namespace Go.Proofs.YtleclhnlojalbaaGreatDoor
open Go.ChangeShapes Go.WideShapes Go.ChangeAt Go.RowKit Go.Shelf

structure Ex2 (R S B : Nat) (w w' : World) : Prop where
  os : w'.os = w.os
  tape : w'.tape = w.tape
  output : w'.output = w.output
  size : w.heap.size ≤ w'.heap.size
  block : ∀ k, k < B → k ≠ R → k ≠ S → w'.heap[k]? = w.heap[k]?
theorem Ex2.refl (R S B : Nat) (w : World) : Ex2 R S B w w := ⟨rfl, rfl, rfl, Nat.le_refl _, fun _ _ _ _ => rfl⟩
theorem Ex2.trans {R S B : Nat} {a b c : World} (h : Ex2 R S B a b) (k : Ex2 R S B b c) : Ex2 R S B a c :=
  ⟨k.os.trans h.os, k.tape.trans h.tape, k.output.trans h.output, Nat.le_trans h.size k.size, fun i hi h1 h2 => (k.block i hi h1 h2).trans (h.block i hi h1 h2)⟩
theorem Ex2.mono {R S B B' : Nat} {w w' : World} (h : Ex2 R S B w w') (hB : B' ≤ B) : Ex2 R S B' w w' := ⟨h.os, h.tape, h.output, h.size, fun k hk h1 h2 => h.block k (Nat.lt_of_lt_of_le hk hB) h1 h2⟩
theorem Ex2.of_below {R S B : Nat} {w w' : World} (h : Below B w w') : Ex2 R S B w w' := ⟨h.os, h.tape, h.output, h.size, fun k hk _ _ => h.block k hk⟩
theorem Ex2.of_exc2 {R S B : Nat} {w w' : World} (h : Exc S B w w') : Ex2 R S B w w' := ⟨h.os, h.tape, h.output, h.size, fun k hk _ h2 => h.block k hk h2⟩
theorem Ex2.thenB {R S B : Nat} {a b c : World} (h : Ex2 R S B a b) (hB : B ≤ b.heap.size) (k : Ex2 R S b.heap.size b c) : Ex2 R S B a c := h.trans (k.mono hB)
theorem Ex2.alloc {R S B : Nat} {a w : World} (h : Ex2 R S B a w) (hB : B ≤ w.heap.size) (o : Obj) : Ex2 R S B a (w.alloc o) := h.trans (.of_below ((Below.refl _ _).alloc hB o))
theorem Ex2.drew {R S B : Nat} {a w : World} (h : Ex2 R S B a w) : Ex2 R S B a w.drew := ⟨h.os, h.tape, h.output, h.size, h.block⟩
theorem Ex2.setCell {R S B : Nat} {a w : World} (h : Ex2 R S B a w) {p : Addr} (hp : p.block = R ∨ p.block = S ∨ B ≤ p.block) (u : Value) : Ex2 R S B a (w.setCell p u) :=
  h.trans ⟨rfl, rfl, rfl, by simp [World.setCell], fun k hk h1 h2 => Below.heap_setCell _ _ _ _ (by rcases hp with h | h | h <;> omega)⟩
theorem Ex2.grown {R S B : Nat} {a w w' : World} {row : Option Nat} (h : Ex2 R S B a w) (hg : w.grownBy w' row) (hB : B ≤ w.heap.size) (hr : ∀ k, row = some k → B ≤ k ∨ k = R ∨ k = S) : Ex2 R S B a w' :=
  h.trans ⟨hg.os, hg.tape, hg.output, hg.size, fun k hk h1 h2 => hg.block k (by omega) (fun e => by have := hr k e.symm; omega)⟩
theorem Ex2.cell {R S B : Nat} {w w' : World} (h : Ex2 R S B w w') {p : Addr} (hp : p.block < B) (h1 : p.block ≠ R) (h2 : p.block ≠ S) : w'.cell? p = w.cell? p := World.cell?_of_block (w := w) (h.block p.block hp h1 h2)
theorem Ex2.below {R S B : Nat} {w w' : World} (h : Ex2 R S B w w') (hR : B ≤ R) (hS : B ≤ S) : Below B w w' := ⟨h.os, h.tape, h.output, h.size, fun k hk => h.block k hk (by omega) (by omega)⟩
theorem Ex2.far {R S B : Nat} {w w' : World} (h : Ex2 R S B w w') {g : Nat} {o : Obj} (hg : w.heap[g]? = some o) (hB : g < B) (h1 : g ≠ R) (h2 : g ≠ S) : w'.heap[g]? = some o := (h.block g hB h1 h2).trans hg
theorem Ex2.row {R S : Nat} {w w' : World} (h : Ex2 R S w.heap.size w w') {base : Nat} {e : TypeId} {size : Nat} {v : Value} {n : Nat} {xs : List Value} (ho : w.ownsRow base e size v n xs) (h1 : v.ownBlock ≠ some R) (h2 : v.ownBlock ≠ some S) : w'.ownsRow base e size v n xs := by
  obtain ⟨hl, h'⟩ := ho
  refine ⟨hl, ?_⟩
  rcases h' with k1 | ⟨g', cap', cur, hv, k1, hg, k2⟩
  · exact .inl k1
  · have hlt := blk_lt hg
    subst hv
    exact .inr ⟨g', cap', cur, rfl, k1, (h.block g' hlt (fun e => h1 (by simp [Value.ownBlock, e])) (fun e => h2 (by simp [Value.ownBlock, e]))).trans hg, k2⟩
theorem Ex2.rowB {R S : Nat} {w w' : World} (h : Ex2 R S w.heap.size w w') {base : Nat} {e : TypeId} {size : Nat} {v : Value} {n : Nat} {xs : List Value} (ho : w.ownsRow base e size v n xs) (h1 : R < base) (h2 : S < base) : w'.ownsRow base e size v n xs :=
  h.row ho (fun e => by have := (ownsRow_lt ho R e).1; omega) (fun e => by have := (ownsRow_lt ho S e).1; omega)
structure MAt (W : World) (M b : Nat) (sv ev rv : Value) (m : List NEnt) (ssv esv : Value) (root : Nat) : Prop where
  blk : W.heap[M]? = some (.cells #[sv, ev, rv, .map (some b), ssv, esv, .int .i64 root] 126 (0, 0))
  map : MapAt W b (m.map entP)
  ne : M ≠ b
theorem MAt.below {W W' : World} {M b B root : Nat} {sv ev rv ssv esv : Value} {m : List NEnt} (h : MAt W M b sv ev rv m ssv esv root) (hb : Below B W W') (hM : M < B) (hB : b < B) : MAt W' M b sv ev rv m ssv esv root :=
  ⟨blk_below h.blk hb hM, h.map.below hb hB, h.ne⟩
theorem MAt.fell {W W' : World} {M b root : Nat} {sv ev rv ssv esv : Value} {m : List NEnt} (h : MAt W M b sv ev rv m ssv esv root) (hb : Below W.heap.size W W') : MAt W' M b sv ev rv m ssv esv root :=
  h.below hb (blk_lt h.blk) h.map.lt
theorem MAt.cells {W : World} {M b root : Nat} {sv ev rv ssv esv : Value} {m : List NEnt} (h : MAt W M b sv ev rv m ssv esv root) :
    M < W.heap.size ∧ W.cell? ⟨M, 0, none⟩ = some sv ∧ W.cell? ⟨M, 1, none⟩ = some ev ∧ W.cell? ⟨M, 2, none⟩ = some rv ∧ W.cell? ⟨M, 3, none⟩ = some (.map (some b)) ∧ W.cell? ⟨M, 4, none⟩ = some ssv ∧ W.cell? ⟨M, 5, none⟩ = some esv ∧ W.cell? ⟨M, 6, none⟩ = some (.int .i64 root) ∧
    W.frozen? ⟨M, 4, none⟩ = false ∧ W.frozen? ⟨M, 5, none⟩ = false ∧ W.frozen? ⟨M, 6, none⟩ = false :=
  ⟨blk_lt h.blk, (blk_cell h.blk 0).trans rfl, (blk_cell h.blk 1).trans rfl, (blk_cell h.blk 2).trans rfl, (blk_cell h.blk 3).trans rfl, (blk_cell h.blk 4).trans rfl, (blk_cell h.blk 5).trans rfl, (blk_cell h.blk 6).trans rfl, blk_frozen h.blk 4, blk_frozen h.blk 5, blk_frozen h.blk 6⟩
theorem maker_cells {W : World} {M : Nat} {x0 x1 x2 x3 x4 x5 x6 : Value} (h : W.heap[M]? = some (.cells #[x0, x1, x2, x3, x4, x5, x6] 126 (0, 0))) :
    M < W.heap.size ∧ W.cell? ⟨M, 0, none⟩ = some x0 ∧ W.cell? ⟨M, 1, none⟩ = some x1 ∧ W.cell? ⟨M, 2, none⟩ = some x2 ∧ W.cell? ⟨M, 3, none⟩ = some x3 ∧ W.cell? ⟨M, 4, none⟩ = some x4 ∧ W.cell? ⟨M, 5, none⟩ = some x5 ∧ W.cell? ⟨M, 6, none⟩ = some x6 ∧
    W.frozen? ⟨M, 4, none⟩ = false ∧ W.frozen? ⟨M, 5, none⟩ = false ∧ W.frozen? ⟨M, 6, none⟩ = false :=
  ⟨blk_lt h, (blk_cell h 0).trans rfl, (blk_cell h 1).trans rfl, (blk_cell h 2).trans rfl, (blk_cell h 3).trans rfl, (blk_cell h 4).trans rfl, (blk_cell h 5).trans rfl, (blk_cell h 6).trans rfl, blk_frozen h 4, blk_frozen h 5, blk_frozen h 6⟩
theorem decl_out {W w' : World} {b : Nat} {m : List NEnt} {name : ByteArray} {place k r : Nat} {few : Bool} {e : Ending} (h : DeclPost W b m name place k r few e w') :
    (∃ code : Int, (code = 13 ∧ (lookN m name).isSome = true ∨ code = 16 ∧ (lookN m name).isSome = false ∧ few = false) ∧ e = .returned (.agg #[.int .i64 code, .int .i64 place]) ∧ Exc b W.heap.size W w') ∨
    ((lookN m name).isSome = false ∧ few = true ∧ e = .returned (.agg #[.int .i64 0, .int .i64 0]) ∧ MapAt w' b ((m ++ [(⟨name, k, r⟩ : NEnt)]).map entP) ∧ Exc b W.heap.size W w') := by
  unfold DeclPost at h
  cases hl : (lookN m name).isSome
  · rw [if_neg (by rw [hl]; decide)] at h
    cases few
    · rw [if_neg (by decide)] at h
      exact .inl ⟨16, .inr ⟨rfl, rfl, rfl⟩, h.1, .of_below h.2⟩
    · rw [if_pos rfl] at h
      exact .inr ⟨rfl, rfl, h.1, h.2.1, h.2.2⟩
  · rw [if_pos hl] at h
    exact .inl ⟨13, .inl ⟨rfl, rfl⟩, h.1, .of_below h.2⟩
def DeclS (m : List NEnt) (name : ByteArray) (place : Nat) (few : Bool) (code pl : Int) : Prop :=
  (code = 13 ∧ (lookN m name).isSome = true ∧ pl = place) ∨ (code = 16 ∧ (lookN m name).isSome = false ∧ few = false ∧ pl = place) ∨ (code = 0 ∧ (lookN m name).isSome = false ∧ few = true)
theorem declare_s (name : ByteArray) (place k r : Nat) (kd : Int) (hkd : ((k : Nat) : Int) = kd) (few : Bool) (W : World) {M b root : Nat} {sv ev rv ssv esv : Value} {m : List NEnt} (h : MAt W M b sv ev rv m ssv esv root) :
    Calls Tryz.prog 82 #[.pointer (some ⟨M, 0, none⟩), .string name, .int .i64 place, .agg #[.int .u8 kd, .int .i64 (r : Nat), .int .i64 0], .bool few] W fun e w' =>
      ∃ code pl : Int, e = .returned (.agg #[.int .i64 code, .int .i64 pl]) ∧ Exc b W.heap.size W w' ∧ DeclS m name place few code pl ∧ (code = 0 → MapAt w' b ((m ++ [(⟨name, k, r⟩ : NEnt)]).map entP)) := by
  subst hkd
  refine (declare_any W M b m sv ev rv ssv esv _ name place k r few h.blk h.map).mono ?_
  intro e w' hd
  rcases decl_out hd with ⟨code, h1, rfl, h3⟩ | ⟨h1, h2, rfl, h4, h5⟩
  · refine ⟨code, place, rfl, h3, ?_, ?_⟩
    · rcases h1 with ⟨h1, h2⟩ | ⟨h1, h2, h4⟩
      · exact .inl ⟨h1, h2, rfl⟩
      · exact .inr (.inl ⟨h1, h2, h4, rfl⟩)
    · intro h0
      rcases h1 with ⟨h1, h2⟩ | ⟨h1, h2, h4⟩ <;> omega
  · exact ⟨0, 0, rfl, h5, .inr (.inr ⟨rfl, h1, h2⟩), fun _ => h4⟩
theorem samong_still (a b : Int) (c : Bool) (hc : decide (0 ≤ a ∧ a < b) = c) (w : World) : Calls Tryz.prog 30 #[.int .i64 a, .int .i64 b] w fun e w' => e = .returned (.bool c) ∧ w' = w :=
  (samong_any a b c hc w).mono fun _ _ h => ⟨h.1, h.2.symm⟩
theorem drew_below {W W' : World} (h : Below W.drew.heap.size W.drew W') : Below W.heap.size W W' := (Below.refl _ W).drew.trans h
structure ChoRows (base : Nat) (W : World) (es : List (SCho × Value)) (ev : Value) : Prop where
  enums : W.ownsRow base 60 2 ev es.length (schosCells es)
  names : ∀ q ∈ es, W.ownsRow base 9 1 q.2 q.1.names.length (strsCells q.1.names)
theorem ChoRows.below {base : Nat} {W W' : World} {es : List (SCho × Value)} {ev : Value} (h : ChoRows base W es ev) (hb : Below W.heap.size W W') : ChoRows base W' es ev := ⟨row_keep hb h.enums, fun q hq => row_keep hb (h.names q hq)⟩
theorem ChoRows.base {base base' : Nat} {W : World} {es : List (SCho × Value)} {ev : Value} (h : ChoRows base W es ev) (hb : base' ≤ base) : ChoRows base' W es ev := ⟨ownsRow_base h.enums hb, fun q hq => ownsRow_base (h.names q hq) hb⟩
theorem ChoRows.ex2 {base R S : Nat} {W W' : World} {es : List (SCho × Value)} {ev : Value} (h : ChoRows base W es ev) (hb : Ex2 R S W.heap.size W W') (h1 : R < base) (h2 : S < base) : ChoRows base W' es ev := ⟨hb.rowB h.enums h1 h2, fun q hq => hb.rowB (h.names q hq) h1 h2⟩
end Go.Proofs.YtleclhnlojalbaaGreatDoor
namespace Go.Proofs.YtleclhnlojalbaaGreatDoor
open Go.ChangeShapes Go.WideShapes Go.ChangeAt Go.RowKit

theorem arr_litEn (t : Array Value) (h : t.size = 90) : t = ((List.range 90).map fun n => t.getD n undef).toArray := by
  apply Array.ext'
  apply List.ext_getElem?
  intro i
  by_cases hi : i < 90
  · have h' : i < t.size := by omega
    simp [hi, h', Array.getD]
  · have h' : ¬ i < t.size := by omega
    simp [hi, h']
set_option maxRecDepth 100000 in
theorem lit_allEn (u : Nat → Value) : ((List.range 90).map u).toArray = #[u 0, u 1, u 2, u 3, u 4, u 5, u 6, u 7, u 8, u 9, u 10, u 11, u 12, u 13, u 14, u 15, u 16, u 17, u 18, u 19, u 20, u 21, u 22, u 23, u 24, u 25, u 26, u 27, u 28, u 29, u 30, u 31, u 32, u 33, u 34, u 35, u 36, u 37, u 38, u 39, u 40, u 41, u 42, u 43, u 44, u 45, u 46, u 47, u 48, u 49, u 50, u 51, u 52, u 53, u 54, u 55, u 56, u 57, u 58, u 59, u 60, u 61, u 62, u 63, u 64, u 65, u 66, u 67, u 68, u 69, u 70, u 71, u 72, u 73, u 74, u 75, u 76, u 77, u 78, u 79, u 80, u 81, u 82, u 83, u 84, u 85, u 86, u 87, u 88, u 89] := rfl
noncomputable def loopsEn (n : Nat) : Code := ((Tryz.f58.body.map loopsOf).getD []).getD n .skip
structure EnFr (M R T : Nat) (a : Option Addr) (n e k : Nat) (b : Option Addr) (m f j : Nat) (c : Act) : Prop where
  df : c.defers = []
  sz : c.tmps.size = 90
  s0 : c.tmps.getD 0 undef = .pointer (some ⟨M, 0, none⟩)
  s2 : c.tmps.getD 2 undef = .pointer (some ⟨R, 0, none⟩)
  s8 : c.tmps.getD 8 undef = .pointer (some ⟨T, 0, none⟩)
  s15 : c.tmps.getD 15 undef = .slice a n e
  s16 : c.tmps.getD 16 undef = .int .i64 n
  s17 : c.tmps.getD 17 undef = .int .i64 k
  s61 : c.tmps.getD 61 undef = .slice b m f
  s62 : c.tmps.getD 62 undef = .int .i64 m
  s63 : c.tmps.getD 63 undef = .int .i64 j
set_option maxRecDepth 100000 in
theorem EnFr.lit {M R T : Nat} {a : Option Addr} {n e k : Nat} {b : Option Addr} {m f j : Nat} {c : Act} (h : EnFr M R T a n e k b m f j c) : ∃ u : Nat → Value, c = ⟨#[.pointer (some ⟨M, 0, none⟩), u 1, .pointer (some ⟨R, 0, none⟩), u 3, u 4, u 5, u 6, u 7, .pointer (some ⟨T, 0, none⟩), u 9, u 10, u 11, u 12, u 13, u 14, .slice a n e, .int .i64 n, .int .i64 k, u 18, u 19, u 20, u 21, u 22, u 23, u 24, u 25, u 26, u 27, u 28, u 29, u 30, u 31, u 32, u 33, u 34, u 35, u 36, u 37, u 38, u 39, u 40, u 41, u 42, u 43, u 44, u 45, u 46, u 47, u 48, u 49, u 50, u 51, u 52, u 53, u 54, u 55, u 56, u 57, u 58, u 59, u 60, .slice b m f, .int .i64 m, .int .i64 j, u 64, u 65, u 66, u 67, u 68, u 69, u 70, u 71, u 72, u 73, u 74, u 75, u 76, u 77, u 78, u 79, u 80, u 81, u 82, u 83, u 84, u 85, u 86, u 87, u 88, u 89], []⟩ := by
  obtain ⟨hd, hs, h0, h2, h8, h15, h16, h17, h61, h62, h63⟩ := h
  refine ⟨fun n => c.tmps.getD n undef, ?_⟩
  obtain ⟨t, d⟩ := c
  simp only at hd hs h0 h2 h8 h15 h16 h17 h61 h62 h63 ⊢
  subst hd
  congr 1
  refine (arr_litEn t hs).trans ?_
  rw [lit_allEn]
  simp only [h0, h2, h8, h15, h16, h17, h61, h62, h63]
structure EnO (M R : Nat) (a : Option Addr) (n e k : Nat) (c : Act) : Prop where
  df : c.defers = []
  sz : c.tmps.size = 90
  s0 : c.tmps.getD 0 undef = .pointer (some ⟨M, 0, none⟩)
  s2 : c.tmps.getD 2 undef = .pointer (some ⟨R, 0, none⟩)
  s15 : c.tmps.getD 15 undef = .slice a n e
  s16 : c.tmps.getD 16 undef = .int .i64 n
  s17 : c.tmps.getD 17 undef = .int .i64 k
set_option maxRecDepth 100000 in
theorem EnO.lit {M R : Nat} {a : Option Addr} {n e k : Nat} {c : Act} (h : EnO M R a n e k c) : ∃ u : Nat → Value, c = ⟨#[.pointer (some ⟨M, 0, none⟩), u 1, .pointer (some ⟨R, 0, none⟩), u 3, u 4, u 5, u 6, u 7, u 8, u 9, u 10, u 11, u 12, u 13, u 14, .slice a n e, .int .i64 n, .int .i64 k, u 18, u 19, u 20, u 21, u 22, u 23, u 24, u 25, u 26, u 27, u 28, u 29, u 30, u 31, u 32, u 33, u 34, u 35, u 36, u 37, u 38, u 39, u 40, u 41, u 42, u 43, u 44, u 45, u 46, u 47, u 48, u 49, u 50, u 51, u 52, u 53, u 54, u 55, u 56, u 57, u 58, u 59, u 60, u 61, u 62, u 63, u 64, u 65, u 66, u 67, u 68, u 69, u 70, u 71, u 72, u 73, u 74, u 75, u 76, u 77, u 78, u 79, u 80, u 81, u 82, u 83, u 84, u 85, u 86, u 87, u 88, u 89], []⟩ := by
  obtain ⟨hd, hs, h0, h2, h15, h16, h17⟩ := h
  refine ⟨fun n => c.tmps.getD n undef, ?_⟩
  obtain ⟨t, d⟩ := c
  simp only at hd hs h0 h2 h15 h16 h17 ⊢
  subst hd
  congr 1
  refine (arr_litEn t hs).trans ?_
  rw [lit_allEn]
  simp only [h0, h2, h15, h16, h17]
end Go.Proofs.YtleclhnlojalbaaGreatDoor
namespace Go.Proofs.YtleclhnlojalbaaGreatDoor
open Go.ChangeShapes Go.WideShapes Go.ChangeAt Go.RowKit Go.Shelf

set_option maxRecDepth 100000 in
set_option maxHeartbeats 4000000 in
theorem names_wp {Q : Exit → Act → World → Prop} {c : Act} {w0 : World} {M R T n e k nc rb : Nat} {a na : Option Addr} {name : ByteArray} {l : List Tok} (hc : EnFr M R T a n e k na l.length nc 0 c)
    (hT : w0.heap[T]? = some (.cells #[.string name, .slice none 0 0] 60 (0, 0))) (hrow : ∀ W, Below T w0 W → W.ownsRow rb 109 3 (.slice na l.length nc) l.length (toksCells l)) (hsz : ∀ t ∈ l, t.text.length ≤ 100) (hlen : l.length ≤ 100)
    (hQ : ∀ c' w' nv, EnFr M R T a n e k na l.length nc l.length c' → Below T w0 w' → w'.heap[T]? = some (.cells #[.string name, nv] 60 (0, 0)) → w'.ownsRow (T + 1) 9 1 nv l.length (strsCells (l.map tokT)) → Q (.exit 2) c' w') :
    Code.wp Tryz.prog (Code.loop (loopsEn 1)) Q c w0 := by
  refine wp_loop (fun c' w' => ∃ (j : Nat) (nv : Value), j ≤ l.length ∧ EnFr M R T a n e k na l.length nc j c' ∧ Below T w0 w' ∧ w'.heap[T]? = some (.cells #[.string name, nv] 60 (0, 0)) ∧ w'.ownsRow (T + 1) 9 1 nv j (strsCells ((l.take j).map tokT)))
    (fun c' _ => l.length - (intOf (c'.tmps.getD 63 undef)).toNat) ⟨0, _, Nat.zero_le _, hc, Below.refl _ _, hT, World.ownsRow_nil _ _ _ _⟩ ?_
  clear hc hT
  rintro c wr ⟨j, nv, hj, hc, hb, hC, hr⟩
  have HB := Lib.hid hb
  have HQ := Lib.hid hQ
  have HCB := Lib.hid hC
  have HROW := Lib.hid hr
  have hfew := row_few (hrow w0 (Below.refl _ _))
  obtain ⟨u, rfl⟩ := hc.lit
  obtain ⟨nva, nvc, rfl⟩ := ownsRow_form hr
  obtain ⟨hCl, c0', c1', f0, f1⟩ := blk2 hC
  obtain ⟨i0, hi0, hzz0, hzz1, hzz2⟩ := info_parts str_info
  have I1 := Lib.hid hi0
  have I2 := Lib.hid hzz0
  have I3 := Lib.hid hzz1
  have I4 := Lib.hid hzz2
  clear hi0 hzz0 hzz1 hzz2
  conv => arg 2; whnf
  by_cases hjl : j < l.length
  · obtain ⟨gn, cn, hvn, hcn, hgn, hcelln⟩ := row_el tokCells 3 (fun _ => rfl) (hrow _ hb) j hjl
    obtain ⟨rfl, rfl⟩ := slice_inj hvn
    have x0 : wr.cell? ⟨gn, j * 3, none⟩ = some (.int .i64 l[j].kind) := hcelln 0 (by omega)
    have x1 : wr.cell? ⟨gn, j * 3 + 1, none⟩ = some (.string (tokT l[j])) := hcelln 1 (by omega)
    have x2 : wr.cell? ⟨gn, j * 3 + 2, none⟩ = some (.int .i64 l[j].place) := hcelln 2 (by omega)
    have hts : (tokT l[j]).size ≤ 281474976710656 := by
      have := hsz _ (List.getElem_mem hjl)
      rw [tokT, strOfNums_size]
      omega
    have HTK := Lib.hid (take_snoc_map tokT l j hjl)
    generalize l[j] = t at *
    have HTS := Lib.hid hts
    have hbt : Below wr.heap.size wr (wr.alloc (.cells #[.int .i64 t.kind, .string (tokT t), .int .i64 t.place] 109)) := (Below.refl _ _).alloc (Nat.le_refl _) _
    have HBT := Lib.hid hbt
    have HTN := Lib.hid (heap_alloc_new wr (.cells #[.int .i64 t.kind, .string (tokT t), .int .i64 t.place] 109))
    have HCT := Lib.hid (blk_below hC hbt hCl)
    have hji : (j : Int) < l.length := by omega
    clear hc hQ hb hC hr hrow hsz hts hvn hcelln hbt
    go_upto_region 15 with (fail)
    generalize wr.alloc (.cells #[.int .i64 t.kind, .string (tokT t), .int .i64 t.place] 109) = Wt at *
    clear x0 x1 x2 c0' c1' f0 f1
    obtain ⟨_, z0, z1, z2, _⟩ := blk3 HTN.out
    obtain ⟨hCt, c0', c1', f0, f1⟩ := blk2 HCT.out
    have hnt : wr.heap.size < Wt.heap.size := blk_lt HTN.out
    have hmost : j + 1 ≤ 9223372036854775807 := by omega
    refine wp_region_noPanic ?_
    go_region_law (first | (go_simp; go_at_call 85; (with_reducible refine (clone_any (tokT t) Wt.drew HTS.out).mono ?_); rintro e Wc ⟨rfl, hbc⟩; have hBC : Below Wt.heap.size Wt Wc := drew_below hbc; have HBC := Lib.hid hBC; obtain ⟨_, q0, q1, q2, q3⟩ := blk2 (blk_below HCT.out hBC hCt); have q5 : Wc.cell? ⟨wr.heap.size, 1, none⟩ = some (.string (tokT t)) := (hBC.cell (p := ⟨wr.heap.size, 1, none⟩) hnt).trans z1; clear hbc hBC) | (refine step_append_lies _ rfl (.tmp 68) (.tmp 72) 36 rfl (T + 1) 9 i0 _ 1 16 Tryz.underlying36 I1.out I2.out I3.out I4.out rfl (by decide) _ j (strsCells ((l.take j).map tokT)) rfl (row_keep (HBT.out.trans ((HBC.out.alloc HBC.out.size _).mono HBT.out.size)) HROW.out) _ 1 1 [.string (tokT t)] rfl rfl (World.news_of_block (heap_alloc_new _ _)) (by intro u hu; rw [List.mem_singleton.1 hu]; rfl) (by decide) (by unfold maxLen; omega) (by omega) (by simp; omega) _ rfl ?_; rintro g4 c4 W8 hown4 hg4 hat4 hlt4; obtain ⟨s1, s2, s3, s4⟩ := step2 HB.out HCB.out HROW.out (HBT.out.trans ((HBC.out.alloc HBC.out.size _).mono HBT.out.size)) hg4 hown4; obtain ⟨_, d0, d1, e0, e1⟩ := blk2 s4; have S1 := Lib.hid s1; have S2 := Lib.hid s2; have S3 := Lib.hid s3; clear s1 s2 s3 s4 hown4 hg4 hat4))
    all_goals
      refine NoPanic.normal ?_
      simp only [Exit.inBlock, Exit.then]
      apply_assumption
      go_wp2
      refine ⟨⟨j + 1, _, by omega, ⟨rfl, rfl, rfl, rfl, rfl, rfl, rfl, rfl, rfl, rfl, rfl⟩, S1.out, S2.out, by rw [HTK.out, strsCells_snoc]; exact S3.out⟩, ?_⟩
      show l.length - (intOf (.int .i64 ((j : Int) + 1))).toNat < l.length - (intOf (.int .i64 (j : Int))).toNat
      simp [intOf]; omega
  · obtain rfl : j = l.length := by omega
    clear hc hQ hb hC hr hrow hsz
    go_wp2
    exact HQ.out _ _ _ ⟨rfl, rfl, rfl, rfl, rfl, rfl, rfl, rfl, rfl, rfl, rfl⟩ HB.out HCB.out (by have h := HROW.out; rw [List.take_length] at h; exact h)
end Go.Proofs.YtleclhnlojalbaaGreatDoor
namespace Go.Proofs.YtleclhnlojalbaaGreatDoor
open Go.ChangeShapes Go.WideShapes Go.ChangeAt Go.RowKit Go.Shelf

structure SchAt (A : Nat) (W : World) (ss : List (SRec × Value)) (es : List (SCho × Value)) (sv ev : Value) (rt : Nat) : Prop where
  blk : W.heap[A]? = some (.cells #[sv, ev, .int .i64 rt] 32 (0, 0))
  rows : SchRows (A + 1) W ss es sv ev
theorem SchAt.below {A rt : Nat} {W W' : World} {ss : List (SRec × Value)} {es : List (SCho × Value)} {sv ev : Value} (h : SchAt A W ss es sv ev rt) (hb : Below W.heap.size W W') : SchAt A W' ss es sv ev rt :=
  ⟨blk_below h.blk hb (blk_lt h.blk), h.rows.below hb⟩
theorem mem_snc {α : Type} {l : List α} {a p : α} (h : p ∈ l ++ [a]) : p ∈ l ∨ p = a := by
  rcases List.mem_append.1 h with h | h
  · exact .inl h
  · exact .inr (List.mem_singleton.1 h)
theorem SchAt.enum {A rt : Nat} {W W4 : World} {ss : List (SRec × Value)} {es : List (SCho × Value)} {sv ev : Value} (h : SchAt A W ss es sv ev rt) {q : SCho × Value} (hq : W.ownsRow (A + 1) 9 1 q.2 q.1.names.length (strsCells q.1.names))
    (hg : W.grownBy W4 ev.ownBlock) {ev' : Value} (hown : W4.ownsRow (A + 1) 60 2 ev' (es.length + 1) (schosCells es ++ schoCells q)) : SchAt A (W4.setCell ⟨A, 1, none⟩ ev') ss (es ++ [q]) sv ev' rt := by
  have hA : ∀ k, ev.ownBlock = some k → A ≠ k := fun k hk => by have := (ownsRow_lt h.rows.enums k hk).1; omega
  have hb4 : W4.heap[A]? = some (.cells #[sv, ev, .int .i64 rt] 32 (0, 0)) := (hg.block A (blk_lt h.blk) (fun e => hA A e.symm rfl)).trans h.blk
  have key : ∀ {e : TypeId} {s : Nat} {v : Value} {n : Nat} {xs : List Value}, W.ownsRow (A + 1) e s v n xs → e ≠ 60 → (W4.setCell ⟨A, 1, none⟩ ev').ownsRow (A + 1) e s v n xs := fun ho hne =>
    ownsRow_setCell_below (rws_other hg ho (rws_ne ho h.rows.enums hne)) (Nat.lt_succ_self A) _
  refine ⟨(blk_set hb4 1 ev').trans rfl, key h.rows.structs (by decide), ?_, fun r hr => key (h.rows.fields r hr) (by decide), fun r hr => ?_⟩
  · rw [schosCells_snoc, List.length_append]
    exact ownsRow_setCell_below hown (Nat.lt_succ_self A) _
  · rcases mem_snc hr with hr | rfl
    · exact key (h.rows.names r hr) (by decide)
    · exact key hq (by decide)
theorem SchAt.strct {A rt : Nat} {W W4 : World} {ss : List (SRec × Value)} {es : List (SCho × Value)} {sv ev : Value} (h : SchAt A W ss es sv ev rt) {q : SRec × Value} (hq : W.ownsRow (A + 1) 55 5 q.2 q.1.fields.length (sfldsCells q.1.fields))
    (hg : W.grownBy W4 sv.ownBlock) {sv' : Value} (hown : W4.ownsRow (A + 1) 58 2 sv' (ss.length + 1) (srecsCells ss ++ srecCells q)) : SchAt A (W4.setCell ⟨A, 0, none⟩ sv') (ss ++ [q]) es sv' ev rt := by
  have hA : ∀ k, sv.ownBlock = some k → A ≠ k := fun k hk => by have := (ownsRow_lt h.rows.structs k hk).1; omega
  have hb4 : W4.heap[A]? = some (.cells #[sv, ev, .int .i64 rt] 32 (0, 0)) := (hg.block A (blk_lt h.blk) (fun e => hA A e.symm rfl)).trans h.blk
  have key : ∀ {e : TypeId} {s : Nat} {v : Value} {n : Nat} {xs : List Value}, W.ownsRow (A + 1) e s v n xs → e ≠ 58 → (W4.setCell ⟨A, 0, none⟩ sv').ownsRow (A + 1) e s v n xs := fun ho hne =>
    ownsRow_setCell_below (rws_other hg ho (rws_ne ho h.rows.structs hne)) (Nat.lt_succ_self A) _
  refine ⟨(blk_set hb4 0 sv').trans rfl, ?_, key h.rows.enums (by decide), fun r hr => ?_, fun r hr => key (h.rows.names r hr) (by decide)⟩
  · rw [srecsCells_snoc, List.length_append]
    exact ownsRow_setCell_below hown (Nat.lt_succ_self A) _
  · rcases mem_snc hr with hr | rfl
    · exact key (h.rows.fields r hr) (by decide)
    · exact key hq (by decide)
structure MKeeps (w : World) (b : Nat) (x0 x1 : Value) (rt : Nat) (tree : Bool) (W : World) : Prop where
  hb : b = w.heap.size
  box : W.heap[b]? = some (.cells #[x0, x1, .int .u8 rt, .bool tree] 27 (0, 0))
  res : W.heap[b + 1]? = some (.cells #[.slice none 0 0, .slice none 0 0, .int .i64 0] 32 (0, 0))
  bel : Below b w W
theorem MKeeps.below {w W W' : World} {x0 x1 : Value} {b rt B : Nat} {tree : Bool} (h : MKeeps w b x0 x1 rt tree W) (hb : Below B W W') (hB : b + 2 ≤ B) : MKeeps w b x0 x1 rt tree W' :=
  ⟨h.hb, blk_below h.box hb (by omega), blk_below h.res hb (by omega), h.bel.trans (hb.mono (by omega))⟩
theorem bel_app {A : Nat} {W W2 W4 : World} {row : Option Nat} (h2 : Below W.heap.size W W2) (hA : A < W.heap.size) (hg : W2.grownBy W4 row) (hr : ∀ k, row = some k → A ≤ k) (i : Nat) (v : Value) : Below A W (W4.setCell ⟨A, i, none⟩ v) :=
  ((h2.mono (Nat.le_of_lt hA)).grown hg (by have := h2.size; omega) hr).setCell (p := ⟨A, i, none⟩) (Nat.le_refl _) v
set_option maxRecDepth 100000 in
set_option maxHeartbeats 4000000 in
theorem enums_wp {Q : Exit → Act → World → Prop} {c : Act} {w w0 : World} {p : Plan} {a0 a1 : Option Addr} {n0 c0 n1 c1 b rt : Nat} (hp : IsPlan w p a0 n0 c0 a1 n1 c1) (h8 : n0 ≤ 8) (hc : FrA b 0 c)
    (hk : MKeeps w b (.slice a0 n0 c0) (.slice a1 n1 c1) p.root p.tree w0) (hs : SchAt (b + 2) w0 [] [] (.slice none 0 0) (.slice none 0 0) rt)
    (hQ : ∀ c' w' es ev, FrA b n0 c' → MKeeps w b (.slice a0 n0 c0) (.slice a1 n1 c1) p.root p.tree w' → SchAt (b + 2) w' [] es (.slice none 0 0) ev rt → es.map Prod.fst = chosP p n0 → Q (.exit 0) c' w') :
    Code.wp Tryz.prog (Code.loop (madeLoop 0)) Q c w0 := by
  refine wp_loop (fun c' w' => ∃ (i : Nat) (es : List (SCho × Value)) (ev : Value), i ≤ n0 ∧ FrA b i c' ∧ MKeeps w b (.slice a0 n0 c0) (.slice a1 n1 c1) p.root p.tree w' ∧ SchAt (b + 2) w' [] es (.slice none 0 0) ev rt ∧ es.map Prod.fst = chosP p i)
    (fun c' _ => n0 - (intOf (c'.tmps.getD 5 undef)).toNat) ⟨0, [], _, Nat.zero_le _, hc, hk, hs, rfl⟩ ?_
  clear hc hk hs
  rintro c wr ⟨i, es, ev, hi, hc, hk, hs, hes⟩
  have HP := Lib.hid hp
  have HQ := Lib.hid hQ
  have HK := Lib.hid hk
  have HS := Lib.hid hs
  have HES := Lib.hid hes
  have hesl : es.length = i := by have := congrArg List.length hes; rw [chosP_length] at this; simpa using this
  obtain ⟨u, rfl⟩ := fra_lit hc
  have y0 := (blk_cell hk.box 0).trans rfl
  have hbl : b + 2 < wr.heap.size := blk_lt hs.blk
  clear hc hQ hk hs hp hes
  conv => arg 2; whnf
  by_cases hlt : i < n0
  · obtain ⟨hz2, B, off, rfl, hB0, hz⟩ := HP.out.e_at i hlt
    have hB : B < b := by rw [HK.out.hb]; exact hB0
    have HNS : Hid ((choP p i).names = valsL (p.enums.getD i 0 % 32 + 1)) := Lib.hid rfl
    generalize p.enums.getD i 0 = z at *
    have HESL := Lib.hid hesl
    have hesl2 : es.length ≤ 8 := by omega
    clear hesl
    have hzr := (HK.out.bel.cell (p := ⟨B, off + i, none⟩) hB).trans hz
    have kc := one_str
    have hsz : ¬ 9223372036854775807 < 1 + (strOfNums [97 + (i : Int)]).size := by rw [strOfNums_size]; simp
    obtain ⟨hb2, hB1, hB2⟩ := two_start wr #[.int .u8 (97 + (i : Int))] #[.string (enumName i), .slice none 0 0] 5 60
    have hzr2 := (hb2.cell (p := ⟨B, off + i, none⟩) (by show B < _; omega)).trans hzr
    have HB2 := Lib.hid hb2
    have HBB := Lib.hid hB2
    have HZR2 := Lib.hid hzr2
    have HZ2 := Lib.hid hz2
    have HBX := Lib.hid (blk_below HK.out.box hb2 (by omega))
    clear hz hzr hb2 hB1 hB2 hzr2 hB0
    go_wp2_with fail
    refine vals_wp (C := wr.heap.size + 1) (z := z) (nm := .string (enumName i)) ⟨rfl, rfl, rfl, rfl, rfl, rfl, rfl, rfl, rfl⟩ HBX.out (by omega) (by omega) HZR2.out HZ2.out hlt HBB.out ?_
    intro c2 w2 nv hf hbel hC2 hrow2
    obtain ⟨nva, nvc, rfl⟩ := ownsRow_form hrow2
    have hb3 : Below wr.heap.size wr w2 := HB2.out.trans (hbel.mono (by omega))
    have hs2 := HS.out.below hb3
    have HS2 := Lib.hid hs2
    have HK2 := Lib.hid (HK.out.below hb3 (by omega))
    have HROW := Lib.hid hrow2
    obtain ⟨_, z0, z1, z2, f0, f1, f2⟩ := blk3 hs2.blk
    obtain ⟨hCl, d0, d1, _⟩ := blk2 hC2
    obtain ⟨eva, evc, rfl⟩ := ownsRow_form hs2.rows.enums
    obtain ⟨i0, hi0, hzz0, hzz1, hzz2⟩ := info_parts scho_info
    have I1 := Lib.hid hi0
    have I2 := Lib.hid hzz0
    have I3 := Lib.hid hzz1
    have I4 := Lib.hid hzz2
    have hbs : b + 2 < w2.heap.size := blk_lt hs2.blk
    have HBN := Lib.hid (heap_alloc_new w2 (.cells #[.string (enumName i), .slice nva (z % 32 + 1) nvc] 60))
    have HBA := Lib.hid ((Below.refl w2.heap.size w2).alloc (Nat.le_refl _) (.cells #[.string (enumName i), .slice nva (z % 32 + 1) nvc] 60))
    obtain ⟨u2, rfl⟩ := frb_lit hf
    clear hf hbel hC2 hrow2 hb3 hs2 hi0 hzz0 hzz1 hzz2 HS HK y0 kc hsz hz2
    simp only [Exit.inBlock, Exit.then]
    apply_assumption
    go_wp2_with (at_builtin; refine wpList_append_own _ rfl (.tmp 81) (.tmp 83) 30 rfl (b + 2 + 1) 60 i0 _ 2 40 Tryz.underlying30 I1.out I2.out I3.out I4.out rfl (by decide) _ es.length (schosCells es) rfl (row_keep HBA.out HS2.out.rows.enums) _ 1 1 [.string (enumName i), .slice nva (z % 32 + 1) nvc] rfl rfl (World.news_of_block HBN.out) (by intro u hu; simp at hu; rcases hu with rfl | rfl <;> rfl) (by unfold maxLen; omega) (by omega) (by simp; omega) ?_; intro v4 W8 hown4 hg4 hx; clear hx; obtain ⟨a4, m4, rfl⟩ := ownsRow_form hown4; have s5 := SchAt.enum (q := (choP p i, .slice nva (z % 32 + 1) nvc)) (HS2.out.below HBA.out) (by have h := ownsRow_base (row_keep HBA.out HROW.out) (show b + 2 + 1 ≤ wr.heap.size + 1 + 1 by omega); show World.ownsRow _ _ _ _ _ (choP p i).names.length (strsCells (choP p i).names); rw [HNS.out, valsL_length]; exact h) hg4 hown4; have s4 : W8.heap[b + 2]? = some (.cells #[.slice none 0 0, .slice eva es.length evc, .int .i64 rt] 32 (0, 0)) := (hg4.block (b + 2) (by simp; omega) (fun e => by have := (ownsRow_lt HS2.out.rows.enums _ e.symm).1; omega)).trans (HS2.out.below HBA.out).blk; obtain ⟨_, p0, p1, p2, q0, q1, q2⟩ := blk3 s4; have S5 := Lib.hid s5; have S6 := Lib.hid (bel_app HBA.out hbs hg4 (fun k hk => by have := (ownsRow_lt HS2.out.rows.enums k hk).1; omega) 1 (.slice a4 (es.length + 1) m4)); clear s5 s4 hown4 hg4)
    refine ⟨⟨i + 1, _, _, by omega, ⟨rfl, rfl, rfl, rfl, rfl, rfl, rfl⟩, HK2.out.below S6.out (Nat.le_refl _), S5.out, by rw [List.map_append, HES.out, chosP_succ]; rfl⟩, ?_⟩
    show n0 - (intOf (.int .i64 ((i : Int) + 1))).toNat < n0 - (intOf (.int .i64 (i : Int))).toNat
    simp [intOf]; omega
  · obtain rfl : i = n0 := by omega
    clear hlt
    go_wp2
    exact HQ.out _ _ _ _ ⟨rfl, rfl, rfl, rfl, rfl, rfl, rfl⟩ HK.out HS.out HES.out
end Go.Proofs.YtleclhnlojalbaaGreatDoor
