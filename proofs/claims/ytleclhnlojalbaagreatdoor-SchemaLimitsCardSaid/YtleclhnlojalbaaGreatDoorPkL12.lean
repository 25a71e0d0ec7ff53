/-
  The document's own parser: name. Conditions: those that each theorem names.
-/
import Derived.Test.YtleclhnlojalbaaGreatDoorPkL8
import Derived.Test.YtleclhnlojalbaaGreatDoorPkL9
import Derived.Deep.RegionWith
import Derived.Deep.Cut
namespace Go.Proofs.YtleclhnlojalbaaGreatDoor
open Go.ChangeShapes Go.WideShapes Go.ChangeAt Go.RowKit

theorem arr_litEn (t : Array Value) (h : t.size = 90) : t = ((List.range 90).map fun n => t.getD n undef).toArray := by
  apply Array.ext'
  apply List.ext_getElem?
  intro i
  by_cases hi : i < 90
  · have h' : i < t.size := by omega
    simp [hi, h', Array.getD]
  · have h' : ¬ i < t.size := by omega
    simp [hi, h']
set_option maxRecDepth 100000 in
theorem lit_allEn (u : Nat → Value) : ((List.range 90).map u).toArray = #[u 0, u 1, u 2, u 3, u 4, u 5, u 6, u 7, u 8, u 9, u 10, u 11, u 12, u 13, u 14, u 15, u 16, u 17, u 18, u 19, u 20, u 21, u 22, u 23, u 24, u 25, u 26, u 27, u 28, u 29, u 30, u 31, u 32, u 33, u 34, u 35, u 36, u 37, u 38, u 39, u 40, u 41, u 42, u 43, u 44, u 45, u 46, u 47, u 48, u 49, u 50, u 51, u 52, u 53, u 54, u 55, u 56, u 57, u 58, u 59, u 60, u 61, u 62, u 63, u 64, u 65, u 66, u 67, u 68, u 69, u 70, u 71, u 72, u 73, u 74, u 75, u 76, u 77, u 78, u 79, u 80, u 81, u 82, u 83, u 84, u 85, u 86, u 87, u 88, u 89] := rfl
noncomputable def loopsEn (n : Nat) : Code := ((Tryz.f58.body.map loopsOf).getD []).getD n .skip
structure EnFr (M R T : Nat) (a : Option Addr) (n e k : Nat) (b : Option Addr) (m f j : Nat) (c : Act) : Prop where
  df : c.defers = []
  sz : c.tmps.size = 90
  s0 : c.tmps.getD 0 undef = .pointer (some ⟨M, 0, none⟩)
  s2 : c.tmps.getD 2 undef = .pointer (some ⟨R, 0, none⟩)
  s8 : c.tmps.getD 8 undef = .pointer (some ⟨T, 0, none⟩)
  s15 : c.tmps.getD 15 undef = .slice a n e
  s16 : c.tmps.getD 16 undef = .int .i64 n
  s17 : c.tmps.getD 17 undef = .int .i64 k
  s61 : c.tmps.getD 61 undef = .slice b m f
  s62 : c.tmps.getD 62 undef = .int .i64 m
  s63 : c.tmps.getD 63 undef = .int .i64 j
set_option maxRecDepth 100000 in
theorem EnFr.lit {M R T : Nat} {a : Option Addr} {n e k : Nat} {b : Option Addr} {m f j : Nat} {c : Act} (h : EnFr M R T a n e k b m f j c) : ∃ u : Nat → Value, c = ⟨#[.pointer (some ⟨M, 0, none⟩), u 1, .pointer (some ⟨R, 0, none⟩), u 3, u 4, u 5, u 6, u 7, .pointer (some ⟨T, 0, none⟩), u 9, u 10, u 11, u 12, u 13, u 14, .slice a n e, .int .i64 n, .int .i64 k, u 18, u 19, u 20, u 21, u 22, u 23, u 24, u 25, u 26, u 27, u 28, u 29, u 30, u 31, u 32, u 33, u 34, u 35, u 36, u 37, u 38, u 39, u 40, u 41, u 42, u 43, u 44, u 45, u 46, u 47, u 48, u 49, u 50, u 51, u 52, u 53, u 54, u 55, u 56, u 57, u 58, u 59, u 60, .slice b m f, .int .i64 m, .int .i64 j, u 64, u 65, u 66, u 67, u 68, u 69, u 70, u 71, u 72, u 73, u 74, u 75, u 76, u 77, u 78, u 79, u 80, u 81, u 82, u 83, u 84, u 85, u 86, u 87, u 88, u 89], []⟩ := by
  obtain ⟨hd, hs, h0, h2, h8, h15, h16, h17, h61, h62, h63⟩ := h
  refine ⟨fun n => c.tmps.getD n undef, ?_⟩
  obtain ⟨t, d⟩ := c
  simp only at hd hs h0 h2 h8 h15 h16 h17 h61 h62 h63 ⊢
  subst hd
  congr 1
  refine (arr_litEn t hs).trans ?_
  rw [lit_allEn]
  simp only [h0, h2, h8, h15, h16, h17, h61, h62, h63]
structure EnO (M R : Nat) (a : Option Addr) (n e k : Nat) (c : Act) : Prop where
  df : c.defers = []
  sz : c.tmps.size = 90
  s0 : c.tmps.getD 0 undef = .pointer (some ⟨M, 0, none⟩)
  s2 : c.tmps.getD 2 undef = .pointer (some ⟨R, 0, none⟩)
  s15 : c.tmps.getD 15 undef = .slice a n e
  s16 : c.tmps.getD 16 undef = .int .i64 n
  s17 : c.tmps.getD 17 undef = .int .i64 k
set_option maxRecDepth 100000 in
theorem EnO.lit {M R : Nat} {a : Option Addr} {n e k : Nat} {c : Act} (h : EnO M R a n e k c) : ∃ u : Nat → Value, c = ⟨#[.pointer (some ⟨M, 0, none⟩), u 1, .pointer (some ⟨R, 0, none⟩), u 3, u 4, u 5, u 6, u 7, u 8, u 9, u 10, u 11, u 12, u 13, u 14, .slice a n e, .int .i64 n, .int .i64 k, u 18, u 19, u 20, u 21, u 22, u 23, u 24, u 25, u 26, u 27, u 28, u 29, u 30, u 31, u 32, u 33, u 34, u 35, u 36, u 37, u 38, u 39, u 40, u 41, u 42, u 43, u 44, u 45, u 46, u 47, u 48, u 49, u 50, u 51, u 52, u 53, u 54, u 55, u 56, u 57, u 58, u 59, u 60, u 61, u 62, u 63, u 64, u 65, u 66, u 67, u 68, u 69, u 70, u 71, u 72, u 73, u 74, u 75, u 76, u 77, u 78, u 79, u 80, u 81, u 82, u 83, u 84, u 85, u 86, u 87, u 88, u 89], []⟩ := by
  obtain ⟨hd, hs, h0, h2, h15, h16, h17⟩ := h
  refine ⟨fun n => c.tmps.getD n undef, ?_⟩
  obtain ⟨t, d⟩ := c
  simp only at hd hs h0 h2 h15 h16 h17 ⊢
  subst hd
  congr 1
  refine (arr_litEn t hs).trans ?_
  rw [lit_allEn]
  simp only [h0, h2, h15, h16, h17]
end Go.Proofs.YtleclhnlojalbaaGreatDoor
namespace Go.Proofs.YtleclhnlojalbaaGreatDoor
open Go.ChangeShapes Go.WideShapes Go.ChangeAt Go.RowKit Go.Shelf

structure Dp (w : World) (P g c : Nat) (l r : List Tok) (F : Int × Nat) : Prop where
  blk : w.heap[P]? = some (.cells #[.slice (some ⟨g, 0, none⟩) l.length c, .int .i64 (l.length - r.length : Nat), .int .i64 F.1, .int .i64 F.2] 107 (0, 0))
  suf : l.drop (l.length - r.length) = r
  len : r.length ≤ l.length
  glt : g < w.heap.size
  gne : g ≠ P
  cells : ∀ k, k < l.length * 3 → w.cell? ⟨g, k, none⟩ = (toksCells l)[k]?
  cap : l.length ≤ c ∧ c ≤ maxLen
  ends : Ends r
  byt : ∀ t ∈ l, ∀ z ∈ t.text, 0 ≤ z ∧ z ≤ 255
  few : l.length ≤ 2048
theorem Dp.keep {w W : World} {P g c : Nat} {l r : List Tok} {F : Int × Nat} (h : Dp w P g c l r F) (hb : Below w.heap.size w W) : Dp W P g c l r F :=
  ⟨(hb.block P (blk_lt h.blk)).trans h.blk, h.suf, h.len, Nat.lt_of_lt_of_le h.glt hb.size, h.gne, fun k hk => (hb.cell (p := ⟨g, k, none⟩) h.glt).trans (h.cells k hk), h.cap, h.ends, h.byt, h.few⟩
theorem Dp.other {w W : World} {P X g c : Nat} {l r : List Tok} {F : Int × Nat} (h : Dp w P g c l r F) (hb : Exc X w.heap.size w W) (hP : P ≠ X) (hg : g ≠ X) : Dp W P g c l r F :=
  ⟨(hb.block P (blk_lt h.blk) hP).trans h.blk, h.suf, h.len, Nat.lt_of_lt_of_le h.glt hb.size, h.gne, fun k hk => (hb.cell (p := ⟨g, k, none⟩) h.glt hg).trans (h.cells k hk), h.cap, h.ends, h.byt, h.few⟩
theorem Dp.deep {w W : World} {P g c B : Nat} {l r : List Tok} {F : Int × Nat} (h : Dp w P g c l r F) (hb : Below B w W) (hP : P < B) (hg : g < B) : Dp W P g c l r F :=
  ⟨(hb.block P hP).trans h.blk, h.suf, h.len, Nat.lt_of_lt_of_le h.glt hb.size, h.gne, fun k hk => (hb.cell (p := ⟨g, k, none⟩) hg).trans (h.cells k hk), h.cap, h.ends, h.byt, h.few⟩
theorem Dp.alloc {w : World} {P g c : Nat} {l r : List Tok} {F : Int × Nat} (h : Dp w P g c l r F) (o : Obj) : Dp (w.alloc o) P g c l r F := h.keep ((Below.refl _ _).alloc (Nat.le_refl _) _)
theorem Dp.set3 {w : World} {P g c : Nat} {l r : List Tok} {F : Int × Nat} (h : Dp w P g c l r F) {X : Nat} (hP : P ≠ X) (hg : g ≠ X) (x y z : Value) : Dp (((w.setCell ⟨X, 0, none⟩ x).setCell ⟨X, 1, none⟩ y).setCell ⟨X, 2, none⟩ z) P g c l r F := h.other (exc_set3 w X x y z) hP hg
theorem Dp.set1 {w : World} {P g c : Nat} {l r : List Tok} {F : Int × Nat} (h : Dp w P g c l r F) {X : Nat} (hP : P ≠ X) (hg : g ≠ X) (i : Nat) (x : Value) : Dp (w.setCell ⟨X, i, none⟩ x) P g c l r F := h.other (exc_set w X i x) hP hg
theorem blk4 {w : World} {g : Nat} {x y z u : Value} {t : TypeId} (h : w.heap[g]? = some (.cells #[x, y, z, u] t (0, 0))) :
    g < w.heap.size ∧ w.cell? ⟨g, 0, none⟩ = some x ∧ w.cell? ⟨g, 1, none⟩ = some y ∧ w.cell? ⟨g, 2, none⟩ = some z ∧ w.cell? ⟨g, 3, none⟩ = some u ∧ w.frozen? ⟨g, 1, none⟩ = false ∧ w.frozen? ⟨g, 2, none⟩ = false ∧ w.frozen? ⟨g, 3, none⟩ = false :=
  ⟨blk_lt h, (blk_cell h 0).trans rfl, (blk_cell h 1).trans rfl, (blk_cell h 2).trans rfl, (blk_cell h 3).trans rfl, blk_frozen h 1, blk_frozen h 2, blk_frozen h 3⟩
theorem Dp.next {w : World} {P g c : Nat} {l r : List Tok} {F : Int × Nat} (h : Dp w P g c l r F) :
    l.length - r.length < l.length ∧ w.cell? ⟨g, (l.length - r.length) * 3, none⟩ = some (.int .i64 (hd r).kind) ∧ w.cell? ⟨g, (l.length - r.length) * 3 + 1, none⟩ = some (.string (strOfNums (hd r).text)) ∧ w.cell? ⟨g, (l.length - r.length) * 3 + 2, none⟩ = some (.int .i64 (hd r).place) :=
  tok_cell h.cells h.glt (Below.refl _ _) _ _ _ (h.suf.trans h.ends.cons)
theorem Dp.mem {w : World} {P g c : Nat} {l r : List Tok} {F : Int × Nat} (h : Dp w P g c l r F) : hd r ∈ l := by
  have h1 : ∀ q : List Tok, Ends q → hd q ∈ q := fun q hq => by
    cases q with
    | nil => exact hq.elim
    | cons t q => exact List.mem_cons_self
  have h2 := h1 r h.ends
  have h3 : ∀ x, x ∈ r → x ∈ l := fun x hx => List.mem_of_mem_drop (h.suf ▸ hx)
  exact h3 _ h2
theorem Dp.taken {w W : World} {P g c : Nat} {l r : List Tok} {F : Int × Nat} (h : Dp w P g c l r F) (h0 : (hd r).kind ≠ 0) (hb : Exc P w.heap.size w W)
    (hblk : W.heap[P]? = some (.cells #[.slice (some ⟨g, 0, none⟩) l.length c, .int .i64 (((l.length - r.length : Nat) : Int) + 1), .int .i64 F.1, .int .i64 F.2] 107 (0, 0))) : Dp W P g c l r.tail F := by
  have hl := h.ends.len
  have hl2 := h.len
  have e : l.length - r.tail.length = l.length - r.length + 1 := by omega
  refine ⟨?_, ?_, by omega, Nat.lt_of_lt_of_le h.glt hb.size, h.gne, fun k hk => (hb.cell (p := ⟨g, k, none⟩) h.glt h.gne).trans (h.cells k hk), h.cap, h.ends.tail h0, h.byt, h.few⟩
  · rw [hblk, e]
    rfl
  · rw [e, ← List.drop_drop, h.suf]
    cases r with
    | nil => exact h.ends.elim
    | cons t q => rfl
theorem Dp.faulted {w W : World} {P g c : Nat} {l r : List Tok} {F F' : Int × Nat} (h : Dp w P g c l r F) (hb : Exc P w.heap.size w W)
    (hblk : W.heap[P]? = some (.cells #[.slice (some ⟨g, 0, none⟩) l.length c, .int .i64 (l.length - r.length : Nat), .int .i64 F'.1, .int .i64 F'.2] 107 (0, 0))) : Dp W P g c l r F' :=
  ⟨hblk, h.suf, h.len, Nat.lt_of_lt_of_le h.glt hb.size, h.gne, fun k hk => (hb.cell (p := ⟨g, k, none⟩) h.glt h.gne).trans (h.cells k hk), h.cap, h.ends, h.byt, h.few⟩
set_option maxRecDepth 100000 in
theorem dhere_any (w : World) (P g c : Nat) (l r : List Tok) (F : Int × Nat) (h : Dp w P g c l r F) :
    Calls Tryz.prog 50 #[.pointer (some ⟨P, 0, none⟩)] w fun e w' => e = .returned (tokV (hd r)) ∧ Below w.heap.size w w' := by
  have hZ := heap_alloc_new w (.cells #[.int .i64 0, .string ⟨#[]⟩, .int .i64 0] 109)
  have HZ := Lib.hid hZ
  have hbA : Below w.heap.size w (w.alloc (.cells #[.int .i64 0, .string ⟨#[]⟩, .int .i64 0] 109)) := (Below.refl _ _).alloc (Nat.le_refl _) _
  have HB := Lib.hid hbA
  have h1 := h.keep hbA
  obtain ⟨hP, r0, r1, _⟩ := blk4 h1.blk
  obtain ⟨hk, x0, x1, x2⟩ := h1.next
  have hg := h1.glt
  have hlen := h.few
  clear hZ hbA h1 h
  unfold tokV
  generalize l.length - r.length = j at *
  generalize hd r = t at *
  go_enter Tryz.func50, Tryz.ntmps50
  go_upto_region 1 with (fail)
  generalize w.alloc (.cells #[.int .i64 0, .string ⟨#[]⟩, .int .i64 0] 109) = W1 at *
  obtain ⟨hz, z0, z1, z2, y0, y1, y2⟩ := blk3 HZ.out
  go_region_with (fail)
  all_goals
    go_wp2
    refine post_gen (fun Wf => Wf.heap[w.heap.size]? = some (.cells #[.int .i64 t.kind, .string (strOfNums t.text), .int .i64 t.place] 109 (0, 0)) ∧ Below w.heap.size w Wf) ⟨?_, ?_⟩ ?_
    · exact blk_set3 (w := W1) HZ.out _ _ _
    · exact (((HB.out.setCell (p := ⟨w.heap.size, 0, none⟩) (Nat.le_refl _) _).setCell (p := ⟨w.heap.size, 1, none⟩) (Nat.le_refl _) _).setCell (p := ⟨w.heap.size, 2, none⟩) (Nat.le_refl _) _).drew
    · rintro Wf ⟨e1, e2⟩
      obtain ⟨_, c0, c1, c2, _⟩ := blk3 e1
      exact bodyPost_ret (v := .agg #[.int .i64 t.kind, .string (strOfNums t.text), .int .i64 t.place]) (by simp [results, Tryz.results50, go_sem, c0, c1, c2]) rfl ⟨rfl, e2⟩
/-! ### where the parser is -/
inductive Sto where
  | go (r : List Tok) : Sto
  | fell (c : Int) (p : Nat) : Sto
def DpS (w : World) (P g c : Nat) (l : List Tok) : Sto → Prop
  | .go r => Dp w P g c l r (0, 0)
  | .fell c' p => c' ≠ 0 ∧ ∃ r, Dp w P g c l r (c', p)
def isS (k : Int) (s : List Int) : Sto → Bool
  | .go r => isT k s r
  | .fell _ _ => false
def Sto.step {α : Type} (f : List Tok → Res α) : Sto → Sto
  | .go r => match f r with
    | .ok _ r' => .go r'
    | .no c p => .fell c p
  | .fell c p => .fell c p
theorem DpS.form {w : World} {P g c : Nat} {l : List Tok} {st : Sto} (h : DpS w P g c l st) : ∃ r F, Dp w P g c l r F ∧ ((st = .go r ∧ F = (0, 0)) ∨ (st = .fell F.1 F.2 ∧ F.1 ≠ 0)) := by
  cases st with
  | go r => exact ⟨r, _, h, .inl ⟨rfl, rfl⟩⟩
  | fell c' p => exact ⟨_, _, h.2.choose_spec, .inr ⟨rfl, h.1⟩⟩
theorem DpS.keep {w W : World} {P g c : Nat} {l : List Tok} {st : Sto} (h : DpS w P g c l st) (hb : Below w.heap.size w W) : DpS W P g c l st := by
  cases st with
  | go r => exact Dp.keep h hb
  | fell c' p => exact ⟨h.1, _, h.2.choose_spec.keep hb⟩
theorem DpS.other {w W : World} {P X g c : Nat} {l : List Tok} {st : Sto} (h : DpS w P g c l st) (hb : Exc X w.heap.size w W) (hP : P ≠ X) (hg : g ≠ X) : DpS W P g c l st := by
  cases st with
  | go r => exact Dp.other h hb hP hg
  | fell c' p => exact ⟨h.1, _, h.2.choose_spec.other hb hP hg⟩
theorem DpS.deep {w W : World} {P g c B : Nat} {l : List Tok} {st : Sto} (h : DpS w P g c l st) (hb : Below B w W) (hP : P < B) (hg : g < B) : DpS W P g c l st := by
  cases st with
  | go r => exact Dp.deep h hb hP hg
  | fell c' p => exact ⟨h.1, _, h.2.choose_spec.deep hb hP hg⟩
theorem DpS.facts {w : World} {P g c : Nat} {l : List Tok} {st : Sto} (h : DpS w P g c l st) : P < w.heap.size ∧ g < w.heap.size ∧ g ≠ P := by
  obtain ⟨r, F, hd, _⟩ := h.form
  exact ⟨blk_lt hd.blk, hd.glt, hd.gne⟩
set_option maxRecDepth 100000 in
theorem dbad_go (w : World) (P g c : Nat) (l r : List Tok) (code : Int) (h : Dp w P g c l r (0, 0)) :
    Calls Tryz.prog 56 #[.pointer (some ⟨P, 0, none⟩), .int .i64 code] w fun e w' => e = .returned (.tuple #[]) ∧ Dp w' P g c l r (code, (hd r).place) ∧ Exc P w.heap.size w w' := by
  obtain ⟨hP, r0, r1, r2, r3, s1, s2, s3⟩ := blk4 h.blk
  have HD := Lib.hid h
  have hg := h.glt
  have hf := fld2
  simp only at r2 r3
  go_enter Tryz.func56, Tryz.ntmps56
  go_upto_region 2 with (fail)
  have HX1 := Lib.hid (exc_set w P 2 (.int .i64 code))
  have HD1 := Lib.hid (HD.out.faulted (F' := (code, 0)) HX1.out ((blk_set HD.out.blk 2 _).trans rfl))
  clear r0 r1 r2 r3 s1 s2 s3 h
  generalize w.setCell ⟨P, 2, none⟩ (.int .i64 code) = W1 at *
  go_wp2_with fail
  refine (dhere_any _ P g c l r _ HD1.out).mono ?_
  rintro e W2 ⟨rfl, hb2⟩
  have HD2 := Lib.hid (HD1.out.keep hb2)
  have HX2 := Lib.hid (HX1.out.then (.of_below hb2))
  obtain ⟨hP2, r0, r1, r2, r3, s1, s2, s3⟩ := blk4 HD2.out.blk
  clear hb2 HX1 HD1
  unfold tokV
  go_wp2
  first | refine bodyPost_end (v := .tuple #[]) (by simp [results, Tryz.results56, go_sem]) rfl ?_ | refine bodyPost_ret (v := .tuple #[]) (by simp [results, Tryz.results56, go_sem]) rfl ?_
  exact ⟨rfl, HD2.out.faulted (exc_set W2 P 3 _) ((blk_set HD2.out.blk 3 _).trans rfl), HX2.out.setCell (p := ⟨P, 3, none⟩) (.inl rfl) _⟩
end Go.Proofs.YtleclhnlojalbaaGreatDoor
namespace Go.Proofs.YtleclhnlojalbaaGreatDoor
open Go.ChangeShapes Go.WideShapes Go.ChangeAt Go.RowKit Go.Shelf

theorem step_ok {α : Type} {f : List Tok → Res α} {r r' : List Tok} {a : α} (h : f r = .ok a r') : (Sto.go r).step f = .go r' := by
  simp only [Sto.step, h]
theorem step_no {α : Type} {f : List Tok → Res α} {r : List Tok} {c : Int} {p : Nat} (h : f r = .no c p) : (Sto.go r).step f = .fell c p := by
  simp only [Sto.step, h]
def badS (code : Int) : Sto → Sto
  | .go r => .fell code (hd r).place
  | .fell c p => .fell c p
theorem dbad_any (w : World) (P g c : Nat) (l : List Tok) (st : Sto) (code : Int) (hcode : code ≠ 0) (h : DpS w P g c l st) :
    Calls Tryz.prog 56 #[.pointer (some ⟨P, 0, none⟩), .int .i64 code] w fun e w' => e = .returned (.tuple #[]) ∧ DpS w' P g c l (badS code st) ∧ Exc P w.heap.size w w' := by
  cases st with
  | go r => exact (dbad_go w P g c l r code h).mono fun e w' ⟨he, hd', hx⟩ => ⟨he, ⟨hcode, r, hd'⟩, hx⟩
  | fell c' p =>
    obtain ⟨h0, r, hd'⟩ := h
    have HD := Lib.hid hd'
    obtain ⟨hP, r0, r1, r2, r3, _⟩ := blk4 hd'.blk
    simp only at r2 r3
    have t0 : (c' == 0) = false := by simp [h0]
    have H0 := Lib.hid h0
    clear h0 hd' hcode
    go_enter Tryz.func56, Tryz.ntmps56
    go_wp2
    first | refine bodyPost_end (v := .tuple #[]) (by simp [results, Tryz.results56, go_sem]) rfl ?_ | refine bodyPost_ret (v := .tuple #[]) (by simp [results, Tryz.results56, go_sem]) rfl ?_
    exact ⟨rfl, ⟨H0.out, r, HD.out⟩, Exc.refl _ _ _⟩
theorem dis_any (w : World) (P g c : Nat) (l : List Tok) (st : Sto) (k : Int) (S : ByteArray) (s : List Int) (hs : bts S = s) (h : DpS w P g c l st) :
    Calls Tryz.prog 51 #[.pointer (some ⟨P, 0, none⟩), .int .i64 k, .string S] w fun e w' => e = .returned (.bool (isS k s st)) ∧ Below w.heap.size w w' := by
  cases st with
  | fell c' p =>
    obtain ⟨h0, r, hd'⟩ := h
    obtain ⟨hP, r0, r1, r2, r3, _⟩ := blk4 hd'.blk
    simp only at r2 r3
    have t0 : (c' == 0) = false := by simp [h0]
    clear h0 hd' hs
    go_enter Tryz.func51, Tryz.ntmps51
    go_wp2
    go_ret
    exact ⟨rfl, Below.refl _ _⟩
  | go r =>
    have HD : Hid (Dp w P g c l r (0, 0)) := Lib.hid h
    have HS := Lib.hid hs
    obtain ⟨hP, r0, r1, r2, r3, _⟩ := blk4 HD.out.blk
    simp only at r2 r3
    have hf := fld0
    have hf1 := fld1
    have HI := Lib.hid (str_eq (hd r).text S (HD.out.byt _ HD.out.mem))
    obtain ⟨b, hb⟩ : ∃ b, isT k s r = b := ⟨_, rfl⟩
    have HB := Lib.hid hb
    show Calls _ _ _ w fun e w' => e = .returned (.bool (isT k s r)) ∧ Below w.heap.size w w'
    rw [hb]
    clear h hs hb
    by_cases hk : (hd r).kind = k
    · have tk : ((hd r).kind == k) = true := by simp [hk]
      have HK := Lib.hid hk
      clear hk
      go_enter Tryz.func51, Tryz.ntmps51
      go_wp2_with fail
      refine (dhere_any _ P g c l r _ HD.out).mono ?_
      rintro e W1 ⟨rfl, hb1⟩
      have HB1 := Lib.hid hb1
      have HD1 := Lib.hid (HD.out.keep hb1)
      clear hb1
      unfold tokV
      go_wp2_with fail
      refine (dhere_any _ P g c l r _ HD1.out).mono ?_
      rintro e W2 ⟨rfl, hb2⟩
      have HB2 := Lib.hid (HB1.out.trans (hb2.mono HB1.out.size))
      clear hb2
      unfold tokV
      go_wp2
      go_ret
      refine ⟨ret_bool ?_, HB2.out⟩
      rw [← HB.out]
      unfold isT
      rw [HI.out, HS.out, decide_eq_true HK.out, Bool.true_and]
    · have tk : ((hd r).kind == k) = false := by simp [hk]
      have HK := Lib.hid hk
      clear hk
      go_enter Tryz.func51, Tryz.ntmps51
      go_wp2_with fail
      refine (dhere_any _ P g c l r _ HD.out).mono ?_
      rintro e W1 ⟨rfl, hb1⟩
      have HB1 := Lib.hid hb1
      clear hb1
      unfold tokV
      go_wp2
      go_ret
      refine ⟨ret_bool ?_, HB1.out⟩
      rw [← HB.out]
      unfold isT
      rw [decide_eq_false HK.out, Bool.false_and]
theorem dp_next {w : World} {P g c : Nat} {l r : List Tok} (h : Dp w P g c l r (0, 0)) (h0 : (hd r).kind ≠ 0) : Dp (w.setCell ⟨P, 1, none⟩ (.int .i64 (((l.length - r.length : Nat) : Int) + 1))) P g c l r.tail (0, 0) :=
  h.taken h0 (exc_set w P 1 _) ((blk_set h.blk 1 _).trans rfl)
theorem dwant_any (w : World) (P g c : Nat) (l : List Tok) (st : Sto) (S : ByteArray) (s : List Int) (hs : bts S = s) (h : DpS w P g c l st) :
    Calls Tryz.prog 55 #[.pointer (some ⟨P, 0, none⟩), .string S] w fun e w' => e = .returned (.tuple #[]) ∧ DpS w' P g c l (st.step (wantR s)) ∧ Exc P w.heap.size w w' := by
  have HD := Lib.hid h
  have HI := Lib.hid (dis_any w P g c l st 4 S s hs h)
  obtain ⟨b, hb⟩ : ∃ b, isS 4 s st = b := ⟨_, rfl⟩
  rw [hb] at HI
  cases b
  · have HS : Hid (st.step (wantR s) = badS 11 st) := Lib.hid (by
      cases st with
      | fell c' p => rfl
      | go r =>
        exact step_no (c := 11) (p := (hd r).place) (by unfold wantR; rw [if_neg (by rw [show isT 4 s r = false from hb]; decide)]; rfl))
    rw [HS.out]
    clear hb hs h
    go_enter Tryz.func55, Tryz.ntmps55
    go_wp2_with fail
    refine HI.out.mono ?_
    rintro e W1 ⟨rfl, hb1⟩
    have HX1 := Lib.hid (Exc.of_below (R := P) hb1)
    have HB := Lib.hid (dbad_any W1 P g c l st 11 (by decide) (HD.out.keep hb1))
    clear hb1
    go_wp2_with fail
    refine HB.out.mono ?_
    rintro e W2 ⟨rfl, hd2, hx2⟩
    have HD2 := Lib.hid hd2
    have HX2 := Lib.hid (HX1.out.then hx2)
    clear hd2 hx2
    go_wp2
    first | refine bodyPost_end (v := .tuple #[]) (by simp [results, Tryz.results55, go_sem]) rfl ?_ | refine bodyPost_ret (v := .tuple #[]) (by simp [results, Tryz.results55, go_sem]) rfl ?_
    exact ⟨rfl, HD2.out, HX2.out⟩
  · cases st with
    | fell c' p => cases hb
    | go r =>
      have hb' : isT 4 s r = true := hb
      have HK := Lib.hid (show (hd r).kind ≠ 0 by rw [(isT_kind hb').1]; decide)
      have HS : Hid ((Sto.go r).step (wantR s) = .go r.tail) := Lib.hid (by
        exact step_ok (by unfold wantR; rw [if_pos hb']))
      rw [HS.out]
      clear hb hb' hs h
      go_enter Tryz.func55, Tryz.ntmps55
      go_wp2_with fail
      refine HI.out.mono ?_
      rintro e W1 ⟨rfl, hb1⟩
      have HX1 := Lib.hid (Exc.of_below (R := P) hb1)
      have HD1 : Hid (Dp W1 P g c l r (0, 0)) := Lib.hid (Dp.keep HD.out hb1)
      obtain ⟨hP, r0, r1, r2, r3, s1, s2, s3⟩ := blk4 HD1.out.blk
      have hfew := HD1.out.few
      have hn := HD1.out.len
      clear hb1
      go_wp2
      first | refine bodyPost_end (v := .tuple #[]) (by simp [results, Tryz.results55, go_sem]) rfl ?_ | refine bodyPost_ret (v := .tuple #[]) (by simp [results, Tryz.results55, go_sem]) rfl ?_
      exact ⟨rfl, dp_next HD1.out HK.out, HX1.out.setCell (p := ⟨P, 1, none⟩) (.inl rfl) _⟩
end Go.Proofs.YtleclhnlojalbaaGreatDoor
namespace Go.Proofs.YtleclhnlojalbaaGreatDoor
open Go.ChangeShapes Go.WideShapes Go.ChangeAt Go.RowKit Go.Shelf

theorem dname_fell (w : World) (P g c : Nat) (l r : List Tok) (F : Int × Nat) (q : Bool) (h0 : (F.1 != 0) = true) (h : Dp w P g c l r F) :
    Calls Tryz.prog 54 #[.pointer (some ⟨P, 0, none⟩), .bool q] w fun e w' => e = .returned (tokV noTok) ∧ Dp w' P g c l r F ∧ Exc P w.heap.size w w' := by
  have HZ0 := Lib.hid (heap_alloc_new w (.cells #[.int .i64 0, .string ByteArray.empty, .int .i64 0] 109))
  have hbA : Below w.heap.size w (w.alloc (.cells #[.int .i64 0, .string ByteArray.empty, .int .i64 0] 109)) := (Below.refl _ _).alloc (Nat.le_refl _) _
  have HBA := Lib.hid hbA
  have HD := Lib.hid (h.keep hbA)
  have HH := Lib.hid (dhere_any _ P g c l r _ HD.out)
  have hP := blk_lt h.blk
  have hg := h.glt
  clear h hbA
  unfold tokV at HH
  go_enter Tryz.func54, Tryz.ntmps54
  go_wp2_with fail
  refine HH.out.mono ?_
  rintro e W1 ⟨rfl, hb1⟩
  have hW1 : w.heap.size + 1 ≤ W1.heap.size := Nat.le_trans (by simp) hb1.size
  have HB1 := Lib.hid (HBA.out.trans (hb1.mono HBA.out.size))
  have HT2 := Lib.hid (heap_alloc_new W1 (.cells #[.int .i64 (hd r).kind, .string (strOfNums (hd r).text), .int .i64 (hd r).place] 109))
  have hb2 : Below W1.heap.size W1 (W1.alloc (.cells #[.int .i64 (hd r).kind, .string (strOfNums (hd r).text), .int .i64 (hd r).place] 109)) := (Below.refl _ _).alloc (Nat.le_refl _) _
  have HB2 := Lib.hid (HB1.out.trans (hb2.mono HB1.out.size))
  have HD2 := Lib.hid ((HD.out.keep hb1).keep hb2)
  have HZ2 := Lib.hid (blk_below (blk_below HZ0.out hb1 (by simp)) hb2 (by omega))
  have hT2 := blk_lt HT2.out
  have hTW := hW1
  clear hb1 hb2
  go_upto_region 2 with (fail)
  generalize W1.alloc (.cells #[.int .i64 (hd r).kind, .string (strOfNums (hd r).text), .int .i64 (hd r).place] 109) = W2 at *
  generalize W1.heap.size = BT at *
  obtain ⟨hTl, x0, x1, x2, _⟩ := blk3 HT2.out
  obtain ⟨hPl, r0, r1, r2, r3, s1, s2, s3⟩ := blk4 HD2.out.blk
  obtain ⟨hz, z0, z1, z2, y0, y1, y2⟩ := blk3 HZ2.out
  go_wp2
  refine post_gen (fun Wf => Wf.heap[w.heap.size]? = some (.cells #[.int .i64 0, .string ByteArray.empty, .int .i64 0] 109 (0, 0)) ∧ Exc P w.heap.size w Wf ∧ Dp Wf P g c l r F) ⟨?_, ?_, ?_⟩ ?_
  · exact blk_set3 HZ2.out _ _ _
  · exact (Exc.of_below HB2.out).set3 (Nat.le_refl _) _ _ _
  · exact HD2.out.set3 (by omega) (by omega) _ _ _
  · rintro Wf ⟨f1, f2, f3⟩
    obtain ⟨_, c0, c1, c2, _⟩ := blk3 f1
    exact bodyPost_ret (v := .agg #[.int .i64 0, .string ByteArray.empty, .int .i64 0]) (by simp [results, Tryz.results54, go_sem, c0, c1, c2]) rfl ⟨rfl, f3, f2⟩
theorem dname_badF (w : World) (P g c : Nat) (l r : List Tok) (t1 : ((hd r).kind != 1) = true) (h : Dp w P g c l r (0, 0)) :
    Calls Tryz.prog 54 #[.pointer (some ⟨P, 0, none⟩), .bool false] w fun e w' => e = .returned (tokV noTok) ∧ Dp w' P g c l r (11, (hd r).place) ∧ Exc P w.heap.size w w' := by
  have HZ0 := Lib.hid (heap_alloc_new w (.cells #[.int .i64 0, .string ByteArray.empty, .int .i64 0] 109))
  have hbA : Below w.heap.size w (w.alloc (.cells #[.int .i64 0, .string ByteArray.empty, .int .i64 0] 109)) := (Below.refl _ _).alloc (Nat.le_refl _) _
  have HBA := Lib.hid hbA
  have HD := Lib.hid (h.keep hbA)
  have HH := Lib.hid (dhere_any _ P g c l r _ HD.out)
  have hP := blk_lt h.blk
  have hg := h.glt
  clear h hbA
  unfold tokV at HH
  go_enter Tryz.func54, Tryz.ntmps54
  go_wp2_with fail
  refine HH.out.mono ?_
  rintro e W1 ⟨rfl, hb1⟩
  have hW1 : w.heap.size + 1 ≤ W1.heap.size := Nat.le_trans (by simp) hb1.size
  have HB1 := Lib.hid (HBA.out.trans (hb1.mono HBA.out.size))
  have HT2 := Lib.hid (heap_alloc_new W1 (.cells #[.int .i64 (hd r).kind, .string (strOfNums (hd r).text), .int .i64 (hd r).place] 109))
  have hb2 : Below W1.heap.size W1 (W1.alloc (.cells #[.int .i64 (hd r).kind, .string (strOfNums (hd r).text), .int .i64 (hd r).place] 109)) := (Below.refl _ _).alloc (Nat.le_refl _) _
  have HB2 := Lib.hid (HB1.out.trans (hb2.mono HB1.out.size))
  have HD2 := Lib.hid ((HD.out.keep hb1).keep hb2)
  have HZ2 := Lib.hid (blk_below (blk_below HZ0.out hb1 (by simp)) hb2 (by omega))
  have hT2 := blk_lt HT2.out
  have hTW := hW1
  clear hb1 hb2
  go_upto_region 2 with (fail)
  generalize W1.alloc (.cells #[.int .i64 (hd r).kind, .string (strOfNums (hd r).text), .int .i64 (hd r).place] 109) = W2 at *
  generalize W1.heap.size = BT at *
  obtain ⟨hTl, x0, x1, x2, _⟩ := blk3 HT2.out
  obtain ⟨hPl, r0, r1, r2, r3, s1, s2, s3⟩ := blk4 HD2.out.blk
  simp only at r2 r3
  have HC := Lib.hid (dbad_go W2 P g c l r 11 HD2.out)
  go_wp2_with fail
  refine HC.out.mono ?_
  rintro e W3 ⟨rfl, hd3, hx3⟩
  have HD3 := Lib.hid hd3
  have HX3 := Lib.hid ((Exc.of_below (R := P) HB2.out).then hx3)
  have HZ3 := Lib.hid (blk_exc HZ2.out hx3 (blk_lt HZ2.out) (by omega))
  obtain ⟨hz, z0, z1, z2, y0, y1, y2⟩ := blk3 HZ3.out
  clear hd3 hx3
  go_wp2
  refine post_gen (fun Wf => Wf.heap[w.heap.size]? = some (.cells #[.int .i64 0, .string ByteArray.empty, .int .i64 0] 109 (0, 0)) ∧ Exc P w.heap.size w Wf ∧ Dp Wf P g c l r (11, (hd r).place)) ⟨?_, ?_, ?_⟩ ?_
  · exact blk_set3 HZ3.out _ _ _
  · exact HX3.out.set3 (Nat.le_refl _) _ _ _
  · exact HD3.out.set3 (by omega) (by omega) _ _ _
  · rintro Wf ⟨f1, f2, f3⟩
    obtain ⟨_, c0, c1, c2, _⟩ := blk3 f1
    exact bodyPost_ret (v := .agg #[.int .i64 0, .string ByteArray.empty, .int .i64 0]) (by simp [results, Tryz.results54, go_sem, c0, c1, c2]) rfl ⟨rfl, f3, f2⟩
theorem dname_badT (w : World) (P g c : Nat) (l r : List Tok) (t1 : ((hd r).kind != 1) = true) (t3 : ((hd r).kind == 3) = false) (h : Dp w P g c l r (0, 0)) :
    Calls Tryz.prog 54 #[.pointer (some ⟨P, 0, none⟩), .bool true] w fun e w' => e = .returned (tokV noTok) ∧ Dp w' P g c l r (11, (hd r).place) ∧ Exc P w.heap.size w w' := by
  have HZ0 := Lib.hid (heap_alloc_new w (.cells #[.int .i64 0, .string ByteArray.empty, .int .i64 0] 109))
  have hbA : Below w.heap.size w (w.alloc (.cells #[.int .i64 0, .string ByteArray.empty, .int .i64 0] 109)) := (Below.refl _ _).alloc (Nat.le_refl _) _
  have HBA := Lib.hid hbA
  have HD := Lib.hid (h.keep hbA)
  have HH := Lib.hid (dhere_any _ P g c l r _ HD.out)
  have hP := blk_lt h.blk
  have hg := h.glt
  clear h hbA
  unfold tokV at HH
  go_enter Tryz.func54, Tryz.ntmps54
  go_wp2_with fail
  refine HH.out.mono ?_
  rintro e W1 ⟨rfl, hb1⟩
  have hW1 : w.heap.size + 1 ≤ W1.heap.size := Nat.le_trans (by simp) hb1.size
  have HB1 := Lib.hid (HBA.out.trans (hb1.mono HBA.out.size))
  have HT2 := Lib.hid (heap_alloc_new W1 (.cells #[.int .i64 (hd r).kind, .string (strOfNums (hd r).text), .int .i64 (hd r).place] 109))
  have hb2 : Below W1.heap.size W1 (W1.alloc (.cells #[.int .i64 (hd r).kind, .string (strOfNums (hd r).text), .int .i64 (hd r).place] 109)) := (Below.refl _ _).alloc (Nat.le_refl _) _
  have HB2 := Lib.hid (HB1.out.trans (hb2.mono HB1.out.size))
  have HD2 := Lib.hid ((HD.out.keep hb1).keep hb2)
  have HZ2 := Lib.hid (blk_below (blk_below HZ0.out hb1 (by simp)) hb2 (by omega))
  have hT2 := blk_lt HT2.out
  have hTW := hW1
  clear hb1 hb2
  go_upto_region 2 with (fail)
  generalize W1.alloc (.cells #[.int .i64 (hd r).kind, .string (strOfNums (hd r).text), .int .i64 (hd r).place] 109) = W2 at *
  generalize W1.heap.size = BT at *
  obtain ⟨hTl, x0, x1, x2, _⟩ := blk3 HT2.out
  obtain ⟨hPl, r0, r1, r2, r3, s1, s2, s3⟩ := blk4 HD2.out.blk
  simp only at r2 r3
  have HC := Lib.hid (dbad_go W2 P g c l r 11 HD2.out)
  go_wp2_with fail
  refine HC.out.mono ?_
  rintro e W3 ⟨rfl, hd3, hx3⟩
  have HD3 := Lib.hid hd3
  have HX3 := Lib.hid ((Exc.of_below (R := P) HB2.out).then hx3)
  have HZ3 := Lib.hid (blk_exc HZ2.out hx3 (blk_lt HZ2.out) (by omega))
  obtain ⟨hz, z0, z1, z2, y0, y1, y2⟩ := blk3 HZ3.out
  clear hd3 hx3
  go_wp2
  refine post_gen (fun Wf => Wf.heap[w.heap.size]? = some (.cells #[.int .i64 0, .string ByteArray.empty, .int .i64 0] 109 (0, 0)) ∧ Exc P w.heap.size w Wf ∧ Dp Wf P g c l r (11, (hd r).place)) ⟨?_, ?_, ?_⟩ ?_
  · exact blk_set3 HZ3.out _ _ _
  · exact HX3.out.set3 (Nat.le_refl _) _ _ _
  · exact HD3.out.set3 (by omega) (by omega) _ _ _
  · rintro Wf ⟨f1, f2, f3⟩
    obtain ⟨_, c0, c1, c2, _⟩ := blk3 f1
    exact bodyPost_ret (v := .agg #[.int .i64 0, .string ByteArray.empty, .int .i64 0]) (by simp [results, Tryz.results54, go_sem, c0, c1, c2]) rfl ⟨rfl, f3, f2⟩
theorem dname_noneN (w : World) (P g c : Nat) (l r : List Tok) (q : Bool) (t1 : ((hd r).kind != 1) = false) (t4 : decide (((strOfNums (hd r).text).size : Int) < 1) = true) (h : Dp w P g c l r (0, 0)) :
    Calls Tryz.prog 54 #[.pointer (some ⟨P, 0, none⟩), .bool q] w fun e w' => e = .returned (tokV noTok) ∧ Dp w' P g c l r (12, (hd r).place) ∧ Exc P w.heap.size w w' := by
  have HZ0 := Lib.hid (heap_alloc_new w (.cells #[.int .i64 0, .string ByteArray.empty, .int .i64 0] 109))
  have hbA : Below w.heap.size w (w.alloc (.cells #[.int .i64 0, .string ByteArray.empty, .int .i64 0] 109)) := (Below.refl _ _).alloc (Nat.le_refl _) _
  have HBA := Lib.hid hbA
  have HD := Lib.hid (h.keep hbA)
  have HH := Lib.hid (dhere_any _ P g c l r _ HD.out)
  have hP := blk_lt h.blk
  have hg := h.glt
  clear h hbA
  unfold tokV at HH
  go_enter Tryz.func54, Tryz.ntmps54
  go_wp2_with fail
  refine HH.out.mono ?_
  rintro e W1 ⟨rfl, hb1⟩
  have hW1 : w.heap.size + 1 ≤ W1.heap.size := Nat.le_trans (by simp) hb1.size
  have HB1 := Lib.hid (HBA.out.trans (hb1.mono HBA.out.size))
  have HT2 := Lib.hid (heap_alloc_new W1 (.cells #[.int .i64 (hd r).kind, .string (strOfNums (hd r).text), .int .i64 (hd r).place] 109))
  have hb2 : Below W1.heap.size W1 (W1.alloc (.cells #[.int .i64 (hd r).kind, .string (strOfNums (hd r).text), .int .i64 (hd r).place] 109)) := (Below.refl _ _).alloc (Nat.le_refl _) _
  have HB2 := Lib.hid (HB1.out.trans (hb2.mono HB1.out.size))
  have HD2 := Lib.hid ((HD.out.keep hb1).keep hb2)
  have HZ2 := Lib.hid (blk_below (blk_below HZ0.out hb1 (by simp)) hb2 (by omega))
  have hT2 := blk_lt HT2.out
  have hTW := hW1
  clear hb1 hb2
  go_upto_region 2 with (fail)
  generalize W1.alloc (.cells #[.int .i64 (hd r).kind, .string (strOfNums (hd r).text), .int .i64 (hd r).place] 109) = W2 at *
  generalize W1.heap.size = BT at *
  obtain ⟨hTl, x0, x1, x2, _⟩ := blk3 HT2.out
  obtain ⟨hPl, r0, r1, r2, r3, s1, s2, s3⟩ := blk4 HD2.out.blk
  simp only at r2 r3
  have HC := Lib.hid (dbad_go W2 P g c l r 12 HD2.out)
  go_wp2_with fail
  refine HC.out.mono ?_
  rintro e W3 ⟨rfl, hd3, hx3⟩
  have HD3 := Lib.hid hd3
  have HX3 := Lib.hid ((Exc.of_below (R := P) HB2.out).then hx3)
  have HZ3 := Lib.hid (blk_exc HZ2.out hx3 (blk_lt HZ2.out) (by omega))
  obtain ⟨hz, z0, z1, z2, y0, y1, y2⟩ := blk3 HZ3.out
  clear hd3 hx3
  go_wp2
  refine post_gen (fun Wf => Wf.heap[w.heap.size]? = some (.cells #[.int .i64 0, .string ByteArray.empty, .int .i64 0] 109 (0, 0)) ∧ Exc P w.heap.size w Wf ∧ Dp Wf P g c l r (12, (hd r).place)) ⟨?_, ?_, ?_⟩ ?_
  · exact blk_set3 HZ3.out _ _ _
  · exact HX3.out.set3 (Nat.le_refl _) _ _ _
  · exact HD3.out.set3 (by omega) (by omega) _ _ _
  · rintro Wf ⟨f1, f2, f3⟩
    obtain ⟨_, c0, c1, c2, _⟩ := blk3 f1
    exact bodyPost_ret (v := .agg #[.int .i64 0, .string ByteArray.empty, .int .i64 0]) (by simp [results, Tryz.results54, go_sem, c0, c1, c2]) rfl ⟨rfl, f3, f2⟩
theorem dname_noneQ (w : World) (P g c : Nat) (l r : List Tok) (t1 : ((hd r).kind != 1) = true) (t3 : ((hd r).kind == 3) = true) (t4 : decide (((strOfNums (hd r).text).size : Int) < 1) = true) (h : Dp w P g c l r (0, 0)) :
    Calls Tryz.prog 54 #[.pointer (some ⟨P, 0, none⟩), .bool true] w fun e w' => e = .returned (tokV noTok) ∧ Dp w' P g c l r (12, (hd r).place) ∧ Exc P w.heap.size w w' := by
  have HZ0 := Lib.hid (heap_alloc_new w (.cells #[.int .i64 0, .string ByteArray.empty, .int .i64 0] 109))
  have hbA : Below w.heap.size w (w.alloc (.cells #[.int .i64 0, .string ByteArray.empty, .int .i64 0] 109)) := (Below.refl _ _).alloc (Nat.le_refl _) _
  have HBA := Lib.hid hbA
  have HD := Lib.hid (h.keep hbA)
  have HH := Lib.hid (dhere_any _ P g c l r _ HD.out)
  have hP := blk_lt h.blk
  have hg := h.glt
  clear h hbA
  unfold tokV at HH
  go_enter Tryz.func54, Tryz.ntmps54
  go_wp2_with fail
  refine HH.out.mono ?_
  rintro e W1 ⟨rfl, hb1⟩
  have hW1 : w.heap.size + 1 ≤ W1.heap.size := Nat.le_trans (by simp) hb1.size
  have HB1 := Lib.hid (HBA.out.trans (hb1.mono HBA.out.size))
  have HT2 := Lib.hid (heap_alloc_new W1 (.cells #[.int .i64 (hd r).kind, .string (strOfNums (hd r).text), .int .i64 (hd r).place] 109))
  have hb2 : Below W1.heap.size W1 (W1.alloc (.cells #[.int .i64 (hd r).kind, .string (strOfNums (hd r).text), .int .i64 (hd r).place] 109)) := (Below.refl _ _).alloc (Nat.le_refl _) _
  have HB2 := Lib.hid (HB1.out.trans (hb2.mono HB1.out.size))
  have HD2 := Lib.hid ((HD.out.keep hb1).keep hb2)
  have HZ2 := Lib.hid (blk_below (blk_below HZ0.out hb1 (by simp)) hb2 (by omega))
  have hT2 := blk_lt HT2.out
  have hTW := hW1
  clear hb1 hb2
  go_upto_region 2 with (fail)
  generalize W1.alloc (.cells #[.int .i64 (hd r).kind, .string (strOfNums (hd r).text), .int .i64 (hd r).place] 109) = W2 at *
  generalize W1.heap.size = BT at *
  obtain ⟨hTl, x0, x1, x2, _⟩ := blk3 HT2.out
  obtain ⟨hPl, r0, r1, r2, r3, s1, s2, s3⟩ := blk4 HD2.out.blk
  simp only at r2 r3
  have HC := Lib.hid (dbad_go W2 P g c l r 12 HD2.out)
  go_wp2_with fail
  refine HC.out.mono ?_
  rintro e W3 ⟨rfl, hd3, hx3⟩
  have HD3 := Lib.hid hd3
  have HX3 := Lib.hid ((Exc.of_below (R := P) HB2.out).then hx3)
  have HZ3 := Lib.hid (blk_exc HZ2.out hx3 (blk_lt HZ2.out) (by omega))
  obtain ⟨hz, z0, z1, z2, y0, y1, y2⟩ := blk3 HZ3.out
  clear hd3 hx3
  go_wp2
  refine post_gen (fun Wf => Wf.heap[w.heap.size]? = some (.cells #[.int .i64 0, .string ByteArray.empty, .int .i64 0] 109 (0, 0)) ∧ Exc P w.heap.size w Wf ∧ Dp Wf P g c l r (12, (hd r).place)) ⟨?_, ?_, ?_⟩ ?_
  · exact blk_set3 HZ3.out _ _ _
  · exact HX3.out.set3 (Nat.le_refl _) _ _ _
  · exact HD3.out.set3 (by omega) (by omega) _ _ _
  · rintro Wf ⟨f1, f2, f3⟩
    obtain ⟨_, c0, c1, c2, _⟩ := blk3 f1
    exact bodyPost_ret (v := .agg #[.int .i64 0, .string ByteArray.empty, .int .i64 0]) (by simp [results, Tryz.results54, go_sem, c0, c1, c2]) rfl ⟨rfl, f3, f2⟩
theorem dname_longN (w : World) (P g c : Nat) (l r : List Tok) (q : Bool) (t1 : ((hd r).kind != 1) = false) (t4 : decide (((strOfNums (hd r).text).size : Int) < 1) = false) (t5 : decide ((40 : Int) < ((strOfNums (hd r).text).size : Int)) = true) (h : Dp w P g c l r (0, 0)) :
    Calls Tryz.prog 54 #[.pointer (some ⟨P, 0, none⟩), .bool q] w fun e w' => e = .returned (tokV noTok) ∧ Dp w' P g c l r (12, (hd r).place) ∧ Exc P w.heap.size w w' := by
  have HZ0 := Lib.hid (heap_alloc_new w (.cells #[.int .i64 0, .string ByteArray.empty, .int .i64 0] 109))
  have hbA : Below w.heap.size w (w.alloc (.cells #[.int .i64 0, .string ByteArray.empty, .int .i64 0] 109)) := (Below.refl _ _).alloc (Nat.le_refl _) _
  have HBA := Lib.hid hbA
  have HD := Lib.hid (h.keep hbA)
  have HH := Lib.hid (dhere_any _ P g c l r _ HD.out)
  have hP := blk_lt h.blk
  have hg := h.glt
  clear h hbA
  unfold tokV at HH
  go_enter Tryz.func54, Tryz.ntmps54
  go_wp2_with fail
  refine HH.out.mono ?_
  rintro e W1 ⟨rfl, hb1⟩
  have hW1 : w.heap.size + 1 ≤ W1.heap.size := Nat.le_trans (by simp) hb1.size
  have HB1 := Lib.hid (HBA.out.trans (hb1.mono HBA.out.size))
  have HT2 := Lib.hid (heap_alloc_new W1 (.cells #[.int .i64 (hd r).kind, .string (strOfNums (hd r).text), .int .i64 (hd r).place] 109))
  have hb2 : Below W1.heap.size W1 (W1.alloc (.cells #[.int .i64 (hd r).kind, .string (strOfNums (hd r).text), .int .i64 (hd r).place] 109)) := (Below.refl _ _).alloc (Nat.le_refl _) _
  have HB2 := Lib.hid (HB1.out.trans (hb2.mono HB1.out.size))
  have HD2 := Lib.hid ((HD.out.keep hb1).keep hb2)
  have HZ2 := Lib.hid (blk_below (blk_below HZ0.out hb1 (by simp)) hb2 (by omega))
  have hT2 := blk_lt HT2.out
  have hTW := hW1
  clear hb1 hb2
  go_upto_region 2 with (fail)
  generalize W1.alloc (.cells #[.int .i64 (hd r).kind, .string (strOfNums (hd r).text), .int .i64 (hd r).place] 109) = W2 at *
  generalize W1.heap.size = BT at *
  obtain ⟨hTl, x0, x1, x2, _⟩ := blk3 HT2.out
  obtain ⟨hPl, r0, r1, r2, r3, s1, s2, s3⟩ := blk4 HD2.out.blk
  simp only at r2 r3
  have HC := Lib.hid (dbad_go W2 P g c l r 12 HD2.out)
  go_wp2_with fail
  refine HC.out.mono ?_
  rintro e W3 ⟨rfl, hd3, hx3⟩
  have HD3 := Lib.hid hd3
  have HX3 := Lib.hid ((Exc.of_below (R := P) HB2.out).then hx3)
  have HZ3 := Lib.hid (blk_exc HZ2.out hx3 (blk_lt HZ2.out) (by omega))
  obtain ⟨hz, z0, z1, z2, y0, y1, y2⟩ := blk3 HZ3.out
  clear hd3 hx3
  go_wp2
  refine post_gen (fun Wf => Wf.heap[w.heap.size]? = some (.cells #[.int .i64 0, .string ByteArray.empty, .int .i64 0] 109 (0, 0)) ∧ Exc P w.heap.size w Wf ∧ Dp Wf P g c l r (12, (hd r).place)) ⟨?_, ?_, ?_⟩ ?_
  · exact blk_set3 HZ3.out _ _ _
  · exact HX3.out.set3 (Nat.le_refl _) _ _ _
  · exact HD3.out.set3 (by omega) (by omega) _ _ _
  · rintro Wf ⟨f1, f2, f3⟩
    obtain ⟨_, c0, c1, c2, _⟩ := blk3 f1
    exact bodyPost_ret (v := .agg #[.int .i64 0, .string ByteArray.empty, .int .i64 0]) (by simp [results, Tryz.results54, go_sem, c0, c1, c2]) rfl ⟨rfl, f3, f2⟩
theorem dname_longQ (w : World) (P g c : Nat) (l r : List Tok) (t1 : ((hd r).kind != 1) = true) (t3 : ((hd r).kind == 3) = true) (t4 : decide (((strOfNums (hd r).text).size : Int) < 1) = false) (t5 : decide ((40 : Int) < ((strOfNums (hd r).text).size : Int)) = true) (h : Dp w P g c l r (0, 0)) :
    Calls Tryz.prog 54 #[.pointer (some ⟨P, 0, none⟩), .bool true] w fun e w' => e = .returned (tokV noTok) ∧ Dp w' P g c l r (12, (hd r).place) ∧ Exc P w.heap.size w w' := by
  have HZ0 := Lib.hid (heap_alloc_new w (.cells #[.int .i64 0, .string ByteArray.empty, .int .i64 0] 109))
  have hbA : Below w.heap.size w (w.alloc (.cells #[.int .i64 0, .string ByteArray.empty, .int .i64 0] 109)) := (Below.refl _ _).alloc (Nat.le_refl _) _
  have HBA := Lib.hid hbA
  have HD := Lib.hid (h.keep hbA)
  have HH := Lib.hid (dhere_any _ P g c l r _ HD.out)
  have hP := blk_lt h.blk
  have hg := h.glt
  clear h hbA
  unfold tokV at HH
  go_enter Tryz.func54, Tryz.ntmps54
  go_wp2_with fail
  refine HH.out.mono ?_
  rintro e W1 ⟨rfl, hb1⟩
  have hW1 : w.heap.size + 1 ≤ W1.heap.size := Nat.le_trans (by simp) hb1.size
  have HB1 := Lib.hid (HBA.out.trans (hb1.mono HBA.out.size))
  have HT2 := Lib.hid (heap_alloc_new W1 (.cells #[.int .i64 (hd r).kind, .string (strOfNums (hd r).text), .int .i64 (hd r).place] 109))
  have hb2 : Below W1.heap.size W1 (W1.alloc (.cells #[.int .i64 (hd r).kind, .string (strOfNums (hd r).text), .int .i64 (hd r).place] 109)) := (Below.refl _ _).alloc (Nat.le_refl _) _
  have HB2 := Lib.hid (HB1.out.trans (hb2.mono HB1.out.size))
  have HD2 := Lib.hid ((HD.out.keep hb1).keep hb2)
  have HZ2 := Lib.hid (blk_below (blk_below HZ0.out hb1 (by simp)) hb2 (by omega))
  have hT2 := blk_lt HT2.out
  have hTW := hW1
  clear hb1 hb2
  go_upto_region 2 with (fail)
  generalize W1.alloc (.cells #[.int .i64 (hd r).kind, .string (strOfNums (hd r).text), .int .i64 (hd r).place] 109) = W2 at *
  generalize W1.heap.size = BT at *
  obtain ⟨hTl, x0, x1, x2, _⟩ := blk3 HT2.out
  obtain ⟨hPl, r0, r1, r2, r3, s1, s2, s3⟩ := blk4 HD2.out.blk
  simp only at r2 r3
  have HC := Lib.hid (dbad_go W2 P g c l r 12 HD2.out)
  go_wp2_with fail
  refine HC.out.mono ?_
  rintro e W3 ⟨rfl, hd3, hx3⟩
  have HD3 := Lib.hid hd3
  have HX3 := Lib.hid ((Exc.of_below (R := P) HB2.out).then hx3)
  have HZ3 := Lib.hid (blk_exc HZ2.out hx3 (blk_lt HZ2.out) (by omega))
  obtain ⟨hz, z0, z1, z2, y0, y1, y2⟩ := blk3 HZ3.out
  clear hd3 hx3
  go_wp2
  refine post_gen (fun Wf => Wf.heap[w.heap.size]? = some (.cells #[.int .i64 0, .string ByteArray.empty, .int .i64 0] 109 (0, 0)) ∧ Exc P w.heap.size w Wf ∧ Dp Wf P g c l r (12, (hd r).place)) ⟨?_, ?_, ?_⟩ ?_
  · exact blk_set3 HZ3.out _ _ _
  · exact HX3.out.set3 (Nat.le_refl _) _ _ _
  · exact HD3.out.set3 (by omega) (by omega) _ _ _
  · rintro Wf ⟨f1, f2, f3⟩
    obtain ⟨_, c0, c1, c2, _⟩ := blk3 f1
    exact bodyPost_ret (v := .agg #[.int .i64 0, .string ByteArray.empty, .int .i64 0]) (by simp [results, Tryz.results54, go_sem, c0, c1, c2]) rfl ⟨rfl, f3, f2⟩
theorem dname_fitsN (w : World) (P g c : Nat) (l r : List Tok) (q : Bool) (t1 : ((hd r).kind != 1) = false) (h0 : (hd r).kind ≠ 0) (t4 : decide (((strOfNums (hd r).text).size : Int) < 1) = false) (t5 : decide ((40 : Int) < ((strOfNums (hd r).text).size : Int)) = false) (h : Dp w P g c l r (0, 0)) :
    Calls Tryz.prog 54 #[.pointer (some ⟨P, 0, none⟩), .bool q] w fun e w' => e = .returned (tokV (hd r)) ∧ Dp w' P g c l r.tail (0, 0) ∧ Exc P w.heap.size w w' := by
  have H0 := Lib.hid h0
  clear h0
  have HZ0 := Lib.hid (heap_alloc_new w (.cells #[.int .i64 0, .string ByteArray.empty, .int .i64 0] 109))
  have hbA : Below w.heap.size w (w.alloc (.cells #[.int .i64 0, .string ByteArray.empty, .int .i64 0] 109)) := (Below.refl _ _).alloc (Nat.le_refl _) _
  have HBA := Lib.hid hbA
  have HD := Lib.hid (h.keep hbA)
  have HH := Lib.hid (dhere_any _ P g c l r _ HD.out)
  have hP := blk_lt h.blk
  have hg := h.glt
  clear h hbA
  unfold tokV at HH
  go_enter Tryz.func54, Tryz.ntmps54
  go_wp2_with fail
  refine HH.out.mono ?_
  rintro e W1 ⟨rfl, hb1⟩
  have hW1 : w.heap.size + 1 ≤ W1.heap.size := Nat.le_trans (by simp) hb1.size
  have HB1 := Lib.hid (HBA.out.trans (hb1.mono HBA.out.size))
  have HT2 := Lib.hid (heap_alloc_new W1 (.cells #[.int .i64 (hd r).kind, .string (strOfNums (hd r).text), .int .i64 (hd r).place] 109))
  have hb2 : Below W1.heap.size W1 (W1.alloc (.cells #[.int .i64 (hd r).kind, .string (strOfNums (hd r).text), .int .i64 (hd r).place] 109)) := (Below.refl _ _).alloc (Nat.le_refl _) _
  have HB2 := Lib.hid (HB1.out.trans (hb2.mono HB1.out.size))
  have HD2 := Lib.hid ((HD.out.keep hb1).keep hb2)
  have HZ2 := Lib.hid (blk_below (blk_below HZ0.out hb1 (by simp)) hb2 (by omega))
  have hT2 := blk_lt HT2.out
  have hTW := hW1
  clear hb1 hb2
  go_upto_region 2 with (fail)
  generalize W1.alloc (.cells #[.int .i64 (hd r).kind, .string (strOfNums (hd r).text), .int .i64 (hd r).place] 109) = W2 at *
  generalize W1.heap.size = BT at *
  obtain ⟨hTl, x0, x1, x2, _⟩ := blk3 HT2.out
  obtain ⟨hPl, r0, r1, r2, r3, s1, s2, s3⟩ := blk4 HD2.out.blk
  simp only at r2 r3
  have hfew := HD2.out.few
  have hn := HD2.out.len
  go_upto_region 11 with (fail)
  have HD3 := Lib.hid (dp_next HD2.out H0.out)
  have hx3 : Exc P W2.heap.size W2 (W2.setCell ⟨P, 1, none⟩ (.int .i64 (((l.length - r.length : Nat) : Int) + 1))) := exc_set _ _ _ _
  have HX3 := Lib.hid ((Exc.of_below (R := P) HB2.out).then hx3)
  have HZ3 := Lib.hid (blk_exc HZ2.out hx3 (blk_lt HZ2.out) (by omega))
  have HT3 := Lib.hid (blk_exc HT2.out hx3 (blk_lt HT2.out) (by omega))
  clear hx3 r0 r1 r2 r3 s1 s2 s3 x0 x1 x2
  generalize W2.setCell ⟨P, 1, none⟩ (.int .i64 (((l.length - r.length : Nat) : Int) + 1)) = W3 at *
  obtain ⟨hTl, x0, x1, x2, _⟩ := blk3 HT3.out
  obtain ⟨hz, z0, z1, z2, y0, y1, y2⟩ := blk3 HZ3.out
  go_wp2
  refine post_gen (fun Wf => Wf.heap[w.heap.size]? = some (.cells #[.int .i64 (hd r).kind, .string (strOfNums (hd r).text), .int .i64 (hd r).place] 109 (0, 0)) ∧ Exc P w.heap.size w Wf ∧ Dp Wf P g c l r.tail (0, 0)) ⟨?_, ?_, ?_⟩ ?_
  · exact blk_set3 HZ3.out _ _ _
  · exact HX3.out.set3 (Nat.le_refl _) _ _ _
  · exact HD3.out.set3 (by omega) (by omega) _ _ _
  · rintro Wf ⟨f1, f2, f3⟩
    obtain ⟨_, c0, c1, c2, _⟩ := blk3 f1
    exact bodyPost_ret (v := .agg #[.int .i64 (hd r).kind, .string (strOfNums (hd r).text), .int .i64 (hd r).place]) (by simp [results, Tryz.results54, go_sem, c0, c1, c2]) rfl ⟨rfl, f3, f2⟩
theorem dname_fitsQ (w : World) (P g c : Nat) (l r : List Tok) (t1 : ((hd r).kind != 1) = true) (t3 : ((hd r).kind == 3) = true) (h0 : (hd r).kind ≠ 0) (t4 : decide (((strOfNums (hd r).text).size : Int) < 1) = false) (t5 : decide ((40 : Int) < ((strOfNums (hd r).text).size : Int)) = false) (h : Dp w P g c l r (0, 0)) :
    Calls Tryz.prog 54 #[.pointer (some ⟨P, 0, none⟩), .bool true] w fun e w' => e = .returned (tokV (hd r)) ∧ Dp w' P g c l r.tail (0, 0) ∧ Exc P w.heap.size w w' := by
  have H0 := Lib.hid h0
  clear h0
  have HZ0 := Lib.hid (heap_alloc_new w (.cells #[.int .i64 0, .string ByteArray.empty, .int .i64 0] 109))
  have hbA : Below w.heap.size w (w.alloc (.cells #[.int .i64 0, .string ByteArray.empty, .int .i64 0] 109)) := (Below.refl _ _).alloc (Nat.le_refl _) _
  have HBA := Lib.hid hbA
  have HD := Lib.hid (h.keep hbA)
  have HH := Lib.hid (dhere_any _ P g c l r _ HD.out)
  have hP := blk_lt h.blk
  have hg := h.glt
  clear h hbA
  unfold tokV at HH
  go_enter Tryz.func54, Tryz.ntmps54
  go_wp2_with fail
  refine HH.out.mono ?_
  rintro e W1 ⟨rfl, hb1⟩
  have hW1 : w.heap.size + 1 ≤ W1.heap.size := Nat.le_trans (by simp) hb1.size
  have HB1 := Lib.hid (HBA.out.trans (hb1.mono HBA.out.size))
  have HT2 := Lib.hid (heap_alloc_new W1 (.cells #[.int .i64 (hd r).kind, .string (strOfNums (hd r).text), .int .i64 (hd r).place] 109))
  have hb2 : Below W1.heap.size W1 (W1.alloc (.cells #[.int .i64 (hd r).kind, .string (strOfNums (hd r).text), .int .i64 (hd r).place] 109)) := (Below.refl _ _).alloc (Nat.le_refl _) _
  have HB2 := Lib.hid (HB1.out.trans (hb2.mono HB1.out.size))
  have HD2 := Lib.hid ((HD.out.keep hb1).keep hb2)
  have HZ2 := Lib.hid (blk_below (blk_below HZ0.out hb1 (by simp)) hb2 (by omega))
  have hT2 := blk_lt HT2.out
  have hTW := hW1
  clear hb1 hb2
  go_upto_region 2 with (fail)
  generalize W1.alloc (.cells #[.int .i64 (hd r).kind, .string (strOfNums (hd r).text), .int .i64 (hd r).place] 109) = W2 at *
  generalize W1.heap.size = BT at *
  obtain ⟨hTl, x0, x1, x2, _⟩ := blk3 HT2.out
  obtain ⟨hPl, r0, r1, r2, r3, s1, s2, s3⟩ := blk4 HD2.out.blk
  simp only at r2 r3
  have hfew := HD2.out.few
  have hn := HD2.out.len
  go_upto_region 11 with (fail)
  have HD3 := Lib.hid (dp_next HD2.out H0.out)
  have hx3 : Exc P W2.heap.size W2 (W2.setCell ⟨P, 1, none⟩ (.int .i64 (((l.length - r.length : Nat) : Int) + 1))) := exc_set _ _ _ _
  have HX3 := Lib.hid ((Exc.of_below (R := P) HB2.out).then hx3)
  have HZ3 := Lib.hid (blk_exc HZ2.out hx3 (blk_lt HZ2.out) (by omega))
  have HT3 := Lib.hid (blk_exc HT2.out hx3 (blk_lt HT2.out) (by omega))
  clear hx3 r0 r1 r2 r3 s1 s2 s3 x0 x1 x2
  generalize W2.setCell ⟨P, 1, none⟩ (.int .i64 (((l.length - r.length : Nat) : Int) + 1)) = W3 at *
  obtain ⟨hTl, x0, x1, x2, _⟩ := blk3 HT3.out
  obtain ⟨hz, z0, z1, z2, y0, y1, y2⟩ := blk3 HZ3.out
  go_wp2
  refine post_gen (fun Wf => Wf.heap[w.heap.size]? = some (.cells #[.int .i64 (hd r).kind, .string (strOfNums (hd r).text), .int .i64 (hd r).place] 109 (0, 0)) ∧ Exc P w.heap.size w Wf ∧ Dp Wf P g c l r.tail (0, 0)) ⟨?_, ?_, ?_⟩ ?_
  · exact blk_set3 HZ3.out _ _ _
  · exact HX3.out.set3 (Nat.le_refl _) _ _ _
  · exact HD3.out.set3 (by omega) (by omega) _ _ _
  · rintro Wf ⟨f1, f2, f3⟩
    obtain ⟨_, c0, c1, c2, _⟩ := blk3 f1
    exact bodyPost_ret (v := .agg #[.int .i64 (hd r).kind, .string (strOfNums (hd r).text), .int .i64 (hd r).place]) (by simp [results, Tryz.results54, go_sem, c0, c1, c2]) rfl ⟨rfl, f3, f2⟩
end Go.Proofs.YtleclhnlojalbaaGreatDoor
