/-
  The reader of the package idl: the function that reads an enum's values. Conditions: those that each theorem names.
-/
import Derived.Test.YtgbcchiheddfpaaGreatDoorPkL14
import Derived.Laws.AppendOwn
namespace Go.Proofs.YtgbcchiheddfpaaGreatDoor
open Go.ChangeShapes Go.WideShapes Go.ChangeAt Go.RowKit Go.Shelf

def fieldCells (f : RField) : List Value := [.string (strOfNums f.name), .int .i64 f.place, .string (strOfNums f.ty.name), .int .i64 f.ty.lists, .int .i64 f.ty.place, .int .i64 f.dflt.kind, .string (strOfNums f.dflt.text), .int .i64 f.dflt.place]
def fieldsCells (l : List RField) : List Value := l.flatMap fieldCells
theorem fieldsCells_snoc (l : List RField) (t : RField) : fieldsCells (l ++ [t]) = fieldsCells l ++ fieldCells t := by
  simp [fieldsCells]
theorem fieldCells_one (f : RField) : ∀ u ∈ fieldCells f, u.oneCell' = true := by
  intro u hu
  simp [fieldCells] at hu
  rcases hu with rfl | rfl | rfl | rfl | rfl | rfl | rfl | rfl <;> rfl
theorem field_info : (Tryz.prog.info? 303).map (fun i => (i.zero, i.size, i.bytes)) = some (some (.agg #[.string ⟨#[]⟩, .int .i64 0, .string ⟨#[]⟩, .int .i64 0, .int .i64 0, .int .i64 0, .string ⟨#[]⟩, .int .i64 0]), 8, 88) := by kernel_rfl
theorem fieldCells_new (W : World) (f : RField) : ∀ j u, (fieldCells f)[j]? = some u → (W.alloc (.cells #[.string (strOfNums f.name), .int .i64 f.place, .string (strOfNums f.ty.name), .int .i64 f.ty.lists, .int .i64 f.ty.place, .int .i64 f.dflt.kind, .string (strOfNums f.dflt.text), .int .i64 f.dflt.place] 303)).cell? ((⟨W.heap.size, 0, none⟩ : Addr).add j) = some u := by
  intro j u hu
  rw [add_plain, Nat.zero_add, cell_of_row _ _ _ _ _ (0, 0) (heap_alloc_new W _)]
  simpa [fieldCells] using hu
theorem Rd.deep {w W : World} {R g c B : Nat} {l r : List Tok} {F : Int × Nat} (h : Rd w R g c l r F) (hb : Below B w W) (hR : R < B) (hg : g < B) : Rd W R g c l r F :=
  ⟨(hb.block R hR).trans h.blk, h.suf, h.len, Nat.lt_of_lt_of_le h.glt hb.size, h.gne, fun k hk => (hb.cell (p := ⟨g, k, none⟩) hg).trans (h.cells k hk), h.cap, h.ends, h.byt⟩
structure FieldsAt (R g c : Nat) (l : List Tok) (Bx V : Nat) (w0 : World) (W : World) (acc : List RField) (r : List Tok) : Prop where
  rd : Rd W R g c l r (0, 0)
  box : W.heap[Bx]? = some (.cells #[.pointer (some ⟨R, 0, none⟩)] 235 (0, 0))
  row : ∃ v, W.heap[V]? = some (.cells #[v] 296 (0, 0)) ∧ W.ownsRow (V + 1) 303 8 v acc.length (fieldsCells acc)
  exc : Exc R V w0 W
  len : acc.length + r.length ≤ l.length
def FaultAt (R g c : Nat) (l : List Tok) (V : Nat) (e : TypeId) (w0 : World) (W : World) (F : Int × Nat) : Prop :=
  (∃ r, Rd W R g c l r F) ∧ (∃ a n c', W.heap[V]? = some (.cells #[.slice a n c'] e (0, 0))) ∧ Exc R V w0 W
theorem exc_row {R V : Nat} {W W' : World} {v : Value} {e : TypeId} {n : Nat} {xs : List Value} {size : Nat} (h : W.ownsRow (V + 1) e size v n xs) (hR : R < V) (hx : Exc R W.heap.size W W') : W'.ownsRow (V + 1) e size v n xs :=
  hx.ownsRow h (fun e => by have := (ownsRow_lt h R e).1; omega)
theorem grown_keeps {W W' : World} {o o' : Obj} {base V : Nat} {e : TypeId} {size : Nat} {v : Value} {n : Nat} {xs : List Value} (hg : (W.alloc o).grownBy W' v.ownBlock) (ho : W.ownsRow base e size v n xs) (hV : V < base) (hv : W.heap[V]? = some o') : W'.heap[V]? = some o' :=
  (hg.block V (by have := blk_lt hv; simp; omega) (fun e => by have := (ownsRow_lt ho V e.symm).1; omega)).trans (blk_alloc hv o)
theorem blk1 {w : World} {g : Nat} {x : Value} {t : TypeId} (h : w.heap[g]? = some (.cells #[x] t (0, 0))) : g < w.heap.size ∧ w.cell? ⟨g, 0, none⟩ = some x ∧ w.frozen? ⟨g, 0, none⟩ = false :=
  ⟨blk_lt h, (blk_cell h 0).trans rfl, blk_frozen h 0⟩
theorem FieldsAt.stay {R g c : Nat} {l : List Tok} {Bx V : Nat} {w0 W W' : World} {acc : List RField} {r r' : List Tok} (hR : R < V) (hBx : Bx ≠ R) (hw : V ≤ w0.heap.size) (h : FieldsAt R g c l Bx V w0 W acc r) (hr : Rd W' R g c l r' (0, 0)) (hx : Exc R W.heap.size W W') (hl : r'.length ≤ r.length) : FieldsAt R g c l Bx V w0 W' acc r' := by
  obtain ⟨v, hv, ho⟩ := h.row
  exact ⟨hr, blk_exc h.box hx (blk_lt h.box) hBx, ⟨v, blk_exc hv hx (blk_lt hv) (by omega), exc_row ho hR hx⟩, h.exc.thenB hw hx, by have := h.len; omega⟩
theorem FieldsAt.fails {R g c : Nat} {l : List Tok} {Bx V : Nat} {w0 W W' : World} {acc : List RField} {r r' : List Tok} {F : Int × Nat} (hR : R < V) (hw : V ≤ w0.heap.size) (h : FieldsAt R g c l Bx V w0 W acc r) (hr : Rd W' R g c l r' F) (hx : Exc R W.heap.size W W') : FaultAt R g c l V 296 w0 W' F := by
  obtain ⟨v, hv, ho⟩ := h.row
  obtain ⟨a, c', rfl⟩ := ownsRow_form ho
  exact ⟨⟨r', hr⟩, ⟨a, _, c', blk_exc hv hx (blk_lt hv) (by omega)⟩, h.exc.thenB hw hx⟩
set_option maxRecDepth 100000 in
set_option maxHeartbeats 2000000 in
theorem record1_any {R g c : Nat} {l : List Tok} {Bx V : Nat} {w0 : World} (hR : R < V) (hg : g < V) (hBx : Bx < V) (hne : Bx ≠ R) (hw : V ≤ w0.heap.size) (hl : l.length ≤ 2048) (W : World) (acc : List RField) (r : List Tok) (h : FieldsAt R g c l Bx V w0 W acc r) :
    Calls Tryz.prog 235 #[.pointer (some ⟨Bx, 0, none⟩), .pointer (some ⟨V, 0, none⟩)] W (StepPost (FieldsAt R g c l Bx V w0) (FaultAt R g c l V 296 w0) (fieldR r) acc) := by
  have HI := Lib.hid h
  have hb0 : W.cell? ⟨Bx, 0, none⟩ = some (.pointer (some ⟨R, 0, none⟩)) := (blk_cell h.box 0).trans rfl
  have hlen := h.len
  have HE := Lib.hid (field_eats h.rd.ends)
  obtain ⟨i0, hi0, hz0, hz1, hz2⟩ := info_parts field_info
  have I1 := Lib.hid hi0
  have I2 := Lib.hid hz0
  have I3 := Lib.hid hz1
  have I4 := Lib.hid hz2
  clear h hi0 hz0 hz1 hz2
  go_enter Tryz.func235, Tryz.ntmps235
  go_wp2_with fail
  refine (field_any _ R g c l r HI.out.rd).mono ?_
  rintro e W1 ⟨a, r1, F1, ok1, rfl, hr1, hx1, hs1⟩
  unfold fieldV
  obtain ⟨v, hv, ho⟩ := HI.out.row
  have HX1 := Lib.hid (HI.out.exc.thenB hw hx1)
  have HV1 := Lib.hid (blk_exc hv hx1 (blk_lt hv) (by omega))
  have HO1 := Lib.hid (exc_row ho hR hx1)
  have HB1 := Lib.hid (blk_exc HI.out.box hx1 (blk_lt HI.out.box) hne)
  have HR1 := Lib.hid hr1
  have HS1 := Lib.hid hs1
  clear hv ho hx1 hr1 hs1
  go_upto_region 2 with (fail)
  have HR2 := Lib.hid (HR1.out.alloc (.cells #[.string (strOfNums a.name), .int .i64 a.place, .string (strOfNums a.ty.name), .int .i64 a.ty.lists, .int .i64 a.ty.place, .int .i64 a.dflt.kind, .string (strOfNums a.dflt.text), .int .i64 a.dflt.place] 303))
  have HX2 := Lib.hid (HX1.out.alloc (Nat.le_trans hw HX1.out.size) (.cells #[.string (strOfNums a.name), .int .i64 a.place, .string (strOfNums a.ty.name), .int .i64 a.ty.lists, .int .i64 a.ty.place, .int .i64 a.dflt.kind, .string (strOfNums a.dflt.text), .int .i64 a.dflt.place] 303))
  have HV2 := Lib.hid (blk_alloc HV1.out (.cells #[.string (strOfNums a.name), .int .i64 a.place, .string (strOfNums a.ty.name), .int .i64 a.ty.lists, .int .i64 a.ty.place, .int .i64 a.dflt.kind, .string (strOfNums a.dflt.text), .int .i64 a.dflt.place] 303))
  have HB2 := Lib.hid (blk_alloc HB1.out (.cells #[.string (strOfNums a.name), .int .i64 a.place, .string (strOfNums a.ty.name), .int .i64 a.ty.lists, .int .i64 a.ty.place, .int .i64 a.dflt.kind, .string (strOfNums a.dflt.text), .int .i64 a.dflt.place] 303))
  have HF2 := Lib.hid (heap_alloc_new W1 (.cells #[.string (strOfNums a.name), .int .i64 a.place, .string (strOfNums a.ty.name), .int .i64 a.ty.lists, .int .i64 a.ty.place, .int .i64 a.dflt.kind, .string (strOfNums a.dflt.text), .int .i64 a.dflt.place] 303))
  have HO2 := Lib.hid (exc_row HO1.out hR ((Exc.refl _ _ _).alloc (Nat.le_refl _) (.cells #[.string (strOfNums a.name), .int .i64 a.place, .string (strOfNums a.ty.name), .int .i64 a.ty.lists, .int .i64 a.ty.place, .int .i64 a.dflt.kind, .string (strOfNums a.dflt.text), .int .i64 a.dflt.place] 303)))
  have hVlt : V < W1.heap.size := blk_lt HV1.out
  clear HR1 HX1 HV1 HB1 HO1
  generalize hW2 : W1.alloc (.cells #[.string (strOfNums a.name), .int .i64 a.place, .string (strOfNums a.ty.name), .int .i64 a.ty.lists, .int .i64 a.ty.place, .int .i64 a.dflt.kind, .string (strOfNums a.dflt.text), .int .i64 a.dflt.place] 303) = W2 at *
  clear hW2
  generalize W1.heap.size = BF at *
  obtain ⟨hf2, ⟨f0, f1, f2, f3, f4, f5, f6, f7⟩, _⟩ := blk8 HF2.out
  have v0 : W2.cell? ⟨V, 0, none⟩ = some v := (blk_cell HV2.out 0).trans rfl
  obtain ⟨va, vc, rfl⟩ := ownsRow_form HO2.out
  go_wp2_with (at_builtin; refine wpList_append_own _ rfl (.tmp 10) (.tmp 12) 296 rfl (V + 1) 303 i0 _ 8 88 Tryz.underlying296 I1.out I2.out I3.out I4.out rfl (by decide) _ acc.length (fieldsCells acc) rfl (exc_row HO2.out hR ((Exc.refl _ _ _).alloc (Nat.le_refl _) (.cells #[.string (strOfNums a.name), .int .i64 a.place, .string (strOfNums a.ty.name), .int .i64 a.ty.lists, .int .i64 a.ty.place, .int .i64 a.dflt.kind, .string (strOfNums a.dflt.text), .int .i64 a.dflt.place] 303))) ⟨W2.heap.size, 0, none⟩ 1 1 (fieldCells a) rfl rfl (fieldCells_new W2 a) (fieldCells_one a) (by unfold maxLen; omega) (by omega) (by simp; omega) ?_; intro v4 W4 hown4 hg4 hx; clear hx; have HG4 := Lib.hid hg4; obtain ⟨a4, c4, rfl⟩ := ownsRow_form hown4; have HO4 := Lib.hid hown4; have HV4 := Lib.hid (grown_keeps hg4 HO2.out (Nat.lt_succ_self V) HV2.out); obtain ⟨hv4, x4, y4⟩ := blk1 HV4.out; clear hown4 hg4)
  have hb : Below V W2 (W4.setCell ⟨V, 0, none⟩ (.slice a4 (acc.length + 1) c4)) := (((Below.refl V W2).alloc (by omega) _).grown HG4.out (by simp; omega) (fun k hk => by have := (ownsRow_lt HO2.out k hk).1; omega)).setCell (Nat.le_refl _) _
  have hV5 : (W4.setCell ⟨V, 0, none⟩ (.slice a4 (acc.length + 1) c4)).heap[V]? = some (.cells #[.slice a4 (acc.length + 1) c4] 296 (0, 0)) := (blk_set HV4.out 0 _).trans rfl
  have hO5 := ownsRow_setCell_below HO4.out (a := ⟨V, 0, none⟩) (Nat.lt_succ_self V) (.slice a4 (acc.length + 1) c4)
  go_ret
  generalize fieldR r = q at *
  obtain ⟨a', r'⟩ | ⟨cc, pp⟩ := q
  · obtain ⟨rfl, rfl, rfl, rfl⟩ := HS1.out
    have h1 := (HE.out a r1 rfl).2
    exact ⟨rfl, HR2.out.deep hb hR hg, blk_below HB2.out hb hBx, ⟨_, hV5, by rw [fieldsCells_snoc, List.length_append]; exact hO5⟩, HX2.out.trans (.of_below hb), by simp; omega⟩
  · obtain ⟨rfl, rfl⟩ := HS1.out
    exact ⟨rfl, ⟨r1, HR2.out.deep hb hR hg⟩, ⟨_, _, _, hV5⟩, HX2.out.trans (.of_below hb)⟩
end Go.Proofs.YtgbcchiheddfpaaGreatDoor
namespace Go.Proofs.YtgbcchiheddfpaaGreatDoor
open Go.ChangeShapes Go.WideShapes Go.ChangeAt Go.RowKit Go.Shelf

def valueNR (r : List Tok) : Res Tok := (nameR r).bind fun t r1 => (commaR r1).bind fun _ r2 => .ok t r2
theorem valueN_eats {r : List Tok} (h : Ends r) : Eats r (valueNR r) :=
  eats_bind (name_eats h) fun _ _ h1 => keeps_bind (comma_keeps h1) fun _ _ h2 => keeps_ok _ h2
theorem namesL_step2 {acc : List Tok} {r : List Tok} (h : Ends r) : namesL acc r = if isT 4 [125] r = true then .ok acc r.tail else (valueNR r).bind fun x r' => namesL (acc ++ [x]) r' := by
  rw [namesL_step h]
  split
  · rfl
  · unfold valueNR
    cases nameR r with
    | no c p => rfl
    | ok t r1 =>
      simp only [bind_ok]
      cases commaR r1 with
      | no c p => rfl
      | ok b r2 => rfl
structure NamesAt (R g c : Nat) (l : List Tok) (Bx V : Nat) (w0 : World) (W : World) (acc : List Tok) (r : List Tok) : Prop where
  rd : Rd W R g c l r (0, 0)
  box : W.heap[Bx]? = some (.cells #[.pointer (some ⟨R, 0, none⟩)] 235 (0, 0))
  row : ∃ v, W.heap[V]? = some (.cells #[v] 186 (0, 0)) ∧ W.ownsRow (V + 1) 282 3 v acc.length (toksCells acc)
  exc : Exc R V w0 W
  len : acc.length + r.length ≤ l.length
theorem NamesAt.stay {R g c : Nat} {l : List Tok} {Bx V : Nat} {w0 W W' : World} {acc : List Tok} {r r' : List Tok} (hR : R < V) (hBx : Bx ≠ R) (hw : V ≤ w0.heap.size) (h : NamesAt R g c l Bx V w0 W acc r) (hr : Rd W' R g c l r' (0, 0)) (hx : Exc R W.heap.size W W') (hl : r'.length ≤ r.length) : NamesAt R g c l Bx V w0 W' acc r' := by
  obtain ⟨v, hv, ho⟩ := h.row
  exact ⟨hr, blk_exc h.box hx (blk_lt h.box) hBx, ⟨v, blk_exc hv hx (blk_lt hv) (by omega), exc_row ho hR hx⟩, h.exc.thenB hw hx, by have := h.len; omega⟩
theorem NamesAt.fails {R g c : Nat} {l : List Tok} {Bx V : Nat} {w0 W W' : World} {acc : List Tok} {r r' : List Tok} {F : Int × Nat} (hR : R < V) (hw : V ≤ w0.heap.size) (h : NamesAt R g c l Bx V w0 W acc r) (hr : Rd W' R g c l r' F) (hx : Exc R W.heap.size W W') : FaultAt R g c l V 186 w0 W' F := by
  obtain ⟨v, hv, ho⟩ := h.row
  obtain ⟨a, c', rfl⟩ := ownsRow_form ho
  exact ⟨⟨r', hr⟩, ⟨a, _, c', blk_exc hv hx (blk_lt hv) (by omega)⟩, h.exc.thenB hw hx⟩
set_option maxRecDepth 100000 in
set_option maxHeartbeats 2000000 in
theorem choice1_any {R g c : Nat} {l : List Tok} {Bx V : Nat} {w0 : World} (hR : R < V) (hg : g < V) (hBx : Bx < V) (hne : Bx ≠ R) (hw : V ≤ w0.heap.size) (hl : l.length ≤ 2048) (W : World) (acc : List Tok) (r : List Tok) (h : NamesAt R g c l Bx V w0 W acc r) :
    Calls Tryz.prog 237 #[.pointer (some ⟨Bx, 0, none⟩), .pointer (some ⟨V, 0, none⟩)] W (StepPost (NamesAt R g c l Bx V w0) (FaultAt R g c l V 186 w0) (valueNR r) acc) := by
  have HI := Lib.hid h
  have hb0 : W.cell? ⟨Bx, 0, none⟩ = some (.pointer (some ⟨R, 0, none⟩)) := (blk_cell h.box 0).trans rfl
  have hlen := h.len
  have HE := Lib.hid (name_eats h.rd.ends)
  have HV : Hid (valueNR r = (nameR r).bind fun t r1 => (commaR r1).bind fun _ r2 => .ok t r2) := Lib.hid rfl
  obtain ⟨i0, hi0, hz0, hz1, hz2⟩ := info_parts tok_info
  have I1 := Lib.hid hi0
  have I2 := Lib.hid hz0
  have I3 := Lib.hid hz1
  have I4 := Lib.hid hz2
  clear h hi0 hz0 hz1 hz2
  go_enter Tryz.func237, Tryz.ntmps237
  go_wp2_with fail
  refine (name_any _ R g c l r HI.out.rd).mono ?_
  rintro e W1 ⟨a, r1, F1, ok1, rfl, hr1, hx1, hs1⟩
  unfold tokV
  obtain ⟨v, hv, ho⟩ := HI.out.row
  have HX1 := Lib.hid (HI.out.exc.thenB hw hx1)
  have HV1 := Lib.hid (blk_exc hv hx1 (blk_lt hv) (by omega))
  have HO1 := Lib.hid (exc_row ho hR hx1)
  have HB1 := Lib.hid (blk_exc HI.out.box hx1 (blk_lt HI.out.box) hne)
  have HR1 := Lib.hid hr1
  have HS1 := Lib.hid hs1
  clear hv ho hx1 hr1 hs1
  go_upto_region 2 with (fail)
  have HR2 := Lib.hid (HR1.out.alloc (.cells #[.int .i64 a.kind, .string (strOfNums a.text), .int .i64 a.place] 282))
  have HX2 := Lib.hid (HX1.out.alloc (Nat.le_trans hw HX1.out.size) (.cells #[.int .i64 a.kind, .string (strOfNums a.text), .int .i64 a.place] 282))
  have HV2 := Lib.hid (blk_alloc HV1.out (.cells #[.int .i64 a.kind, .string (strOfNums a.text), .int .i64 a.place] 282))
  have HB2 := Lib.hid (blk_alloc HB1.out (.cells #[.int .i64 a.kind, .string (strOfNums a.text), .int .i64 a.place] 282))
  have HF2 := Lib.hid (heap_alloc_new W1 (.cells #[.int .i64 a.kind, .string (strOfNums a.text), .int .i64 a.place] 282))
  have HO2 := Lib.hid (exc_row HO1.out hR ((Exc.refl _ _ _).alloc (Nat.le_refl _) (.cells #[.int .i64 a.kind, .string (strOfNums a.text), .int .i64 a.place] 282)))
  have hVlt : V < W1.heap.size := blk_lt HV1.out
  clear HR1 HX1 HV1 HB1 HO1
  generalize hW2 : W1.alloc (.cells #[.int .i64 a.kind, .string (strOfNums a.text), .int .i64 a.place] 282) = W2 at *
  clear hW2
  generalize W1.heap.size = BF at *
  obtain ⟨hf2, f0, f1, f2, _⟩ := blk3 HF2.out
  have v0 : W2.cell? ⟨V, 0, none⟩ = some v := (blk_cell HV2.out 0).trans rfl
  obtain ⟨va, vc, rfl⟩ := ownsRow_form HO2.out
  go_upto_region 3 with (at_builtin; refine wpList_append_own _ rfl (.tmp 10) (.tmp 12) 186 rfl (V + 1) 282 i0 _ 3 32 Tryz.underlying186 I1.out I2.out I3.out I4.out rfl (by decide) _ acc.length (toksCells acc) rfl (exc_row HO2.out hR ((Exc.refl _ _ _).alloc (Nat.le_refl _) (.cells #[.int .i64 a.kind, .string (strOfNums a.text), .int .i64 a.place] 282))) ⟨W2.heap.size, 0, none⟩ 1 1 (tokCells a) rfl rfl (tokCells_new W2 a _ rfl) (tokCells_one a) (by unfold maxLen; omega) (by omega) (by simp; omega) ?_; intro v4 W4 hown4 hg4 hx; clear hx; have HG4 := Lib.hid hg4; obtain ⟨a4, c4, rfl⟩ := ownsRow_form hown4; have HO4 := Lib.hid hown4; have HV4 := Lib.hid (grown_keeps hg4 HO2.out (Nat.lt_succ_self V) HV2.out); obtain ⟨hv4, x4, y4⟩ := blk1 HV4.out; clear hown4 hg4)
  have hb : Below V W2 (W4.setCell ⟨V, 0, none⟩ (.slice a4 (acc.length + 1) c4)) := (((Below.refl V W2).alloc (by omega) _).grown HG4.out (by simp; omega) (fun k hk => by have := (ownsRow_lt HO2.out k hk).1; omega)).setCell (Nat.le_refl _) _
  have HV5 := Lib.hid (show (W4.setCell ⟨V, 0, none⟩ (.slice a4 (acc.length + 1) c4)).heap[V]? = some (.cells #[.slice a4 (acc.length + 1) c4] 186 (0, 0)) from (blk_set HV4.out 0 _).trans rfl)
  have HO5 := Lib.hid (ownsRow_setCell_below HO4.out (a := ⟨V, 0, none⟩) (Nat.lt_succ_self V) (.slice a4 (acc.length + 1) c4))
  have HR5 := Lib.hid (HR2.out.deep hb hR hg)
  have HX5 := Lib.hid (HX2.out.trans (.of_below hb))
  have HB5 := Lib.hid (blk_below HB2.out hb hBx)
  clear hb HV4 HO4 HG4 hv4 x4 y4 HR2 HX2 HB2 HV2 HO2 v0 f0 f1 f2 hf2 HF2
  generalize W4.setCell ⟨V, 0, none⟩ (.slice a4 (acc.length + 1) c4) = W5 at *
  generalize nameR r = q at *
  obtain ⟨a', r'⟩ | ⟨cc, pp⟩ := q
  · obtain ⟨rfl, rfl, rfl, rfl⟩ := HS1.out
    have HE1 := Lib.hid (HE.out a r1 rfl)
    have HV6 := Lib.hid (HV.out.trans (bind_ok _ _ _))
    have HN5 : Hid (NamesAt R g c l Bx V w0 W5 (acc ++ [a]) r1) := Lib.hid ⟨HR5.out, HB5.out, ⟨_, HV5.out, by rw [toksCells_snoc, List.length_append]; exact HO5.out⟩, HX5.out, by have := HE1.out.2; simp; omega⟩
    have hb5 : W5.cell? ⟨Bx, 0, none⟩ = some (.pointer (some ⟨R, 0, none⟩)) := (blk_cell HB5.out 0).trans rfl
    clear HS1 HE HV HV5 HO5 HR5 HX5
    go_wp2_with fail
    refine (rdStands_any _ R g c l r1 (0, 0) 4 ⟨#[125]⟩ [125] (by kernel_rfl) HN5.out.rd).mono ?_
    rintro e W6 ⟨rfl, hb6⟩
    have HN6 := Lib.hid (HN5.out.stay hR hne hw (HN5.out.rd.keep hb6) (.of_below hb6) (Nat.le_refl _))
    clear hb6 hb5
    have HC : Hid (commaR r1 = if isT 4 [125] r1 = true then .ok () r1 else wantR [44] r1) := Lib.hid rfl
    generalize isT 4 [125] r1 = b at *
    cases b
    · have HC1 := Lib.hid (HC.out.trans (if_neg (by decide)))
      have hb6 : W6.cell? ⟨Bx, 0, none⟩ = some (.pointer (some ⟨R, 0, none⟩)) := (blk_cell HN6.out.box 0).trans rfl
      go_wp2_with fail
      refine (want_any _ R g c l r1 ⟨#[44]⟩ [44] (by kernel_rfl) HN6.out.rd).mono ?_
      rintro e W7 ⟨r7, F7, ok7, rfl, hr7, hx7, hs7⟩
      have HR7 := Lib.hid hr7
      have HX7 := Lib.hid hx7
      have HS7 := Lib.hid hs7
      have HE7 := Lib.hid (want_eats (s := [44]) HN6.out.rd.ends)
      clear hr7 hx7 hs7 hb6
      generalize wantR [44] r1 = q at *
      obtain ⟨a', r'⟩ | ⟨cc, pp⟩ := q
      · obtain ⟨rfl, _, rfl, rfl⟩ := HS7.out
        have HW := Lib.hid (HV6.out.trans (by rw [HC1.out]; rfl : _ = Res.ok a r7))
        go_wp2
        go_ret
        rw [HW.out]
        exact ⟨rfl, HN6.out.stay hR hne hw HR7.out HX7.out (Nat.le_of_lt (HE7.out _ _ rfl).2)⟩
      · obtain ⟨rfl, rfl⟩ := HS7.out
        have HW := Lib.hid (HV6.out.trans (by rw [HC1.out]; rfl : _ = Res.no cc pp))
        go_wp2
        go_ret
        rw [HW.out]
        exact ⟨rfl, HN6.out.fails hR hw HR7.out HX7.out⟩
    · have HC1 := Lib.hid (HC.out.trans (if_pos rfl))
      have HW := Lib.hid (HV6.out.trans (by rw [HC1.out]; rfl : _ = Res.ok a r1))
      go_wp2
      go_ret
      rw [HW.out]
      exact ⟨rfl, HN6.out⟩
  · obtain ⟨rfl, rfl⟩ := HS1.out
    have HW := Lib.hid (HV.out.trans (bind_no _ _ _))
    go_wp2
    go_ret
    rw [HW.out]
    exact ⟨rfl, ⟨r1, HR5.out⟩, ⟨_, _, _, HV5.out⟩, HX5.out⟩
end Go.Proofs.YtgbcchiheddfpaaGreatDoor
