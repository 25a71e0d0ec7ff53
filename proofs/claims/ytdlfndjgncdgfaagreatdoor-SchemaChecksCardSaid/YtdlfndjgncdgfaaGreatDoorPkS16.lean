/-
  The reader of the package idl: a struct as it is written, and the function that reads its fields. Conditions: those that each theorem names.
-/
import Derived.Test.YtdlfndjgncdgfaaGreatDoorPkS11
import Derived.Laws.EntriesVeiled
import Derived.Shelf.Abstract
import Derived.Laws.AppendOwn
namespace Go.Proofs.YtdlfndjgncdgfaaGreatDoor
open Go.ChangeShapes Go.WideShapes Go.ChangeAt Go.RowKit Go.Shelf

theorem tail_len (b : Bool) (r : List Tok) : (if b = true then r.tail else r).length ≤ r.length := by
  split
  · rw [List.length_tail]; omega
  · exact Nat.le_refl _
section
variable {α : Type}
def StepPost (I : World → List α → List Tok → Prop) (J : World → Int × Nat → Prop) (x : Res α) (acc : List α) (e : Ending) (W : World) : Prop :=
  match x with
  | .ok a r => e = .returned (.bool true) ∧ I W (acc ++ [a]) r
  | .no c p => e = .returned (.bool false) ∧ J W (c, p)
def ListPost (I : World → List α → List Tok → Prop) (J : World → Int × Nat → Prop) (x : Res (List α)) (e : Ending) (W : World) : Prop :=
  match x with
  | .ok acc r => e = .returned (.bool true) ∧ I W acc r
  | .no c p => e = .returned (.bool false) ∧ J W (c, p)
def lenAt : Option Value → Nat
  | some (.slice _ n _) => n
  | _ => 0
structure Keeper (R g c : Nat) (l : List Tok) (gf : FuncId) (lb : Array Value) (I : World → List α → List Tok → Prop) (J : World → Int × Nat → Prop) (step : List Tok → Res α) : Prop where
  enters : ∀ args w, (callFunc gf args).run Tryz.prog w = .ok (.enter gf args) w
  rd : ∀ W acc r, I W acc r → Rd W R g c l r (0, 0)
  stay : ∀ W W' acc r r', I W acc r → Rd W' R g c l r' (0, 0) → Exc R W.heap.size W W' → r'.length ≤ r.length → I W' acc r'
  fails : ∀ W W' acc r r' F, I W acc r → Rd W' R g c l r' F → Exc R W.heap.size W W' → J W' F
  eats : ∀ r, Ends r → Eats r (step r)
  gives : ∀ W acc r, I W acc r → Calls Tryz.prog gf lb W (StepPost I J (step r) acc)
set_option maxHeartbeats 1000000 in
theorem braced_any {R g c : Nat} {l : List Tok} {gf : FuncId} {lb : Array Value} {I : World → List α → List Tok → Prop} {J : World → Int × Nat → Prop} {step : List Tok → Res α} (L : List α → List Tok → Res (List α))
    (hL : ∀ acc r, Ends r → L acc r = if isT 4 [125] r = true then .ok acc r.tail else (step r).bind fun x r' => L (acc ++ [x]) r')
    (hK : Keeper R g c l gf lb I J step) (acc : List α) (r : List Tok) (w : World) (h : I w acc r) :
    Calls Tryz.prog 140 #[.pointer (some ⟨R, 0, none⟩), .func (.func gf) #[] lb] w (ListPost I J ((wantR [123] r).bind fun _ r2 => L acc r2)) := by
  have HI := Lib.hid h
  have e1 := hK.enters
  have HK := Lib.hid hK
  have HL := Lib.hid hL
  obtain ⟨T, hT⟩ : ∃ T, ((wantR [123] r).bind fun _ r2 => L acc r2) = T := ⟨_, rfl⟩
  rw [hT]
  have HT := Lib.hid hT
  clear h hK hL hT
  go_enter Tryz.func140, Tryz.ntmps140
  go_wp2_with fail
  refine (want_any _ R g c l r ⟨#[123]⟩ [123] (by kernel_rfl) (HK.out.rd _ _ _ HI.out)).mono ?_
  rintro e W1 ⟨r1, F1, ok1, rfl, hr1, hx1, hs1⟩
  have HR1 := Lib.hid hr1
  have HX1 := Lib.hid hx1
  have HS1 := Lib.hid hs1
  have HEAT := Lib.hid (want_eats (s := [123]) (HK.out.rd _ _ _ HI.out).ends)
  clear hr1 hx1 hs1
  generalize wantR [123] r = q at *
  obtain ⟨a', r'⟩ | ⟨cc, pp⟩ := q
  · obtain ⟨rfl, _, rfl, rfl⟩ := HS1.out
    have HT1 := Lib.hid (HT.out.symm.trans (bind_ok _ _ _))
    have HI1 := Lib.hid (HK.out.stay _ _ _ _ _ HI.out HR1.out HX1.out (Nat.le_of_lt (HEAT.out _ _ rfl).2))
    clear HI HR1 HX1 HEAT
    go_wp2
    go_loopw [] (fun wr => ∃ acc2 r2, I wr acc2 r2 ∧ L acc r1 = L acc2 r2) (fun wr => lenAt (wr.cell? ⟨R, 0, none⟩))
    case atStart => exact ⟨acc, r1, HI1.out, rfl⟩
    case round =>
      obtain ⟨acc2, r2, hi2, he2⟩ := hrel
      have hend := (HK.out.rd _ _ _ hi2).ends
      have HE2 := Lib.hid (he2.trans (HL.out acc2 r2 hend))
      have HI2 := Lib.hid hi2
      have HM := Lib.hid (show lenAt (wr.cell? ⟨R, 0, none⟩) = r2.length by rw [(HK.out.rd _ _ _ hi2).cells3.1]; rfl)
      have HEND := Lib.hid hend
      clear hi2 he2 hend
      go_wp2_with fail
      refine (sign_any _ R g c l r2 (0, 0) ⟨#[125]⟩ [125] (by kernel_rfl) (HK.out.rd _ _ _ HI2.out)).mono ?_
      rintro e W3 ⟨rfl, hr3, hx3⟩
      have HI3 := Lib.hid (HK.out.stay _ _ _ _ _ HI2.out hr3 hx3 (tail_len _ _))
      clear hr3 hx3
      generalize isT 4 [125] r2 = b at *
      cases b
      · have HE3 := Lib.hid (HE2.out.trans (if_neg (by decide)))
        rw [if_neg (by decide)] at HI3
        clear HE2
        have HG := Lib.hid (HK.out.gives _ _ _ HI3.out)
        go_wp2_with fail
        refine HG.out.mono ?_
        rintro e W4 hp
        have HP := Lib.hid hp
        have HEA := Lib.hid (HK.out.eats r2 HEND.out)
        clear hp
        generalize step r2 = q at *
        obtain ⟨a4, r4⟩ | ⟨cc, pp⟩ := q
        · obtain ⟨rfl, hi4⟩ := HP.out
          have HI4 := Lib.hid hi4
          have HE4 := Lib.hid (HE3.out.trans (bind_ok _ _ _))
          have HLT := Lib.hid (HEA.out a4 r4 rfl).2
          have HM4 := Lib.hid (show lenAt (W4.cell? ⟨R, 0, none⟩) = r4.length by rw [(HK.out.rd _ _ _ hi4).cells3.1]; rfl)
          clear hi4
          go_wp2
          go_roundw
          case rel => exact ⟨acc2 ++ [a4], r4, HI4.out, HE4.out⟩
          case measure => rw [HM4.out, HM.out]; exact HLT.out
        · obtain ⟨rfl, hi4⟩ := HP.out
          have HI4 := Lib.hid hi4
          have HE4 := Lib.hid (HE3.out.trans (bind_no _ _ _))
          clear hi4
          go_wp2
          go_ret
          rw [HT1.out, HE4.out]
          exact ⟨rfl, HI4.out⟩
      · have HE3 := Lib.hid (HE2.out.trans (if_pos rfl))
        rw [if_pos rfl] at HI3
        clear HE2
        go_wp2
        go_ret
        rw [HT1.out, HE3.out]
        exact ⟨rfl, HI3.out⟩
  · obtain ⟨rfl, rfl⟩ := HS1.out
    have HT1 := Lib.hid (HT.out.symm.trans (bind_no _ _ _))
    go_wp2
    go_ret
    rw [HT1.out]
    exact ⟨rfl, HK.out.fails _ _ _ _ _ _ HI.out HR1.out HX1.out⟩
end
end Go.Proofs.YtdlfndjgncdgfaaGreatDoor
namespace Go.Proofs.YtdlfndjgncdgfaaGreatDoor
open Go.ChangeShapes Go.WideShapes Go.ChangeAt Go.RowKit Go.Shelf

def fieldCells (f : RField) : List Value := [.string (strOfNums f.name), .int .i64 f.place, .string (strOfNums f.ty.name), .int .i64 f.ty.lists, .int .i64 f.ty.place, .int .i64 f.dflt.kind, .string (strOfNums f.dflt.text), .int .i64 f.dflt.place]
def fieldsCells (l : List RField) : List Value := l.flatMap fieldCells
theorem fieldsCells_snoc (l : List RField) (t : RField) : fieldsCells (l ++ [t]) = fieldsCells l ++ fieldCells t := by
  simp [fieldsCells]
theorem fieldCells_one (f : RField) : ∀ u ∈ fieldCells f, u.oneCell' = true := by
  intro u hu
  simp [fieldCells] at hu
  rcases hu with rfl | rfl | rfl | rfl | rfl | rfl | rfl | rfl <;> rfl
theorem field_info : (Tryz.prog.info? 124).map (fun i => (i.zero, i.size, i.bytes)) = some (some (.agg #[.string ⟨#[]⟩, .int .i64 0, .string ⟨#[]⟩, .int .i64 0, .int .i64 0, .int .i64 0, .string ⟨#[]⟩, .int .i64 0]), 8, 88) := by kernel_rfl
theorem fieldCells_new (W : World) (f : RField) : ∀ j u, (fieldCells f)[j]? = some u → (W.alloc (.cells #[.string (strOfNums f.name), .int .i64 f.place, .string (strOfNums f.ty.name), .int .i64 f.ty.lists, .int .i64 f.ty.place, .int .i64 f.dflt.kind, .string (strOfNums f.dflt.text), .int .i64 f.dflt.place] 124)).cell? ((⟨W.heap.size, 0, none⟩ : Addr).add j) = some u := by
  intro j u hu
  rw [add_plain, Nat.zero_add, cell_of_row _ _ _ _ _ (0, 0) (heap_alloc_new W _)]
  simpa [fieldCells] using hu
theorem Rd.deep {w W : World} {R g c B : Nat} {l r : List Tok} {F : Int × Nat} (h : Rd w R g c l r F) (hb : Below B w W) (hR : R < B) (hg : g < B) : Rd W R g c l r F :=
  ⟨(hb.block R hR).trans h.blk, h.suf, h.len, Nat.lt_of_lt_of_le h.glt hb.size, h.gne, fun k hk => (hb.cell (p := ⟨g, k, none⟩) hg).trans (h.cells k hk), h.cap, h.ends, h.byt⟩
structure FieldsAt (R g c : Nat) (l : List Tok) (Bx V : Nat) (w0 : World) (W : World) (acc : List RField) (r : List Tok) : Prop where
  rd : Rd W R g c l r (0, 0)
  box : W.heap[Bx]? = some (.cells #[.pointer (some ⟨R, 0, none⟩)] 131 (0, 0))
  row : ∃ v, W.heap[V]? = some (.cells #[v] 111 (0, 0)) ∧ W.ownsRow (V + 1) 124 8 v acc.length (fieldsCells acc)
  exc : Exc R V w0 W
  len : acc.length + r.length ≤ l.length
def FaultAt (R g c : Nat) (l : List Tok) (V : Nat) (e : TypeId) (w0 : World) (W : World) (F : Int × Nat) : Prop :=
  (∃ r, Rd W R g c l r F) ∧ (∃ a n c', W.heap[V]? = some (.cells #[.slice a n c'] e (0, 0))) ∧ Exc R V w0 W
theorem exc_row {R V : Nat} {W W' : World} {v : Value} {e : TypeId} {n : Nat} {xs : List Value} {size : Nat} (h : W.ownsRow (V + 1) e size v n xs) (hR : R < V) (hx : Exc R W.heap.size W W') : W'.ownsRow (V + 1) e size v n xs :=
  hx.ownsRow h (fun e => by have := (ownsRow_lt h R e).1; omega)
theorem grown_keeps {W W' : World} {o o' : Obj} {base V : Nat} {e : TypeId} {size : Nat} {v : Value} {n : Nat} {xs : List Value} (hg : (W.alloc o).grownBy W' v.ownBlock) (ho : W.ownsRow base e size v n xs) (hV : V < base) (hv : W.heap[V]? = some o') : W'.heap[V]? = some o' :=
  (hg.block V (by have := blk_lt hv; simp; omega) (fun e => by have := (ownsRow_lt ho V e.symm).1; omega)).trans (blk_alloc hv o)
theorem blk1 {w : World} {g : Nat} {x : Value} {t : TypeId} (h : w.heap[g]? = some (.cells #[x] t (0, 0))) : g < w.heap.size ∧ w.cell? ⟨g, 0, none⟩ = some x ∧ w.frozen? ⟨g, 0, none⟩ = false :=
  ⟨blk_lt h, (blk_cell h 0).trans rfl, blk_frozen h 0⟩
theorem FieldsAt.stay {R g c : Nat} {l : List Tok} {Bx V : Nat} {w0 W W' : World} {acc : List RField} {r r' : List Tok} (hR : R < V) (hBx : Bx ≠ R) (hw : V ≤ w0.heap.size) (h : FieldsAt R g c l Bx V w0 W acc r) (hr : Rd W' R g c l r' (0, 0)) (hx : Exc R W.heap.size W W') (hl : r'.length ≤ r.length) : FieldsAt R g c l Bx V w0 W' acc r' := by
  obtain ⟨v, hv, ho⟩ := h.row
  exact ⟨hr, blk_exc h.box hx (blk_lt h.box) hBx, ⟨v, blk_exc hv hx (blk_lt hv) (by omega), exc_row ho hR hx⟩, h.exc.thenB hw hx, by have := h.len; omega⟩
theorem FieldsAt.fails {R g c : Nat} {l : List Tok} {Bx V : Nat} {w0 W W' : World} {acc : List RField} {r r' : List Tok} {F : Int × Nat} (hR : R < V) (hw : V ≤ w0.heap.size) (h : FieldsAt R g c l Bx V w0 W acc r) (hr : Rd W' R g c l r' F) (hx : Exc R W.heap.size W W') : FaultAt R g c l V 111 w0 W' F := by
  obtain ⟨v, hv, ho⟩ := h.row
  obtain ⟨a, c', rfl⟩ := ownsRow_form ho
  exact ⟨⟨r', hr⟩, ⟨a, _, c', blk_exc hv hx (blk_lt hv) (by omega)⟩, h.exc.thenB hw hx⟩
set_option maxRecDepth 100000 in
set_option maxHeartbeats 2000000 in
theorem record1_any {R g c : Nat} {l : List Tok} {Bx V : Nat} {w0 : World} (hR : R < V) (hg : g < V) (hBx : Bx < V) (hne : Bx ≠ R) (hw : V ≤ w0.heap.size) (hl : l.length ≤ 2048) (W : World) (acc : List RField) (r : List Tok) (h : FieldsAt R g c l Bx V w0 W acc r) :
    Calls Tryz.prog 141 #[.pointer (some ⟨Bx, 0, none⟩), .pointer (some ⟨V, 0, none⟩)] W (StepPost (FieldsAt R g c l Bx V w0) (FaultAt R g c l V 111 w0) (fieldR r) acc) := by
  have HI := Lib.hid h
  have hb0 : W.cell? ⟨Bx, 0, none⟩ = some (.pointer (some ⟨R, 0, none⟩)) := (blk_cell h.box 0).trans rfl
  have hlen := h.len
  have HE := Lib.hid (field_eats h.rd.ends)
  obtain ⟨i0, hi0, hz0, hz1, hz2⟩ := info_parts field_info
  have I1 := Lib.hid hi0
  have I2 := Lib.hid hz0
  have I3 := Lib.hid hz1
  have I4 := Lib.hid hz2
  clear h hi0 hz0 hz1 hz2
  go_enter Tryz.func141, Tryz.ntmps141
  go_wp2_with fail
  refine (field_any _ R g c l r HI.out.rd).mono ?_
  rintro e W1 ⟨a, r1, F1, ok1, rfl, hr1, hx1, hs1⟩
  unfold fieldV
  obtain ⟨v, hv, ho⟩ := HI.out.row
  have HX1 := Lib.hid (HI.out.exc.thenB hw hx1)
  have HV1 := Lib.hid (blk_exc hv hx1 (blk_lt hv) (by omega))
  have HO1 := Lib.hid (exc_row ho hR hx1)
  have HB1 := Lib.hid (blk_exc HI.out.box hx1 (blk_lt HI.out.box) hne)
  have HR1 := Lib.hid hr1
  have HS1 := Lib.hid hs1
  clear hv ho hx1 hr1 hs1
  go_upto_region 2 with (fail)
  have HR2 := Lib.hid (HR1.out.alloc (.cells #[.string (strOfNums a.name), .int .i64 a.place, .string (strOfNums a.ty.name), .int .i64 a.ty.lists, .int .i64 a.ty.place, .int .i64 a.dflt.kind, .string (strOfNums a.dflt.text), .int .i64 a.dflt.place] 124))
  have HX2 := Lib.hid (HX1.out.alloc (Nat.le_trans hw HX1.out.size) (.cells #[.string (strOfNums a.name), .int .i64 a.place, .string (strOfNums a.ty.name), .int .i64 a.ty.lists, .int .i64 a.ty.place, .int .i64 a.dflt.kind, .string (strOfNums a.dflt.text), .int .i64 a.dflt.place] 124))
  have HV2 := Lib.hid (blk_alloc HV1.out (.cells #[.string (strOfNums a.name), .int .i64 a.place, .string (strOfNums a.ty.name), .int .i64 a.ty.lists, .int .i64 a.ty.place, .int .i64 a.dflt.kind, .string (strOfNums a.dflt.text), .int .i64 a.dflt.place] 124))
  have HB2 := Lib.hid (blk_alloc HB1.out (.cells #[.string (strOfNums a.name), .int .i64 a.place, .string (strOfNums a.ty.name), .int .i64 a.ty.lists, .int .i64 a.ty.place, .int .i64 a.dflt.kind, .string (strOfNums a.dflt.text), .int .i64 a.dflt.place] 124))
  have HF2 := Lib.hid (heap_alloc_new W1 (.cells #[.string (strOfNums a.name), .int .i64 a.place, .string (strOfNums a.ty.name), .int .i64 a.ty.lists, .int .i64 a.ty.place, .int .i64 a.dflt.kind, .string (strOfNums a.dflt.text), .int .i64 a.dflt.place] 124))
  have HO2 := Lib.hid (exc_row HO1.out hR ((Exc.refl _ _ _).alloc (Nat.le_refl _) (.cells #[.string (strOfNums a.name), .int .i64 a.place, .string (strOfNums a.ty.name), .int .i64 a.ty.lists, .int .i64 a.ty.place, .int .i64 a.dflt.kind, .string (strOfNums a.dflt.text), .int .i64 a.dflt.place] 124)))
  have hVlt : V < W1.heap.size := blk_lt HV1.out
  clear HR1 HX1 HV1 HB1 HO1
  generalize hW2 : W1.alloc (.cells #[.string (strOfNums a.name), .int .i64 a.place, .string (strOfNums a.ty.name), .int .i64 a.ty.lists, .int .i64 a.ty.place, .int .i64 a.dflt.kind, .string (strOfNums a.dflt.text), .int .i64 a.dflt.place] 124) = W2 at *
  clear hW2
  generalize W1.heap.size = BF at *
  obtain ⟨hf2, ⟨f0, f1, f2, f3, f4, f5, f6, f7⟩, _⟩ := blk8 HF2.out
  have v0 : W2.cell? ⟨V, 0, none⟩ = some v := (blk_cell HV2.out 0).trans rfl
  obtain ⟨va, vc, rfl⟩ := ownsRow_form HO2.out
  go_wp2_with (at_builtin; refine wpList_append_own _ rfl (.tmp 10) (.tmp 12) 111 rfl (V + 1) 124 i0 _ 8 88 Tryz.underlying111 I1.out I2.out I3.out I4.out rfl (by decide) _ acc.length (fieldsCells acc) rfl (exc_row HO2.out hR ((Exc.refl _ _ _).alloc (Nat.le_refl _) (.cells #[.string (strOfNums a.name), .int .i64 a.place, .string (strOfNums a.ty.name), .int .i64 a.ty.lists, .int .i64 a.ty.place, .int .i64 a.dflt.kind, .string (strOfNums a.dflt.text), .int .i64 a.dflt.place] 124))) ⟨W2.heap.size, 0, none⟩ 1 1 (fieldCells a) rfl rfl (fieldCells_new W2 a) (fieldCells_one a) (by unfold maxLen; omega) (by omega) (by simp; omega) ?_; intro v4 W4 hown4 hg4 hx; clear hx; have HG4 := Lib.hid hg4; obtain ⟨a4, c4, rfl⟩ := ownsRow_form hown4; have HO4 := Lib.hid hown4; have HV4 := Lib.hid (grown_keeps hg4 HO2.out (Nat.lt_succ_self V) HV2.out); obtain ⟨hv4, x4, y4⟩ := blk1 HV4.out; clear hown4 hg4)
  have hb : Below V W2 (W4.setCell ⟨V, 0, none⟩ (.slice a4 (acc.length + 1) c4)) := (((Below.refl V W2).alloc (by omega) _).grown HG4.out (by simp; omega) (fun k hk => by have := (ownsRow_lt HO2.out k hk).1; omega)).setCell (Nat.le_refl _) _
  have hV5 : (W4.setCell ⟨V, 0, none⟩ (.slice a4 (acc.length + 1) c4)).heap[V]? = some (.cells #[.slice a4 (acc.length + 1) c4] 111 (0, 0)) := (blk_set HV4.out 0 _).trans rfl
  have hO5 := ownsRow_setCell_below HO4.out (a := ⟨V, 0, none⟩) (Nat.lt_succ_self V) (.slice a4 (acc.length + 1) c4)
  go_ret
  generalize fieldR r = q at *
  obtain ⟨a', r'⟩ | ⟨cc, pp⟩ := q
  · obtain ⟨rfl, rfl, rfl, rfl⟩ := HS1.out
    have h1 := (HE.out a r1 rfl).2
    exact ⟨rfl, HR2.out.deep hb hR hg, blk_below HB2.out hb hBx, ⟨_, hV5, by rw [fieldsCells_snoc, List.length_append]; exact hO5⟩, HX2.out.trans (.of_below hb), by simp; omega⟩
  · obtain ⟨rfl, rfl⟩ := HS1.out
    exact ⟨rfl, ⟨r1, HR2.out.deep hb hR hg⟩, ⟨_, _, _, hV5⟩, HX2.out.trans (.of_below hb)⟩
end Go.Proofs.YtdlfndjgncdgfaaGreatDoor
