/-
  The reader of the package idl: the function that reads an enum's values. Conditions: those that each theorem names.
  The document's own parser: an enum. Conditions: those that each theorem names.
-/
import Derived.Test.YtmjmblbaojchcaaDoorPkC11
import Derived.Test.YtmjmblbaojchcaaDoorPkC13
namespace Go.Proofs.YtmjmblbaojchcaaDoor
open Go.ChangeShapes Go.WideShapes Go.ChangeAt Go.RowKit Go.Shelf

/-- A value of an enum, and what stands behind it. -/
def valueNR (r : List Tok) : Res Tok := (nameR r).bind fun t r1 => (commaR r1).bind fun _ r2 => .ok t r2
theorem valueN_eats {r : List Tok} (h : Ends r) : Eats r (valueNR r) :=
  eats_bind (name_eats h) fun _ _ h1 => keeps_bind (comma_keeps h1) fun _ _ h2 => keeps_ok _ h2
theorem namesL_step2 {acc : List Tok} {r : List Tok} (h : Ends r) : namesL acc r = if isT 4 [125] r = true then .ok acc r.tail else (valueNR r).bind fun x r' => namesL (acc ++ [x]) r' := by
  rw [namesL_step h]
  split
  · rfl
  · unfold valueNR
    cases nameR r with
    | no c p => rfl
    | ok t r1 =>
      simp only [bind_ok]
      cases commaR r1 with
      | no c p => rfl
      | ok b r2 => rfl
/-- What the function that reads an enum's values keeps. -/
structure NamesAt (R g c : Nat) (l : List Tok) (Bx V : Nat) (w0 : World) (W : World) (acc : List Tok) (r : List Tok) : Prop where
  rd : Rd W R g c l r (0, 0)
  box : W.heap[Bx]? = some (.cells #[.pointer (some ⟨R, 0, none⟩)] 86 (0, 0))
  row : ∃ v, W.heap[V]? = some (.cells #[v] 41 (0, 0)) ∧ W.ownsRow (V + 1) 57 3 v acc.length (toksCells acc)
  exc : Exc R V w0 W
  len : acc.length + r.length ≤ l.length
theorem NamesAt.stay {R g c : Nat} {l : List Tok} {Bx V : Nat} {w0 W W' : World} {acc : List Tok} {r r' : List Tok} (hR : R < V) (hBx : Bx ≠ R) (hw : V ≤ w0.heap.size) (h : NamesAt R g c l Bx V w0 W acc r) (hr : Rd W' R g c l r' (0, 0)) (hx : Exc R W.heap.size W W') (hl : r'.length ≤ r.length) : NamesAt R g c l Bx V w0 W' acc r' := by
  obtain ⟨v, hv, ho⟩ := h.row
  exact ⟨hr, blk_exc h.box hx (blk_lt h.box) hBx, ⟨v, blk_exc hv hx (blk_lt hv) (by omega), exc_row ho hR hx⟩, h.exc.thenB hw hx, by have := h.len; omega⟩
theorem NamesAt.fails {R g c : Nat} {l : List Tok} {Bx V : Nat} {w0 W W' : World} {acc : List Tok} {r r' : List Tok} {F : Int × Nat} (hR : R < V) (hw : V ≤ w0.heap.size) (h : NamesAt R g c l Bx V w0 W acc r) (hr : Rd W' R g c l r' F) (hx : Exc R W.heap.size W W') : FaultAt R g c l V 41 w0 W' F := by
  obtain ⟨v, hv, ho⟩ := h.row
  obtain ⟨a, c', rfl⟩ := ownsRow_form ho
  exact ⟨⟨r', hr⟩, ⟨a, _, c', blk_exc hv hx (blk_lt hv) (by omega)⟩, h.exc.thenB hw hx⟩
set_option maxRecDepth 100000 in
set_option maxHeartbeats 2000000 in
theorem choice1_any {R g c : Nat} {l : List Tok} {Bx V : Nat} {w0 : World} (hR : R < V) (hg : g < V) (hBx : Bx < V) (hne : Bx ≠ R) (hw : V ≤ w0.heap.size) (hl : l.length ≤ 2048) (W : World) (acc : List Tok) (r : List Tok) (h : NamesAt R g c l Bx V w0 W acc r) :
    Calls Tryd.prog 82 #[.pointer (some ⟨Bx, 0, none⟩), .pointer (some ⟨V, 0, none⟩)] W (StepPost (NamesAt R g c l Bx V w0) (FaultAt R g c l V 41 w0) (valueNR r) acc) := by
  have HI := Lib.hid h
  have hb0 : W.cell? ⟨Bx, 0, none⟩ = some (.pointer (some ⟨R, 0, none⟩)) := (blk_cell h.box 0).trans rfl
  have hlen := h.len
  have HE := Lib.hid (name_eats h.rd.ends)
  have HV : Hid (valueNR r = (nameR r).bind fun t r1 => (commaR r1).bind fun _ r2 => .ok t r2) := Lib.hid rfl
  obtain ⟨i0, hi0, hz0, hz1, hz2⟩ := info_parts tok_info
  have I1 := Lib.hid hi0
  have I2 := Lib.hid hz0
  have I3 := Lib.hid hz1
  have I4 := Lib.hid hz2
  clear h hi0 hz0 hz1 hz2
  go_enter Tryd.func82, Tryd.ntmps82
  go_wp2_with fail
  refine (name_any _ R g c l r HI.out.rd).mono ?_
  rintro e W1 ⟨a, r1, F1, ok1, rfl, hr1, hx1, hs1⟩
  unfold tokV
  obtain ⟨v, hv, ho⟩ := HI.out.row
  have HX1 := Lib.hid (HI.out.exc.thenB hw hx1)
  have HV1 := Lib.hid (blk_exc hv hx1 (blk_lt hv) (by omega))
  have HO1 := Lib.hid (exc_row ho hR hx1)
  have HB1 := Lib.hid (blk_exc HI.out.box hx1 (blk_lt HI.out.box) hne)
  have HR1 := Lib.hid hr1
  have HS1 := Lib.hid hs1
  clear hv ho hx1 hr1 hs1
  go_upto_region 2 with (fail)
  have HR2 := Lib.hid (HR1.out.alloc (.cells #[.int .i64 a.kind, .string (strOfNums a.text), .int .i64 a.place] 57))
  have HX2 := Lib.hid (HX1.out.alloc (Nat.le_trans hw HX1.out.size) (.cells #[.int .i64 a.kind, .string (strOfNums a.text), .int .i64 a.place] 57))
  have HV2 := Lib.hid (blk_alloc HV1.out (.cells #[.int .i64 a.kind, .string (strOfNums a.text), .int .i64 a.place] 57))
  have HB2 := Lib.hid (blk_alloc HB1.out (.cells #[.int .i64 a.kind, .string (strOfNums a.text), .int .i64 a.place] 57))
  have HF2 := Lib.hid (heap_alloc_new W1 (.cells #[.int .i64 a.kind, .string (strOfNums a.text), .int .i64 a.place] 57))
  have HO2 := Lib.hid (exc_row HO1.out hR ((Exc.refl _ _ _).alloc (Nat.le_refl _) (.cells #[.int .i64 a.kind, .string (strOfNums a.text), .int .i64 a.place] 57)))
  have hVlt : V < W1.heap.size := blk_lt HV1.out
  clear HR1 HX1 HV1 HB1 HO1
  generalize hW2 : W1.alloc (.cells #[.int .i64 a.kind, .string (strOfNums a.text), .int .i64 a.place] 57) = W2 at *
  clear hW2
  generalize W1.heap.size = BF at *
  obtain ⟨hf2, f0, f1, f2, _⟩ := blk3 HF2.out
  have v0 : W2.cell? ⟨V, 0, none⟩ = some v := (blk_cell HV2.out 0).trans rfl
  obtain ⟨va, vc, rfl⟩ := ownsRow_form HO2.out
  go_upto_region 3 with (at_builtin; refine wpList_append_own _ rfl (.tmp 10) (.tmp 12) 41 rfl (V + 1) 57 i0 _ 3 32 Tryd.underlying41 I1.out I2.out I3.out I4.out rfl (by decide) _ acc.length (toksCells acc) rfl (exc_row HO2.out hR ((Exc.refl _ _ _).alloc (Nat.le_refl _) (.cells #[.int .i64 a.kind, .string (strOfNums a.text), .int .i64 a.place] 57))) ⟨W2.heap.size, 0, none⟩ 1 1 (tokCells a) rfl rfl (tokCells_new W2 a _ rfl) (tokCells_one a) (by unfold maxLen; omega) (by omega) (by simp; omega) ?_; intro v4 W4 hown4 hg4 hx; clear hx; have HG4 := Lib.hid hg4; obtain ⟨a4, c4, rfl⟩ := ownsRow_form hown4; have HO4 := Lib.hid hown4; have HV4 := Lib.hid (grown_keeps hg4 HO2.out (Nat.lt_succ_self V) HV2.out); obtain ⟨hv4, x4, y4⟩ := blk1 HV4.out; clear hown4 hg4)
  have hb : Below V W2 (W4.setCell ⟨V, 0, none⟩ (.slice a4 (acc.length + 1) c4)) := (((Below.refl V W2).alloc (by omega) _).grown HG4.out (by simp; omega) (fun k hk => by have := (ownsRow_lt HO2.out k hk).1; omega)).setCell (Nat.le_refl _) _
  have HV5 := Lib.hid (show (W4.setCell ⟨V, 0, none⟩ (.slice a4 (acc.length + 1) c4)).heap[V]? = some (.cells #[.slice a4 (acc.length + 1) c4] 41 (0, 0)) from (blk_set HV4.out 0 _).trans rfl)
  have HO5 := Lib.hid (ownsRow_setCell_below HO4.out (a := ⟨V, 0, none⟩) (Nat.lt_succ_self V) (.slice a4 (acc.length + 1) c4))
  have HR5 := Lib.hid (HR2.out.deep hb hR hg)
  have HX5 := Lib.hid (HX2.out.trans (.of_below hb))
  have HB5 := Lib.hid (blk_below HB2.out hb hBx)
  clear hb HV4 HO4 HG4 hv4 x4 y4 HR2 HX2 HB2 HV2 HO2 v0 f0 f1 f2 hf2 HF2
  generalize W4.setCell ⟨V, 0, none⟩ (.slice a4 (acc.length + 1) c4) = W5 at *
  generalize nameR r = q at *
  obtain ⟨a', r'⟩ | ⟨cc, pp⟩ := q
  · obtain ⟨rfl, rfl, rfl, rfl⟩ := HS1.out
    have HE1 := Lib.hid (HE.out a r1 rfl)
    have HV6 := Lib.hid (HV.out.trans (bind_ok _ _ _))
    have HN5 : Hid (NamesAt R g c l Bx V w0 W5 (acc ++ [a]) r1) := Lib.hid ⟨HR5.out, HB5.out, ⟨_, HV5.out, by rw [toksCells_snoc, List.length_append]; exact HO5.out⟩, HX5.out, by have := HE1.out.2; simp; omega⟩
    have hb5 : W5.cell? ⟨Bx, 0, none⟩ = some (.pointer (some ⟨R, 0, none⟩)) := (blk_cell HB5.out 0).trans rfl
    clear HS1 HE HV HV5 HO5 HR5 HX5
    go_wp2_with fail
    refine (rdStands_any _ R g c l r1 (0, 0) 4 ⟨#[125]⟩ [125] (by kernel_rfl) HN5.out.rd).mono ?_
    rintro e W6 ⟨rfl, hb6⟩
    have HN6 := Lib.hid (HN5.out.stay hR hne hw (HN5.out.rd.keep hb6) (.of_below hb6) (Nat.le_refl _))
    clear hb6 hb5
    have HC : Hid (commaR r1 = if isT 4 [125] r1 = true then .ok () r1 else wantR [44] r1) := Lib.hid rfl
    generalize isT 4 [125] r1 = b at *
    cases b
    · have HC1 := Lib.hid (HC.out.trans (if_neg (by decide)))
      have hb6 : W6.cell? ⟨Bx, 0, none⟩ = some (.pointer (some ⟨R, 0, none⟩)) := (blk_cell HN6.out.box 0).trans rfl
      go_wp2_with fail
      refine (want_any _ R g c l r1 ⟨#[44]⟩ [44] (by kernel_rfl) HN6.out.rd).mono ?_
      rintro e W7 ⟨r7, F7, ok7, rfl, hr7, hx7, hs7⟩
      have HR7 := Lib.hid hr7
      have HX7 := Lib.hid hx7
      have HS7 := Lib.hid hs7
      have HE7 := Lib.hid (want_eats (s := [44]) HN6.out.rd.ends)
      clear hr7 hx7 hs7 hb6
      generalize wantR [44] r1 = q at *
      obtain ⟨a', r'⟩ | ⟨cc, pp⟩ := q
      · obtain ⟨rfl, _, rfl, rfl⟩ := HS7.out
        have HW := Lib.hid (HV6.out.trans (by rw [HC1.out]; rfl : _ = Res.ok a r7))
        go_wp2
        go_ret
        rw [HW.out]
        exact ⟨rfl, HN6.out.stay hR hne hw HR7.out HX7.out (Nat.le_of_lt (HE7.out _ _ rfl).2)⟩
      · obtain ⟨rfl, rfl⟩ := HS7.out
        have HW := Lib.hid (HV6.out.trans (by rw [HC1.out]; rfl : _ = Res.no cc pp))
        go_wp2
        go_ret
        rw [HW.out]
        exact ⟨rfl, HN6.out.fails hR hw HR7.out HX7.out⟩
    · have HC1 := Lib.hid (HC.out.trans (if_pos rfl))
      have HW := Lib.hid (HV6.out.trans (by rw [HC1.out]; rfl : _ = Res.ok a r1))
      go_wp2
      go_ret
      rw [HW.out]
      exact ⟨rfl, HN6.out⟩
  · obtain ⟨rfl, rfl⟩ := HS1.out
    have HW := Lib.hid (HV.out.trans (bind_no _ _ _))
    go_wp2
    go_ret
    rw [HW.out]
    exact ⟨rfl, ⟨r1, HR5.out⟩, ⟨_, _, _, HV5.out⟩, HX5.out⟩
end Go.Proofs.YtmjmblbaojchcaaDoor
namespace Go.Proofs.YtmjmblbaojchcaaDoor
open Go.ChangeShapes Go.WideShapes Go.ChangeAt Go.RowKit Go.Shelf

/-- How many rounds are left: by the world, and by where the parser is. -/
def codeOf : Option Value → Int
  | some (.int _ n) => n
  | _ => 0
def dpM (l : List Tok) (P : Nat) (w : World) : Nat := if codeOf (w.cell? ⟨P, 2, none⟩) = 0 then l.length + 1 - numOf (w.cell? ⟨P, 1, none⟩) else 0
def Sto.more : Sto → Nat
  | .go r => r.length + 1
  | .fell _ _ => 0
def Sto.left : Sto → Nat
  | .go r => r.length
  | .fell _ _ => 0
theorem dpM_more {w : World} {P g c : Nat} {l : List Tok} {st : Sto} (h : DpS w P g c l st) : dpM l P w = st.more := by
  cases st with
  | go r =>
    have hd' : Dp w P g c l r (0, 0) := h
    obtain ⟨_, r0, r1, r2, _⟩ := blk4 hd'.blk
    have := hd'.len
    unfold dpM
    rw [r2, r1]
    simp [codeOf, numOf, Sto.more]
    omega
  | fell c' p =>
    obtain ⟨h0, r, hd'⟩ := h
    obtain ⟨_, r0, r1, r2, _⟩ := blk4 hd'.blk
    unfold dpM
    rw [r2]
    simp [codeOf, Sto.more, h0]
/-- A reading that eats leaves fewer. -/
theorem step_left {α : Type} {f : List Tok → Res α} {r : List Tok} (h : Eats r (f r)) (h1 : 1 ≤ r.length) : ((Sto.go r).step f).left + 1 ≤ r.length := by
  generalize hq : f r = q
  cases q with
  | ok a r' =>
    rw [step_ok hq]
    exact (h a r' hq).2
  | no c p =>
    rw [step_no hq]
    exact h1
theorem more_left {st : Sto} {r : List Tok} (h : st.left + 1 ≤ r.length) : st.more < (Sto.go r).more := by
  cases st with
  | go r' => simp only [Sto.left] at h; simp only [Sto.more]; omega
  | fell c p => simp only [Sto.more]; omega
theorem stp_leaves {α : Type} {st : Sto} {f : List Tok → Res α} (h : ∀ r, st = .go r → Keeps r (f r)) : (st.step f).left ≤ st.left := by
  cases st with
  | fell c p => exact Nat.le_refl _
  | go r =>
    generalize hq : f r = q
    cases q with
    | ok a r' =>
      rw [step_ok hq]
      exact ((h r rfl) a r' hq).2
    | no c p =>
      rw [step_no hq]
      exact Nat.zero_le _
theorem DpS.ends {w : World} {P g c : Nat} {l : List Tok} {r : List Tok} (h : DpS w P g c l (.go r)) : Ends r := Dp.ends h
theorem is_word {k : Int} {s : List Int} {st : Sto} (h : isS k s st = true) : ∃ r, st = .go r ∧ isT k s r = true := by
  cases st with
  | go r => exact ⟨r, rfl, h⟩
  | fell c p => cases h
theorem comma_takes {r : List Tok} (h : isT 4 [44] r = true) : (Sto.go r).step commaR = .go r.tail := by
  have h1 : isT 4 [125] r = false := by
    have := (isT_kind h).2
    unfold isT
    rw [this]
    simp
  exact step_ok (a := ()) (by unfold commaR wantR; rw [if_neg (by rw [h1]; decide), if_pos h])
theorem comma_brace {r : List Tok} (h : isT 4 [125] r = true) : (Sto.go r).step commaR = .go r :=
  step_ok (a := ()) (by unfold commaR; rw [if_pos h])
theorem comma_bad {st : Sto} (h : isS 4 [44] st = false) (h1 : isS 4 [125] st = false) : st.step commaR = badS 11 st := by
  cases st with
  | fell c p => rfl
  | go r =>
    have h' : isT 4 [44] r = false := h
    have h1' : isT 4 [125] r = false := h1
    exact step_no (c := 11) (p := (hd r).place) (by unfold commaR wantR; rw [if_neg (by rw [h1']; decide), if_neg (by rw [h']; decide)]; rfl)
/-- Behind the values of an enum. -/
def choTail (t : Tok) (acc : List Tok) (r : List Tok) : Res RCho := (namesL acc r).bind fun ns r3 => .ok ⟨t.text, t.place, ns⟩ r3
theorem cho_round {t a : Tok} {acc r : List Tok} (he : Ends r) (hb : isT 4 [125] r = false) (h : Got (.go r) nameR a) : (Sto.go r).rd (choTail t acc) = (((Sto.go r).step nameR).step commaR).rd (choTail t (acc ++ [a])) := by
  have e : (Sto.go r).rd (choTail t acc) = (Sto.go r).rd (fun r => (nameR r).bind fun a r1 => (commaR r1).bind fun _ r2 => choTail t (acc ++ [a]) r2) := by
    show choTail t acc r = (nameR r).bind fun a r1 => (commaR r1).bind fun _ r2 => choTail t (acc ++ [a]) r2
    unfold choTail
    rw [namesL_step2 he, if_neg (by rw [hb]; decide)]
    unfold valueNR
    cases nameR r with
    | no c p => rfl
    | ok t1 r1 =>
      simp only [bind_ok]
      cases commaR r1 with
      | no c p => rfl
      | ok b r2 => rfl
  rw [e, got_rd (k := fun (a : Tok) r1 => (commaR r1).bind fun _ r2 => choTail t (acc ++ [a]) r2) h]
  exact got_rd (k := fun (_ : Unit) r2 => choTail t (acc ++ [a]) r2) got_unit
theorem cho_start {st : Sto} {t : Tok} (h : Got st nameR t) : st.rd choR = ((st.step nameR).step (wantR [123])).rd (choTail t []) := by
  have e : choR = fun r => (nameR r).bind fun t r1 => (wantR [123] r1).bind fun _ r2 => choTail t [] r2 := by
    funext r
    unfold choR choTail
    rfl
  rw [e, got_rd (k := fun (t : Tok) r1 => (wantR [123] r1).bind fun _ r2 => choTail t [] r2) h]
  exact got_rd (k := fun (_ : Unit) r2 => choTail t [] r2) got_unit
theorem cho_stop {t : Tok} {acc r : List Tok} (he : Ends r) (h : isT 4 [125] r = true) : (Sto.go r).rd (choTail t acc) = (Sto.go r.tail).rd (fun r => .ok ⟨t.text, t.place, acc⟩ r) := by
  show (namesL acc r).bind _ = _
  rw [namesL_step2 he, if_pos h]
  rfl
/-- Where the parser is among an enum's values. -/
def DChoAt (P g c : Nat) (l : List Tok) (w : World) (O : Nat) (t : Tok) (X : Res RCho) (wr : World) : Prop :=
  ∃ (acc : List Tok) (st1 : Sto) (v : Value), DpS wr P g c l st1 ∧ wr.heap[O]? = some (.cells #[.string (strOfNums t.text), .int .i64 t.place, v] 104 (0, 0)) ∧ wr.ownsRow (O + 1) 57 3 v acc.length (toksCells acc) ∧
    wr.heap[w.heap.size]? = some (.cells #[.string ByteArray.empty, .int .i64 0, .slice none 0 0] 104 (0, 0)) ∧ Exc P w.heap.size w wr ∧ acc.length + st1.left ≤ l.length ∧ X = st1.rd (choTail t acc)
end Go.Proofs.YtmjmblbaojchcaaDoor
