/-
  The document's own parser: a struct, plain. Conditions: those that each theorem names.
-/
import Derived.Test.YtleclhnlojalbaaGreatDoorPkW30
namespace Go.Proofs.YtleclhnlojalbaaGreatDoor
open Go.ChangeShapes Go.WideShapes Go.ChangeAt Go.RowKit Go.Shelf

def fld4 (t : Tok) (ty : RTy) (d : Tok) : RField := ⟨t.text, t.place, ty, d⟩
def recTail (t : Tok) (acc : List RField) (r : List Tok) : Res RRec := (fieldsL acc r).bind fun ns r3 => .ok ⟨t.text, t.place, ns⟩ r3
theorem rec_start {st : Sto} {t : Tok} (h : Got st nameR t) : st.rd recR = ((st.step nameR).step (wantR [123])).rd (recTail t []) := by
  have e : recR = fun r => (nameR r).bind fun t r1 => (wantR [123] r1).bind fun _ r2 => recTail t [] r2 := by
    funext r
    unfold recR recTail
    rfl
  rw [e, got_rd (k := fun (t : Tok) r1 => (wantR [123] r1).bind fun _ r2 => recTail t [] r2) h]
  exact got_rd (k := fun (_ : Unit) r2 => recTail t [] r2) got_unit
theorem rec_stop {t : Tok} {acc : List RField} {r : List Tok} (he : Ends r) (h : isT 4 [125] r = true) : (Sto.go r).rd (recTail t acc) = (Sto.go r.tail).rd (fun r => .ok ⟨t.text, t.place, acc⟩ r) := by
  show (fieldsL acc r).bind _ = _
  rw [fieldsL_step he, if_pos h]
  rfl
theorem res_assoc {α β γ : Type} (x : Res α) (f : α → List Tok → Res β) (g : β → List Tok → Res γ) : (x.bind f).bind g = x.bind fun a r => (f a r).bind g := by
  cases x <;> rfl
theorem rec_round {a t d : Tok} {ty : RTy} {acc : List RField} {r : List Tok} (he : Ends r) (hb : isT 4 [125] r = false) (h1 : Got (.go r) labelR t) (h2 : Got (((Sto.go r).step labelR).step (wantR [58])) tyR ty) (h3 : Got ((((Sto.go r).step labelR).step (wantR [58])).step tyR) dfltR d) :
    (Sto.go r).rd (recTail a acc) = ((((((Sto.go r).step labelR).step (wantR [58])).step tyR).step dfltR).step (wantR [59])).rd (recTail a (acc ++ [fld4 t ty d])) := by
  have e : (Sto.go r).rd (recTail a acc) = (Sto.go r).rd (fun r => (labelR r).bind fun t r1 => (wantR [58] r1).bind fun _ r2 => (tyR r2).bind fun ty r3 => (dfltR r3).bind fun d r4 => (wantR [59] r4).bind fun _ r5 => recTail a (acc ++ [fld4 t ty d]) r5) := by
    show recTail a acc r = (labelR r).bind _
    unfold recTail
    rw [fieldsL_step he, if_neg (by rw [hb]; decide)]
    unfold fieldR
    simp only [res_assoc, bind_ok, fld4]
  rw [e, got_rd (k := fun (t : Tok) (r1 : List Tok) => (wantR [58] r1).bind fun _ r2 => (tyR r2).bind fun ty r3 => (dfltR r3).bind fun d r4 => (wantR [59] r4).bind fun _ r5 => recTail a (acc ++ [fld4 t ty d]) r5) h1,
    got_rd (f := wantR [58]) (t := ()) (k := fun (_ : Unit) r2 => (tyR r2).bind fun ty r3 => (dfltR r3).bind fun d r4 => (wantR [59] r4).bind fun _ r5 => recTail a (acc ++ [fld4 t ty d]) r5) got_unit,
    got_rd (f := tyR) (t := ty) (k := fun (ty : RTy) (r3 : List Tok) => (dfltR r3).bind fun d r4 => (wantR [59] r4).bind fun _ r5 => recTail a (acc ++ [fld4 t ty d]) r5) h2,
    got_rd (f := dfltR) (t := d) (k := fun (d : Tok) (r4 : List Tok) => (wantR [59] r4).bind fun _ r5 => recTail a (acc ++ [fld4 t ty d]) r5) h3]
  exact got_rd (f := wantR [59]) (t := ()) (k := fun (_ : Unit) r5 => recTail a (acc ++ [fld4 t ty d]) r5) got_unit
theorem dflt_none {st : Sto} (h : isS 4 [61] st = false) : st.step dfltR = st ∧ Got st dfltR noTok := by
  cases st with
  | fell c p => exact ⟨rfl, fun _ _ _ e => by cases e⟩
  | go r =>
    have e : dfltR r = .ok noTok r := if_neg (by rw [show isT 4 [61] r = false from h]; decide)
    exact ⟨step_ok e, fun r' a r2 e1 e2 => by cases e1; rw [e] at e2; exact (Res.ok.inj e2).1⟩
theorem dflt_bad {r : List Tok} (h : isT 4 [61] r = true) (h1 : ¬ ((hd r.tail).kind = 1 ∨ (hd r.tail).kind = 2)) (d : Tok) : (Sto.go r).step dfltR = .fell 11 (hd r.tail).place ∧ Got (.go r) dfltR d := by
  have e : dfltR r = .no 11 (hd r.tail).place := (if_pos h).trans (if_neg h1)
  exact ⟨step_no e, fun r' a r2 e1 e2 => by cases e1; rw [e] at e2; cases e2⟩
theorem dflt_good {r : List Tok} (h : isT 4 [61] r = true) (h1 : (hd r.tail).kind = 1 ∨ (hd r.tail).kind = 2) : (Sto.go r).step dfltR = .go r.tail.tail ∧ Got (.go r) dfltR (hd r.tail) := by
  have e : dfltR r = .ok (hd r.tail) r.tail.tail := (if_pos h).trans (if_pos h1)
  exact ⟨step_ok e, fun r' a r2 e1 e2 => by cases e1; rw [e] at e2; exact (Res.ok.inj e2).1⟩
def DRecAt (P g c : Nat) (l : List Tok) (w : World) (O : Nat) (t : Tok) (X : Res RRec) (wr : World) : Prop :=
  ∃ (acc : List RField) (st1 : Sto) (v : Value), DpS wr P g c l st1 ∧ wr.heap[O]? = some (.cells #[.string (strOfNums t.text), .int .i64 t.place, v] 114 (0, 0)) ∧ wr.ownsRow (O + 1) 135 8 v acc.length (fieldsCells acc) ∧
    wr.heap[w.heap.size]? = some (.cells #[.string ByteArray.empty, .int .i64 0, .slice none 0 0] 114 (0, 0)) ∧ Exc P w.heap.size w wr ∧ acc.length + st1.left ≤ l.length ∧ X = st1.rd (recTail t acc)
def DRecPost (P g c : Nat) (l : List Tok) (w : World) (st : Sto) (e : Ending) (w' : World) : Prop :=
  ∃ (s : RRec) (v : Value), e = .returned (.agg #[.string (strOfNums s.name), .int .i64 s.place, v]) ∧ w'.ownsRow w.heap.size 135 8 v s.fields.length (fieldsCells s.fields) ∧ DpS w' P g c l (st.step recR) ∧ Exc P w.heap.size w w' ∧ Got st recR s
end Go.Proofs.YtleclhnlojalbaaGreatDoor
