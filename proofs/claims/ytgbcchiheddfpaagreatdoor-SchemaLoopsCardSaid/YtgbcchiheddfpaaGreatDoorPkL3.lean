/-
  Plain facts on tokens as a schema as it is written: a function of lists of tokens that hands back what is written or the first fault and its place. No run of the program stands in this text. Conditions: those that each theorem names.
-/
import Derived.Test.YtgbcchiheddfpaaGreatDoorPkL1
namespace Go.Proofs.YtgbcchiheddfpaaGreatDoor
open Go.RowKit

structure RTy where
  name : List Int
  lists : Nat
  place : Nat
structure RField where
  name : List Int
  place : Nat
  ty : RTy
  dflt : Tok
structure RRec where
  name : List Int
  place : Nat
  fields : List RField
structure RCho where
  name : List Int
  place : Nat
  names : List Tok
structure RRaw where
  structs : List RRec
  enums : List RCho
  roots : List Tok
inductive Res (α : Type) where
  | ok (a : α) (r : List Tok) : Res α
  | no (code : Int) (place : Nat) : Res α
def Res.bind {α β : Type} (x : Res α) (f : α → List Tok → Res β) : Res β :=
  match x with
  | .ok a r => f a r
  | .no c p => .no c p
theorem bind_ok {α β : Type} (a : α) (r : List Tok) (f : α → List Tok → Res β) : (Res.ok a r).bind f = f a r := rfl
theorem bind_no {α β : Type} (c : Int) (p : Nat) (f : α → List Tok → Res β) : (Res.no c p : Res α).bind f = .no c p := rfl
def noTok : Tok := ⟨0, [], 0⟩
def noTy : RTy := ⟨[], 0, 0⟩
def noField : RField := ⟨[], 0, noTy, noTok⟩
def hd (r : List Tok) : Tok := r.headD noTok
def isT (k : Int) (s : List Int) (r : List Tok) : Bool := decide ((hd r).kind = k) && decide ((hd r).text = s)
def bad {α : Type} (code : Int) (r : List Tok) : Res α := .no code (hd r).place
def wantR (s : List Int) (r : List Tok) : Res Unit := if isT 4 s r = true then .ok () r.tail else bad 11 r
def sizedR (r : List Tok) : Res Tok := if (hd r).text.length = 0 ∨ 40 < (hd r).text.length then bad 12 r else .ok (hd r) r.tail
def nameR (r : List Tok) : Res Tok := if (hd r).kind = 1 then sizedR r else bad 11 r
def labelR (r : List Tok) : Res Tok := if (hd r).kind = 1 ∨ (hd r).kind = 3 then sizedR r else bad 11 r
def valueR (r : List Tok) : Res Tok := if (hd r).kind = 1 ∨ (hd r).kind = 2 then .ok (hd r) r.tail else bad 11 r
def wStruct : List Int := [115, 116, 114, 117, 99, 116]
def wEnum : List Int := [101, 110, 117, 109]
def wRoot : List Int := [114, 111, 111, 116]
def wList : List Int := [108, 105, 115, 116]
def listsR : Nat → Nat → List Tok → Res Nat
  | f, n, r => if isT 1 wList r = true then (match f with
    | 0 => bad 16 r
    | f + 1 => (wantR [60] r.tail).bind fun _ r' => listsR f (n + 1) r') else .ok n r
def closeR : Nat → List Tok → Res Unit
  | 0, r => .ok () r
  | n + 1, r => (wantR [62] r).bind fun _ r' => closeR n r'
def tyR (r : List Tok) : Res RTy :=
  (listsR 3 0 r).bind fun n r1 => (nameR r1).bind fun t r2 => (closeR n r2).bind fun _ r3 => .ok ⟨t.text, n, (hd r).place⟩ r3
def dfltR (r : List Tok) : Res Tok := if isT 4 [61] r = true then valueR r.tail else .ok noTok r
def fieldR (r : List Tok) : Res RField :=
  (labelR r).bind fun t r1 => (wantR [58] r1).bind fun _ r2 => (tyR r2).bind fun ty r3 => (dfltR r3).bind fun d r4 => (wantR [59] r4).bind fun _ r5 => .ok ⟨t.text, t.place, ty, d⟩ r5
def fieldsR : Nat → List RField → List Tok → Res (List RField)
  | 0, _, r => bad 11 r
  | f + 1, acc, r => if isT 4 [125] r = true then .ok acc r.tail else (fieldR r).bind fun x r' => fieldsR f (acc ++ [x]) r'
def recR (r : List Tok) : Res RRec :=
  (nameR r).bind fun t r1 => (wantR [123] r1).bind fun _ r2 => (fieldsR r2.length [] r2).bind fun fs r3 => .ok ⟨t.text, t.place, fs⟩ r3
def commaR (r : List Tok) : Res Unit := if isT 4 [125] r = true then .ok () r else wantR [44] r
def namesR : Nat → List Tok → List Tok → Res (List Tok)
  | 0, _, r => bad 11 r
  | f + 1, acc, r => if isT 4 [125] r = true then .ok acc r.tail else (nameR r).bind fun t r1 => (commaR r1).bind fun _ r2 => namesR f (acc ++ [t]) r2
def choR (r : List Tok) : Res RCho :=
  (nameR r).bind fun t r1 => (wantR [123] r1).bind fun _ r2 => (namesR r2.length [] r2).bind fun ns r3 => .ok ⟨t.text, t.place, ns⟩ r3
def partR (a : RRaw) (r : List Tok) : Res RRaw :=
  if isT 1 wStruct r = true then (recR r.tail).bind fun s r' => .ok ⟨a.structs ++ [s], a.enums, a.roots⟩ r'
  else if isT 1 wEnum r = true then (choR r.tail).bind fun s r' => .ok ⟨a.structs, a.enums ++ [s], a.roots⟩ r'
  else if isT 1 wRoot r = true then (nameR r.tail).bind fun t r1 => (wantR [59] r1).bind fun _ r' => .ok ⟨a.structs, a.enums, a.roots ++ [t]⟩ r'
  else bad 11 r
def noRaw : RRaw := ⟨[], [], []⟩
def schemaR : Nat → RRaw → List Tok → Res RRaw
  | 0, _, r => bad 11 r
  | f + 1, a, r => if (hd r).kind = 0 then .ok a r else (partR a r).bind fun a' r' => schemaR f a' r'
def rawR (l : List Tok) : Res RRaw := schemaR l.length noRaw l

def Ends : List Tok → Prop
  | [] => False
  | t :: q => (t.kind = 0 ∧ t.text = [] ∧ q = []) ∨ (t.kind ≠ 0 ∧ Ends q)
theorem Ends.ne {r : List Tok} (h : Ends r) : r ≠ [] := by
  rintro rfl
  exact h
theorem Ends.tail {r : List Tok} (h : Ends r) (h0 : (hd r).kind ≠ 0) : Ends r.tail := by
  cases r with
  | nil => exact h.elim
  | cons t q =>
    rcases h with h | h
    · exact absurd h.1 h0
    · exact h.2
theorem Ends.cons {r : List Tok} (h : Ends r) : r = hd r :: r.tail := by
  cases r with
  | nil => exact h.elim
  | cons t q => rfl
theorem Ends.len {r : List Tok} (h : Ends r) : r.length = r.tail.length + 1 := by
  conv => lhs; rw [h.cons]
  rfl
theorem Ends.two {r : List Tok} (h : Ends r) (h0 : (hd r).kind ≠ 0) : 2 ≤ r.length := by
  have := (h.tail h0).len
  rw [h.len]
  omega
theorem isT_kind {k : Int} {s : List Int} {r : List Tok} (h : isT k s r = true) : (hd r).kind = k ∧ (hd r).text = s := by
  unfold isT at h
  rw [Bool.and_eq_true] at h
  exact ⟨of_decide_eq_true h.1, of_decide_eq_true h.2⟩
def Eats {α : Type} (r : List Tok) (x : Res α) : Prop := ∀ a r', x = .ok a r' → Ends r' ∧ r'.length < r.length
def Keeps {α : Type} (r : List Tok) (x : Res α) : Prop := ∀ a r', x = .ok a r' → Ends r' ∧ r'.length ≤ r.length
theorem Eats.keeps {α : Type} {r : List Tok} {x : Res α} (h : Eats r x) : Keeps r x := fun a r' e => ⟨(h a r' e).1, Nat.le_of_lt (h a r' e).2⟩
theorem eats_no {α : Type} {r : List Tok} {c : Int} {p : Nat} : Eats r (.no c p : Res α) := fun _ _ e => by cases e
theorem eats_bind {α β : Type} {r : List Tok} {x : Res α} {f : α → List Tok → Res β} (h : Eats r x) (hf : ∀ a r', Ends r' → Keeps r' (f a r')) : Eats r (x.bind f) := by
  cases x with
  | no c p => exact eats_no
  | ok a r' =>
    intro b r'' e
    obtain ⟨h1, h2⟩ := h a r' rfl
    obtain ⟨h3, h4⟩ := hf a r' h1 b r'' e
    exact ⟨h3, Nat.lt_of_le_of_lt h4 h2⟩
theorem keeps_bind {α β : Type} {r : List Tok} {x : Res α} {f : α → List Tok → Res β} (h : Keeps r x) (hf : ∀ a r', Ends r' → Keeps r' (f a r')) : Keeps r (x.bind f) := by
  cases x with
  | no c p => exact fun _ _ e => by cases e
  | ok a r' =>
    intro b r'' e
    obtain ⟨h1, h2⟩ := h a r' rfl
    obtain ⟨h3, h4⟩ := hf a r' h1 b r'' e
    exact ⟨h3, Nat.le_trans h4 h2⟩
theorem keeps_ok {α : Type} {r : List Tok} (a : α) (h : Ends r) : Keeps r (.ok a r) := fun _ _ e => by cases e; exact ⟨h, Nat.le_refl _⟩
theorem eats_tail {α : Type} {r : List Tok} (a : α) (h : Ends r) (h0 : (hd r).kind ≠ 0) : Eats r (.ok a r.tail) := fun _ _ e => by
  cases e
  refine ⟨h.tail h0, ?_⟩
  rw [h.len]
  omega
theorem want_eats {s : List Int} {r : List Tok} (h : Ends r) : Eats r (wantR s r) := by
  unfold wantR
  split
  · rename_i hs
    exact eats_tail _ h (by rw [(isT_kind hs).1]; decide)
  · exact eats_no
theorem sized_eats {r : List Tok} (h : Ends r) (h0 : (hd r).kind ≠ 0) : Eats r (sizedR r) := by
  unfold sizedR
  split
  · exact eats_no
  · exact eats_tail _ h h0
theorem name_eats {r : List Tok} (h : Ends r) : Eats r (nameR r) := by
  unfold nameR
  split
  · rename_i hs
    exact sized_eats h (by rw [hs]; decide)
  · exact eats_no
theorem label_eats {r : List Tok} (h : Ends r) : Eats r (labelR r) := by
  unfold labelR
  split
  · rename_i hs
    exact sized_eats h (by omega)
  · exact eats_no
theorem value_eats {r : List Tok} (h : Ends r) : Eats r (valueR r) := by
  unfold valueR
  split
  · rename_i hs
    exact eats_tail _ h (by omega)
  · exact eats_no
theorem lists_keeps : ∀ (f n : Nat) (r : List Tok), Ends r → Keeps r (listsR f n r)
  | 0, n, r, h => by
    unfold listsR
    split
    · exact eats_no.keeps
    · exact keeps_ok _ h
  | f + 1, n, r, h => by
    unfold listsR
    split
    · rename_i hs
      have h0 : (hd r).kind ≠ 0 := by rw [(isT_kind hs).1]; decide
      refine fun a r' e => ?_
      obtain ⟨h1, h2⟩ := (keeps_bind (want_eats (h.tail h0)).keeps (fun _ r' h' => lists_keeps f (n + 1) r' h')) a r' e
      exact ⟨h1, Nat.le_trans h2 (by rw [h.len]; omega)⟩
    · exact keeps_ok _ h
theorem close_keeps : ∀ (n : Nat) (r : List Tok), Ends r → Keeps r (closeR n r)
  | 0, _, h => keeps_ok _ h
  | n + 1, _, h => keeps_bind (want_eats h).keeps (fun _ r' h' => close_keeps n r' h')
theorem ty_keeps {r : List Tok} (h : Ends r) : Keeps r (tyR r) :=
  keeps_bind (lists_keeps 3 0 r h) fun _ _ h1 => keeps_bind (name_eats h1).keeps fun _ _ h2 => keeps_bind (close_keeps _ _ h2) fun _ _ h3 => keeps_ok _ h3
theorem dflt_keeps {r : List Tok} (h : Ends r) : Keeps r (dfltR r) := by
  unfold dfltR
  split
  · rename_i hs
    have h0 : (hd r).kind ≠ 0 := by rw [(isT_kind hs).1]; decide
    intro a r' e
    obtain ⟨h1, h2⟩ := (value_eats (h.tail h0)).keeps a r' e
    exact ⟨h1, Nat.le_trans h2 (by rw [h.len]; omega)⟩
  · exact keeps_ok _ h
theorem field_eats {r : List Tok} (h : Ends r) : Eats r (fieldR r) :=
  eats_bind (label_eats h) fun _ _ h1 => keeps_bind (want_eats h1).keeps fun _ _ h2 => keeps_bind (ty_keeps h2) fun _ _ h3 => keeps_bind (dflt_keeps h3) fun _ _ h4 => keeps_bind (want_eats h4).keeps fun _ _ h5 => keeps_ok _ h5
theorem comma_keeps {r : List Tok} (h : Ends r) : Keeps r (commaR r) := by
  unfold commaR
  split
  · exact keeps_ok _ h
  · exact (want_eats h).keeps
theorem tail_keeps {α : Type} {r : List Tok} (a : α) {k : Int} {s : List Int} (h : Ends r) (hs : isT k s r = true) (hk : k ≠ 0) : Keeps r (.ok a r.tail) :=
  (eats_tail a h (by rw [(isT_kind hs).1]; exact hk)).keeps
theorem fields_keeps : ∀ (f : Nat) (acc : List RField) (r : List Tok), Ends r → Keeps r (fieldsR f acc r)
  | 0, _, _, _ => eats_no.keeps
  | f + 1, acc, r, h => by
    unfold fieldsR
    split
    · rename_i hs
      exact tail_keeps _ h hs (by decide)
    · exact keeps_bind (field_eats h).keeps fun _ _ h1 => fields_keeps f _ _ h1
theorem names_keeps : ∀ (f : Nat) (acc : List Tok) (r : List Tok), Ends r → Keeps r (namesR f acc r)
  | 0, _, _, _ => eats_no.keeps
  | f + 1, acc, r, h => by
    unfold namesR
    split
    · rename_i hs
      exact tail_keeps _ h hs (by decide)
    · exact keeps_bind (name_eats h).keeps fun _ _ h1 => keeps_bind (comma_keeps h1) fun _ _ h2 => names_keeps f _ _ h2
theorem rec_eats {r : List Tok} (h : Ends r) : Eats r (recR r) :=
  eats_bind (name_eats h) fun _ _ h1 => keeps_bind (want_eats h1).keeps fun _ _ h2 => keeps_bind (fields_keeps _ _ _ h2) fun _ _ h3 => keeps_ok _ h3
theorem cho_eats {r : List Tok} (h : Ends r) : Eats r (choR r) :=
  eats_bind (name_eats h) fun _ _ h1 => keeps_bind (want_eats h1).keeps fun _ _ h2 => keeps_bind (names_keeps _ _ _ h2) fun _ _ h3 => keeps_ok _ h3
theorem eats_of_tail {α : Type} {r : List Tok} {x : Res α} (h : Ends r) (hx : Keeps r.tail x) : Eats r x := fun a r' e => by
  obtain ⟨h1, h2⟩ := hx a r' e
  exact ⟨h1, by rw [h.len]; omega⟩
theorem part_eats {a : RRaw} {r : List Tok} (h : Ends r) : Eats r (partR a r) := by
  have h0 : ∀ {k s}, k ≠ 0 → isT k s r = true → Ends r.tail := fun hk hs => h.tail (by rw [(isT_kind hs).1]; exact hk)
  unfold partR
  split
  · rename_i hs
    exact eats_of_tail h (keeps_bind (rec_eats (h0 (by decide) hs)).keeps fun _ _ h1 => keeps_ok _ h1)
  split
  · rename_i hs
    exact eats_of_tail h (keeps_bind (cho_eats (h0 (by decide) hs)).keeps fun _ _ h1 => keeps_ok _ h1)
  split
  · rename_i hs
    exact eats_of_tail h (keeps_bind (name_eats (h0 (by decide) hs)).keeps fun _ _ h1 => keeps_bind (want_eats h1).keeps fun _ _ h2 => keeps_ok _ h2)
  · exact eats_no
theorem fields_fuel : ∀ (f g : Nat) (acc : List RField) (r : List Tok), Ends r → r.length ≤ f → r.length ≤ g → fieldsR f acc r = fieldsR g acc r
  | 0, _, _, r, h, hf, _ => by rw [h.len] at hf; omega
  | _, 0, _, r, h, _, hg => by rw [h.len] at hg; omega
  | f + 1, g + 1, acc, r, h, hf, hg => by
    simp only [fieldsR]
    split
    · rfl
    · cases hx : fieldR r with
      | no c p => rfl
      | ok a r' =>
        obtain ⟨h1, h2⟩ := field_eats h a r' hx
        exact fields_fuel f g _ _ h1 (by omega) (by omega)
theorem names_fuel : ∀ (f g : Nat) (acc : List Tok) (r : List Tok), Ends r → r.length ≤ f → r.length ≤ g → namesR f acc r = namesR g acc r
  | 0, _, _, r, h, hf, _ => by rw [h.len] at hf; omega
  | _, 0, _, r, h, _, hg => by rw [h.len] at hg; omega
  | f + 1, g + 1, acc, r, h, hf, hg => by
    simp only [namesR]
    split
    · rfl
    · cases hx : nameR r with
      | no c p => rfl
      | ok a r' =>
        obtain ⟨h1, h2⟩ := name_eats h a r' hx
        simp only [bind_ok]
        cases hy : commaR r' with
        | no c p => rfl
        | ok b r'' =>
          obtain ⟨h3, h4⟩ := comma_keeps h1 b r'' hy
          exact names_fuel f g _ _ h3 (by omega) (by omega)
theorem schema_fuel : ∀ (f g : Nat) (a : RRaw) (r : List Tok), Ends r → r.length ≤ f → r.length ≤ g → schemaR f a r = schemaR g a r
  | 0, _, _, r, h, hf, _ => by rw [h.len] at hf; omega
  | _, 0, _, r, h, _, hg => by rw [h.len] at hg; omega
  | f + 1, g + 1, a, r, h, hf, hg => by
    simp only [schemaR]
    split
    · rfl
    · cases hx : partR a r with
      | no c p => rfl
      | ok b r' =>
        obtain ⟨h1, h2⟩ := part_eats h b r' hx
        exact schema_fuel f g _ _ h1 (by omega) (by omega)
def fieldsL (acc : List RField) (r : List Tok) : Res (List RField) := fieldsR r.length acc r
def namesL (acc : List Tok) (r : List Tok) : Res (List Tok) := namesR r.length acc r
def schemaL (a : RRaw) (r : List Tok) : Res RRaw := schemaR r.length a r
theorem fieldsL_step {acc : List RField} {r : List Tok} (h : Ends r) : fieldsL acc r = if isT 4 [125] r = true then .ok acc r.tail else (fieldR r).bind fun x r' => fieldsL (acc ++ [x]) r' := by
  unfold fieldsL
  rw [h.len]
  simp only [fieldsR]
  split
  · rfl
  · cases hx : fieldR r with
    | no c p => rfl
    | ok a r' =>
      obtain ⟨h1, h2⟩ := field_eats h a r' hx
      exact fields_fuel _ _ _ _ h1 (by rw [h.len] at h2; omega) (Nat.le_refl _)
theorem namesL_step {acc : List Tok} {r : List Tok} (h : Ends r) : namesL acc r = if isT 4 [125] r = true then .ok acc r.tail else (nameR r).bind fun t r1 => (commaR r1).bind fun _ r2 => namesL (acc ++ [t]) r2 := by
  unfold namesL
  rw [h.len]
  simp only [namesR]
  split
  · rfl
  · cases hx : nameR r with
    | no c p => rfl
    | ok a r' =>
      obtain ⟨h1, h2⟩ := name_eats h a r' hx
      simp only [bind_ok]
      cases hy : commaR r' with
      | no c p => rfl
      | ok b r'' =>
        obtain ⟨h3, h4⟩ := comma_keeps h1 b r'' hy
        exact names_fuel _ _ _ _ h3 (by rw [h.len] at h2; omega) (Nat.le_refl _)
theorem schemaL_step {a : RRaw} {r : List Tok} (h : Ends r) : schemaL a r = if (hd r).kind = 0 then .ok a r else (partR a r).bind fun a' r' => schemaL a' r' := by
  unfold schemaL
  rw [h.len]
  simp only [schemaR]
  split
  · rfl
  · cases hx : partR a r with
    | no c p => rfl
    | ok b r' =>
      obtain ⟨h1, h2⟩ := part_eats h b r' hx
      exact schema_fuel _ _ _ _ h1 (by rw [h.len] at h2; omega) (Nat.le_refl _)
end Go.Proofs.YtgbcchiheddfpaaGreatDoor
