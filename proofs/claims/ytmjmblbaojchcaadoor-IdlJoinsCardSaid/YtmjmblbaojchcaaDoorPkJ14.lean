/-
  Plain facts on tokens as a schema: what the tokens of two texts, one behind the other, say is what the one says and what the other says; where tokens stand changes nothing but places. No run of the program stands in this text. Conditions: those that each theorem names.
  Plain facts on texts as schemas: two texts without faults, one behind the other with a new line between them, say what the one says and what the other says, or there are too many tokens. Conditions: those that each theorem names.
-/
import Derived.Test.YtmjmblbaojchcaaDoorPkJ13
namespace Go.Proofs.YtmjmblbaojchcaaDoor
open Go.RowKit

/-! ### one behind the other -/
/-- The one without its end, and the other. -/
def jn (r s : List Tok) : List Tok := r.dropLast ++ s
theorem jn_hd {r s : List Tok} (h : 2 ≤ r.length) : hd (jn r s) = hd r ∧ (jn r s).tail = jn r.tail s := by
  match r, h with
  | t :: u :: q, _ => exact ⟨rfl, rfl⟩
theorem jn_is {r s : List Tok} (k : Int) (x : List Int) (h : 2 ≤ r.length) : isT k x (jn r s) = isT k x r := by
  unfold isT
  rw [(jn_hd h).1]
theorem two_of {r : List Tok} (h : Ends r) {k : Int} {x : List Int} (hk : k ≠ 0) (hs : isT k x r = true) : 2 ≤ r.length := h.two (by rw [(isT_kind hs).1]; exact hk)
/-- A reading that goes on alike when more follows: from what is left on, if that is more than the end. -/
def Goes {α : Type} (s : List Tok) (r : List Tok) (f : List Tok → Res α) : Prop := ∀ a r', f r = .ok a r' → 2 ≤ r'.length → f (jn r s) = .ok a (jn r' s)
/-- The same, whatever is left. -/
def Goes' {α : Type} (s : List Tok) (r : List Tok) (f : List Tok → Res α) : Prop := ∀ a r', f r = .ok a r' → f (jn r s) = .ok a (jn r' s)
theorem want_goes {s r : List Tok} (h : Ends r) (x : List Int) : Goes' s r (wantR x) := by
  intro a r' e
  unfold wantR at e ⊢
  split at e
  · rename_i hs
    have h2 := two_of h (by decide) hs
    cases e
    rw [jn_is _ _ h2, if_pos hs, (jn_hd h2).2]
  · cases e
theorem sized_goes {s r : List Tok} (h2 : 2 ≤ r.length) : Goes' s r sizedR := by
  intro a r' e
  unfold sizedR at e ⊢
  split at e
  · cases e
  · rename_i hs
    cases e
    rw [(jn_hd h2).1, (jn_hd h2).2, if_neg hs]
theorem name_goes {s r : List Tok} (h : Ends r) : Goes' s r nameR := by
  intro a r' e
  unfold nameR at e ⊢
  split at e
  · rename_i hs
    have h2 := h.two (by rw [hs]; decide)
    rw [(jn_hd h2).1, if_pos hs]
    exact sized_goes h2 a r' e
  · cases e
theorem label_goes {s r : List Tok} (h : Ends r) : Goes' s r labelR := by
  intro a r' e
  unfold labelR at e ⊢
  split at e
  · rename_i hs
    have h2 := h.two (by omega)
    rw [(jn_hd h2).1, if_pos hs]
    exact sized_goes h2 a r' e
  · cases e
theorem value_goes {s r : List Tok} (h : Ends r) : Goes' s r valueR := by
  intro a r' e
  unfold valueR at e ⊢
  split at e
  · rename_i hs
    have h2 := h.two (by omega)
    cases e
    rw [(jn_hd h2).1, (jn_hd h2).2, if_pos hs]
  · cases e
theorem bind_is {α β : Type} {x : Res α} {f : α → List Tok → Res β} {b : β} {r : List Tok} (h : x.bind f = .ok b r) : ∃ a r', x = .ok a r' ∧ f a r' = .ok b r := by
  cases x with
  | no c p => cases h
  | ok a r' => exact ⟨a, r', rfl, h⟩
theorem lists_goes {s : List Tok} : ∀ (f n : Nat) (r : List Tok), Ends r → Goes s r (listsR f n)
  | 0, n, r, h => by
    intro a r' e h'
    unfold listsR at e ⊢
    split at e
    · cases e
    · rename_i hs
      cases e
      rw [jn_is _ _ h', if_neg hs]
  | f + 1, n, r, h => by
    intro a r' e h'
    unfold listsR at e ⊢
    split at e
    · rename_i hs
      have h2 := two_of h (by decide) hs
      have ht := h.tail (by rw [(isT_kind hs).1]; decide)
      obtain ⟨u, r1, e1, e2⟩ := bind_is e
      have he := (want_eats ht u r1 e1).1
      rw [jn_is _ _ h2, if_pos hs, (jn_hd h2).2, want_goes ht _ u r1 e1]
      exact lists_goes f (n + 1) r1 he a r' e2 h'
    · rename_i hs
      cases e
      rw [jn_is _ _ h', if_neg hs]
theorem close_goes {s : List Tok} : ∀ (n : Nat) (r : List Tok), Ends r → Goes' s r (closeR n)
  | 0, r, _ => fun a r' e => by cases e; rfl
  | n + 1, r, h => by
    intro a r' e
    obtain ⟨u, r1, e1, e2⟩ := bind_is (f := fun _ r' => closeR n r') e
    show (wantR [62] (jn r s)).bind _ = _
    rw [want_goes h _ u r1 e1, bind_ok]
    exact close_goes n r1 (want_eats h u r1 e1).1 a r' e2
theorem ty_goes {s r : List Tok} (h : Ends r) : ∀ a r', tyR r = .ok a r' → (hd (jn r s)).place = (hd r).place ∧ tyR (jn r s) = .ok a (jn r' s) := by
  intro a r' e
  obtain ⟨n, r1, e1, e⟩ := bind_is e
  obtain ⟨t, r2, e2, e⟩ := bind_is e
  obtain ⟨u, r3, e3, e⟩ := bind_is e
  have h1 := (lists_keeps 3 0 r h n r1 e1)
  have h2 := name_eats h1.1 t r2 e2
  have l1 : 2 ≤ r1.length := by have := h2.1.len; omega
  have l0 : 2 ≤ r.length := by omega
  have hp : (hd (jn r s)).place = (hd r).place := by rw [(jn_hd l0).1]
  refine ⟨hp, ?_⟩
  cases e
  unfold tyR
  rw [lists_goes 3 0 r h n r1 e1 l1, bind_ok, name_goes h1.1 t r2 e2, bind_ok, close_goes n r2 h2.1 u _ e3, bind_ok, hp]
theorem dflt_goes {s r : List Tok} (h : Ends r) : Goes s r dfltR := by
  intro a r' e h'
  unfold dfltR at e ⊢
  split at e
  · rename_i hs
    have h2 := two_of h (by decide) hs
    rw [jn_is _ _ h2, if_pos hs, (jn_hd h2).2]
    exact value_goes (h.tail (by rw [(isT_kind hs).1]; decide)) a r' e
  · rename_i hs
    cases e
    rw [jn_is _ _ h', if_neg hs]
theorem field_goes {s r : List Tok} (h : Ends r) : Goes' s r fieldR := by
  intro a r' e
  obtain ⟨t, r1, e1, e⟩ := bind_is e
  obtain ⟨u, r2, e2, e⟩ := bind_is e
  obtain ⟨ty, r3, e3, e⟩ := bind_is e
  obtain ⟨d, r4, e4, e⟩ := bind_is e
  obtain ⟨v, r5, e5, e⟩ := bind_is e
  have h1 := (label_eats h t r1 e1).1
  have h2 := (want_eats h1 u r2 e2).1
  have h3 := (ty_keeps h2 ty r3 e3).1
  have h4 := (dflt_keeps h3 d r4 e4).1
  have h5 := want_eats h4 v r5 e5
  have l4 : 2 ≤ r4.length := by have := h5.1.len; omega
  cases e
  unfold fieldR
  rw [label_goes h t r1 e1, bind_ok, want_goes h1 _ u r2 e2, bind_ok, (ty_goes h2 ty r3 e3).2, bind_ok, dflt_goes h3 d r4 e4 l4, bind_ok, want_goes h4 _ v _ e5, bind_ok]
theorem comma_goes {s r : List Tok} (h : Ends r) : Goes' s r commaR := by
  intro a r' e
  unfold commaR at e ⊢
  split at e
  · rename_i hs
    cases e
    rw [jn_is _ _ (two_of h (by decide) hs), if_pos hs]
  · rename_i hs
    have h2 := want_eats h a r' e
    have l2 : 2 ≤ r.length := by have := h2.1.len; omega
    rw [jn_is _ _ l2, if_neg hs]
    exact want_goes h _ a r' e
theorem jn_ends {s : List Tok} (hs : Ends s) : ∀ r, Ends r → Ends (jn r s)
  | [], h => h.elim
  | [t], _ => hs
  | t :: u :: q, h => by
    rcases h with ⟨_, _, h⟩ | ⟨h1, h2⟩
    · cases h
    · exact .inr ⟨h1, jn_ends hs (u :: q) h2⟩
theorem fieldsL_goes {s : List Tok} (hs : Ends s) : ∀ (m : Nat) (acc : List RField) (r : List Tok), Ends r → r.length ≤ m → Goes' s r (fieldsL acc)
  | 0, _, r, h, hm => by have := h.len; omega
  | m + 1, acc, r, h, hm => by
    intro a r' e
    rw [fieldsL_step h] at e
    rw [fieldsL_step (jn_ends hs r h)]
    split at e
    · rename_i h1
      have h2 := two_of h (by decide) h1
      cases e
      rw [jn_is _ _ h2, if_pos h1, (jn_hd h2).2]
    · rename_i h1
      obtain ⟨x, r1, e1, e2⟩ := bind_is e
      have h2 := field_eats h x r1 e1
      have l2 : 2 ≤ r.length := by have := h2.1.len; omega
      rw [jn_is _ _ l2, if_neg h1, field_goes h x r1 e1, bind_ok]
      exact fieldsL_goes hs m _ r1 h2.1 (by omega) a r' e2
theorem namesL_goes {s : List Tok} (hs : Ends s) : ∀ (m : Nat) (acc : List Tok) (r : List Tok), Ends r → r.length ≤ m → Goes' s r (namesL acc)
  | 0, _, r, h, hm => by have := h.len; omega
  | m + 1, acc, r, h, hm => by
    intro a r' e
    rw [namesL_step h] at e
    rw [namesL_step (jn_ends hs r h)]
    split at e
    · rename_i h1
      have h2 := two_of h (by decide) h1
      cases e
      rw [jn_is _ _ h2, if_pos h1, (jn_hd h2).2]
    · rename_i h1
      obtain ⟨x, r1, e1, e2⟩ := bind_is e
      obtain ⟨y, r2, e3, e4⟩ := bind_is e2
      have h2 := name_eats h x r1 e1
      have h3 := comma_keeps h2.1 y r2 e3
      have l2 : 2 ≤ r.length := by have := h2.1.len; omega
      rw [jn_is _ _ l2, if_neg h1, name_goes h x r1 e1, bind_ok, comma_goes h2.1 y r2 e3, bind_ok]
      exact namesL_goes hs m _ r2 h3.1 (by omega) a r' e4
theorem rec_goes {s r : List Tok} (hs : Ends s) (h : Ends r) : Goes' s r recR := by
  intro a r' e
  obtain ⟨t, r1, e1, e⟩ := bind_is e
  obtain ⟨u, r2, e2, e⟩ := bind_is e
  obtain ⟨v, r3, e3, e⟩ := bind_is e
  have h1 := (name_eats h t r1 e1).1
  have h2 := (want_eats h1 u r2 e2).1
  cases e
  unfold recR
  rw [name_goes h t r1 e1, bind_ok, want_goes h1 _ u r2 e2, bind_ok]
  have := fieldsL_goes hs r2.length [] r2 h2 (Nat.le_refl _) v _ e3
  unfold fieldsL at this
  rw [this, bind_ok]
theorem cho_goes {s r : List Tok} (hs : Ends s) (h : Ends r) : Goes' s r choR := by
  intro a r' e
  obtain ⟨t, r1, e1, e⟩ := bind_is e
  obtain ⟨u, r2, e2, e⟩ := bind_is e
  obtain ⟨v, r3, e3, e⟩ := bind_is e
  have h1 := (name_eats h t r1 e1).1
  have h2 := (want_eats h1 u r2 e2).1
  cases e
  unfold choR
  rw [name_goes h t r1 e1, bind_ok, want_goes h1 _ u r2 e2, bind_ok]
  have := namesL_goes hs r2.length [] r2 h2 (Nat.le_refl _) v _ e3
  unfold namesL at this
  rw [this, bind_ok]
theorem part_goes {s r : List Tok} (hs : Ends s) (h : Ends r) (h2 : 2 ≤ r.length) (a : RRaw) : Goes' s r (partR a) := by
  intro x r' e
  unfold partR at e ⊢
  rw [jn_is _ _ h2, jn_is _ _ h2, jn_is _ _ h2, (jn_hd h2).2]
  have ht : ∀ {k w}, k ≠ 0 → isT k w r = true → Ends r.tail := fun hk hw => h.tail (by rw [(isT_kind hw).1]; exact hk)
  split at e
  · rename_i h3
    obtain ⟨v, r1, e1, e⟩ := bind_is e
    cases e
    rw [if_pos h3, rec_goes hs (ht (by decide) h3) v _ e1, bind_ok]
  rename_i h3
  rw [if_neg h3]
  split at e
  · rename_i h4
    obtain ⟨v, r1, e1, e⟩ := bind_is e
    cases e
    rw [if_pos h4, cho_goes hs (ht (by decide) h4) v _ e1, bind_ok]
  rename_i h4
  rw [if_neg h4]
  split at e
  · rename_i h5
    obtain ⟨v, r1, e1, e⟩ := bind_is e
    obtain ⟨u, r2, e2, e⟩ := bind_is e
    cases e
    have h6 := ht (by decide) h5
    rw [if_pos h5, name_goes h6 v r1 e1, bind_ok, want_goes (name_eats h6 v r1 e1).1 _ u _ e2, bind_ok]
  · cases e
theorem schemaL_goes {s : List Tok} (hs : Ends s) : ∀ (m : Nat) (a : RRaw) (r : List Tok), Ends r → r.length ≤ m → ∀ b r', schemaL a r = .ok b r' → schemaL a (jn r s) = schemaL b s
  | 0, _, r, h, hm => by have := h.len; omega
  | m + 1, a, r, h, hm => by
    intro b r' e
    rw [schemaL_step h] at e
    by_cases h0 : (hd r).kind = 0
    · rw [if_pos h0] at e
      cases e
      cases r with
      | nil => exact h.elim
      | cons t q =>
        rcases h with ⟨_, _, rfl⟩ | ⟨h1, _⟩
        · rfl
        · exact absurd h0 h1
    · rw [if_neg h0] at e
      obtain ⟨x, r1, e1, e2⟩ := bind_is e
      have h2 := part_eats h x r1 e1
      have l2 := h.two h0
      rw [schemaL_step (jn_ends hs r h), (jn_hd l2).1, if_neg h0, part_goes hs h l2 a x r1 e1, bind_ok]
      exact schemaL_goes hs m x r1 h2.1 (by omega) b r' e2

/-! ### what stands ahead is kept -/
def raw2 (a b : RRaw) : RRaw := ⟨a.structs ++ b.structs, a.enums ++ b.enums, a.roots ++ b.roots⟩
def Res.mapA {α β : Type} (f : α → β) : Res α → Res β
  | .ok a r => .ok (f a) r
  | .no c p => .no c p
theorem part_ahead (a b : RRaw) (r : List Tok) : partR (raw2 a b) r = (partR b r).mapA (raw2 a) := by
  unfold partR
  split
  · cases recR r.tail with
    | no c p => rfl
    | ok x r' => simp [bind_ok, Res.mapA, raw2]
  split
  · cases choR r.tail with
    | no c p => rfl
    | ok x r' => simp [bind_ok, Res.mapA, raw2]
  split
  · cases nameR r.tail with
    | no c p => rfl
    | ok x r' =>
      simp only [bind_ok]
      cases wantR [59] r' with
      | no c p => rfl
      | ok y r'' => simp [bind_ok, Res.mapA, raw2]
  · rfl
theorem schemaL_ahead : ∀ (m : Nat) (a b : RRaw) (r : List Tok), Ends r → r.length ≤ m → schemaL (raw2 a b) r = (schemaL b r).mapA (raw2 a)
  | 0, _, _, r, h, hm => by have := h.len; omega
  | m + 1, a, b, r, h, hm => by
    rw [schemaL_step h, schemaL_step h]
    split
    · rfl
    · rw [part_ahead]
      cases hx : partR b r with
      | no c p => rfl
      | ok x r' =>
        have h2 := part_eats h x r' hx
        simp only [Res.mapA, bind_ok]
        exact schemaL_ahead m a x r' h2.1 (by omega)

/-! ### places -/
/-- A token, a type, .. without its place. -/
def eT (t : Tok) : Tok := ⟨t.kind, t.text, 0⟩
def eTy (t : RTy) : RTy := ⟨t.name, t.lists, 0⟩
def eF (f : RField) : RField := ⟨f.name, 0, eTy f.ty, eT f.dflt⟩
def eR (s : RRec) : RRec := ⟨s.name, 0, s.fields.map eF⟩
def eC (s : RCho) : RCho := ⟨s.name, 0, s.names.map eT⟩
def eRaw (a : RRaw) : RRaw := ⟨a.structs.map eR, a.enums.map eC, a.roots.map eT⟩
def eL (r : List Tok) : List Tok := r.map eT
def Res.er {α : Type} (f : α → α) : Res α → Res α
  | .ok a r => .ok (f a) (eL r)
  | .no c _ => .no c 0
theorem hd_er (r : List Tok) : hd (eL r) = eT (hd r) := by cases r <;> rfl
theorem is_er (k : Int) (x : List Int) (r : List Tok) : isT k x (eL r) = isT k x r := by unfold isT; rw [hd_er]; rfl
theorem tail_er (r : List Tok) : (eL r).tail = eL r.tail := by cases r <;> rfl
theorem bad_er {α : Type} (f : α → α) (c : Int) (r : List Tok) : (bad c (eL r) : Res α) = (bad c r : Res α).er f := by unfold bad; rw [hd_er]; rfl
theorem bind_er {α β : Type} {f : α → α} {g : β → β} {x y : Res α} {k k' : α → List Tok → Res β} (h : y = x.er f) (hk : ∀ a r, k' (f a) (eL r) = (k a r).er g) : y.bind k' = (x.bind k).er g := by
  subst h
  cases x with
  | no c p => rfl
  | ok a r => exact hk a r
theorem want_er (x : List Int) (r : List Tok) : wantR x (eL r) = (wantR x r).er id := by
  unfold wantR
  rw [is_er, tail_er]
  split
  · rfl
  · exact bad_er _ _ _
theorem sized_er (r : List Tok) : sizedR (eL r) = (sizedR r).er eT := by
  unfold sizedR
  rw [hd_er, tail_er]
  show (if (hd r).text.length = 0 ∨ 40 < (hd r).text.length then _ else _) = _
  split
  · exact bad_er _ _ _
  · rfl
theorem name_er (r : List Tok) : nameR (eL r) = (nameR r).er eT := by
  unfold nameR
  rw [hd_er]
  show (if (hd r).kind = 1 then _ else _) = _
  split
  · exact sized_er r
  · exact bad_er _ _ _
theorem label_er (r : List Tok) : labelR (eL r) = (labelR r).er eT := by
  unfold labelR
  rw [hd_er]
  show (if (hd r).kind = 1 ∨ (hd r).kind = 3 then _ else _) = _
  split
  · exact sized_er r
  · exact bad_er _ _ _
theorem value_er (r : List Tok) : valueR (eL r) = (valueR r).er eT := by
  unfold valueR
  rw [hd_er, tail_er]
  show (if (hd r).kind = 1 ∨ (hd r).kind = 2 then _ else _) = _
  split
  · rfl
  · exact bad_er _ _ _
theorem lists_er : ∀ (f n : Nat) (r : List Tok), listsR f n (eL r) = (listsR f n r).er id
  | 0, n, r => by
    unfold listsR
    rw [is_er]
    split
    · exact bad_er _ _ _
    · rfl
  | f + 1, n, r => by
    unfold listsR
    rw [is_er, tail_er]
    split
    · exact bind_er (want_er _ _) fun _ r' => lists_er f (n + 1) r'
    · rfl
theorem close_er : ∀ (n : Nat) (r : List Tok), closeR n (eL r) = (closeR n r).er id
  | 0, _ => rfl
  | n + 1, _ => bind_er (want_er _ _) fun _ r' => close_er n r'
theorem ty_er (r : List Tok) : tyR (eL r) = (tyR r).er eTy := by
  unfold tyR
  rw [hd_er]
  exact bind_er (lists_er 3 0 r) fun n r1 => bind_er (name_er r1) fun t r2 => bind_er (close_er n r2) fun _ r3 => rfl
theorem dflt_er (r : List Tok) : dfltR (eL r) = (dfltR r).er eT := by
  unfold dfltR
  rw [is_er, tail_er]
  split
  · exact value_er _
  · rfl
theorem field_er (r : List Tok) : fieldR (eL r) = (fieldR r).er eF :=
  bind_er (label_er r) fun _ r1 => bind_er (want_er _ r1) fun _ r2 => bind_er (ty_er r2) fun _ r3 => bind_er (dflt_er r3) fun _ r4 => bind_er (want_er _ r4) fun _ _ => rfl
theorem fields_er : ∀ (f : Nat) (acc : List RField) (r : List Tok), fieldsR f (acc.map eF) (eL r) = (fieldsR f acc r).er (List.map eF)
  | 0, _, _ => bad_er _ _ _
  | f + 1, acc, r => by
    unfold fieldsR
    rw [is_er, tail_er]
    split
    · rfl
    · refine bind_er (field_er r) fun x r' => ?_
      have := fields_er f (acc ++ [x]) r'
      rw [List.map_append] at this
      exact this
theorem comma_er (r : List Tok) : commaR (eL r) = (commaR r).er id := by
  unfold commaR
  rw [is_er]
  split
  · rfl
  · exact want_er _ _
theorem names_er : ∀ (f : Nat) (acc : List Tok) (r : List Tok), namesR f (acc.map eT) (eL r) = (namesR f acc r).er (List.map eT)
  | 0, _, _ => bad_er _ _ _
  | f + 1, acc, r => by
    unfold namesR
    rw [is_er, tail_er]
    split
    · rfl
    · refine bind_er (name_er r) fun x r' => bind_er (comma_er r') fun _ r'' => ?_
      have := names_er f (acc ++ [x]) r''
      rw [List.map_append] at this
      exact this
theorem eL_length (r : List Tok) : (eL r).length = r.length := List.length_map ..
theorem fields_erL (r : List Tok) : fieldsR (eL r).length [] (eL r) = (fieldsR r.length [] r).er (List.map eF) := by rw [eL_length]; exact fields_er r.length [] r
theorem names_erL (r : List Tok) : namesR (eL r).length [] (eL r) = (namesR r.length [] r).er (List.map eT) := by rw [eL_length]; exact names_er r.length [] r
theorem rec_er (r : List Tok) : recR (eL r) = (recR r).er eR :=
  bind_er (name_er r) fun _ r1 => bind_er (want_er _ r1) fun _ r2 => bind_er (fields_erL r2) fun _ _ => rfl
theorem cho_er (r : List Tok) : choR (eL r) = (choR r).er eC :=
  bind_er (name_er r) fun _ r1 => bind_er (want_er _ r1) fun _ r2 => bind_er (names_erL r2) fun _ _ => rfl
theorem part_er (a : RRaw) (r : List Tok) : partR (eRaw a) (eL r) = (partR a r).er eRaw := by
  unfold partR
  rw [is_er, is_er, is_er, tail_er]
  split
  · exact bind_er (rec_er _) fun _ _ => by simp [Res.er, eRaw]
  split
  · exact bind_er (cho_er _) fun _ _ => by simp [Res.er, eRaw]
  split
  · exact bind_er (name_er _) fun _ r1 => bind_er (want_er _ r1) fun _ _ => by simp [Res.er, eRaw]
  · exact bad_er _ _ _
theorem schema_er : ∀ (f : Nat) (a : RRaw) (r : List Tok), schemaR f (eRaw a) (eL r) = (schemaR f a r).er eRaw
  | 0, _, _ => bad_er _ _ _
  | f + 1, a, r => by
    unfold schemaR
    rw [hd_er]
    show (if (hd r).kind = 0 then _ else _) = _
    split
    · rfl
    · exact bind_er (part_er a r) fun x r' => schema_er f x r'
theorem schemaL_er (a : RRaw) (r : List Tok) : schemaL (eRaw a) (eL r) = (schemaL a r).er eRaw := by
  unfold schemaL
  rw [eL_length]
  exact schema_er _ a r
/-- What the tokens of both say. -/
theorem schema_join {l1 l2 l2' : List Tok} {a b : RRaw} {r1 r2 : List Tok} (h1 : Ends l1) (h2' : Ends l2') (he : eL l2' = eL l2) (ha : schemaL noRaw l1 = .ok a r1) (hb : schemaL noRaw l2 = .ok b r2) :
    ∃ b' r', schemaL noRaw (jn l1 l2') = .ok (raw2 a b') r' ∧ eRaw b' = eRaw b := by
  have e1 := schemaL_goes h2' l1.length noRaw l1 h1 (Nat.le_refl _) a r1 ha
  have e2 := schemaL_ahead l2'.length a noRaw l2' h2' (Nat.le_refl _)
  have e0 : raw2 a noRaw = a := by simp [raw2, noRaw]
  rw [e0] at e2
  have e3 := schemaL_er noRaw l2'
  rw [he, schemaL_er noRaw l2, hb] at e3
  cases hx : schemaL noRaw l2' with
  | no c p =>
    rw [hx] at e3
    cases e3
  | ok b' r' =>
    rw [hx] at e3 e2
    refine ⟨b', r', e1.trans e2, ?_⟩
    injection e3 with e3 _
    exact e3.symm
end Go.Proofs.YtmjmblbaojchcaaDoor
namespace Go.Proofs.YtmjmblbaojchcaaDoor
open Go.RowKit Go.Shelf

/-! ### a fault's number is not 0 -/
def NZ {α : Type} (x : Res α) : Prop := ∀ c p, x = .no c p → c ≠ 0
theorem nz_ok {α : Type} (a : α) (r : List Tok) : NZ (.ok a r) := fun _ _ h => by cases h
theorem nz_bad {α : Type} {c : Int} (r : List Tok) (h : c ≠ 0) : NZ (bad c r : Res α) := fun _ _ e => by cases e; exact h
theorem nz_bind {α β : Type} {x : Res α} {k : α → List Tok → Res β} (h : NZ x) (hk : ∀ a r, NZ (k a r)) : NZ (x.bind k) := by
  cases x with
  | no c p => exact fun _ _ e => by cases e; exact h _ _ rfl
  | ok a r => exact hk a r
theorem nz_if {α : Type} {c : Prop} [Decidable c] {x y : Res α} (hx : NZ x) (hy : NZ y) : NZ (if c then x else y) := by
  split
  · exact hx
  · exact hy
theorem nz_want (s : List Int) (r : List Tok) : NZ (wantR s r) := nz_if (nz_ok _ _) (nz_bad _ (by decide))
theorem nz_sized (r : List Tok) : NZ (sizedR r) := nz_if (nz_bad _ (by decide)) (nz_ok _ _)
theorem nz_name (r : List Tok) : NZ (nameR r) := nz_if (nz_sized _) (nz_bad _ (by decide))
theorem nz_label (r : List Tok) : NZ (labelR r) := nz_if (nz_sized _) (nz_bad _ (by decide))
theorem nz_value (r : List Tok) : NZ (valueR r) := nz_if (nz_ok _ _) (nz_bad _ (by decide))
theorem nz_lists : ∀ (f n : Nat) (r : List Tok), NZ (listsR f n r)
  | 0, n, r => by
    unfold listsR
    exact nz_if (nz_bad _ (by decide)) (nz_ok _ _)
  | f + 1, n, r => by
    unfold listsR
    exact nz_if (nz_bind (nz_want _ _) fun _ r' => nz_lists f (n + 1) r') (nz_ok _ _)
theorem nz_close : ∀ (n : Nat) (r : List Tok), NZ (closeR n r)
  | 0, _ => nz_ok _ _
  | n + 1, _ => nz_bind (nz_want _ _) fun _ r' => nz_close n r'
theorem nz_ty (r : List Tok) : NZ (tyR r) := nz_bind (nz_lists _ _ _) fun _ _ => nz_bind (nz_name _) fun _ _ => nz_bind (nz_close _ _) fun _ _ => nz_ok _ _
theorem nz_dflt (r : List Tok) : NZ (dfltR r) := nz_if (nz_value _) (nz_ok _ _)
theorem nz_field (r : List Tok) : NZ (fieldR r) :=
  nz_bind (nz_label _) fun _ _ => nz_bind (nz_want _ _) fun _ _ => nz_bind (nz_ty _) fun _ _ => nz_bind (nz_dflt _) fun _ _ => nz_bind (nz_want _ _) fun _ _ => nz_ok _ _
theorem nz_fields : ∀ (f : Nat) (acc : List RField) (r : List Tok), NZ (fieldsR f acc r)
  | 0, _, _ => nz_bad _ (by decide)
  | f + 1, acc, r => by
    unfold fieldsR
    exact nz_if (nz_ok _ _) (nz_bind (nz_field _) fun _ _ => nz_fields f _ _)
theorem nz_comma (r : List Tok) : NZ (commaR r) := nz_if (nz_ok _ _) (nz_want _ _)
theorem nz_names : ∀ (f : Nat) (acc : List Tok) (r : List Tok), NZ (namesR f acc r)
  | 0, _, _ => nz_bad _ (by decide)
  | f + 1, acc, r => by
    unfold namesR
    exact nz_if (nz_ok _ _) (nz_bind (nz_name _) fun _ _ => nz_bind (nz_comma _) fun _ _ => nz_names f _ _)
theorem nz_rec (r : List Tok) : NZ (recR r) := nz_bind (nz_name _) fun _ _ => nz_bind (nz_want _ _) fun _ _ => nz_bind (nz_fields _ _ _) fun _ _ => nz_ok _ _
theorem nz_cho (r : List Tok) : NZ (choR r) := nz_bind (nz_name _) fun _ _ => nz_bind (nz_want _ _) fun _ _ => nz_bind (nz_names _ _ _) fun _ _ => nz_ok _ _
theorem nz_part (a : RRaw) (r : List Tok) : NZ (partR a r) :=
  nz_if (nz_bind (nz_rec _) fun _ _ => nz_ok _ _) (nz_if (nz_bind (nz_cho _) fun _ _ => nz_ok _ _) (nz_if (nz_bind (nz_name _) fun _ _ => nz_bind (nz_want _ _) fun _ _ => nz_ok _ _) (nz_bad _ (by decide))))
theorem nz_schema : ∀ (f : Nat) (a : RRaw) (r : List Tok), NZ (schemaR f a r)
  | 0, _, _ => nz_bad _ (by decide)
  | f + 1, a, r => by
    unfold schemaR
    exact nz_if (nz_ok _ _) (nz_bind (nz_part _ _) fun _ _ => nz_schema f _ _)
/-- A text without a fault. -/
theorem raw_ok {s : ByteArray} {a : RRaw} {p : Nat} (h : rawT s = (a, 0, p)) : ∃ l q r, toks okU (amg idlSigns) (bts s) = (l, 0, q) ∧ schemaL noRaw l = .ok a r := by
  unfold rawT at h
  obtain ⟨x, hx⟩ : ∃ x, toks okU (amg idlSigns) (bts s) = x := ⟨_, rfl⟩
  obtain ⟨l, code, q⟩ := x
  rw [hx] at h
  unfold rawL at h
  simp only at h
  by_cases hc : code = 0
  · subst hc
    rw [if_pos rfl] at h
    cases hy : schemaL noRaw l with
    | ok b r =>
      rw [hy] at h
      simp only at h
      injection h with h1 _
      subst h1
      exact ⟨l, q, r, hx, hy⟩
    | no c p' =>
      rw [hy] at h
      simp only at h
      injection h with _ h2
      injection h2 with h2 _
      exact absurd h2 (nz_schema _ _ _ c p' hy)
  · rw [if_neg hc] at h
    injection h with _ h2
    injection h2 with h2 _
    exact absurd h2 hc
theorem moved_ends (m : Nat) : ∀ l : List Tok, Ends l → Ends (l.map (moved m))
  | [], h => h.elim
  | t :: r, h => by
    rcases h with ⟨h4, h5, rfl⟩ | ⟨h4, h5⟩
    · exact .inl ⟨h4, h5, rfl⟩
    · exact .inr ⟨h4, moved_ends m r h5⟩
/-- Both together. -/
theorem raw_join {one other joined : ByteArray} {a b : RRaw} {p q : Nat} (h1 : rawT one = (a, 0, p)) (h2 : rawT other = (b, 0, q)) (hj : bts joined = bts one ++ 10 :: bts other) (hsz : joined.size ≤ 8192) :
    (rawT joined).2.1 = 16 ∨ ∃ b', rawT joined = (raw2 a b', 0, 0) ∧ eRaw b' = eRaw b := by
  obtain ⟨l1, q1, r1, ht1, hs1⟩ := raw_ok h1
  obtain ⟨l2, q2, r2, ht2, hs2⟩ := raw_ok h2
  have hc1 := (toks_chain ht1).1
  have hc2 := (toks_chain ht2).1
  have he1 := (toks_good ht1).1
  have hch := chain_join (by decide) hc2 l1 0 (Nat.zero_le _) hc1
  rw [← hj] at hch
  rcases toks_of_chain (by rw [bts_length]; exact hsz) hch with ⟨ht, _⟩ | ht
  · right
    have he2 := moved_ends ((bts one).length + 1) l2 (toks_good ht2).1
    obtain ⟨b', r', h3, h4⟩ := schema_join (l2 := l2) he1 he2 (by unfold eL; rw [List.map_map]; rfl) hs1 hs2
    refine ⟨b', ?_, h4⟩
    unfold rawT
    rw [ht]
    show (match schemaL noRaw (jn l1 _) with
      | .ok a _ => (a, 0, 0)
      | .no c q => (noRaw, c, q)) = _
    rw [h3]
  · left
    unfold rawT rawL
    obtain ⟨x, hx⟩ : ∃ x, toks okU (amg idlSigns) (bts joined) = x := ⟨_, rfl⟩
    rw [hx] at ht ⊢
    obtain ⟨l, code, q⟩ := x
    simp only at ht ⊢
    subst ht
    rfl
end Go.Proofs.YtmjmblbaojchcaaDoor
