/-
  Plain facts for the law LexSpaced: each token of a text is fine and no longer than the text; what stands between tokens; how long a text made anew may be. No run of the program stands in this text. Conditions: those that each theorem names.
-/
import Derived.Test.YtfnopliggdemaaaDoorPlacesWalk
namespace Go.Proofs.YtfnopliggdemaaaDoor
theorem chain_all {s : ByteArray} {sg : Int → Bool} : ∀ (l : List Tok) (i : Nat), i ≤ (bts s).length → Left okU sg (bts s) i l → ∀ t ∈ l, Fine okU sg t ∧ (full t).length ≤ s.size ∧ ∀ z ∈ t.text, 0 ≤ z ∧ z ≤ 255
  | [], _, _, _, t, h => by cases h
  | a :: r, i, hi, hl, t, h => by
    obtain ⟨f1, _, f3, f4, _, f6⟩ := left_step hi hl
    rcases List.mem_cons.1 h with rfl | h
    · refine ⟨f1, ?_, text_bd f1 f4⟩
      rw [bts_length] at f3
      omega
    · exact chain_all r _ f3 f6 t h
theorem fillAt_le (k : Nat) : (fillAt k).length ≤ 8 := by
  match k with
  | 0 => decide
  | 1 => decide
  | 2 => decide
  | 3 => decide
  | k + 4 => exact (by decide : (7 : Nat) ≤ 8)
theorem joinT_le (G : Nat → Nat) (B : Nat) : ∀ (r : List Tok) (i : Nat), (∀ t ∈ r, (full t).length ≤ B) → (joinT G i r).length ≤ r.length * (8 + B)
  | [], _, _ => by simp [joinT]
  | t :: r, i, h => by
    have h1 := joinT_le G B r (i + 1) (fun t ht => h t (List.mem_cons_of_mem _ ht))
    have h2 := h t List.mem_cons_self
    have h3 := fillAt_le (G i)
    simp only [joinT, List.length_append, List.length_cons]
    rw [Nat.succ_mul]
    omega
/-- The gap ahead of a token. -/
def gapOf (zs : List Int) (len i : Nat) : Nat := if 0 < len then (zs.getD (i % len) 0).toNat % 5 else 0
theorem signs_solid (c : Int) (h : amg lawSigns c = true) : isBlank c = false ∧ c ≠ 47 := by
  have h1 : c ∈ bts lawSigns := of_decide_eq_true h
  have h2 : ∀ c ∈ bts lawSigns, isBlank c = false ∧ c ≠ 47 := by decide
  exact h2 c h1
theorem joinT_next (G : Nat → Nat) (l : List Tok) (k : Nat) (t : Tok) (r : List Tok) (h : l.drop k = t :: r) (hk : k < l.length) : joinT G 0 (l.take (k + 1)) = joinT G 0 (l.take k) ++ (fillAt (G k) ++ full t) := by
  have e : l.take (k + 1) = l.take k ++ [t] := by
    rw [List.take_add_one]
    have : l[k]? = some t := by
      have := congrArg (fun x => x[0]?) h
      simpa using this
    rw [this]
    rfl
  rw [e, joinT_append, List.length_take, Nat.min_eq_left (by omega), Nat.zero_add]
  simp [joinT]
/-- The text made anew has the same kinds and texts. -/
theorem twin_toks {s tw : ByteArray} {sg : Int → Bool} {l : List Tok} (G : Nat → Nat) (hsg : ∀ c, sg c = true → isBlank c = false ∧ c ≠ 47) (hr : Chain okU sg (bts s) 0 l ∧ l.length ≤ 2048) (ht : bts tw = joinT G 0 l) (hz : tw.size ≤ 8192) : ∃ r, toks okU sg (bts tw) = (r, 0, 0) ∧ r.map kt = l.map kt := by
  obtain ⟨hch, hll⟩ := hr
  have hF := chain_fine l 0 (Nat.zero_le _) (.inr hch)
  have hE := chain_last l 0 hch
  obtain ⟨r, h1, h2⟩ := twin_lex G hsg l 0 [] [] hF hE (by simpa using hll)
  refine ⟨r, ?_, h2⟩
  unfold toks
  rw [bts_length, if_neg (by omega), ht]
  simpa using h1
theorem kt_get {a b : List Tok} (h : a.map kt = b.map kt) (k : Nat) (t : Tok) (r : List Tok) (hk : b.drop k = t :: r) : ∃ u q, a.drop k = u :: q ∧ u.kind = t.kind ∧ u.text = t.text := by
  have h1 : (a.drop k).map kt = (b.drop k).map kt := by rw [List.map_drop, List.map_drop, h]
  rw [hk] at h1
  cases ha : a.drop k with
  | nil => rw [ha] at h1; simp at h1
  | cons u q =>
    rw [ha] at h1
    simp only [List.map_cons, List.cons.injEq, kt, Prod.mk.injEq] at h1
    exact ⟨u, q, rfl, h1.1.1, h1.1.2⟩
/-- The five that stand between tokens. -/
def fills : List ByteArray := [⟨#[32]⟩, ⟨#[10]⟩, ⟨#[9, 13, 32]⟩, ⟨#[47, 47, 32, 34, 120, 32, 123, 10]⟩, ⟨#[32, 47, 47, 10, 47, 47, 10]⟩]
theorem fill_get (j : Nat) (h : j < 5) : ∃ F, fills[j]? = some F ∧ bts F = fillAt j ∧ F.size ≤ 8 := by
  match j, h with
  | 0, _ => exact ⟨_, rfl, by decide, by decide⟩
  | 1, _ => exact ⟨_, rfl, by decide, by decide⟩
  | 2, _ => exact ⟨_, rfl, by decide, by decide⟩
  | 3, _ => exact ⟨_, rfl, by decide, by decide⟩
  | 4, _ => exact ⟨_, rfl, by decide, by decide⟩
theorem fill_cells (W : World) (u : TypeId) (B : Nat) (hB : B = W.heap.size) (j : Nat) (hj : j < 5) : (W.alloc (.cells #[.string ⟨#[32]⟩, .string ⟨#[10]⟩, .string ⟨#[9, 13, 32]⟩, .string ⟨#[47, 47, 32, 34, 120, 32, 123, 10]⟩, .string ⟨#[32, 47, 47, 10, 47, 47, 10]⟩] u)).cell? ⟨B, j, none⟩ = (fills[j]?).map Value.string := by
  subst hB
  rw [cell_of_row _ _ _ _ _ (0, 0) (heap_alloc_new W _)]
  match j, hj with
  | 0, _ => rfl
  | 1, _ => rfl
  | 2, _ => rfl
  | 3, _ => rfl
  | 4, _ => rfl
end Go.Proofs.YtfnopliggdemaaaDoor
