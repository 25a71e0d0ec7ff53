/-
  Plain facts on blanks and remarks, step by step. No run of the program stands in this text. Conditions: those that each theorem names.
  Plain facts on tokens: how the tokens of a text hang together; a text made of gaps and whole tokens has just these tokens. No run of the program stands in this text. Conditions: those that each theorem names.
  The document's own small functions on texts: a byte at a place, letters, digits. Conditions: those that each theorem names.
-/
import Derived.Test.YtmjmblbaojchcaaDoorPkC1
import Derived.Test.YtmjmblbaojchcaaDoorPkC4
import Derived.Test.YtmjmblbaojchcaaDoorPkC29
namespace Go.Proofs.YtmjmblbaojchcaaDoor
open Go.RowKit

theorem gap_blank {zs : List Int} {i : Nat} (h : stA zs isBlank i = true) : gap zs i = gap zs (i + 1) := by
  unfold gap
  rw [runTo_step h]
theorem slash_not_blank {zs : List Int} {i : Nat} (h : slash2 zs i = true) : stA zs isBlank i = false := by
  unfold slash2 at h
  rw [Bool.and_eq_true] at h
  have e := of_decide_eq_true (show decide (zs.getD i 0 = 47) = true from stA_p h.1)
  rw [stA_of (stA_lt h.1)]
  unfold isBlank
  exact decide_eq_false (by omega)
theorem gap_remark {zs : List Int} {i : Nat} (h : slash2 zs i = true) : gap zs i = gap zs (runTo zs notLf i) := by
  unfold gap
  rw [runTo_stop (slash_not_blank h), gapF_step h]
theorem gap_stop {zs : List Int} {i : Nat} (h1 : stA zs isBlank i = false) (h2 : slash2 zs i = false) : gap zs i = i := by
  unfold gap
  rw [runTo_stop h1, gapF_stop _ h2]
theorem gap_end {zs : List Int} {i : Nat} (h : zs.length ≤ i) : gap zs i = i :=
  gap_stop (stA_ge h) (by unfold slash2; rw [stA_ge h, Bool.false_and])
end Go.Proofs.YtmjmblbaojchcaaDoor
namespace Go.Proofs.YtmjmblbaojchcaaDoor
open Go.RowKit

/-- Tokens that follow one another from a place on, the last one the end. -/
def Chain (ok : List Int → Bool) (sg : Int → Bool) (zs : List Int) : Nat → List Tok → Prop
  | _, [] => False
  | i, t :: r => ∃ b, tok ok sg zs (gap zs i) = some (t, b) ∧ ((t.kind = 0 ∧ r = []) ∨ (t.kind ≠ 0 ∧ Chain ok sg zs b r))
theorem chain_of {ok : List Int → Bool} {sg : Int → Bool} {zs : List Int} {l : List Tok} {p : Nat} : ∀ (f i : Nat) (l0 : List Tok), f + l0.length = 2049 → l0.length ≤ 2048 → toksF ok sg zs f i l0 = (l, 0, p) → ∃ r, l = l0 ++ r ∧ Chain ok sg zs i r ∧ l.length ≤ 2048
  | 0, i, l0, hf, hl, _ => by omega
  | f + 1, i, l0, hf, hl, h => by
    simp only [toksF] at h
    by_cases h1 : l0.length = 2048
    · rw [if_pos h1] at h
      simp at h
    · rw [if_neg h1] at h
      cases ht : tok ok sg zs (gap zs i) with
      | none =>
        rw [ht] at h
        simp at h
      | some x =>
        obtain ⟨t, e⟩ := x
        rw [ht] at h
        simp only at h
        by_cases hk : t.kind = 0
        · rw [if_pos hk] at h
          simp only [Prod.mk.injEq] at h
          obtain ⟨rfl, _, _⟩ := h
          exact ⟨[t], rfl, ⟨e, ht, .inl ⟨hk, rfl⟩⟩, by simp; omega⟩
        · rw [if_neg hk] at h
          obtain ⟨r, hr, hc, hlen⟩ := chain_of f e (l0 ++ [t]) (by simp; omega) (by simp; omega) h
          exact ⟨t :: r, by rw [hr]; simp, ⟨e, ht, .inr ⟨hk, hc⟩⟩, hlen⟩
/-- A fault's place lies within the text. -/
theorem toksF_place {ok : List Int → Bool} {sg : Int → Bool} {zs : List Int} : ∀ (f i : Nat) (l0 : List Tok), i ≤ zs.length → (toksF ok sg zs f i l0).2.2 ≤ zs.length
  | 0, i, l0, h => h
  | f + 1, i, l0, h => by
    simp only [toksF]
    split
    · exact gap_le zs i h
    · cases ht : tok ok sg zs (gap zs i) with
      | none => exact gap_le zs i h
      | some x =>
        obtain ⟨t, e⟩ := x
        simp only
        split
        · exact Nat.zero_le _
        · exact toksF_place f e _ (tok_le (gap_le zs i h) ht)
theorem toks_place (ok : List Int → Bool) (sg : Int → Bool) (zs : List Int) : (toks ok sg zs).2.2 ≤ max zs.length 8192 := by
  unfold toks
  split
  · exact Nat.le_max_right _ _
  · exact Nat.le_trans (toksF_place 2049 0 [] (Nat.zero_le _)) (Nat.le_max_left _ _)
theorem toks_chain {ok : List Int → Bool} {sg : Int → Bool} {zs : List Int} {l : List Tok} {p : Nat} (h : toks ok sg zs = (l, 0, p)) : Chain ok sg zs 0 l ∧ l.length ≤ 2048 := by
  unfold toks at h
  split at h
  · simp at h
  · obtain ⟨r, hr, hc, hl⟩ := chain_of 2049 0 [] rfl (Nat.zero_le _) h
    rw [List.nil_append] at hr
    subst hr
    exact ⟨hc, hl⟩
/-- A token that was found: where it stands, what it is. -/
theorem tok_found {ok : List Int → Bool} {sg : Int → Bool} {zs : List Int} {i : Nat} {t : Tok} {e : Nat} (hi : i ≤ zs.length) (h : tok ok sg zs i = some (t, e)) :
    Fine ok sg t ∧ t.place = i ∧ e = i + (full t).length ∧ sub zs i e = full t ∧ (t.kind = 0 ↔ i = zs.length) := by
  rw [tok_drop ok sg zs i hi] at h
  cases h0 : tok ok sg (zs.drop i) 0 with
  | none => rw [h0] at h; cases h
  | some x =>
    obtain ⟨t0, e0⟩ := x
    rw [h0] at h
    obtain ⟨f1, f2, f3, f4, f5⟩ := tok_fine h0
    have hx : shiftT i (t0, e0) = (t, e) := by injection h
    unfold shiftT at hx
    simp only [Prod.mk.injEq] at hx
    obtain ⟨rfl, rfl⟩ := hx
    have hfull : full ⟨t0.kind, t0.text, i + t0.place⟩ = full t0 := rfl
    refine ⟨f1, ?_, ?_, ?_, ?_⟩
    · show i + t0.place = i
      omega
    · rw [hfull]; omega
    · rw [hfull]
      have := sub_drop zs i 0 e0
      rw [Nat.add_zero] at this
      rw [this, sub_zero]
      exact f4
    · show t0.kind = 0 ↔ _
      rw [f5, List.drop_eq_nil_iff]
      omega
/-- What is left of a chain: nothing, at the text's end; or a chain. -/
def Left (ok : List Int → Bool) (sg : Int → Bool) (zs : List Int) (i : Nat) (r : List Tok) : Prop := (r = [] ∧ i = zs.length) ∨ Chain ok sg zs i r
theorem left_step {ok : List Int → Bool} {sg : Int → Bool} {zs : List Int} {i : Nat} {t : Tok} {r : List Tok} (hi : i ≤ zs.length) (h : Left ok sg zs i (t :: r)) :
    Fine ok sg t ∧ t.place = gap zs i ∧ gap zs i + (full t).length ≤ zs.length ∧ sub zs (gap zs i) (gap zs i + (full t).length) = full t ∧ (t.kind = 0 ↔ r = []) ∧ Left ok sg zs (gap zs i + (full t).length) r := by
  rcases h with ⟨h, _⟩ | ⟨b, hb, hr⟩
  · cases h
  · have hg := gap_le zs i hi
    have hle := tok_le hg hb
    obtain ⟨f1, f2, f3, f4, f5⟩ := tok_found hg hb
    subst f3
    refine ⟨f1, f2, hle, f4, ?_, ?_⟩
    · rcases hr with ⟨hk, hr⟩ | ⟨hk, hr⟩
      · exact ⟨fun _ => hr, fun _ => hk⟩
      · refine ⟨fun h => absurd h hk, fun h => ?_⟩
        subst h
        exact hr.elim
    · rcases hr with ⟨hk, hr⟩ | ⟨hk, hr⟩
      · refine .inl ⟨hr, ?_⟩
        have h1 := f5.1 hk
        have h2 : full t = [] := by
          rcases f1 with ⟨_, h⟩ | ⟨h, _⟩ | ⟨h, _⟩ | ⟨h, _⟩ | ⟨h, _⟩
          · unfold full
            rw [if_neg (by rw [hk]; decide)]
            exact h
          all_goals (rw [hk] at h; exact absurd h (by decide))
        rw [h2]
        simpa using h1
      · exact .inr hr
theorem chain_fine {ok : List Int → Bool} {sg : Int → Bool} {zs : List Int} : ∀ (l : List Tok) (i : Nat), i ≤ zs.length → Left ok sg zs i l → ∀ t ∈ l, Fine ok sg t
  | [], _, _, _, t, h => by cases h
  | a :: r, i, hi, hl, t, h => by
    obtain ⟨f1, _, f3, _, _, f6⟩ := left_step hi hl
    rcases List.mem_cons.1 h with rfl | h
    · exact f1
    · exact chain_fine r _ f3 f6 t h
/-- Of tokens the last one alone is the end. -/
def EndLast : List Tok → Prop
  | [] => False
  | t :: r => (t.kind = 0 ∧ r = []) ∨ (t.kind ≠ 0 ∧ EndLast r)
theorem chain_last {ok : List Int → Bool} {sg : Int → Bool} {zs : List Int} : ∀ (l : List Tok) (i : Nat), Chain ok sg zs i l → EndLast l
  | [], _, h => h
  | t :: r, i, ⟨b, _, h⟩ => by
    rcases h with h | ⟨hk, hc⟩
    · exact .inl h
    · exact .inr ⟨hk, chain_last r b hc⟩

/-! ### gaps -/
def fillAt : Nat → List Int
  | 0 => [32]
  | 1 => [10]
  | 2 => [9, 13, 32]
  | 3 => [47, 47, 32, 34, 120, 32, 123, 10]
  | _ => [32, 47, 47, 10, 47, 47, 10]
/-- Neither a blank nor a slash stands first. -/
def Solid (r : List Int) : Prop := stA r isBlank 0 = false ∧ stA r (isC 47) 0 = false
theorem drop_succ {zs s : List Int} {i : Nat} {c : Int} (h : zs.drop i = c :: s) : zs.drop (i + 1) = s ∧ (∀ p, stA zs p i = p c) := by
  refine ⟨?_, fun p => ?_⟩
  · rw [← List.drop_drop, h]
    rfl
  · rw [show stA zs p i = stA (zs.drop i) p 0 from stA_drop zs p i 0, h]
    exact stA_of (by simp)
theorem gap_cons {zs s : List Int} {i : Nat} {c : Int} (h : zs.drop i = c :: s) (hc : isBlank c = true) : gap zs i = gap zs (i + 1) := gap_blank (by rw [(drop_succ h).2]; exact hc)
theorem gap_line {zs s b : List Int} {i : Nat} (h : zs.drop i = 47 :: 47 :: (b ++ 10 :: s)) (hb : ∀ c ∈ b, notLf c = true) : gap zs i = gap zs (i + 2 + b.length) := by
  obtain ⟨h1, e1⟩ := drop_succ h
  obtain ⟨h2, e2⟩ := drop_succ h1
  have hs : slash2 zs i = true := by
    unfold slash2
    rw [e1, e2]
    rfl
  rw [gap_remark hs]
  congr 1
  have h2' : zs.drop (i + 2) = b ++ 10 :: s := h2
  refine runTo_unique (by omega) (fun j a c => ?_) ?_
  · rcases Nat.lt_or_ge j (i + 2) with hj | hj
    · obtain rfl | rfl : j = i ∨ j = i + 1 := by omega
      · rw [e1]; rfl
      · rw [e2]; rfl
    · have : stA zs notLf j = stA (zs.drop (i + 2)) notLf (j - (i + 2)) := by
        rw [← stA_drop, show i + 2 + (j - (i + 2)) = j by omega]
      rw [this, h2', stA_left _ _ _ _ (by omega)]
      exact stA_mem hb _ (by omega)
  · rw [stA_drop, h2']
    have := stA_right b (10 :: s) notLf 0
    rw [Nat.add_zero] at this
    rw [this]
    rfl
theorem gap_solid {zs r : List Int} {i : Nat} (h : zs.drop i = r) (hS : Solid r) : gap zs i = i := by
  have e : ∀ p, stA zs p i = stA r p 0 := fun p => by rw [← h]; exact stA_drop zs p i 0
  refine gap_stop (by rw [e]; exact hS.1) ?_
  unfold slash2
  rw [e, hS.2, Bool.false_and]
theorem gap_fill {zs r : List Int} {i k : Nat} (h : zs.drop i = fillAt k ++ r) (hS : Solid r) : gap zs i = i + (fillAt k).length := by
  match k, h with
  | 0, h =>
    rw [gap_cons h rfl, gap_solid (drop_succ h).1 hS]
    rfl
  | 1, h =>
    rw [gap_cons h rfl, gap_solid (drop_succ h).1 hS]
    rfl
  | 2, h =>
    have h1 := (drop_succ h).1
    have h2 := (drop_succ h1).1
    rw [gap_cons h rfl, gap_cons h1 rfl, gap_cons h2 rfl, gap_solid (drop_succ h2).1 hS]
    rfl
  | 3, h =>
    have h' : zs.drop i = 47 :: 47 :: ([32, 34, 120, 32, 123] ++ 10 :: r) := h
    have h1 : zs.drop (i + 2 + 5) = 10 :: r := by
      rw [← List.drop_drop, ← List.drop_drop, h']
      rfl
    rw [gap_line h' (by decide), show i + 2 + [(32 : Int), 34, 120, 32, 123].length = i + 2 + 5 from rfl, gap_cons h1 rfl, gap_solid (drop_succ h1).1 hS]
    rfl
  | k + 4, h =>
    have h' : zs.drop i = 32 :: 47 :: 47 :: 10 :: 47 :: 47 :: 10 :: r := h
    have h1 := (drop_succ h').1
    have h1' : zs.drop (i + 1) = 47 :: 47 :: ([] ++ 10 :: (47 :: 47 :: 10 :: r)) := h1
    have h2 : zs.drop (i + 1 + 2) = 10 :: 47 :: 47 :: 10 :: r := by
      rw [← List.drop_drop, h1]
      rfl
    have h3 := (drop_succ h2).1
    have h3' : zs.drop (i + 1 + 2 + 1) = 47 :: 47 :: ([] ++ 10 :: r) := h3
    have h4 : zs.drop (i + 1 + 2 + 1 + 2) = 10 :: r := by
      rw [← List.drop_drop, h3]
      rfl
    rw [gap_cons h' rfl, gap_line h1' (by decide), show i + 1 + 2 + ([] : List Int).length = i + 1 + 2 from rfl, gap_cons h2 rfl, gap_line h3' (by decide), show i + 1 + 2 + 1 + 2 + ([] : List Int).length = i + 1 + 2 + 1 + 2 from rfl, gap_cons h4 rfl, gap_solid (drop_succ h4).1 hS]
    rfl
theorem fill_sep (k : Nat) (r : List Int) : Sep (fillAt k ++ r) := by
  match k with
  | 0 => exact ⟨rfl, rfl⟩
  | 1 => exact ⟨rfl, rfl⟩
  | 2 => exact ⟨rfl, rfl⟩
  | 3 => exact ⟨rfl, rfl⟩
  | k + 4 => exact ⟨rfl, rfl⟩
theorem sep_nil : Sep [] := ⟨rfl, rfl⟩
theorem solid_cons {c : Int} {r : List Int} (h1 : isBlank c = false) (h2 : c ≠ 47) : Solid (c :: r) := by
  constructor
  · rw [stA_of (by simp)]
    exact h1
  · rw [stA_of (by simp)]
    exact decide_eq_false h2
theorem solid_full {ok : List Int → Bool} {sg : Int → Bool} {t : Tok} {r : List Int} (hsg : ∀ c, sg c = true → isBlank c = false ∧ c ≠ 47) (hF : Fine ok sg t) (h0 : t.kind = 0 → r = []) : Solid (full t ++ r) := by
  obtain ⟨k, x, p⟩ := t
  rcases hF with ⟨h1, h2⟩ | ⟨h1, h2, h3, h4⟩ | ⟨h1, h2⟩ | ⟨h1, h2, h3⟩ | ⟨h1, c, h2, h3, h4, h5, h6⟩
  · simp only at h1 h2 h0
    subst h1 h2
    rw [h0 rfl, full_plain _ _ _ (by decide)]
    exact ⟨rfl, rfl⟩
  · simp only at h1 h2 h3
    subst h1
    rw [full_plain _ _ _ (by decide)]
    match x, h2, h3 with
    | c :: x', _, h3 =>
      have := of_decide_eq_true (show decide (c = 95 ∨ (97 ≤ c ∧ c ≤ 122) ∨ (65 ≤ c ∧ c ≤ 90)) = true from h3)
      refine solid_cons ?_ (by omega)
      unfold isBlank
      exact decide_eq_false (by omega)
  · simp only at h1 h2
    subst h1
    rw [full_plain _ _ _ (by decide)]
    obtain ⟨hne, _, hb⟩ := good_head h2
    have hb' := hb []
    rw [List.append_nil] at hb'
    match x, hne, hb' with
    | c :: x', _, hb' =>
      unfold begins at hb'
      rw [stA_of (by simp), stA_of (i := 0) (p := isC 45) (by simp)] at hb'
      have hc : isDig c = true ∨ c = 45 := by
        rw [Bool.or_eq_true, Bool.and_eq_true] at hb'
        rcases hb' with h | ⟨h, _⟩
        · exact .inl h
        · exact .inr (of_decide_eq_true (show decide (c = 45) = true from h))
      rcases hc with hc | hc
      · have := of_decide_eq_true (show decide (48 ≤ c ∧ c ≤ 57) = true from hc)
        refine solid_cons ?_ (by omega)
        unfold isBlank
        exact decide_eq_false (by omega)
      · subst hc
        exact solid_cons rfl (by decide)
  · simp only at h1
    subst h1
    rw [full_quo]
    exact solid_cons rfl (by decide)
  · simp only at h1 h2
    subst h1 h2
    rw [full_plain _ _ _ (by decide)]
    obtain ⟨a, b⟩ := hsg c h3
    exact solid_cons a b

/-! ### a text made anew -/
/-- Tokens' whole texts, a gap ahead of each. -/
def joinT (G : Nat → Nat) : Nat → List Tok → List Int
  | _, [] => []
  | i, t :: r => fillAt (G i) ++ (full t ++ joinT G (i + 1) r)
theorem joinT_append (G : Nat → Nat) : ∀ (a b : List Tok) (i : Nat), joinT G i (a ++ b) = joinT G i a ++ joinT G (i + a.length) b
  | [], b, i => by simp [joinT]
  | t :: a, b, i => by
    simp only [List.cons_append, joinT]
    rw [joinT_append G a b (i + 1)]
    simp only [List.append_assoc, List.length_cons]
    rw [show i + 1 + a.length = i + (a.length + 1) by omega]
theorem join_sep (G : Nat → Nat) (i : Nat) (r : List Tok) : Sep (joinT G i r) := by
  cases r with
  | nil => exact sep_nil
  | cons t r => exact fill_sep _ _
/-- A kind and a text. -/
def kt (t : Tok) : Int × List Int := (t.kind, t.text)
theorem twin_lex {ok : List Int → Bool} {sg : Int → Bool} (G : Nat → Nat) (hsg : ∀ c, sg c = true → isBlank c = false ∧ c ≠ 47) : ∀ (r : List Tok) (i : Nat) (pre : List Int) (acc : List Tok), (∀ t ∈ r, Fine ok sg t) → EndLast r → acc.length + r.length ≤ 2048 →
    ∃ r', toksF ok sg (pre ++ joinT G i r) (2049 - acc.length) pre.length acc = (acc ++ r', 0, 0) ∧ r'.map kt = r.map kt
  | [], _, _, _, _, h, _ => h.elim
  | t :: r, i, pre, acc, hF, hE, hl => by
    simp only [List.length_cons] at hl
    have hFt := hF t List.mem_cons_self
    have hk0 : t.kind = 0 → joinT G (i + 1) r = [] := by
      rcases hE with ⟨_, h⟩ | ⟨h, _⟩
      · intro _; rw [h]; rfl
      · intro h2; exact absurd h2 h
    have hd : (pre ++ joinT G i (t :: r)).drop pre.length = fillAt (G i) ++ (full t ++ joinT G (i + 1) r) := List.drop_left
    have hg := gap_fill hd (solid_full hsg hFt hk0)
    have hd2 : (pre ++ joinT G i (t :: r)).drop (pre.length + (fillAt (G i)).length) = full t ++ joinT G (i + 1) r := by
      rw [← List.drop_drop, hd, List.drop_left]
    have hle : pre.length + (fillAt (G i)).length ≤ (pre ++ joinT G i (t :: r)).length := by
      simp only [joinT, List.length_append]
      omega
    have ht : tok ok sg (pre ++ joinT G i (t :: r)) (gap (pre ++ joinT G i (t :: r)) pre.length) = some (⟨t.kind, t.text, pre.length + (fillAt (G i)).length⟩, pre.length + (fillAt (G i)).length + (full t).length) := by
      rw [hg, tok_drop _ _ _ _ hle, hd2, tok_of hFt (join_sep _ _ _) hk0]
      rfl
    rw [show 2049 - acc.length = (2048 - acc.length) + 1 by omega]
    simp only [toksF]
    rw [if_neg (by omega), ht]
    simp only
    rcases hE with ⟨hk, hr⟩ | ⟨hk, hr⟩
    · rw [if_pos hk]
      subst hr
      exact ⟨_, rfl, rfl⟩
    · rw [if_neg hk]
      have hpre : pre ++ joinT G i (t :: r) = (pre ++ (fillAt (G i) ++ full t)) ++ joinT G (i + 1) r := by simp [joinT]
      obtain ⟨r', h1, h2⟩ := twin_lex G hsg r (i + 1) (pre ++ (fillAt (G i) ++ full t)) (acc ++ [⟨t.kind, t.text, pre.length + (fillAt (G i)).length⟩]) (fun x hx => hF x (List.mem_cons_of_mem _ hx)) hr (by simp; omega)
      refine ⟨⟨t.kind, t.text, pre.length + (fillAt (G i)).length⟩ :: r', ?_, ?_⟩
      · rw [hpre]
        have e1 : (pre ++ (fillAt (G i) ++ full t)).length = pre.length + (fillAt (G i)).length + (full t).length := by simp; omega
        have e2 : 2049 - (acc ++ [(⟨t.kind, t.text, pre.length + (fillAt (G i)).length⟩ : Tok)]).length = 2048 - acc.length := by rw [List.length_append, List.length_singleton]; omega
        rw [e1, e2] at h1
        rw [h1]
        simp
      · simp only [List.map_cons, h2]
        rfl
end Go.Proofs.YtmjmblbaojchcaaDoor
namespace Go.Proofs.YtmjmblbaojchcaaDoor
open Go.ChangeShapes Go.WideShapes Go.ChangeAt Go.RowKit Go.Shelf

theorem bts_get {s : ByteArray} {i : Nat} (h : i < s.size) : (bts s).getD i 0 = (s[i].toNat : Int) := by
  simp [bts, List.getD, h]
  rfl
theorem bts_end {s : ByteArray} {i : Nat} (h : s.size ≤ i) : (bts s).getD i 0 = 0 := by
  rw [List.getD, List.getElem?_eq_none (by rw [bts_length]; exact h)]
  rfl
theorem at_any (s : ByteArray) (x : Int) (i : Nat) (w : World) (hx : x = i) :
    Calls Tryd.prog 64 #[.string s, .int .i64 x] w fun e w' => e = .returned (.int .u8 ((bts s).getD i 0)) ∧ w = w' := by
  subst hx
  by_cases hi : i < s.size
  · rw [bts_get hi]
    go_enter Tryd.func64, Tryd.ntmps64
    go_wp2
    go_ret
    exact ⟨rfl, rfl⟩
  · rw [bts_end (by omega)]
    go_enter Tryd.func64, Tryd.ntmps64
    go_wp2
    go_ret
    exact ⟨rfl, rfl⟩
theorem rdigit_any (c : Int) (w : World) : Calls Tryd.prog 66 #[.int .u8 c] w fun e w' => e = .returned (.bool (isDig c)) ∧ w = w' := by
  by_cases h1 : 48 ≤ c
  · by_cases h2 : c ≤ 57
    · have e : isDig c = true := decide_eq_true ⟨h1, h2⟩
      rw [e]
      clear e
      go_enter Tryd.func66, Tryd.ntmps66
      go_wp2
      go_ret
      exact ⟨rfl, rfl⟩
    · have e : isDig c = false := decide_eq_false (fun h => h2 h.2)
      rw [e]
      clear e
      go_enter Tryd.func66, Tryd.ntmps66
      go_wp2
      go_ret
      exact ⟨rfl, rfl⟩
  · have e : isDig c = false := decide_eq_false (fun h => h1 h.1)
    rw [e]
    clear e
    go_enter Tryd.func66, Tryd.ntmps66
    go_wp2
    go_ret
    exact ⟨rfl, rfl⟩
theorem rletter_any (c : Int) (w : World) : Calls Tryd.prog 65 #[.int .u8 c] w fun e w' => e = .returned (.bool (isLet c)) ∧ w = w' := by
  by_cases h0 : c = 95
  · subst h0
    go_enter Tryd.func65, Tryd.ntmps65
    go_wp2
    go_ret
    exact ⟨rfl, rfl⟩
  have t0 : (c == 95) = false := by simp [h0]
  by_cases h1 : 65 ≤ c
  · by_cases h2 : c ≤ 90
    · have e : isLet c = true := by unfold isLet; exact decide_eq_true (by omega)
      rw [e]
      clear e
      clear h0
      go_enter Tryd.func65, Tryd.ntmps65
      go_wp2
      go_ret
      exact ⟨rfl, rfl⟩
    · by_cases h3 : 97 ≤ c
      · by_cases h4 : c ≤ 122
        · have e : isLet c = true := by unfold isLet; exact decide_eq_true (by omega)
          rw [e]
          clear e
          clear h0
          go_enter Tryd.func65, Tryd.ntmps65
          go_wp2
          go_ret
          exact ⟨rfl, rfl⟩
        · have e : isLet c = false := by unfold isLet; exact decide_eq_false (by omega)
          rw [e]
          clear e
          clear h0
          go_enter Tryd.func65, Tryd.ntmps65
          go_wp2
          go_ret
          exact ⟨rfl, rfl⟩
      · have e : isLet c = false := by unfold isLet; exact decide_eq_false (by omega)
        rw [e]
        clear e
        clear h0
        go_enter Tryd.func65, Tryd.ntmps65
        go_wp2
        go_ret
        exact ⟨rfl, rfl⟩
  · have h3 : ¬ 97 ≤ c := by omega
    have e : isLet c = false := by unfold isLet; exact decide_eq_false (by omega)
    rw [e]
    clear e
    clear h0
    go_enter Tryd.func65, Tryd.ntmps65
    go_wp2
    go_ret
    exact ⟨rfl, rfl⟩
end Go.Proofs.YtmjmblbaojchcaaDoor
