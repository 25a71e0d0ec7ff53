/-
  Plain facts on tokens: how the tokens of a text hang together; a text made of gaps and whole tokens has just these tokens. No run of the program stands in this text. Conditions: those that each theorem names.
  Texts as bytes: two of the same bytes are one; a part's bytes; each token of a text is fine, no longer than the text, and of bytes. Conditions: those that each theorem names.
  The package idl's Parse: what a schema's text says as it is written, or the first fault and its place. Conditions: the library's tables hold what the row lists.
-/
import Derived.Test.YtleclhnlojalbaaGreatDoorPkS11
import Derived.Test.YtleclhnlojalbaaGreatDoorPkS12
import Derived.Test.YtleclhnlojalbaaGreatDoorPkS13
import Derived.Test.YtleclhnlojalbaaGreatDoorPkS37
import Derived.Test.YtleclhnlojalbaaGreatDoorPkS38
import Derived.Test.YtleclhnlojalbaaGreatDoorPkS39
namespace Go.Proofs.YtleclhnlojalbaaGreatDoor
open Go.RowKit

/-- Tokens that follow one another from a place on, the last one the end. -/
def Chain (ok : List Int → Bool) (sg : Int → Bool) (zs : List Int) : Nat → List Tok → Prop
  | _, [] => False
  | i, t :: r => ∃ b, tok ok sg zs (gap zs i) = some (t, b) ∧ ((t.kind = 0 ∧ r = []) ∨ (t.kind ≠ 0 ∧ Chain ok sg zs b r))
theorem chain_of {ok : List Int → Bool} {sg : Int → Bool} {zs : List Int} {l : List Tok} {p : Nat} : ∀ (f i : Nat) (l0 : List Tok), f + l0.length = 2049 → l0.length ≤ 2048 → toksF ok sg zs f i l0 = (l, 0, p) → ∃ r, l = l0 ++ r ∧ Chain ok sg zs i r ∧ l.length ≤ 2048
  | 0, i, l0, hf, hl, _ => by omega
  | f + 1, i, l0, hf, hl, h => by
    simp only [toksF] at h
    by_cases h1 : l0.length = 2048
    · rw [if_pos h1] at h
      simp at h
    · rw [if_neg h1] at h
      cases ht : tok ok sg zs (gap zs i) with
      | none =>
        rw [ht] at h
        simp at h
      | some x =>
        obtain ⟨t, e⟩ := x
        rw [ht] at h
        simp only at h
        by_cases hk : t.kind = 0
        · rw [if_pos hk] at h
          simp only [Prod.mk.injEq] at h
          obtain ⟨rfl, _, _⟩ := h
          exact ⟨[t], rfl, ⟨e, ht, .inl ⟨hk, rfl⟩⟩, by simp; omega⟩
        · rw [if_neg hk] at h
          obtain ⟨r, hr, hc, hlen⟩ := chain_of f e (l0 ++ [t]) (by simp; omega) (by simp; omega) h
          exact ⟨t :: r, by rw [hr]; simp, ⟨e, ht, .inr ⟨hk, hc⟩⟩, hlen⟩
/-- A fault's place lies within the text. -/
theorem toksF_place {ok : List Int → Bool} {sg : Int → Bool} {zs : List Int} : ∀ (f i : Nat) (l0 : List Tok), i ≤ zs.length → (toksF ok sg zs f i l0).2.2 ≤ zs.length
  | 0, i, l0, h => h
  | f + 1, i, l0, h => by
    simp only [toksF]
    split
    · exact gap_le zs i h
    · cases ht : tok ok sg zs (gap zs i) with
      | none => exact gap_le zs i h
      | some x =>
        obtain ⟨t, e⟩ := x
        simp only
        split
        · exact Nat.zero_le _
        · exact toksF_place f e _ (tok_le (gap_le zs i h) ht)
theorem toks_place (ok : List Int → Bool) (sg : Int → Bool) (zs : List Int) : (toks ok sg zs).2.2 ≤ max zs.length 8192 := by
  unfold toks
  split
  · exact Nat.le_max_right _ _
  · exact Nat.le_trans (toksF_place 2049 0 [] (Nat.zero_le _)) (Nat.le_max_left _ _)
theorem toks_chain {ok : List Int → Bool} {sg : Int → Bool} {zs : List Int} {l : List Tok} {p : Nat} (h : toks ok sg zs = (l, 0, p)) : Chain ok sg zs 0 l ∧ l.length ≤ 2048 := by
  unfold toks at h
  split at h
  · simp at h
  · obtain ⟨r, hr, hc, hl⟩ := chain_of 2049 0 [] rfl (Nat.zero_le _) h
    rw [List.nil_append] at hr
    subst hr
    exact ⟨hc, hl⟩
/-- A token that was found: where it stands, what it is. -/
theorem tok_found {ok : List Int → Bool} {sg : Int → Bool} {zs : List Int} {i : Nat} {t : Tok} {e : Nat} (hi : i ≤ zs.length) (h : tok ok sg zs i = some (t, e)) :
    Fine ok sg t ∧ t.place = i ∧ e = i + (full t).length ∧ sub zs i e = full t ∧ (t.kind = 0 ↔ i = zs.length) := by
  rw [tok_drop ok sg zs i hi] at h
  cases h0 : tok ok sg (zs.drop i) 0 with
  | none => rw [h0] at h; cases h
  | some x =>
    obtain ⟨t0, e0⟩ := x
    rw [h0] at h
    obtain ⟨f1, f2, f3, f4, f5⟩ := tok_fine h0
    have hx : shiftT i (t0, e0) = (t, e) := by injection h
    unfold shiftT at hx
    simp only [Prod.mk.injEq] at hx
    obtain ⟨rfl, rfl⟩ := hx
    have hfull : full ⟨t0.kind, t0.text, i + t0.place⟩ = full t0 := rfl
    refine ⟨f1, ?_, ?_, ?_, ?_⟩
    · show i + t0.place = i
      omega
    · rw [hfull]; omega
    · rw [hfull]
      have := sub_drop zs i 0 e0
      rw [Nat.add_zero] at this
      rw [this, sub_zero]
      exact f4
    · show t0.kind = 0 ↔ _
      rw [f5, List.drop_eq_nil_iff]
      omega
/-- What is left of a chain: nothing, at the text's end; or a chain. -/
def Left (ok : List Int → Bool) (sg : Int → Bool) (zs : List Int) (i : Nat) (r : List Tok) : Prop := (r = [] ∧ i = zs.length) ∨ Chain ok sg zs i r
theorem left_step {ok : List Int → Bool} {sg : Int → Bool} {zs : List Int} {i : Nat} {t : Tok} {r : List Tok} (hi : i ≤ zs.length) (h : Left ok sg zs i (t :: r)) :
    Fine ok sg t ∧ t.place = gap zs i ∧ gap zs i + (full t).length ≤ zs.length ∧ sub zs (gap zs i) (gap zs i + (full t).length) = full t ∧ (t.kind = 0 ↔ r = []) ∧ Left ok sg zs (gap zs i + (full t).length) r := by
  rcases h with ⟨h, _⟩ | ⟨b, hb, hr⟩
  · cases h
  · have hg := gap_le zs i hi
    have hle := tok_le hg hb
    obtain ⟨f1, f2, f3, f4, f5⟩ := tok_found hg hb
    subst f3
    refine ⟨f1, f2, hle, f4, ?_, ?_⟩
    · rcases hr with ⟨hk, hr⟩ | ⟨hk, hr⟩
      · exact ⟨fun _ => hr, fun _ => hk⟩
      · refine ⟨fun h => absurd h hk, fun h => ?_⟩
        subst h
        exact hr.elim
    · rcases hr with ⟨hk, hr⟩ | ⟨hk, hr⟩
      · refine .inl ⟨hr, ?_⟩
        have h1 := f5.1 hk
        have h2 : full t = [] := by
          rcases f1 with ⟨_, h⟩ | ⟨h, _⟩ | ⟨h, _⟩ | ⟨h, _⟩ | ⟨h, _⟩
          · unfold full
            rw [if_neg (by rw [hk]; decide)]
            exact h
          all_goals (rw [hk] at h; exact absurd h (by decide))
        rw [h2]
        simpa using h1
      · exact .inr hr
theorem chain_fine {ok : List Int → Bool} {sg : Int → Bool} {zs : List Int} : ∀ (l : List Tok) (i : Nat), i ≤ zs.length → Left ok sg zs i l → ∀ t ∈ l, Fine ok sg t
  | [], _, _, _, t, h => by cases h
  | a :: r, i, hi, hl, t, h => by
    obtain ⟨f1, _, f3, _, _, f6⟩ := left_step hi hl
    rcases List.mem_cons.1 h with rfl | h
    · exact f1
    · exact chain_fine r _ f3 f6 t h
/-- Of tokens the last one alone is the end. -/
def EndLast : List Tok → Prop
  | [] => False
  | t :: r => (t.kind = 0 ∧ r = []) ∨ (t.kind ≠ 0 ∧ EndLast r)
theorem chain_last {ok : List Int → Bool} {sg : Int → Bool} {zs : List Int} : ∀ (l : List Tok) (i : Nat), Chain ok sg zs i l → EndLast l
  | [], _, h => h
  | t :: r, i, ⟨b, _, h⟩ => by
    rcases h with h | ⟨hk, hc⟩
    · exact .inl h
    · exact .inr ⟨hk, chain_last r b hc⟩

/-! ### gaps -/
def fillAt : Nat → List Int
  | 0 => [32]
  | 1 => [10]
  | 2 => [9, 13, 32]
  | 3 => [47, 47, 32, 34, 120, 32, 123, 10]
  | _ => [32, 47, 47, 10, 47, 47, 10]
/-- Neither a blank nor a slash stands first. -/
def Solid (r : List Int) : Prop := stA r isBlank 0 = false ∧ stA r (isC 47) 0 = false
theorem drop_succ {zs s : List Int} {i : Nat} {c : Int} (h : zs.drop i = c :: s) : zs.drop (i + 1) = s ∧ (∀ p, stA zs p i = p c) := by
  refine ⟨?_, fun p => ?_⟩
  · rw [← List.drop_drop, h]
    rfl
  · rw [show stA zs p i = stA (zs.drop i) p 0 from stA_drop zs p i 0, h]
    exact stA_of (by simp)
theorem gap_cons {zs s : List Int} {i : Nat} {c : Int} (h : zs.drop i = c :: s) (hc : isBlank c = true) : gap zs i = gap zs (i + 1) := gap_blank (by rw [(drop_succ h).2]; exact hc)
theorem gap_line {zs s b : List Int} {i : Nat} (h : zs.drop i = 47 :: 47 :: (b ++ 10 :: s)) (hb : ∀ c ∈ b, notLf c = true) : gap zs i = gap zs (i + 2 + b.length) := by
  obtain ⟨h1, e1⟩ := drop_succ h
  obtain ⟨h2, e2⟩ := drop_succ h1
  have hs : slash2 zs i = true := by
    unfold slash2
    rw [e1, e2]
    rfl
  rw [gap_remark hs]
  congr 1
  have h2' : zs.drop (i + 2) = b ++ 10 :: s := h2
  refine runTo_unique (by omega) (fun j a c => ?_) ?_
  · rcases Nat.lt_or_ge j (i + 2) with hj | hj
    · obtain rfl | rfl : j = i ∨ j = i + 1 := by omega
      · rw [e1]; rfl
      · rw [e2]; rfl
    · have : stA zs notLf j = stA (zs.drop (i + 2)) notLf (j - (i + 2)) := by
        rw [← stA_drop, show i + 2 + (j - (i + 2)) = j by omega]
      rw [this, h2', stA_left _ _ _ _ (by omega)]
      exact stA_mem hb _ (by omega)
  · rw [stA_drop, h2']
    have := stA_right b (10 :: s) notLf 0
    rw [Nat.add_zero] at this
    rw [this]
    rfl
theorem gap_solid {zs r : List Int} {i : Nat} (h : zs.drop i = r) (hS : Solid r) : gap zs i = i := by
  have e : ∀ p, stA zs p i = stA r p 0 := fun p => by rw [← h]; exact stA_drop zs p i 0
  refine gap_stop (by rw [e]; exact hS.1) ?_
  unfold slash2
  rw [e, hS.2, Bool.false_and]
theorem gap_fill {zs r : List Int} {i k : Nat} (h : zs.drop i = fillAt k ++ r) (hS : Solid r) : gap zs i = i + (fillAt k).length := by
  match k, h with
  | 0, h =>
    rw [gap_cons h rfl, gap_solid (drop_succ h).1 hS]
    rfl
  | 1, h =>
    rw [gap_cons h rfl, gap_solid (drop_succ h).1 hS]
    rfl
  | 2, h =>
    have h1 := (drop_succ h).1
    have h2 := (drop_succ h1).1
    rw [gap_cons h rfl, gap_cons h1 rfl, gap_cons h2 rfl, gap_solid (drop_succ h2).1 hS]
    rfl
  | 3, h =>
    have h' : zs.drop i = 47 :: 47 :: ([32, 34, 120, 32, 123] ++ 10 :: r) := h
    have h1 : zs.drop (i + 2 + 5) = 10 :: r := by
      rw [← List.drop_drop, ← List.drop_drop, h']
      rfl
    rw [gap_line h' (by decide), show i + 2 + [(32 : Int), 34, 120, 32, 123].length = i + 2 + 5 from rfl, gap_cons h1 rfl, gap_solid (drop_succ h1).1 hS]
    rfl
  | k + 4, h =>
    have h' : zs.drop i = 32 :: 47 :: 47 :: 10 :: 47 :: 47 :: 10 :: r := h
    have h1 := (drop_succ h').1
    have h1' : zs.drop (i + 1) = 47 :: 47 :: ([] ++ 10 :: (47 :: 47 :: 10 :: r)) := h1
    have h2 : zs.drop (i + 1 + 2) = 10 :: 47 :: 47 :: 10 :: r := by
      rw [← List.drop_drop, h1]
      rfl
    have h3 := (drop_succ h2).1
    have h3' : zs.drop (i + 1 + 2 + 1) = 47 :: 47 :: ([] ++ 10 :: r) := h3
    have h4 : zs.drop (i + 1 + 2 + 1 + 2) = 10 :: r := by
      rw [← List.drop_drop, h3]
      rfl
    rw [gap_cons h' rfl, gap_line h1' (by decide), show i + 1 + 2 + ([] : List Int).length = i + 1 + 2 from rfl, gap_cons h2 rfl, gap_line h3' (by decide), show i + 1 + 2 + 1 + 2 + ([] : List Int).length = i + 1 + 2 + 1 + 2 from rfl, gap_cons h4 rfl, gap_solid (drop_succ h4).1 hS]
    rfl
theorem fill_sep (k : Nat) (r : List Int) : Sep (fillAt k ++ r) := by
  match k with
  | 0 => exact ⟨rfl, rfl⟩
  | 1 => exact ⟨rfl, rfl⟩
  | 2 => exact ⟨rfl, rfl⟩
  | 3 => exact ⟨rfl, rfl⟩
  | k + 4 => exact ⟨rfl, rfl⟩
theorem sep_nil : Sep [] := ⟨rfl, rfl⟩
theorem solid_cons {c : Int} {r : List Int} (h1 : isBlank c = false) (h2 : c ≠ 47) : Solid (c :: r) := by
  constructor
  · rw [stA_of (by simp)]
    exact h1
  · rw [stA_of (by simp)]
    exact decide_eq_false h2
theorem solid_full {ok : List Int → Bool} {sg : Int → Bool} {t : Tok} {r : List Int} (hsg : ∀ c, sg c = true → isBlank c = false ∧ c ≠ 47) (hF : Fine ok sg t) (h0 : t.kind = 0 → r = []) : Solid (full t ++ r) := by
  obtain ⟨k, x, p⟩ := t
  rcases hF with ⟨h1, h2⟩ | ⟨h1, h2, h3, h4⟩ | ⟨h1, h2⟩ | ⟨h1, h2, h3⟩ | ⟨h1, c, h2, h3, h4, h5, h6⟩
  · simp only at h1 h2 h0
    subst h1 h2
    rw [h0 rfl, full_plain _ _ _ (by decide)]
    exact ⟨rfl, rfl⟩
  · simp only at h1 h2 h3
    subst h1
    rw [full_plain _ _ _ (by decide)]
    match x, h2, h3 with
    | c :: x', _, h3 =>
      have := of_decide_eq_true (show decide (c = 95 ∨ (97 ≤ c ∧ c ≤ 122) ∨ (65 ≤ c ∧ c ≤ 90)) = true from h3)
      refine solid_cons ?_ (by omega)
      unfold isBlank
      exact decide_eq_false (by omega)
  · simp only at h1 h2
    subst h1
    rw [full_plain _ _ _ (by decide)]
    obtain ⟨hne, _, hb⟩ := good_head h2
    have hb' := hb []
    rw [List.append_nil] at hb'
    match x, hne, hb' with
    | c :: x', _, hb' =>
      unfold begins at hb'
      rw [stA_of (by simp), stA_of (i := 0) (p := isC 45) (by simp)] at hb'
      have hc : isDig c = true ∨ c = 45 := by
        rw [Bool.or_eq_true, Bool.and_eq_true] at hb'
        rcases hb' with h | ⟨h, _⟩
        · exact .inl h
        · exact .inr (of_decide_eq_true (show decide (c = 45) = true from h))
      rcases hc with hc | hc
      · have := of_decide_eq_true (show decide (48 ≤ c ∧ c ≤ 57) = true from hc)
        refine solid_cons ?_ (by omega)
        unfold isBlank
        exact decide_eq_false (by omega)
      · subst hc
        exact solid_cons rfl (by decide)
  · simp only at h1
    subst h1
    rw [full_quo]
    exact solid_cons rfl (by decide)
  · simp only at h1 h2
    subst h1 h2
    rw [full_plain _ _ _ (by decide)]
    obtain ⟨a, b⟩ := hsg c h3
    exact solid_cons a b

/-! ### a text made anew -/
/-- Tokens' whole texts, a gap ahead of each. -/
def joinT (G : Nat → Nat) : Nat → List Tok → List Int
  | _, [] => []
  | i, t :: r => fillAt (G i) ++ (full t ++ joinT G (i + 1) r)
theorem joinT_append (G : Nat → Nat) : ∀ (a b : List Tok) (i : Nat), joinT G i (a ++ b) = joinT G i a ++ joinT G (i + a.length) b
  | [], b, i => by simp [joinT]
  | t :: a, b, i => by
    simp only [List.cons_append, joinT]
    rw [joinT_append G a b (i + 1)]
    simp only [List.append_assoc, List.length_cons]
    rw [show i + 1 + a.length = i + (a.length + 1) by omega]
theorem join_sep (G : Nat → Nat) (i : Nat) (r : List Tok) : Sep (joinT G i r) := by
  cases r with
  | nil => exact sep_nil
  | cons t r => exact fill_sep _ _
/-- A kind and a text. -/
def kt (t : Tok) : Int × List Int := (t.kind, t.text)
theorem twin_lex {ok : List Int → Bool} {sg : Int → Bool} (G : Nat → Nat) (hsg : ∀ c, sg c = true → isBlank c = false ∧ c ≠ 47) : ∀ (r : List Tok) (i : Nat) (pre : List Int) (acc : List Tok), (∀ t ∈ r, Fine ok sg t) → EndLast r → acc.length + r.length ≤ 2048 →
    ∃ r', toksF ok sg (pre ++ joinT G i r) (2049 - acc.length) pre.length acc = (acc ++ r', 0, 0) ∧ r'.map kt = r.map kt
  | [], _, _, _, _, h, _ => h.elim
  | t :: r, i, pre, acc, hF, hE, hl => by
    simp only [List.length_cons] at hl
    have hFt := hF t List.mem_cons_self
    have hk0 : t.kind = 0 → joinT G (i + 1) r = [] := by
      rcases hE with ⟨_, h⟩ | ⟨h, _⟩
      · intro _; rw [h]; rfl
      · intro h2; exact absurd h2 h
    have hd : (pre ++ joinT G i (t :: r)).drop pre.length = fillAt (G i) ++ (full t ++ joinT G (i + 1) r) := List.drop_left
    have hg := gap_fill hd (solid_full hsg hFt hk0)
    have hd2 : (pre ++ joinT G i (t :: r)).drop (pre.length + (fillAt (G i)).length) = full t ++ joinT G (i + 1) r := by
      rw [← List.drop_drop, hd, List.drop_left]
    have hle : pre.length + (fillAt (G i)).length ≤ (pre ++ joinT G i (t :: r)).length := by
      simp only [joinT, List.length_append]
      omega
    have ht : tok ok sg (pre ++ joinT G i (t :: r)) (gap (pre ++ joinT G i (t :: r)) pre.length) = some (⟨t.kind, t.text, pre.length + (fillAt (G i)).length⟩, pre.length + (fillAt (G i)).length + (full t).length) := by
      rw [hg, tok_drop _ _ _ _ hle, hd2, tok_of hFt (join_sep _ _ _) hk0]
      rfl
    rw [show 2049 - acc.length = (2048 - acc.length) + 1 by omega]
    simp only [toksF]
    rw [if_neg (by omega), ht]
    simp only
    rcases hE with ⟨hk, hr⟩ | ⟨hk, hr⟩
    · rw [if_pos hk]
      subst hr
      exact ⟨_, rfl, rfl⟩
    · rw [if_neg hk]
      have hpre : pre ++ joinT G i (t :: r) = (pre ++ (fillAt (G i) ++ full t)) ++ joinT G (i + 1) r := by simp [joinT]
      obtain ⟨r', h1, h2⟩ := twin_lex G hsg r (i + 1) (pre ++ (fillAt (G i) ++ full t)) (acc ++ [⟨t.kind, t.text, pre.length + (fillAt (G i)).length⟩]) (fun x hx => hF x (List.mem_cons_of_mem _ hx)) hr (by simp; omega)
      refine ⟨⟨t.kind, t.text, pre.length + (fillAt (G i)).length⟩ :: r', ?_, ?_⟩
      · rw [hpre]
        have e1 : (pre ++ (fillAt (G i) ++ full t)).length = pre.length + (fillAt (G i)).length + (full t).length := by simp; omega
        have e2 : 2049 - (acc ++ [(⟨t.kind, t.text, pre.length + (fillAt (G i)).length⟩ : Tok)]).length = 2048 - acc.length := by rw [List.length_append, List.length_singleton]; omega
        rw [e1, e2] at h1
        rw [h1]
        simp
      · simp only [List.map_cons, h2]
        rfl
end Go.Proofs.YtleclhnlojalbaaGreatDoor
namespace Go.Proofs.YtleclhnlojalbaaGreatDoor
open Go.ChangeShapes Go.WideShapes Go.ChangeAt Go.RowKit Go.Shelf

theorem full_length (t : Tok) : t.text.length + (if t.kind = 3 then 2 else 0) = (full t).length := by
  unfold full
  split <;> simp
theorem text_bd {ok : List Int → Bool} {sg : Int → Bool} {s : ByteArray} {i e : Nat} {t : Tok} (_ : Fine ok sg t) (h : sub (bts s) i e = full t) : ∀ z ∈ t.text, 0 ≤ z ∧ z ≤ 255 := by
  intro z hz
  have h1 : z ∈ full t := by
    unfold full
    split
    · exact List.mem_cons_of_mem _ (List.mem_append_left _ hz)
    · exact hz
  rw [← h] at h1
  have h2 : z ∈ bts s := List.mem_of_mem_drop (List.mem_of_mem_take h1)
  obtain ⟨j, hj, rfl⟩ := List.mem_iff_getElem.1 h2
  have := bts_bd s j
  rw [List.getD, List.getElem?_eq_getElem hj] at this
  exact this
theorem bts_inj {a b : ByteArray} (h : bts a = bts b) : a = b := by
  have h1 := bts_toList a b.data.toList
  have h2 : a.toList = b.data.toList := by
    have : (a.toList == b.data.toList) = true := by rw [h1]; exact decide_eq_true h
    exact beq_iff_eq.1 this
  rw [ByteArray.toList_eq] at h2
  exact bytes_inj h2
theorem bts_part (s : ByteArray) (i j : Nat) : bts (s.extract i j) = sub (bts s) i j := by
  unfold bts sub
  rw [Lib.extract_data]
  simp
theorem chain_all {s : ByteArray} {sg : Int → Bool} : ∀ (l : List Tok) (i : Nat), i ≤ (bts s).length → Left okU sg (bts s) i l → ∀ t ∈ l, Fine okU sg t ∧ (full t).length ≤ s.size ∧ ∀ z ∈ t.text, 0 ≤ z ∧ z ≤ 255
  | [], _, _, _, t, h => by cases h
  | a :: r, i, hi, hl, t, h => by
    obtain ⟨f1, _, f3, f4, _, f6⟩ := left_step hi hl
    rcases List.mem_cons.1 h with rfl | h
    · refine ⟨f1, ?_, text_bd f1 f4⟩
      rw [bts_length] at f3
      omega
    · exact chain_all r _ f3 f6 t h
end Go.Proofs.YtleclhnlojalbaaGreatDoor
namespace Go.Proofs.YtleclhnlojalbaaGreatDoor
open Go.ChangeShapes Go.WideShapes Go.ChangeAt Go.RowKit Go.Shelf

/-- The signs of a schema's text. -/
def idlSigns : ByteArray := ⟨#[123, 125, 58, 59, 61, 44, 60, 62]⟩
/-- What a list of tokens, or the fault of a text that has none, says. -/
def rawL : List Tok × Int × Nat → RRaw × Int × Nat
  | (l, code, p) => if code = 0 then (match schemaL noRaw l with
    | .ok a _ => (a, 0, 0)
    | .no c q => (noRaw, c, q)) else (noRaw, code, p)
/-- What a text says as a schema. -/
def rawT (s : ByteArray) : RRaw × Int × Nat := rawL (toks okU (amg idlSigns) (bts s))
theorem chain_ends : ∀ (l : List Tok), EndLast l → (∀ t ∈ l, t.kind = 0 → t.text = []) → Ends l
  | [], h, _ => h
  | t :: r, h, ht => by
    rcases h with ⟨h1, h2⟩ | ⟨h1, h2⟩
    · exact .inl ⟨h1, ht t List.mem_cons_self h1, h2⟩
    · exact .inr ⟨h1, chain_ends r h2 (fun u hu => ht u (List.mem_cons_of_mem _ hu))⟩
theorem toks_good {s : ByteArray} {sg : Int → Bool} {l : List Tok} {p : Nat} (h : toks okU sg (bts s) = (l, 0, p)) : Ends l ∧ l.length ≤ 2048 ∧ ∀ t ∈ l, ∀ z ∈ t.text, 0 ≤ z ∧ z ≤ 255 := by
  obtain ⟨hc, hl⟩ := toks_chain h
  have ha := chain_all (s := s) l 0 (Nat.zero_le _) (.inr hc)
  refine ⟨chain_ends l (chain_last l 0 hc) (fun t ht h0 => ?_), hl, fun t ht => (ha t ht).2.2⟩
  rcases (ha t ht).1 with h | h | h | h | h
  · exact h.2
  all_goals omega
/-- What the call hands back: the schema in rows of the call's own, the fault's number and place. -/
def ParsePost (w : World) (x : RRaw × Int × Nat) (e : Ending) (w' : World) : Prop :=
  ∃ ss es ts sv ev rv, e = .returned (.tuple #[.agg #[sv, ev, rv], .agg #[.int .i64 x.2.1, .int .i64 (x.2.2 : Nat)]]) ∧ x.1 = rawOf ss es ts ∧ RawRows w.heap.size w' ss es ts sv ev rv ∧ Below w.heap.size w w'
theorem rows_nil (base : Nat) (W : World) : RawRows base W [] [] [] (.slice none 0 0) (.slice none 0 0) (.slice none 0 0) :=
  ⟨World.ownsRow_nil _ _ _ _, World.ownsRow_nil _ _ _ _, World.ownsRow_nil _ _ _ _, (fun p hp => by cases hp), (fun p hp => by cases hp)⟩
theorem parse_none {w w' : World} {x : RRaw × Int × Nat} {code : Int} {p : Nat} (hx : x = (noRaw, code, p)) (hb : Below w.heap.size w w') :
    ParsePost w x (.returned (.tuple #[.agg #[.slice none 0 0, .slice none 0 0, .slice none 0 0], .agg #[.int .i64 code, .int .i64 (p : Nat)]])) w' := by
  subst hx
  exact ⟨[], [], [], _, _, _, rfl, rfl, rows_nil _ _, hb⟩
/-- The world that Parse begins with: the results' blocks. -/
theorem parse_start (w : World) (a b : Array Value) (s t : TypeId) : Below w.heap.size w ((w.alloc (.cells a s)).alloc (.cells b t)) ∧ ((w.alloc (.cells a s)).alloc (.cells b t)).heap[w.heap.size]? = some (.cells a s (0, 0)) ∧ ((w.alloc (.cells a s)).alloc (.cells b t)).heap[w.heap.size + 1]? = some (.cells b t (0, 0)) := by
  refine ⟨((Below.refl _ _).alloc (Nat.le_refl _) _).alloc (by simp) _, blk_alloc (heap_alloc_new w _) _, ?_⟩
  have := heap_alloc_new (w.alloc (.cells a s)) (.cells b t)
  rwa [World.size_alloc] at this
/-- Behind the stores into both results' blocks. -/
def set5 (W : World) (g : Nat) (x y z u v : Value) : World := ((((W.setCell ⟨g, 0, none⟩ x).setCell ⟨g, 1, none⟩ y).setCell ⟨g, 2, none⟩ z).setCell ⟨g + 1, 0, none⟩ u).setCell ⟨g + 1, 1, none⟩ v
structure PEnd (w : World) (x y z u v : Value) (W : World) : Prop where
  raw : W.heap[w.heap.size]? = some (.cells #[x, y, z] 69 (0, 0))
  flt : W.heap[w.heap.size + 1]? = some (.cells #[u, v] 43 (0, 0))
  bel : Below w.heap.size w W
theorem pend {w W : World} {a b c d e : Value} (hz : W.heap[w.heap.size]? = some (.cells #[a, b, c] 69 (0, 0))) (hf : W.heap[w.heap.size + 1]? = some (.cells #[d, e] 43 (0, 0))) (hb : Below w.heap.size w W) (x y z u v : Value) : PEnd w x y z u v (set5 W w.heap.size x y z u v) := by
  have h3 := blk_set3 hz x y z
  refine ⟨?_, ?_, ((((hb.setCell (p := ⟨w.heap.size, 0, none⟩) (Nat.le_refl _) x).setCell (p := ⟨w.heap.size, 1, none⟩) (Nat.le_refl _) y).setCell (p := ⟨w.heap.size, 2, none⟩) (Nat.le_refl _) z).setCell (p := ⟨w.heap.size + 1, 0, none⟩) (Nat.le_succ _) u).setCell (p := ⟨w.heap.size + 1, 1, none⟩) (Nat.le_succ _) v⟩
  · exact blk_set_ne (blk_set_ne h3 (by simp only; omega) _) (by simp only; omega) _
  · exact blk_set2 (blk_set_ne (blk_set_ne (blk_set_ne hf (by simp only; omega) _) (by simp only; omega) _) (by simp only; omega) _) u v
theorem PEnd.drew {w W : World} {x y z u v : Value} (h : PEnd w x y z u v W) : PEnd w x y z u v W.drew := ⟨h.raw, h.flt, h.bel.drew⟩
theorem RawRows.set5 {base : Nat} {W : World} {ss : List (RRec × Value)} {es : List (RCho × Value)} {ts : List Tok} {sv ev rv : Value} (h : RawRows base W ss es ts sv ev rv) {g : Nat} (hg : g + 1 < base) (x y z u v : Value) : RawRows base (set5 W g x y z u v) ss es ts sv ev rv :=
  ((h.exc (exc_set3 W g x y z) (by omega)).exc (exc_set _ (g + 1) 0 u) hg).exc (exc_set _ (g + 1) 1 v) hg
theorem RawRows.drew {base : Nat} {W : World} {ss : List (RRec × Value)} {es : List (RCho × Value)} {ts : List Tok} {sv ev rv : Value} (h : RawRows base W ss es ts sv ev rv) : RawRows base W.drew ss es ts sv ev rv := h.below (Below.refl _ _).drew
set_option maxRecDepth 100000 in
set_option maxHeartbeats 2000000 in
theorem parse_fault (s : ByteArray) (w : World) (hT : Tabs w) (hs : s.size ≤ 9223372036854775807) (l : List Tok) (code : Int) (p : Nat) (hr : toks okU (amg idlSigns) (bts s) = (l, code, p)) (hc : code ≠ 0) :
    Calls Tryz.prog 29 #[.string s] w (ParsePost w (rawT s)) := by
  have HX : Hid (rawT s = (noRaw, code, p)) := Lib.hid (by unfold rawT; rw [hr]; exact if_neg hc)
  obtain ⟨hb0, hz0, hf0⟩ := parse_start w #[.slice none 0 0, .slice none 0 0, .slice none 0 0] #[.int .i64 0, .int .i64 0] 69 43
  have HL := Lib.hid (lexTokens_any s idlSigns _ (hT.below (Nat.le_refl _) hb0) hs)
  rw [hr] at HL
  have HB0 := Lib.hid hb0
  have HZ0 := Lib.hid hz0
  have HF0 := Lib.hid hf0
  have hlt : w.heap.size + 1 < _ := blk_lt hf0
  have hcz : (code != 0) = true := bne_iff_ne.2 hc
  clear hb0 hz0 hf0 hT hr hc
  go_enter Tryz.func29, Tryz.ntmps29
  go_upto_region 1 with (fail)
  generalize ((w.alloc (.cells #[.slice none 0 0, .slice none 0 0, .slice none 0 0] 69)).alloc (.cells #[.int .i64 0, .int .i64 0] 43)) = W0 at *
  go_wp2_with fail
  refine HL.out.mono ?_
  rintro e W1 ⟨v, rfl, _, hb1⟩
  have HB1 := Lib.hid (HB0.out.trans (hb1.mono (by omega)))
  have HZ1 := Lib.hid (blk_below HZ0.out hb1 (blk_lt HZ0.out))
  have HF1 := Lib.hid (blk_below HF0.out hb1 (blk_lt HF0.out))
  clear hb1
  simp only
  go_upto_region 2 with (fail)
  have HB2 := Lib.hid (HB1.out.alloc HB1.out.size (.cells #[.int .i64 code, .int .i64 (p : Nat)] 43))
  have HZ2 := Lib.hid (blk_alloc HZ1.out (.cells #[.int .i64 code, .int .i64 (p : Nat)] 43))
  have HF2 := Lib.hid (blk_alloc HF1.out (.cells #[.int .i64 code, .int .i64 (p : Nat)] 43))
  have HT2 := Lib.hid (heap_alloc_new W1 (.cells #[.int .i64 code, .int .i64 (p : Nat)] 43))
  have hlt1 : w.heap.size + 1 < W1.heap.size := blk_lt HF1.out
  clear HB1 HZ1 HF1
  generalize W1.alloc (.cells #[.int .i64 code, .int .i64 (p : Nat)] 43) = W2 at *
  generalize W1.heap.size = BT at *
  obtain ⟨_, t0, t1, _⟩ := blk2 HT2.out
  obtain ⟨hz, z0, z1, z2, y0, y1, y2⟩ := blk3 HZ2.out
  obtain ⟨hf, f0, f1, g0, g1⟩ := blk2 HF2.out
  go_wp2_with fail
  go_region_with (fail)
  all_goals
    go_wp2
    refine post_gen (PEnd w (.slice none 0 0) (.slice none 0 0) (.slice none 0 0) (.int .i64 code) (.int .i64 (p : Nat))) ?_ ?_
    · first
        | exact (pend HZ2.out HF2.out HB2.out _ _ _ _ _).drew
        | exact pend (w := w) (W := W2.drew) HZ2.out HF2.out HB2.out.drew _ _ _ _ _
    · rintro Wf ⟨e1, e2, e3⟩
      obtain ⟨_, c0, c1, c2, _⟩ := blk3 e1
      obtain ⟨_, d0, d1, _⟩ := blk2 e2
      exact bodyPost_ret (v := .tuple #[.agg #[.slice none 0 0, .slice none 0 0, .slice none 0 0], .agg #[.int .i64 code, .int .i64 (p : Nat)]]) (by simp [results, Tryz.results29, go_sem, c0, c1, c2, d0, d1]) rfl (parse_none HX.out e3)
/-- The reader, laid over a text's tokens. -/
theorem rd_start {W : World} {g c : Nat} {l : List Tok} (hg : g < W.heap.size) (hcells : ∀ k, k < l.length * 3 → W.cell? ⟨g, k, none⟩ = (toksCells l)[k]?) (hc : l.length ≤ c) (hm : c ≤ maxLen) (he : Ends l) (hb : ∀ t ∈ l, ∀ z ∈ t.text, 0 ≤ z ∧ z ≤ 255) :
    Rd (W.alloc (.cells #[.slice (some ⟨g, 0, none⟩) l.length c, .int .i64 0, .int .i64 0] 144)) W.heap.size g c l l (0, 0) := by
  have hbel : Below W.heap.size W (W.alloc (.cells #[.slice (some ⟨g, 0, none⟩) l.length c, .int .i64 0, .int .i64 0] 144)) := (Below.refl _ _).alloc (Nat.le_refl _) _
  refine ⟨?_, by rw [Nat.sub_self]; rfl, Nat.le_refl _, Nat.lt_of_lt_of_le hg hbel.size, Nat.ne_of_lt hg, fun k hk => (hbel.cell (p := ⟨g, k, none⟩) hg).trans (hcells k hk), ⟨hc, hm⟩, he, hb⟩
  rw [heap_alloc_new W _, Nat.sub_self]
  rfl
set_option maxRecDepth 100000 in
set_option maxHeartbeats 2000000 in
theorem parse_good (s : ByteArray) (w : World) (hT : Tabs w) (hs : s.size ≤ 9223372036854775807) (l : List Tok) (p : Nat) (hr : toks okU (amg idlSigns) (bts s) = (l, 0, p)) :
    Calls Tryz.prog 29 #[.string s] w (ParsePost w (rawT s)) := by
  have HX : Hid (rawT s = match schemaL noRaw l with
    | .ok a _ => (a, 0, 0)
    | .no c q => (noRaw, c, q)) := Lib.hid (by unfold rawT; rw [hr]; rfl)
  obtain ⟨hend, hlen, hbyt⟩ := toks_good hr
  have HEND := Lib.hid hend
  have HBYT := Lib.hid hbyt
  obtain ⟨hb0, hz0, hf0⟩ := parse_start w #[.slice none 0 0, .slice none 0 0, .slice none 0 0] #[.int .i64 0, .int .i64 0] 69 43
  have HL := Lib.hid (lexTokens_any s idlSigns _ (hT.below (Nat.le_refl _) hb0) hs)
  rw [hr] at HL
  have HB0 := Lib.hid hb0
  have HZ0 := Lib.hid hz0
  have HF0 := Lib.hid hf0
  have hlt : w.heap.size + 1 < _ := blk_lt hf0
  clear hb0 hz0 hf0 hT hr hend hbyt
  go_enter Tryz.func29, Tryz.ntmps29
  go_upto_region 1 with (fail)
  generalize ((w.alloc (.cells #[.slice none 0 0, .slice none 0 0, .slice none 0 0] 69)).alloc (.cells #[.int .i64 0, .int .i64 0] 43)) = W0 at *
  go_wp2_with fail
  refine HL.out.mono ?_
  rintro e W1 ⟨v, rfl, ho, hb1⟩
  obtain ⟨g, c, rfl, hc, hgb, hg, hcells⟩ := ho.cells HEND.out.ne
  have hcm : c ≤ maxLen := by
    rcases ho.2 with ⟨h, _⟩ | ⟨g', cap', cur, h, _, _, _, hm, _⟩
    · cases h
    · injection h with _ _ h
      subst h
      exact hm
  have HC := Lib.hid hcells
  have HB1 := Lib.hid (HB0.out.trans (hb1.mono (by omega)))
  have HZ1 := Lib.hid (blk_below HZ0.out hb1 (blk_lt HZ0.out))
  have HF1 := Lib.hid (blk_below HF0.out hb1 (blk_lt HF0.out))
  clear hb1 ho hcells
  simp only
  go_upto_region 2 with (fail)
  have hlt1 : w.heap.size + 1 < W1.heap.size := blk_lt HF1.out
  have HB2 := Lib.hid (HB1.out.alloc HB1.out.size (.cells #[.int .i64 0, .int .i64 (p : Nat)] 43))
  have HZ2 := Lib.hid (blk_alloc HZ1.out (.cells #[.int .i64 0, .int .i64 (p : Nat)] 43))
  have HF2 := Lib.hid (blk_alloc HF1.out (.cells #[.int .i64 0, .int .i64 (p : Nat)] 43))
  have HT2 := Lib.hid (heap_alloc_new W1 (.cells #[.int .i64 0, .int .i64 (p : Nat)] 43))
  have HC2 := Lib.hid (show ∀ k, k < l.length * 3 → (W1.alloc (.cells #[.int .i64 0, .int .i64 (p : Nat)] 43)).cell? ⟨g, k, none⟩ = (toksCells l)[k]? from fun k hk => (((Below.refl _ W1).alloc (Nat.le_refl _) (.cells #[.int .i64 0, .int .i64 (p : Nat)] 43)).cell (p := ⟨g, k, none⟩) hg).trans (HC.out k hk))
  have hg2 : g < (W1.alloc (.cells #[.int .i64 0, .int .i64 (p : Nat)] 43)).heap.size := by simp; omega
  clear HB1 HZ1 HF1 HC
  generalize W1.alloc (.cells #[.int .i64 0, .int .i64 (p : Nat)] 43) = W2 at *
  generalize W1.heap.size = BT at *
  obtain ⟨_, t0, t1, _⟩ := blk2 HT2.out
  go_upto_region 5 with (fail)
  have hlt2 : w.heap.size + 1 < W2.heap.size := blk_lt HF2.out
  have HRD := Lib.hid (rd_start hg2 HC2.out hc hcm HEND.out HBYT.out)
  have HB3 := Lib.hid (HB2.out.alloc HB2.out.size (.cells #[.slice (some ⟨g, 0, none⟩) l.length c, .int .i64 0, .int .i64 0] 144))
  have HZ3 := Lib.hid (blk_alloc HZ2.out (.cells #[.slice (some ⟨g, 0, none⟩) l.length c, .int .i64 0, .int .i64 0] 144))
  have HF3 := Lib.hid (blk_alloc HF2.out (.cells #[.slice (some ⟨g, 0, none⟩) l.length c, .int .i64 0, .int .i64 0] 144))
  clear HB2 HZ2 HF2 HC2 t0 t1
  have hR3 : W2.heap.size < (W2.alloc (.cells #[.slice (some ⟨g, 0, none⟩) l.length c, .int .i64 0, .int .i64 0] 144)).heap.size := by simp
  generalize W2.alloc (.cells #[.slice (some ⟨g, 0, none⟩) l.length c, .int .i64 0, .int .i64 0] 144) = W3 at *
  generalize W2.heap.size = R at *
  go_wp2_with fail
  refine (schema_any W3 R g c l l hlen HRD.out).mono ?_
  rintro e W4 hp
  have HP := Lib.hid hp
  clear hp
  generalize schemaL noRaw l = q at *
  obtain ⟨a', r'⟩ | ⟨cc, pp⟩ := q
  · obtain ⟨ss, es, ts, sv, ev, rv, rfl, rfl, hrow, hrd, hx⟩ := HP.out
    obtain ⟨sa, sc, ea, ec, ra, rc, rfl, rfl, rfl⟩ := hrow.forms
    have HB4 := Lib.hid (HB3.out.trans ((hx.mono (by omega : w.heap.size ≤ W3.heap.size)).below (by omega)))
    have HZ4 := Lib.hid (blk_exc HZ3.out hx (by omega) (by omega))
    have HF4 := Lib.hid (blk_exc HF3.out hx (by omega) (by omega))
    have HROW := Lib.hid hrow
    clear hrow hrd hx HP
    go_upto_region 6 with (fail)
    have hs4 : w.heap.size + 1 < W4.heap.size := blk_lt HF4.out
    have HB5 := Lib.hid (HB4.out.alloc HB4.out.size (.cells #[.slice sa ss.length sc, .slice ea es.length ec, .slice ra ts.length rc] 69))
    have HZ5 := Lib.hid (blk_alloc HZ4.out (.cells #[.slice sa ss.length sc, .slice ea es.length ec, .slice ra ts.length rc] 69))
    have HF5 := Lib.hid (blk_alloc HF4.out (.cells #[.slice sa ss.length sc, .slice ea es.length ec, .slice ra ts.length rc] 69))
    have HT5 := Lib.hid (heap_alloc_new W4 (.cells #[.slice sa ss.length sc, .slice ea es.length ec, .slice ra ts.length rc] 69))
    have HR5 := Lib.hid (HROW.out.below ((Below.refl _ _).alloc (Nat.le_refl _) (.cells #[.slice sa ss.length sc, .slice ea es.length ec, .slice ra ts.length rc] 69)))
    clear HB4 HZ4 HF4 HROW
    generalize W4.alloc (.cells #[.slice sa ss.length sc, .slice ea es.length ec, .slice ra ts.length rc] 69) = W5 at *
    generalize W4.heap.size = BR at *
    obtain ⟨_, t0, t1, t2, _⟩ := blk3 HT5.out
    obtain ⟨hz, z0, z1, z2, y0, y1, y2⟩ := blk3 HZ5.out
    obtain ⟨hf, f0, f1, g0, g1⟩ := blk2 HF5.out
    go_wp2
    refine post_gen (fun Wf => PEnd w (.slice sa ss.length sc) (.slice ea es.length ec) (.slice ra ts.length rc) (.int .i64 0) (.int .i64 0) Wf ∧ RawRows (W3.heap.size + 1) Wf ss es ts (.slice sa ss.length sc) (.slice ea es.length ec) (.slice ra ts.length rc)) ⟨?_, ?_⟩ ?_
    · exact pend HZ5.out HF5.out HB5.out _ _ _ _ _
    · exact HR5.out.set5 (by omega) _ _ _ _ _
    · rintro Wf ⟨⟨e1, e2, e3⟩, e4⟩
      obtain ⟨_, c0, c1, c2, _⟩ := blk3 e1
      obtain ⟨_, d0, d1, _⟩ := blk2 e2
      rw [HX.out]
      exact bodyPost_ret (v := .tuple #[.agg #[.slice sa ss.length sc, .slice ea es.length ec, .slice ra ts.length rc], .agg #[.int .i64 0, .int .i64 0]]) (by simp [results, Tryz.results29, go_sem, c0, c1, c2, d0, d1]) rfl ⟨ss, es, ts, _, _, _, rfl, rfl, e4.base (by omega), e3⟩
  · obtain ⟨rfl, ⟨r', hrd⟩, hx⟩ := HP.out
    have HB4 := Lib.hid (HB3.out.trans ((hx.mono (by omega : w.heap.size ≤ W3.heap.size)).below (by omega)))
    have HZ4 := Lib.hid (blk_exc HZ3.out hx (by omega) (by omega))
    have HF4 := Lib.hid (blk_exc HF3.out hx (by omega) (by omega))
    have HRB := Lib.hid hrd.blk
    clear hrd hx HP
    go_upto_region 6 with (fail)
    have hs4 : w.heap.size + 1 < W4.heap.size := blk_lt HF4.out
    have HB5 := Lib.hid (HB4.out.alloc HB4.out.size (.cells #[.slice none 0 0, .slice none 0 0, .slice none 0 0] 69))
    have HZ5 := Lib.hid (blk_alloc HZ4.out (.cells #[.slice none 0 0, .slice none 0 0, .slice none 0 0] 69))
    have HF5 := Lib.hid (blk_alloc HF4.out (.cells #[.slice none 0 0, .slice none 0 0, .slice none 0 0] 69))
    have HR5 := Lib.hid (blk_alloc HRB.out (.cells #[.slice none 0 0, .slice none 0 0, .slice none 0 0] 69))
    clear HB4 HZ4 HF4 HRB
    generalize W4.alloc (.cells #[.slice none 0 0, .slice none 0 0, .slice none 0 0] 69) = W5 at *
    obtain ⟨_, t0, t1, t2, _⟩ := blk3 HR5.out
    obtain ⟨hz, z0, z1, z2, y0, y1, y2⟩ := blk3 HZ5.out
    obtain ⟨hf, f0, f1, g0, g1⟩ := blk2 HF5.out
    go_wp2_with fail
    go_region_with (fail)
    all_goals
      go_wp2
      refine post_gen (PEnd w (.slice none 0 0) (.slice none 0 0) (.slice none 0 0) (.int .i64 cc) (.int .i64 (pp : Nat))) ?_ ?_
      · first
          | exact (pend HZ5.out HF5.out HB5.out _ _ _ _ _).drew
          | exact pend (w := w) (W := W5.drew) HZ5.out HF5.out HB5.out.drew _ _ _ _ _
      · rintro Wf ⟨e1, e2, e3⟩
        obtain ⟨_, c0, c1, c2, _⟩ := blk3 e1
        obtain ⟨_, d0, d1, _⟩ := blk2 e2
        exact bodyPost_ret (v := .tuple #[.agg #[.slice none 0 0, .slice none 0 0, .slice none 0 0], .agg #[.int .i64 cc, .int .i64 (pp : Nat)]]) (by simp [results, Tryz.results29, go_sem, c0, c1, c2, d0, d1]) rfl (parse_none HX.out e3)
/-- Parse, whatever the text. -/
theorem parse_any (s : ByteArray) (w : World) (hT : Tabs w) (hs : s.size ≤ 9223372036854775807) :
    Calls Tryz.prog 29 #[.string s] w (ParsePost w (rawT s)) := by
  obtain ⟨r, hr⟩ : ∃ r, toks okU (amg idlSigns) (bts s) = r := ⟨_, rfl⟩
  obtain ⟨l, code, p⟩ := r
  by_cases hc : code = 0
  · subst hc
    exact parse_good s w hT hs l p hr
  · exact parse_fault s w hT hs l code p hr hc
end Go.Proofs.YtleclhnlojalbaaGreatDoor
