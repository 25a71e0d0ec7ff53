/-
  Rows of numbers of the call's own; the document's SameInts. Conditions: those that each theorem names.
-/
import Derived.Test.YtgbcchiheddfpaaGreatDoorPkL6
import Derived.WalkKit
import Derived.BigQuiet
import Derived.Laws.BytesArg
import Derived.Below
namespace Go.Proofs.YtgbcchiheddfpaaGreatDoor

inductive Way (e : Nat → Nat → Prop) : Nat → Nat → Prop
  | one {a b : Nat} (h : e a b) : Way e a b
  | more {a b c : Nat} (h : e a b) (k : Way e b c) : Way e a c
theorem Way.snoc {e : Nat → Nat → Prop} {a b c : Nat} (h : Way e a b) (k : e b c) : Way e a c := by
  induction h with
  | one h => exact .more h (.one k)
  | more h _ ih => exact .more h (ih k)
theorem Way.trans {e : Nat → Nat → Prop} {a b c : Nat} (h : Way e a b) (k : Way e b c) : Way e a c := by
  induction h with
  | one h => exact .more h k
  | more h _ ih => exact .more h (ih k)
theorem filter_le {α : Type} (p q : α → Bool) : ∀ l : List α, (∀ y ∈ l, p y = true → q y = true) → (l.filter p).length ≤ (l.filter q).length
  | [], _ => Nat.le_refl _
  | a :: l, h => by
    have ih := filter_le p q l (fun y hy => h y (List.mem_cons_of_mem _ hy))
    have ha := h a List.mem_cons_self
    rw [List.filter_cons, List.filter_cons]
    cases hp : p a
    · cases hq : q a
      · simpa using ih
      · simp
        omega
    · rw [ha hp]
      simpa using ih
theorem filter_lt {α : Type} (p q : α → Bool) : ∀ l : List α, (∀ y ∈ l, p y = true → q y = true) → (∃ z ∈ l, q z = true ∧ p z = false) → (l.filter p).length < (l.filter q).length
  | [], _, ⟨_, h, _⟩ => by cases h
  | a :: l, h, ⟨z, hz, hq, hp⟩ => by
    have hl := fun y hy => h y (List.mem_cons_of_mem _ hy)
    have ha := h a List.mem_cons_self
    rw [List.filter_cons, List.filter_cons]
    rcases List.mem_cons.1 hz with rfl | hz
    · have := filter_le p q l hl
      rw [hq, hp]
      simp
      omega
    · have ih := filter_lt p q l hl ⟨z, hz, hq, hp⟩
      cases hpa : p a
      · cases hqa : q a
        · simpa using ih
        · simp
          omega
      · rw [ha hpa]
        simpa using ih
open Classical in
theorem pred_cycle (n : Nat) (e : Nat → Nat → Prop) (C : Nat → Prop) (hn : ∀ v, C v → v < n) (hp : ∀ v, C v → ∃ x, C x ∧ e x v) (h0 : ∃ v, C v) : ∃ v, C v ∧ Way e v v := by
  have key : ∀ k v, C v → ((List.range n).filter fun y => decide (C y ∧ Way e y v)).length ≤ k → ∃ w, C w ∧ Way e w w := by
    intro k
    induction k with
    | zero =>
      intro v hv hk
      obtain ⟨x, hx, hxv⟩ := hp v hv
      have hm : x ∈ (List.range n).filter fun y => decide (C y ∧ Way e y v) := List.mem_filter.2 ⟨List.mem_range.2 (hn x hx), decide_eq_true ⟨hx, .one hxv⟩⟩
      have := List.length_pos_of_mem hm
      omega
    | succ k ih =>
      intro v hv hk
      obtain ⟨x, hx, hxv⟩ := hp v hv
      by_cases hc : Way e x x
      · exact ⟨x, hx, hc⟩
      · refine ih x hx ?_
        have := filter_lt (fun y => decide (C y ∧ Way e y x)) (fun y => decide (C y ∧ Way e y v)) (List.range n) (fun y _ h => by
          have h := of_decide_eq_true h
          exact decide_eq_true ⟨h.1, h.2.snoc hxv⟩) ⟨x, List.mem_range.2 (hn x hx), decide_eq_true ⟨hx, .one hxv⟩, decide_eq_false (fun h => hc h.2)⟩
        omega
  obtain ⟨v, hv⟩ := h0
  exact key _ v hv (Nat.le_refl _)
theorem Way.last {e : Nat → Nat → Prop} {a b : Nat} (h : Way e a b) : ∃ x, e x b ∧ (x = a ∨ Way e a x) := by
  induction h with
  | one h => exact ⟨_, h, .inl rfl⟩
  | more h _ ih =>
    obtain ⟨x, h1, h2⟩ := ih
    refine ⟨x, h1, .inr ?_⟩
    rcases h2 with rfl | h2
    · exact .one h
    · exact .more h h2
theorem cycle_pred {e : Nat → Nat → Prop} {i : Nat} (h : Way e i i) : ∀ v, (Way e i v ∧ Way e v i) → ∃ x, (Way e i x ∧ Way e x i) ∧ e x v := by
  rintro v ⟨h1, h2⟩
  obtain ⟨x, hx, hh⟩ := h1.last
  refine ⟨x, ?_, hx⟩
  rcases hh with rfl | hh
  · exact ⟨h, h⟩
  · exact ⟨hh, .more hx h2⟩

/-! ### sweeps -/
def on (st : List Bool) (i : Nat) : Bool := st.getD i false
def setAll (st : List Bool) (l : List Nat) : List Bool := l.foldl (fun st v => st.set v true) st
theorem setAll_length (l : List Nat) : ∀ st, (setAll st l).length = st.length := by
  induction l with
  | nil => intro st; rfl
  | cons v l ih =>
    intro st
    show (setAll (st.set v true) l).length = _
    rw [ih, List.length_set]
theorem on_set (st : List Bool) (v i : Nat) : on (st.set v true) i = true ↔ on st i = true ∨ (i = v ∧ v < st.length) := by
  unfold on
  rw [List.getD, List.getD, List.getElem?_set]
  by_cases h : v = i
  · subst h
    by_cases hl : v < st.length <;> simp [hl]
  · rw [if_neg h]
    constructor
    · exact .inl
    · rintro (h1 | ⟨h1, _⟩)
      · exact h1
      · exact absurd h1.symm h
theorem on_setAll (l : List Nat) : ∀ (st : List Bool) (i : Nat), on (setAll st l) i = true ↔ on st i = true ∨ (i ∈ l ∧ i < st.length) := by
  induction l with
  | nil => intro st i; simp [setAll]
  | cons v l ih =>
    intro st i
    show on (setAll (st.set v true) l) i = true ↔ _
    rw [ih, on_set, List.length_set, List.mem_cons]
    constructor
    · rintro ((h | ⟨rfl, h⟩) | ⟨h1, h2⟩)
      · exact .inl h
      · exact .inr ⟨.inl rfl, h⟩
      · exact .inr ⟨.inr h1, h2⟩
    · rintro (h | ⟨rfl | h1, h2⟩)
      · exact .inl (.inl h)
      · exact .inl (.inr ⟨rfl, h2⟩)
      · exact .inr ⟨h1, h2⟩
def turnOf (seed : Nat → Bool) (outs : Nat → List Nat) (st : List Bool) (i : Nat) : List Bool := if (seed i || on st i) = true then setAll st (outs i) else st
def sweepTo (seed : Nat → Bool) (outs : Nat → List Nat) (st : List Bool) (k : Nat) : List Bool := (List.range k).foldl (turnOf seed outs) st
theorem sweepTo_succ (seed : Nat → Bool) (outs : Nat → List Nat) (st : List Bool) (k : Nat) : sweepTo seed outs st (k + 1) = turnOf seed outs (sweepTo seed outs st k) k := by
  unfold sweepTo
  rw [List.range_succ, List.foldl_append]
  rfl
theorem turn_length (seed : Nat → Bool) (outs : Nat → List Nat) (st : List Bool) (i : Nat) : (turnOf seed outs st i).length = st.length := by
  unfold turnOf
  split
  · exact setAll_length _ _
  · rfl
theorem sweep_length (seed : Nat → Bool) (outs : Nat → List Nat) (st : List Bool) : ∀ k, (sweepTo seed outs st k).length = st.length
  | 0 => rfl
  | k + 1 => by rw [sweepTo_succ, turn_length, sweep_length seed outs st k]
theorem turn_keeps {seed : Nat → Bool} {outs : Nat → List Nat} {st : List Bool} {i j : Nat} (h : on st j = true) : on (turnOf seed outs st i) j = true := by
  unfold turnOf
  split
  · exact (on_setAll _ _ _).2 (.inl h)
  · exact h
theorem sweep_keeps {seed : Nat → Bool} {outs : Nat → List Nat} {st : List Bool} {j : Nat} (h : on st j = true) : ∀ k, on (sweepTo seed outs st k) j = true
  | 0 => h
  | k + 1 => by rw [sweepTo_succ]; exact turn_keeps (sweep_keeps h k)
theorem sweep_sets {seed : Nat → Bool} {outs : Nat → List Nat} {st : List Bool} {i v : Nat} (hi : (seed i || on st i) = true) (hv : v ∈ outs i) (hl : v < st.length) : ∀ k, i < k → on (sweepTo seed outs st k) v = true
  | 0, h => absurd h (Nat.not_lt_zero _)
  | k + 1, h => by
    rw [sweepTo_succ]
    rcases Nat.lt_or_ge i k with hk | hk
    · exact turn_keeps (sweep_sets hi hv hl k hk)
    · obtain rfl : i = k := by omega
      have ha : (seed i || on (sweepTo seed outs st i) i) = true := by
        rw [Bool.or_eq_true] at hi ⊢
        rcases hi with h | h
        · exact .inl h
        · exact .inr (sweep_keeps h i)
      unfold turnOf
      rw [if_pos ha]
      exact (on_setAll _ _ _).2 (.inr ⟨hv, by rw [sweep_length]; exact hl⟩)
theorem sweep_sound {seed : Nat → Bool} {outs : Nat → List Nat} {P : Nat → Prop} (hs : ∀ i, seed i = true → ∀ v ∈ outs i, P v) (hP : ∀ i, P i → ∀ v ∈ outs i, P v) {st : List Bool} (h : ∀ i, on st i = true → P i) : ∀ k i, on (sweepTo seed outs st k) i = true → P i
  | 0, i, hi => h i hi
  | k + 1, i, hi => by
    rw [sweepTo_succ] at hi
    unfold turnOf at hi
    split at hi
    · rename_i ha
      rcases (on_setAll _ _ _).1 hi with h1 | ⟨h1, _⟩
      · exact sweep_sound hs hP h k i h1
      · rcases (Bool.or_eq_true _ _).mp ha with h2 | h2
        · exact hs k h2 i h1
        · exact hP k (sweep_sound hs hP h k k h2) i h1
    · exact sweep_sound hs hP h k i hi
def sweeps (seed : Nat → Bool) (outs : Nat → List Nat) (n : Nat) : Nat → List Bool → List Bool
  | 0, st => st
  | k + 1, st => sweepTo seed outs (sweeps seed outs n k st) n
theorem sweeps_length (seed : Nat → Bool) (outs : Nat → List Nat) (n : Nat) (st : List Bool) : ∀ k, (sweeps seed outs n k st).length = st.length
  | 0 => rfl
  | k + 1 => by rw [sweeps, sweep_length, sweeps_length seed outs n st k]
def cntOn (st : List Bool) : Nat := ((List.range st.length).filter fun i => on st i).length
theorem cntOn_le (st : List Bool) : cntOn st ≤ st.length := by
  have := List.length_filter_le (fun i => on st i) (List.range st.length)
  rw [List.length_range] at this
  exact this
def Shut (seed : Nat → Bool) (outs : Nat → List Nat) (st : List Bool) : Prop := ∀ i, i < st.length → (seed i || on st i) = true → ∀ v ∈ outs i, v < st.length → on st v = true
theorem sweep_grows {seed : Nat → Bool} {outs : Nat → List Nat} {st : List Bool} (h : ¬ Shut seed outs st) : cntOn st < cntOn (sweepTo seed outs st st.length) := by
  have h2 : ∃ i, i < st.length ∧ (seed i || on st i) = true ∧ ∃ v ∈ outs i, v < st.length ∧ on st v = false := by
    refine Classical.byContradiction fun hno => h fun i hi ha v hv hl => ?_
    cases ho : on st v
    · exact absurd ⟨i, hi, ha, v, hv, hl, ho⟩ hno
    · rfl
  obtain ⟨i, hi, ha, v, hv, hl, ho⟩ := h2
  unfold cntOn
  rw [sweep_length]
  exact filter_lt _ _ _ (fun y _ hy => sweep_keeps hy _) ⟨v, List.mem_range.2 hl, sweep_sets ha hv hl _ hi, ho⟩
theorem shut_stays {seed : Nat → Bool} {outs : Nat → List Nat} {st : List Bool} (h : Shut seed outs st) : Shut seed outs (sweepTo seed outs st st.length) ∧ ∀ i, on (sweepTo seed outs st st.length) i = true → on st i = true := by
  have key : ∀ k, k ≤ st.length → ∀ i, on (sweepTo seed outs st k) i = true → on st i = true := by
    intro k
    induction k with
    | zero => intro _ i hi; exact hi
    | succ k ih =>
      intro hk i hi
      rw [sweepTo_succ] at hi
      unfold turnOf at hi
      split at hi
      · rename_i ha
        rcases (on_setAll _ _ _).1 hi with h1 | ⟨h1, h2⟩
        · exact ih (by omega) i h1
        · rw [sweep_length] at h2
          refine h k (by omega) ?_ i h1 h2
          rw [Bool.or_eq_true] at ha ⊢
          rcases ha with h3 | h3
          · exact .inl h3
          · exact .inr (ih (by omega) k h3)
      · exact ih (by omega) i hi
  have hk := key st.length (Nat.le_refl _)
  refine ⟨fun i hi ha v hv hl => ?_, hk⟩
  rw [sweep_length] at hi hl
  refine sweep_keeps (h i hi ?_ v hv hl) _
  rw [Bool.or_eq_true] at ha ⊢
  rcases ha with h1 | h1
  · exact .inl h1
  · exact .inr (hk i h1)
theorem sweeps_shut {seed : Nat → Bool} {outs : Nat → List Nat} {st : List Bool} : ∀ k, Shut seed outs (sweeps seed outs st.length k st) ∨ cntOn st + k ≤ cntOn (sweeps seed outs st.length k st)
  | 0 => .inr (Nat.le_refl _)
  | k + 1 => by
    have hl : (sweeps seed outs st.length k st).length = st.length := sweeps_length _ _ _ _ _
    rw [sweeps]
    by_cases hs : Shut seed outs (sweeps seed outs st.length k st)
    · have := (shut_stays hs).1
      rw [hl] at this
      exact .inl this
    · rcases sweeps_shut (seed := seed) (outs := outs) (st := st) k with h | h
      · exact absurd h hs
      · have := sweep_grows hs
        rw [hl] at this
        exact .inr (by omega)
theorem sweeps_keeps {seed : Nat → Bool} {outs : Nat → List Nat} {n : Nat} {st : List Bool} {j : Nat} (h : on st j = true) : ∀ k, on (sweeps seed outs n k st) j = true
  | 0 => h
  | k + 1 => sweep_keeps (sweeps_keeps h k) n
theorem sweeps_sound {seed : Nat → Bool} {outs : Nat → List Nat} {P : Nat → Prop} (hs : ∀ i, seed i = true → ∀ v ∈ outs i, P v) (hP : ∀ i, P i → ∀ v ∈ outs i, P v) {n : Nat} {st : List Bool} (h : ∀ i, on st i = true → P i) : ∀ k i, on (sweeps seed outs n k st) i = true → P i
  | 0, i, hi => h i hi
  | k + 1, i, hi => sweep_sound hs hP (sweeps_sound hs hP h k) n i hi
theorem reach_is {outs : Nat → List Nat} {n r : Nat} (hr : r < n) (ho : ∀ i, i < n → ∀ v ∈ outs i, v < n) (v : Nat) : on (sweeps (fun _ => false) outs n n ((List.replicate n false).set r true)) v = true ↔ v = r ∨ Way (fun a b => b ∈ outs a) r v := by
  have hlen : ((List.replicate n false).set r true).length = n := by rw [List.length_set, List.length_replicate]
  have hst : ∀ i, on ((List.replicate n false).set r true) i = true ↔ i = r := fun i => by
    rw [on_set, List.length_replicate]
    have : on (List.replicate n false) i = false := by
      unfold on
      rw [List.getD]
      by_cases h : i < n
      · rw [List.getElem?_replicate, if_pos h]; rfl
      · rw [List.getElem?_replicate, if_neg h]; rfl
    rw [this]
    constructor
    · rintro (h | ⟨h, _⟩)
      · cases h
      · exact h
    · exact fun h => .inr ⟨h, hr⟩
  constructor
  · refine fun h => sweeps_sound (P := fun v => v = r ∨ Way (fun a b => b ∈ outs a) r v) (fun i hi => by cases hi) (fun i hi v hv => ?_) (fun i hi => .inl ((hst i).1 hi)) n v h
    rcases hi with rfl | hi
    · exact .inr (.one hv)
    · exact .inr (hi.snoc hv)
  · have hc1 : 1 ≤ cntOn ((List.replicate n false).set r true) := by
      unfold cntOn
      exact List.length_pos_of_mem (List.mem_filter.2 ⟨List.mem_range.2 (by rw [hlen]; exact hr), (hst r).2 rfl⟩)
    have hshut : Shut (fun _ => false) outs (sweeps (fun _ => false) outs n n ((List.replicate n false).set r true)) := by
      have h := sweeps_shut (seed := fun _ => false) (outs := outs) (st := (List.replicate n false).set r true) n
      rw [hlen] at h
      rcases h with h | h
      · exact h
      · have h2 := cntOn_le (sweeps (fun _ => false) outs n n ((List.replicate n false).set r true))
        rw [sweeps_length, hlen] at h2
        omega
    have hL : (sweeps (fun _ => false) outs n n ((List.replicate n false).set r true)).length = n := by rw [sweeps_length, hlen]
    have h0 : on (sweeps (fun _ => false) outs n n ((List.replicate n false).set r true)) r = true := sweeps_keeps ((hst r).2 rfl) n
    have step : ∀ a b, Way (fun a b => b ∈ outs a) a b → a < n → on (sweeps (fun _ => false) outs n n ((List.replicate n false).set r true)) a = true → on (sweeps (fun _ => false) outs n n ((List.replicate n false).set r true)) b = true := by
      intro a b h
      induction h with
      | one h => exact fun ha hon => hshut _ (by rw [hL]; exact ha) (by rw [hon]; rfl) _ h (by rw [hL]; exact ho _ ha _ h)
      | more h _ ih => exact fun ha hon => ih (ho _ ha _ h) (hshut _ (by rw [hL]; exact ha) (by rw [hon]; rfl) _ h (by rw [hL]; exact ho _ ha _ h))
    rintro (rfl | h)
    · exact h0
    · exact step _ _ h hr h0
theorem behind_is {outs : Nat → List Nat} {n r : Nat} (hr : r < n) (ho : ∀ i, i < n → ∀ v ∈ outs i, v < n) (v : Nat) : on (sweeps (fun i => decide (i = r)) outs n (n + 1) (List.replicate n false)) v = true ↔ Way (fun a b => b ∈ outs a) r v := by
  have hlen : (List.replicate n false).length = n := List.length_replicate
  have hst : ∀ i, on (List.replicate n false) i = false := fun i => by
    unfold on
    rw [List.getD]
    by_cases h : i < n
    · rw [List.getElem?_replicate, if_pos h]; rfl
    · rw [List.getElem?_replicate, if_neg h]; rfl
  constructor
  · refine fun h => sweeps_sound (P := fun v => Way (fun a b => b ∈ outs a) r v) (fun i hi v hv => ?_) (fun i hi v hv => hi.snoc hv) (fun i hi => by rw [hst] at hi; cases hi) (n + 1) v h
    obtain rfl := of_decide_eq_true hi
    exact .one hv
  · have hshut : Shut (fun i => decide (i = r)) outs (sweeps (fun i => decide (i = r)) outs n (n + 1) (List.replicate n false)) := by
      have h := sweeps_shut (seed := fun i => decide (i = r)) (outs := outs) (st := List.replicate n false) (n + 1)
      rw [hlen] at h
      rcases h with h | h
      · exact h
      · have h2 := cntOn_le (sweeps (fun i => decide (i = r)) outs n (n + 1) (List.replicate n false))
        rw [sweeps_length, hlen] at h2
        omega
    have hL : (sweeps (fun i => decide (i = r)) outs n (n + 1) (List.replicate n false)).length = n := by rw [sweeps_length, hlen]
    have step : ∀ a b, Way (fun a b => b ∈ outs a) a b → a < n → (a = r ∨ on (sweeps (fun i => decide (i = r)) outs n (n + 1) (List.replicate n false)) a = true) → on (sweeps (fun i => decide (i = r)) outs n (n + 1) (List.replicate n false)) b = true := by
      intro a b h
      have hs : ∀ a b, b ∈ outs a → a < n → (a = r ∨ on (sweeps (fun i => decide (i = r)) outs n (n + 1) (List.replicate n false)) a = true) → on (sweeps (fun i => decide (i = r)) outs n (n + 1) (List.replicate n false)) b = true := fun a b hab ha hor =>
        hshut a (by rw [hL]; exact ha) (by
          rw [Bool.or_eq_true]
          rcases hor with h | h
          · exact .inl (decide_eq_true h)
          · exact .inr h) b hab (by rw [hL]; exact ho _ ha _ hab)
      induction h with
      | one h => exact fun ha hor => hs _ _ h ha hor
      | more h _ ih => exact fun ha hor => ih (ho _ ha _ h) (.inr (hs _ _ h ha hor))
    exact fun h => step _ _ h hr (.inl rfl)
/-! ### the program's way: what is never entered -/
def Turns (outs : Nat → List Nat) (r : Nat) : Prop := ∃ i, (i = r ∨ Way (fun a b => b ∈ outs a) r i) ∧ Way (fun a b => b ∈ outs a) i i
theorem turns_iff {outs : Nat → List Nat} {n r : Nat} (hr : r < n) (ho : ∀ i, i < n → ∀ v ∈ outs i, v < n) :
    Turns outs r ↔ ∃ C : Nat → Prop, (∃ v, C v) ∧ (∀ v, C v → v = r ∨ Way (fun a b => b ∈ outs a) r v) ∧ ∀ v, C v → ∃ x, C x ∧ v ∈ outs x := by
  have hlt : ∀ a b, Way (fun a b => b ∈ outs a) a b → a < n → b < n := by
    intro a b h
    induction h with
    | one h => exact fun ha => ho _ ha _ h
    | more h _ ih => exact fun ha => ih (ho _ ha _ h)
  constructor
  · rintro ⟨i, hi, hc⟩
    refine ⟨fun v => Way (fun a b => b ∈ outs a) i v ∧ Way (fun a b => b ∈ outs a) v i, ⟨i, hc, hc⟩, fun v hv => .inr ?_, fun v hv => cycle_pred hc v hv⟩
    rcases hi with rfl | hi
    · exact hv.1
    · exact hi.trans hv.1
  · rintro ⟨C, h0, hC, hp⟩
    obtain ⟨v, hv, hc⟩ := pred_cycle n (fun a b => b ∈ outs a) C (fun v hv => by
      rcases hC v hv with rfl | h
      · exact hr
      · exact hlt _ _ h hr) hp h0
    exact ⟨v, hC v hv, hc⟩
theorem tree_turns {outs : Nat → List Nat} {r : Nat} (h : ∀ i, ∀ v ∈ outs i, i < v) : ¬ Turns outs r := by
  rintro ⟨i, _, hc⟩
  have key : ∀ a b, Way (fun a b => b ∈ outs a) a b → a < b := by
    intro a b hw
    induction hw with
    | one hab => exact h _ _ hab
    | more hab _ ih => exact Nat.lt_trans (h _ _ hab) ih
  exact absurd (key i i hc) (Nat.lt_irrefl i)
end Go.Proofs.YtgbcchiheddfpaaGreatDoor
namespace Go.Proofs.YtgbcchiheddfpaaGreatDoor
open Go.ChangeShapes Go.WideShapes Go.ChangeAt Go.RowKit Go.Shelf

theorem row_at {w : World} {base : Nat} {e : TypeId} {size : Nat} {v : Value} {n : Nat} {xs : List Value} (h : w.ownsRow base e size v n xs) (hn : 0 < n) :
    ∃ g c, v = .slice (some ⟨g, 0, none⟩) n c ∧ n ≤ c ∧ base ≤ g ∧ g < w.heap.size ∧ ∀ k, k < n * size → w.cell? ⟨g, k, none⟩ = xs[k]? := by
  rcases h.2 with ⟨_, h0⟩ | ⟨g, cap, cur, rfl, hb, hg, hnc, hm, hs, ht⟩
  · omega
  · refine ⟨g, cap, rfl, hnc, hb, blk_lt hg, fun k hk => ?_⟩
    rw [cell_of_row w g k cur _ (0, 0) hg, ← ht, List.getElem?_take, if_pos hk, Array.getElem?_toList]
theorem flat_at {α : Type} (f : α → List Value) (m : Nat) (hm : ∀ a, (f a).length = m) : ∀ (l : List α) (k : Nat) (hk : k < l.length) (j : Nat), j < m → (l.flatMap f)[k * m + j]? = (f l[k])[j]?
  | [], k, hk, _, _ => absurd hk (Nat.not_lt_zero k)
  | a :: r, 0, _, j, hj => by
    rw [List.flatMap_cons, Nat.zero_mul, Nat.zero_add, List.getElem?_append_left (by rw [hm]; exact hj)]
    rfl
  | a :: r, k + 1, hk, j, hj => by
    have e : (k + 1) * m + j = m + (k * m + j) := by rw [Nat.succ_mul]; omega
    rw [List.flatMap_cons, List.getElem?_append_right (by rw [hm, e]; omega), hm, show (k + 1) * m + j - m = k * m + j by omega]
    exact flat_at f m hm r k (Nat.lt_of_succ_lt_succ hk) j hj
theorem row_el {α : Type} (f : α → List Value) (m : Nat) (hm : ∀ a, (f a).length = m) {w : World} {base : Nat} {e : TypeId} {v : Value} {l : List α} (h : w.ownsRow base e m v l.length (l.flatMap f)) (k : Nat) (hk : k < l.length) :
    ∃ g c, v = .slice (some ⟨g, 0, none⟩) l.length c ∧ l.length ≤ c ∧ g < w.heap.size ∧ ∀ j, j < m → w.cell? ⟨g, k * m + j, none⟩ = (f l[k])[j]? := by
  obtain ⟨g, c, hv, hc, _, hg, hcell⟩ := row_at h (by omega)
  refine ⟨g, c, hv, hc, hg, fun j hj => ?_⟩
  have hlt : k * m + j < l.length * m := by
    have h1 : (k + 1) * m ≤ l.length * m := Nat.mul_le_mul_right m hk
    rw [Nat.succ_mul] at h1
    omega
  rw [hcell _ hlt, flat_at f m hm l k hk j hj]
theorem row_few {w : World} {base : Nat} {e : TypeId} {size : Nat} {v : Value} {n : Nat} {xs : List Value} (h : w.ownsRow base e size v n xs) : n ≤ 9223372036854775807 := by
  rcases h.2 with ⟨_, h0⟩ | ⟨g, cap, cur, rfl, hb, hg, hnc, hm, _⟩
  · omega
  · unfold maxLen at hm
    omega
theorem slice_inj {a b : Option Addr} {n c n' c' : Nat} (h : Value.slice a n c = .slice b n' c') : a = b ∧ c = c' := by
  injection h with h1 _ h3
  exact ⟨h1, h3⟩
theorem row_keep {w w' : World} (h : Below w.heap.size w w') {base : Nat} {e : TypeId} {size : Nat} {v : Value} {n : Nat} {xs : List Value} (ho : w.ownsRow base e size v n xs) : w'.ownsRow base e size v n xs := by
  obtain ⟨hl, h'⟩ := ho
  refine ⟨hl, ?_⟩
  rcases h' with h1 | ⟨g', cap', cur, hv, h1, hg', h2⟩
  · exact .inl h1
  · exact .inr ⟨g', cap', cur, hv, h1, (h.block g' (blk_lt hg')).trans hg', h2⟩
end Go.Proofs.YtgbcchiheddfpaaGreatDoor
namespace Go.Proofs.YtgbcchiheddfpaaGreatDoor
open Go.ChangeShapes Go.WideShapes Go.ChangeAt Go.RowKit Go.Shelf

structure PF where
  kind : Nat
  lists : Nat
  ref : Nat
  name : Nat
  dflt : Nat
structure Plan where
  enums : List Nat
  structs : List (List PF)
  root : Nat
  tree : Bool
structure SFld where
  name : ByteArray
  kind : Nat
  ref : Nat
  lists : Nat
  dflt : Nat
structure SRec where
  name : ByteArray
  fields : List SFld
structure SCho where
  name : ByteArray
  names : List ByteArray
structure Sch where
  structs : List SRec
  enums : List SCho
  root : Nat
def enumName (i : Nat) : ByteArray := ⟨#[69]⟩ ++ strOfNums [97 + (i : Int)]
def valName (k : Nat) : ByteArray := ⟨#[118]⟩ ++ strOfNums [97 + (k : Int) % 26, 97 + (k : Int) / 26]
def recName (i : Nat) : ByteArray := ⟨#[83]⟩ ++ strOfNums [97 + (i : Int)]
def labelHeads : List ByteArray := [⟨#[97]⟩, ⟨#[120, 95]⟩, ⟨#[90, 101, 100]⟩, ⟨#[195, 169]⟩, ⟨#[239, 172, 128]⟩, ⟨#[240, 159, 152, 128]⟩, ⟨#[108, 105, 115, 116]⟩, ⟨#[98, 32, 99]⟩, ⟨#[115, 116, 114, 117, 99, 116]⟩, ⟨#[47]⟩]
def headOf (m : Nat) : ByteArray := labelHeads.getD m ⟨#[]⟩
def labelOf (n i : Nat) : ByteArray := headOf (n % 10) ++ strOfNums [97 + (i : Int) % 26]
def cntOf (p : Plan) (e : Nat) : Nat := p.enums.getD e 0 % 32 + 1
def numP (cnt kind n : Nat) : Nat :=
  if kind = 1 then n % 2 else if kind = 10 then n % cnt else
    let m : Nat := if kSize kind < 8 then n % 2 ^ (8 * (kSize kind).toNat) else n
    if kSign kind = true then (sgnOf m (kSize kind)).toNat else m
def isNumP (kind lists : Nat) : Bool := decide (lists = 0) && decide (0 < kSize kind)
def kind0 (p : Plan) (f : PF) : Nat := if f.kind % 13 + 1 = 10 ∧ p.enums.length = 0 then 7 else f.kind % 13 + 1
def ref0 (p : Plan) (f : PF) : Nat := if kind0 p f = 10 then f.ref % p.enums.length else 0
def kindP (p : Plan) (i : Nat) (f : PF) : Nat := if kind0 p f = 13 ∧ p.tree = true ∧ i + 1 = p.structs.length then 11 else kind0 p f
def refP (p : Plan) (i : Nat) (f : PF) : Nat :=
  if kindP p i f = 13 then (if p.tree = true then i + 1 + f.ref % (p.structs.length - i - 1) else f.ref % p.structs.length) else ref0 p f
def fldP (p : Plan) (i k : Nat) (f : PF) : SFld :=
  ⟨labelOf f.name k, kindP p i f, refP p i f, f.lists % 4, if isNumP (kindP p i f) (f.lists % 4) = true then numP (cntOf p (refP p i f)) (kindP p i f) f.dflt else 0⟩
def noPF : PF := ⟨0, 0, 0, 0, 0⟩
def fldsP (p : Plan) (i : Nat) (l : List PF) (n : Nat) : List SFld := (List.range n).map fun k => fldP p i k (l.getD k noPF)
def recP (p : Plan) (i : Nat) : SRec := ⟨recName i, fldsP p i (p.structs.getD i []) (p.structs.getD i []).length⟩
def choP (p : Plan) (i : Nat) : SCho := ⟨enumName i, (List.range (cntOf p i)).map valName⟩
def recsP (p : Plan) (n : Nat) : List SRec := (List.range n).map (recP p)
def chosP (p : Plan) (n : Nat) : List SCho := (List.range n).map (choP p)
def planOk (p : Plan) : Prop := 1 ≤ p.structs.length ∧ p.structs.length ≤ 16 ∧ p.enums.length ≤ 8 ∧ ∀ l ∈ p.structs, 1 ≤ l.length ∧ l.length ≤ 16
theorem fldsP_succ (p : Plan) (i : Nat) (l : List PF) (n : Nat) : fldsP p i l (n + 1) = fldsP p i l n ++ [fldP p i n (l.getD n noPF)] := by simp [fldsP, List.range_succ]
theorem recsP_succ (p : Plan) (n : Nat) : recsP p (n + 1) = recsP p n ++ [recP p n] := by simp [recsP, List.range_succ]
theorem chosP_succ (p : Plan) (n : Nat) : chosP p (n + 1) = chosP p n ++ [choP p n] := by simp [chosP, List.range_succ]
theorem fldsP_length (p : Plan) (i : Nat) (l : List PF) (n : Nat) : (fldsP p i l n).length = n := by simp [fldsP]
theorem recsP_length (p : Plan) (n : Nat) : (recsP p n).length = n := by simp [recsP]
theorem chosP_length (p : Plan) (n : Nat) : (chosP p n).length = n := by simp [chosP]

/-! ### in memory -/
def sfldCells (f : SFld) : List Value := [.string f.name, .int .u8 f.kind, .int .i64 f.ref, .int .i64 f.lists, .int .u64 f.dflt]
def sfldsCells (l : List SFld) : List Value := l.flatMap sfldCells
def strCells (s : ByteArray) : List Value := [.string s]
def strsCells (l : List ByteArray) : List Value := l.flatMap strCells
def srecCells (q : SRec × Value) : List Value := [.string q.1.name, q.2]
def schoCells (q : SCho × Value) : List Value := [.string q.1.name, q.2]
def srecsCells (l : List (SRec × Value)) : List Value := l.flatMap srecCells
def schosCells (l : List (SCho × Value)) : List Value := l.flatMap schoCells
theorem sfldsCells_snoc (l : List SFld) (f : SFld) : sfldsCells (l ++ [f]) = sfldsCells l ++ sfldCells f := by simp [sfldsCells]
theorem strsCells_snoc (l : List ByteArray) (s : ByteArray) : strsCells (l ++ [s]) = strsCells l ++ strCells s := by simp [strsCells]
theorem srecsCells_snoc (l : List (SRec × Value)) (q : SRec × Value) : srecsCells (l ++ [q]) = srecsCells l ++ srecCells q := by simp [srecsCells]
theorem schosCells_snoc (l : List (SCho × Value)) (q : SCho × Value) : schosCells (l ++ [q]) = schosCells l ++ schoCells q := by simp [schosCells]
theorem sfld_info : (Tryz.prog.info? 64).map (fun i => (i.zero, i.size, i.bytes)) = some (some (.agg #[.string ⟨#[]⟩, .int .u8 0, .int .i64 0, .int .i64 0, .int .u64 0]), 5, 48) := by kernel_rfl
theorem str_info : (Tryz.prog.info? 9).map (fun i => (i.zero, i.size, i.bytes)) = some (some (.string ⟨#[]⟩), 1, 16) := by kernel_rfl
theorem srec_info : (Tryz.prog.info? 67).map (fun i => (i.zero, i.size, i.bytes)) = some (some (.agg #[.string ⟨#[]⟩, .slice none 0 0]), 2, 40) := by kernel_rfl
theorem scho_info : (Tryz.prog.info? 74).map (fun i => (i.zero, i.size, i.bytes)) = some (some (.agg #[.string ⟨#[]⟩, .slice none 0 0]), 2, 40) := by kernel_rfl
structure SchRows (base : Nat) (W : World) (ss : List (SRec × Value)) (es : List (SCho × Value)) (sv ev : Value) : Prop where
  structs : W.ownsRow base 67 2 sv ss.length (srecsCells ss)
  enums : W.ownsRow base 74 2 ev es.length (schosCells es)
  fields : ∀ q ∈ ss, W.ownsRow base 64 5 q.2 q.1.fields.length (sfldsCells q.1.fields)
  names : ∀ q ∈ es, W.ownsRow base 9 1 q.2 q.1.names.length (strsCells q.1.names)
theorem SchRows.below {base : Nat} {W W' : World} {ss : List (SRec × Value)} {es : List (SCho × Value)} {sv ev : Value} (h : SchRows base W ss es sv ev) (hb : Below W.heap.size W W') : SchRows base W' ss es sv ev :=
  ⟨row_keep hb h.structs, row_keep hb h.enums, fun q hq => row_keep hb (h.fields q hq), fun q hq => row_keep hb (h.names q hq)⟩
theorem SchRows.base {base base' : Nat} {W : World} {ss : List (SRec × Value)} {es : List (SCho × Value)} {sv ev : Value} (h : SchRows base W ss es sv ev) (hb : base' ≤ base) : SchRows base' W ss es sv ev :=
  ⟨ownsRow_base h.structs hb, ownsRow_base h.enums hb, fun q hq => ownsRow_base (h.fields q hq) hb, fun q hq => ownsRow_base (h.names q hq) hb⟩
theorem SchRows.forms {base : Nat} {W : World} {ss : List (SRec × Value)} {es : List (SCho × Value)} {sv ev : Value} (h : SchRows base W ss es sv ev) : ∃ sa sc ea ec, sv = .slice sa ss.length sc ∧ ev = .slice ea es.length ec := by
  obtain ⟨sa, sc, h1⟩ := ownsRow_form h.structs
  obtain ⟨ea, ec, h2⟩ := ownsRow_form h.enums
  exact ⟨sa, sc, ea, ec, h1, h2⟩
theorem SchRows.strct {base : Nat} {W : World} {ss : List (SRec × Value)} {es : List (SCho × Value)} {sv ev : Value} (h : SchRows base W ss es sv ev) (k : Nat) (hk : k < ss.length) :
    ∃ g c a n, sv = .slice (some ⟨g, 0, none⟩) ss.length c ∧ ss.length ≤ c ∧ g < W.heap.size ∧ W.cell? ⟨g, k * 2, none⟩ = some (.string ss[k].1.name) ∧ W.cell? ⟨g, k * 2 + 1, none⟩ = some (.slice a ss[k].1.fields.length n) ∧ ss[k].2 = .slice a ss[k].1.fields.length n := by
  obtain ⟨g, c, hv, hc, hg, hcell⟩ := row_el srecCells 2 (fun _ => rfl) h.structs k hk
  obtain ⟨a, n, hf⟩ := ownsRow_form (h.fields _ (List.getElem_mem hk))
  exact ⟨g, c, a, n, hv, hc, hg, hcell 0 (by omega), by rw [hcell 1 (by omega), ← hf]; rfl, hf⟩
theorem SchRows.enum {base : Nat} {W : World} {ss : List (SRec × Value)} {es : List (SCho × Value)} {sv ev : Value} (h : SchRows base W ss es sv ev) (k : Nat) (hk : k < es.length) :
    ∃ g c a n, ev = .slice (some ⟨g, 0, none⟩) es.length c ∧ es.length ≤ c ∧ g < W.heap.size ∧ W.cell? ⟨g, k * 2, none⟩ = some (.string es[k].1.name) ∧ W.cell? ⟨g, k * 2 + 1, none⟩ = some (.slice a es[k].1.names.length n) ∧ es[k].2 = .slice a es[k].1.names.length n := by
  obtain ⟨g, c, hv, hc, hg, hcell⟩ := row_el schoCells 2 (fun _ => rfl) h.enums k hk
  obtain ⟨a, n, hf⟩ := ownsRow_form (h.names _ (List.getElem_mem hk))
  exact ⟨g, c, a, n, hv, hc, hg, hcell 0 (by omega), by rw [hcell 1 (by omega), ← hf]; rfl, hf⟩
theorem SchRows.field {base : Nat} {W : World} {ss : List (SRec × Value)} {es : List (SCho × Value)} {sv ev : Value} (h : SchRows base W ss es sv ev) (k : Nat) (hk : k < ss.length) (j : Nat) (hj : j < ss[k].1.fields.length) :
    ∃ g c, ss[k].2 = .slice (some ⟨g, 0, none⟩) ss[k].1.fields.length c ∧ ss[k].1.fields.length ≤ c ∧ g < W.heap.size ∧ W.cell? ⟨g, j * 5, none⟩ = some (.string ss[k].1.fields[j].name) ∧ W.cell? ⟨g, j * 5 + 1, none⟩ = some (.int .u8 (ss[k].1.fields[j].kind : Nat)) ∧ W.cell? ⟨g, j * 5 + 2, none⟩ = some (.int .i64 (ss[k].1.fields[j].ref : Nat)) ∧ W.cell? ⟨g, j * 5 + 3, none⟩ = some (.int .i64 (ss[k].1.fields[j].lists : Nat)) ∧ W.cell? ⟨g, j * 5 + 4, none⟩ = some (.int .u64 (ss[k].1.fields[j].dflt : Nat)) := by
  obtain ⟨g, c, hv, hc, hg, hcell⟩ := row_el sfldCells 5 (fun _ => rfl) (h.fields _ (List.getElem_mem hk)) j hj
  exact ⟨g, c, hv, hc, hg, hcell 0 (by omega), hcell 1 (by omega), hcell 2 (by omega), hcell 3 (by omega), hcell 4 (by omega)⟩
theorem SchRows.name {base : Nat} {W : World} {ss : List (SRec × Value)} {es : List (SCho × Value)} {sv ev : Value} (h : SchRows base W ss es sv ev) (k : Nat) (hk : k < es.length) (j : Nat) (hj : j < es[k].1.names.length) :
    ∃ g c, es[k].2 = .slice (some ⟨g, 0, none⟩) es[k].1.names.length c ∧ es[k].1.names.length ≤ c ∧ g < W.heap.size ∧ W.cell? ⟨g, j, none⟩ = some (.string es[k].1.names[j]) := by
  obtain ⟨g, c, hv, hc, hg, hcell⟩ := row_el strCells 1 (fun _ => rfl) (h.names _ (List.getElem_mem hk)) j hj
  have h0 := hcell 0 (by omega)
  rw [Nat.mul_one, Nat.add_zero] at h0
  exact ⟨g, c, hv, hc, hg, h0⟩
structure IsPlan (w : World) (p : Plan) (a0 : Option Addr) (n0 c0 : Nat) (a1 : Option Addr) (n1 c1 : Nat) : Prop where
  e_len : p.enums.length = n0
  s_len : p.structs.length = n1
  e_cap : n0 ≤ c0 ∧ c0 ≤ maxLen
  s_cap : n1 ≤ c1 ∧ c1 ≤ maxLen
  rt : p.root ≤ 255
  e_at : ∀ j, j < n0 → p.enums.getD j 0 ≤ 255 ∧ ∃ b off, a0 = some ⟨b, off, none⟩ ∧ b < w.heap.size ∧ w.cell? ⟨b, off + j, none⟩ = some (.int .u8 (p.enums.getD j 0 : Nat))
  s_at : ∀ r, r < n1 → ∃ b off a n c, a1 = some ⟨b, off, none⟩ ∧ b < w.heap.size ∧ w.cell? ⟨b, off + r, none⟩ = some (.slice a n c) ∧ (p.structs.getD r []).length = n ∧ n ≤ c ∧ c ≤ maxLen ∧
    ∀ k, k < n → ∃ b' off' f, (p.structs.getD r []).getD k noPF = f ∧ a = some ⟨b', off', none⟩ ∧ b' < w.heap.size ∧ w.cell? ⟨b', off' + k * 5, none⟩ = some (.int .u8 (f.kind : Nat)) ∧ w.cell? ⟨b', off' + k * 5 + 1, none⟩ = some (.int .u8 (f.lists : Nat)) ∧ w.cell? ⟨b', off' + k * 5 + 2, none⟩ = some (.int .u8 (f.ref : Nat)) ∧ w.cell? ⟨b', off' + k * 5 + 3, none⟩ = some (.int .u8 (f.name : Nat)) ∧ w.cell? ⟨b', off' + k * 5 + 4, none⟩ = some (.int .u64 (f.dflt : Nat)) ∧
      f.kind ≤ 255 ∧ f.lists ≤ 255 ∧ f.ref ≤ 255 ∧ f.name ≤ 255 ∧ (f.dflt : Int) ≤ 18446744073709551615
end Go.Proofs.YtgbcchiheddfpaaGreatDoor
namespace Go.Proofs.YtgbcchiheddfpaaGreatDoor
open Go.ChangeShapes Go.WideShapes Go.ChangeAt Go.RowKit Go.Shelf

def i64Cell (z : Int) : List Value := [.int .i64 z]
def i64Cells (l : List Int) : List Value := l.flatMap i64Cell
theorem i64Cells_map (l : List Int) : i64Cells l = l.map (Value.int .i64) := by
  induction l with
  | nil => rfl
  | cons a r ih => rw [List.map_cons, ← ih]; rfl
end Go.Proofs.YtgbcchiheddfpaaGreatDoor
