/-
  Spans, plain: what stands in a struct, in words, in a table, in a row, stands apart from all else. No run of the program stands in this text. Conditions: those that each theorem names.
-/
import Derived.Test.YtdlfndjgncdgfaaDoorLayTP
import Derived.Test.YtdlfndjgncdgfaaDoorLayRP
namespace Go.Proofs.YtdlfndjgncdgfaaDoor
open Go.ChangeShapes Go.WideShapes Go.ChangeAt Go.RowKit Go.Shelf

theorem getD_set_at (pl : List Int) (k i : Nat) (p : Int) (hk : k < pl.length) : (pl.set k p).getD i 0 = if k = i then p else pl.getD i 0 := by
  simp only [List.getD, List.getElem?_set]
  by_cases h : k = i
  · subst h
    simp [hk]
  · simp [h]
/-- Those of S stand between lo and cur, apart; where al, at multiples of their widths; where cv, nothing between is free. -/
structure Spans (pl : List Int) (W : Nat → Int) (S : Nat → Prop) (lo cur : Int) (al cv : Prop) : Prop where
  inn : ∀ i, S i → i < pl.length ∧ lo ≤ pl.getD i 0 ∧ pl.getD i 0 + W i ≤ cur
  apart : ∀ i j, S i → S j → i ≠ j → pl.getD i 0 + W i ≤ pl.getD j 0 ∨ pl.getD j 0 + W j ≤ pl.getD i 0
  mult : al → ∀ i, S i → pl.getD i 0 % W i = 0
  cover : cv → ∀ c, lo ≤ c → c < cur → ∃ i, S i ∧ pl.getD i 0 ≤ c ∧ c < pl.getD i 0 + W i
theorem Spans.put {pl : List Int} {W : Nat → Int} {S : Nat → Prop} {lo cur : Int} {al cv : Prop} (h : Spans pl W S lo cur al cv) (k : Nat) (p : Int) (hk : k < pl.length) (hS : ¬ S k) (hp : cur ≤ p) (hlo : lo ≤ p) (hw : 0 ≤ W k) (hm : al → p % W k = 0) (hc : cv → p = cur) :
    Spans (pl.set k p) W (fun i => S i ∨ i = k) lo (p + W k) al cv := by
  have hne : ∀ i, S i → ¬ k = i := fun i hi e => hS (e ▸ hi)
  refine ⟨?_, ?_, ?_, ?_⟩
  · intro i hi
    rw [getD_set_at pl k i p hk, List.length_set]
    rcases hi with hi | rfl
    · rw [if_neg (hne i hi)]
      have := h.inn i hi
      exact ⟨this.1, this.2.1, by omega⟩
    · rw [if_pos rfl]
      exact ⟨hk, hlo, Int.le_refl _⟩
  · intro i j hi hj hij
    rw [getD_set_at pl k i p hk, getD_set_at pl k j p hk]
    rcases hi with hi | rfl
    · rw [if_neg (hne i hi)]
      rcases hj with hj | rfl
      · rw [if_neg (hne j hj)]
        exact h.apart i j hi hj hij
      · rw [if_pos rfl]
        have := (h.inn i hi).2.2
        exact .inl (by omega)
    · rw [if_pos rfl]
      rcases hj with hj | rfl
      · rw [if_neg (hne j hj)]
        have := (h.inn j hj).2.2
        exact .inr (by omega)
      · exact absurd rfl hij
  · intro ha i hi
    rw [getD_set_at pl k i p hk]
    rcases hi with hi | rfl
    · rw [if_neg (hne i hi)]
      exact h.mult ha i hi
    · rw [if_pos rfl]
      exact hm ha
  · intro hv c h1 h2
    have hpc := hc hv
    by_cases hcc : c < cur
    · obtain ⟨i, hi, h3, h4⟩ := h.cover hv c h1 hcc
      refine ⟨i, .inl hi, ?_⟩
      rw [getD_set_at pl k i p hk, if_neg (hne i hi)]
      exact ⟨h3, h4⟩
    · refine ⟨k, .inr rfl, ?_⟩
      rw [getD_set_at pl k k p hk, if_pos rfl]
      omega
theorem Spans.same {pl : List Int} {W : Nat → Int} {S S' : Nat → Prop} {lo cur : Int} {al cv : Prop} (h : Spans pl W S lo cur al cv) (hS : ∀ i, S' i ↔ S i) : Spans pl W S' lo cur al cv := by
  refine ⟨fun i hi => h.inn i ((hS i).1 hi), fun i j hi hj => h.apart i j ((hS i).1 hi) ((hS j).1 hj), fun ha i hi => h.mult ha i ((hS i).1 hi), fun hv c h1 h2 => ?_⟩
  obtain ⟨i, hi, h3⟩ := h.cover hv c h1 h2
  exact ⟨i, (hS i).2 hi, h3⟩
theorem spans_nil (pl : List Int) (W : Nat → Int) (S : Nat → Prop) (lo : Int) (al cv : Prop) (hS : ∀ i, ¬ S i) : Spans pl W S lo lo al cv :=
  ⟨fun i hi => absurd hi (hS i), fun i _ hi => absurd hi (hS i), fun _ i hi => absurd hi (hS i), fun _ c h1 h2 => absurd h1 (by omega)⟩
/-! ### in words -/
def numF (f : SFld) : Prop := isNumP f.kind f.lists = true
def fldAt (fs : List SFld) (i : Nat) : SFld := fs.getD i noSF
def fwAt (fs : List SFld) (i : Nat) : Int := fwI (fldAt fs i)
theorem wUp_spans (z : Int) (hz : 0 < z) (fs : List SFld) (s : List Int × Int) (S : Nat → Prop) (hl : s.1.length = fs.length) (h : Spans s.1 (fwAt fs) S 0 s.2 True False) (h0 : 0 ≤ s.2) (hm : s.2 % z = 0) (hS : ∀ i, S i → fwAt fs i ≠ z) :
    ∀ k, k ≤ fs.length → Spans (wUpTo z fs s k).1 (fwAt fs) (fun i => S i ∨ (i < k ∧ fwAt fs i = z)) 0 (wUpTo z fs s k).2 True False ∧ (wUpTo z fs s k).2 % z = 0 ∧ 0 ≤ (wUpTo z fs s k).2
  | 0, _ => ⟨h.same (fun i => ⟨fun hi => by rcases hi with hi | hi; exact hi; exact absurd hi.1 (Nat.not_lt_zero _), fun hi => .inl hi⟩), hm, h0⟩
  | k + 1, hk => by
    obtain ⟨ih, ihm, ih0⟩ := wUp_spans z hz fs s S hl h h0 hm hS k (by omega)
    have hlen := wUpTo_len z fs s k
    unfold wUpTo
    split
    · rename_i he
      have he' : fwAt fs k = z := he
      refine ⟨?_, ?_, ?_⟩
      · have hp := ih.put k (wUpTo z fs s k).2 (by omega) (fun hc => by rcases hc with hc | hc; exact hS k hc he'; exact absurd hc.1 (Nat.lt_irrefl _)) (Int.le_refl _) ih0 (by omega) (fun _ => by rw [he']; exact ihm) (fun hf => hf.elim)
        rw [he'] at hp
        refine hp.same (fun i => ⟨fun hi => ?_, fun hi => ?_⟩)
        · rcases hi with hi | ⟨hi, h2⟩
          · exact .inl (.inl hi)
          · by_cases e : i = k
            · exact .inr e
            · exact .inl (.inr ⟨by omega, h2⟩)
        · rcases hi with (hi | ⟨hi, h2⟩) | rfl
          · exact .inl hi
          · exact .inr ⟨by omega, h2⟩
          · exact .inr ⟨by omega, he'⟩
      · show ((wUpTo z fs s k).2 + z) % z = 0
        rw [Int.add_emod_right]
        exact ihm
      · simp only
        omega
    · rename_i he
      have he' : ¬ fwAt fs k = z := he
      refine ⟨ih.same (fun i => ⟨fun hi => ?_, fun hi => ?_⟩), ihm, ih0⟩
      · rcases hi with hi | ⟨hi, h2⟩
        · exact .inl hi
        · by_cases e : i = k
          · exact absurd (e ▸ h2) he'
          · exact .inr ⟨by omega, h2⟩
      · rcases hi with hi | ⟨hi, h2⟩
        · exact .inl hi
        · exact .inr ⟨by omega, h2⟩
theorem widths_at (z : Nat) (h : z < 5) : (z = 0 ∧ widthsL.getD z 0 = 64) ∨ (z = 1 ∧ widthsL.getD z 0 = 32) ∨ (z = 2 ∧ widthsL.getD z 0 = 16) ∨ (z = 3 ∧ widthsL.getD z 0 = 8) ∨ (z = 4 ∧ widthsL.getD z 0 = 1) := by
  have : z = 0 ∨ z = 1 ∨ z = 2 ∨ z = 3 ∨ z = 4 := by omega
  rcases this with rfl | rfl | rfl | rfl | rfl <;> decide
theorem w_spans (fs : List SFld) : ∀ z, z ≤ 5 → Spans (wAll fs z).1 (fwAt fs) (fun i => i < fs.length ∧ ∃ y, y < z ∧ fwAt fs i = widthsL.getD y 0) 0 (wAll fs z).2 True False ∧ 0 ≤ (wAll fs z).2 ∧ ∀ y, z ≤ y → y < 5 → (wAll fs z).2 % widthsL.getD y 0 = 0
  | 0, _ => ⟨spans_nil _ _ _ _ _ _ (fun i hi => by obtain ⟨_, y, hy, _⟩ := hi; omega), Int.le_refl _, fun y _ _ => by show (0 : Int) % _ = 0; exact Int.zero_emod _⟩
  | z + 1, hz => by
    obtain ⟨ih, ih0, ihm⟩ := w_spans fs z (by omega)
    have hw := widths_bd z (by omega)
    obtain ⟨h1, h2, h3⟩ := wUp_spans (widthsL.getD z 0) (by omega) fs (wAll fs z) _ (wAll_len fs z) ih ih0 (ihm z (Nat.le_refl _) (by omega)) (fun i hi e => by
      obtain ⟨_, y, hy, hf⟩ := hi
      have hzz := widths_at z (by omega)
      have hyy := widths_at y (by omega)
      omega) fs.length (Nat.le_refl _)
    unfold wAll
    refine ⟨h1.same (fun i => ⟨fun hi => ?_, fun hi => ?_⟩), h3, fun y hy hy5 => ?_⟩
    · obtain ⟨hi, y, hy, hf⟩ := hi
      by_cases e : y = z
      · exact .inr ⟨hi, e ▸ hf⟩
      · exact .inl ⟨hi, y, by omega, hf⟩
    · rcases hi with ⟨hi, y, hy, hf⟩ | ⟨hi, hf⟩
      · exact ⟨hi, y, by omega, hf⟩
      · exact ⟨hi, z, by omega, hf⟩
    · have hzz := widths_at z (by omega)
      have hyy := widths_at y hy5
      generalize (wUpTo (widthsL.getD z 0) fs (wAll fs z) fs.length).2 = c at *
      rcases hzz with ⟨e, q⟩ | ⟨e, q⟩ | ⟨e, q⟩ | ⟨e, q⟩ | ⟨e, q⟩ <;> rcases hyy with ⟨e2, q2⟩ | ⟨e2, q2⟩ | ⟨e2, q2⟩ | ⟨e2, q2⟩ | ⟨e2, q2⟩ <;> rw [q2] <;> rw [q] at h2 <;> omega
theorem fwI_is (f : SFld) (h : numF f) : 0 < kSize f.kind ∧ fwI f = bitsK f.kind ∧ ∃ y, y < 5 ∧ fwI f = widthsL.getD y 0 := by
  have hk : 0 < kSize f.kind := by
    unfold numF isNumP at h
    simp only [Bool.and_eq_true, decide_eq_true_eq] at h
    exact h.2
  have he : fwI f = bitsK f.kind := if_pos h
  refine ⟨hk, he, ?_⟩
  rw [he]
  generalize (f.kind : Int) = k at *
  unfold bitsK
  unfold kSize at *
  by_cases a1 : k = 1
  · exact ⟨4, by omega, by rw [if_pos a1]; rfl⟩
  by_cases a10 : k = 10
  · exact ⟨2, by omega, by rw [if_neg a1, if_pos a10]; rfl⟩
  rw [if_neg a1, if_neg a10]
  split
  · exact ⟨3, by omega, rfl⟩
  split
  · exact ⟨2, by omega, rfl⟩
  split
  · exact ⟨1, by omega, rfl⟩
  split
  · exact ⟨0, by omega, rfl⟩
  · rename_i q1 q2 q3 q4
    rw [if_neg q1, if_neg q2, if_neg q3, if_neg q4] at hk
    exact absurd hk (by decide)
theorem fwI_no (f : SFld) (h : ¬ numF f) : fwI f = 0 := if_neg h
/-- The numbers. -/
theorem words_spans (fs : List SFld) : Spans (wAll fs 5).1 (fwAt fs) (fun i => i < fs.length ∧ numF (fldAt fs i)) 0 (wAll fs 5).2 True False ∧ 0 ≤ (wAll fs 5).2 := by
  obtain ⟨h1, h2, _⟩ := w_spans fs 5 (Nat.le_refl _)
  refine ⟨h1.same (fun i => ⟨fun hi => ⟨hi.1, (fwI_is _ hi.2).2.2⟩, fun hi => ⟨hi.1, ?_⟩⟩), h2⟩
  obtain ⟨_, y, hy, hf⟩ := hi
  by_cases hn : numF (fldAt fs i)
  · exact hn
  · have h0 := fwI_no _ hn
    have hb := widths_bd y hy
    unfold fwAt at hf
    omega
theorem p_spans (fs : List SFld) (s : List Int × Int) (hl : s.1.length = fs.length) (h0 : s.2 = 0) : ∀ k, k ≤ fs.length →
    Spans (pUpTo fs s k).1 (fun _ => 1) (fun i => i < k ∧ ¬ numF (fldAt fs i)) 0 (pUpTo fs s k).2 True True ∧ 0 ≤ (pUpTo fs s k).2 ∧ (∀ i, numF (fldAt fs i) ∨ k ≤ i → (pUpTo fs s k).1.getD i 0 = s.1.getD i 0)
  | 0, _ => by
    refine ⟨?_, ?_, fun i _ => rfl⟩
    · show Spans s.1 _ _ 0 s.2 True True
      rw [h0]
      exact spans_nil _ _ _ _ _ _ (fun i hi => absurd hi.1 (Nat.not_lt_zero _))
    · show 0 ≤ s.2
      omega
  | k + 1, hk => by
    obtain ⟨ih, ih0, ihk⟩ := p_spans fs s hl h0 k (by omega)
    have hlen := pUpTo_len fs s k
    unfold pUpTo
    split
    · rename_i he
      have he' : numF (fldAt fs k) := he
      refine ⟨ih.same (fun i => ⟨fun hi => ⟨?_, hi.2⟩, fun hi => ⟨by omega, hi.2⟩⟩), ih0, fun i hi => ihk i (by rcases hi with hi | hi; exact .inl hi; exact .inr (by omega))⟩
      have : i ≠ k := fun e => hi.2 (e ▸ he')
      omega
    · rename_i he
      have he' : ¬ numF (fldAt fs k) := he
      refine ⟨?_, ?_, ?_⟩
      · have hp := ih.put k (pUpTo fs s k).2 (by omega) (fun hc => absurd hc.1 (Nat.lt_irrefl _)) (Int.le_refl _) ih0 (by omega) (fun _ => Int.emod_one _) (fun _ => rfl)
        refine hp.same (fun i => ⟨fun hi => ?_, fun hi => ?_⟩)
        · by_cases e : i = k
          · exact .inr e
          · exact .inl ⟨by omega, hi.2⟩
        · rcases hi with hi | rfl
          · exact ⟨by omega, hi.2⟩
          · exact ⟨by omega, he'⟩
      · simp only
        omega
      · intro i hi
        simp only
        rw [getD_set_at _ k i _ (by omega)]
        have hne : ¬ k = i := by
          rintro rfl
          rcases hi with hi | hi
          · exact he' hi
          · omega
        rw [if_neg hne]
        exact ihk i (by rcases hi with hi | hi; exact .inl hi; exact .inr (by omega))
theorem at_num (fs : List SFld) (i : Nat) (h : numF (fldAt fs i)) : (atP fs).getD i 0 = (wAll fs 5).1.getD i 0 :=
  (p_spans fs ((wAll fs 5).1, 0) (wAll_len fs 5) rfl fs.length (Nat.le_refl _)).2.2 i (.inl h)
theorem at_spans (fs : List SFld) : Spans (atP fs) (fwAt fs) (fun i => i < fs.length ∧ numF (fldAt fs i)) 0 (64 * wordsP fs) True False := by
  obtain ⟨h, h0⟩ := words_spans fs
  have hc : (wAll fs 5).2 ≤ 64 * wordsP fs := by unfold wordsP; omega
  refine ⟨fun i hi => ?_, fun i j hi hj hij => ?_, fun ha i hi => ?_, fun hf => hf.elim⟩
  · rw [at_num fs i hi.2, atP_len]
    have := h.inn i hi
    exact ⟨hi.1, this.2.1, by omega⟩
  · rw [at_num fs i hi.2, at_num fs j hj.2]
    exact h.apart i j hi hj hij
  · rw [at_num fs i hi.2]
    exact h.mult ha i hi
theorem ptr_spans (fs : List SFld) : Spans (atP fs) (fun _ => 1) (fun i => i < fs.length ∧ ¬ numF (fldAt fs i)) 0 (ptrsP fs) True True ∧ 0 ≤ ptrsP fs :=
  ⟨(p_spans fs ((wAll fs 5).1, 0) (wAll_len fs 5) rfl fs.length (Nat.le_refl _)).1, (p_spans fs ((wAll fs 5).1, 0) (wAll_len fs 5) rfl fs.length (Nat.le_refl _)).2.1⟩
/-! ### in a row -/
def ksAt (fs : List SFld) (i : Nat) : Int := inlP (fldAt fs i)
theorem row_spans (fs : List SFld) : ∀ k, k ≤ fs.length → Spans (rowUp fs k).pl (ksAt fs) (fun i => i < k ∧ numF (fldAt fs i)) 0 (rowUp fs k).size False True
  | 0, _ => spans_nil _ _ _ _ _ _ (fun i hi => absurd hi.1 (Nat.not_lt_zero _))
  | k + 1, hk => by
    have ih := row_spans fs k (by omega)
    obtain ⟨hl, h0, _⟩ := rowUp_facts fs k
    have keep : ¬ numF (fldAt fs k) → Spans (rowUp fs k).pl (ksAt fs) (fun i => i < k + 1 ∧ numF (fldAt fs i)) 0 (rowUp fs k).size False True := fun he => by
      refine ih.same (fun i => ⟨fun hi => ⟨?_, hi.2⟩, fun hi => ⟨by omega, hi.2⟩⟩)
      have : i ≠ k := fun e => he (e ▸ hi.2)
      omega
    unfold rowUp rowStep
    split
    · rename_i he
      have he' : numF (fldAt fs k) := he
      have hks : ksAt fs k = kSize (fldAt fs k).kind := if_pos he
      have hb := kSize_bd ((fldAt fs k).kind : Int)
      have hp := ih.put k (rowUp fs k).size (by omega) (fun hc => absurd hc.1 (Nat.lt_irrefl _)) (Int.le_refl _) h0 (by omega) (fun hf => hf.elim) (fun _ => rfl)
      rw [hks] at hp
      refine hp.same (fun i => ⟨fun hi => ?_, fun hi => ?_⟩)
      · by_cases e : i = k
        · exact .inr e
        · exact .inl ⟨by omega, hi.2⟩
      · rcases hi with hi | rfl
        · exact ⟨by omega, hi.2⟩
        · exact ⟨by omega, he'⟩
    · rename_i he
      split
      · exact keep he
      · exact keep he
/-! ### in a table -/
def thAt (th : List Bool) (i : Nat) : Prop := th.getD i false = true
theorem mult_zero {n z : Int} (hz : z = 8 ∨ z = 4 ∨ z = 2 ∨ z = 1) : multI n z % z = 0 := by
  unfold multI
  rcases hz with rfl | rfl | rfl | rfl <;> omega
theorem tabUp_spans {z : Int} (hz : z = 8 ∨ z = 4 ∨ z = 2 ∨ z = 1) (fs : List SFld) (th : List Bool) (s : TabSt) (S : Nat → Prop) (hl : s.pl.length = fs.length) (h : Spans s.pl (ksAt fs) S 4 s.size True False) (h4 : 4 ≤ s.size) (hS : ∀ i, S i → ksAt fs i ≠ z) :
    ∀ k, k ≤ fs.length → Spans (tabUp z fs th s k).pl (ksAt fs) (fun i => S i ∨ (i < k ∧ thAt th i ∧ ksAt fs i = z)) 4 (tabUp z fs th s k).size True False ∧ (tabUp z fs th s k).pl.length = fs.length ∧ 4 ≤ (tabUp z fs th s k).size
  | 0, _ => ⟨h.same (fun i => ⟨fun hi => by rcases hi with hi | hi; exact hi; exact absurd hi.1 (Nat.not_lt_zero _), fun hi => .inl hi⟩), hl, h4⟩
  | k + 1, hk => by
    obtain ⟨ih, ihl, ih4⟩ := tabUp_spans hz fs th s S hl h h4 hS k (by omega)
    have hm := mult_bd hz (show 0 ≤ (tabUp z fs th s k).size by omega)
    unfold tabUp tabStep
    split
    · rename_i he
      have he' : ksAt fs k = z := he.2
      refine ⟨?_, by simp only [List.length_set]; exact ihl, by simp only; omega⟩
      have hp := ih.put k (multI (tabUp z fs th s k).size z) (by omega) (fun hc => by rcases hc with hc | hc; exact hS k hc he'; exact absurd hc.1 (Nat.lt_irrefl _)) hm.1 (by omega) (by omega) (fun _ => by rw [he']; exact mult_zero hz) (fun hf => hf.elim)
      rw [he'] at hp
      refine hp.same (fun i => ⟨fun hi => ?_, fun hi => ?_⟩)
      · rcases hi with hi | ⟨hi, h2⟩
        · exact .inl (.inl hi)
        · by_cases e : i = k
          · exact .inr e
          · exact .inl (.inr ⟨by omega, h2⟩)
      · rcases hi with (hi | ⟨hi, h2⟩) | rfl
        · exact .inl hi
        · exact .inr ⟨by omega, h2⟩
        · exact .inr ⟨by omega, he.1, he'⟩
    · rename_i he
      refine ⟨ih.same (fun i => ⟨fun hi => ?_, fun hi => ?_⟩), ihl, ih4⟩
      · rcases hi with hi | ⟨hi, h2⟩
        · exact .inl hi
        · by_cases e : i = k
          · subst e
            exact absurd h2 he
          · exact .inr ⟨by omega, h2⟩
      · rcases hi with hi | ⟨hi, h2⟩
        · exact .inl hi
        · exact .inr ⟨by omega, h2⟩
theorem inlP_is (f : SFld) : ∃ y, y < 4 ∧ inlP f = inlinesL.getD y 0 := by
  unfold inlP
  split
  · rename_i h
    have hk : 0 < kSize f.kind := by
      unfold isNumP at h
      simp only [Bool.and_eq_true, decide_eq_true_eq] at h
      exact h.2
    generalize (f.kind : Int) = k at *
    unfold kSize at *
    split
    · exact ⟨3, by omega, rfl⟩
    split
    · exact ⟨2, by omega, rfl⟩
    split
    · exact ⟨1, by omega, rfl⟩
    split
    · exact ⟨0, by omega, rfl⟩
    · rename_i q1 q2 q3 q4
      rw [if_neg q1, if_neg q2, if_neg q3, if_neg q4] at hk
      exact absurd hk (by decide)
  · exact ⟨1, by omega, rfl⟩
theorem inlines_at (z : Nat) (h : z < 4) : (z = 0 ∧ inlinesL.getD z 0 = 8) ∨ (z = 1 ∧ inlinesL.getD z 0 = 4) ∨ (z = 2 ∧ inlinesL.getD z 0 = 2) ∨ (z = 3 ∧ inlinesL.getD z 0 = 1) := by
  have : z = 0 ∨ z = 1 ∨ z = 2 ∨ z = 3 := by omega
  rcases this with rfl | rfl | rfl | rfl <;> decide
theorem t_spans (fs : List SFld) (th : List Bool) : ∀ z, z ≤ 4 → Spans (tabAll fs th z).pl (ksAt fs) (fun i => i < fs.length ∧ thAt th i ∧ ∃ y, y < z ∧ ksAt fs i = inlinesL.getD y 0) 4 (tabAll fs th z).size True False ∧ (tabAll fs th z).pl.length = fs.length ∧ 4 ≤ (tabAll fs th z).size
  | 0, _ => ⟨spans_nil _ _ _ _ _ _ (fun i hi => by obtain ⟨_, _, y, hy, _⟩ := hi; omega), by simp [tabAll], Int.le_refl _⟩
  | z + 1, hz => by
    obtain ⟨ih, ihl, ih4⟩ := t_spans fs th z (by omega)
    obtain ⟨h1, h2, h3⟩ := tabUp_spans (inlines_is z (by omega)) fs th (tabAll fs th z) _ ihl ih ih4 (fun i hi e => by
      obtain ⟨_, _, y, hy, hf⟩ := hi
      have hzz := inlines_at z (by omega)
      have hyy := inlines_at y (by omega)
      omega) fs.length (Nat.le_refl _)
    unfold tabAll
    refine ⟨h1.same (fun i => ⟨fun hi => ?_, fun hi => ?_⟩), h2, h3⟩
    · obtain ⟨hi, ht, y, hy, hf⟩ := hi
      by_cases e : y = z
      · exact .inr ⟨hi, ht, e ▸ hf⟩
      · exact .inl ⟨hi, ht, y, by omega, hf⟩
    · rcases hi with ⟨hi, ht, y, hy, hf⟩ | ⟨hi, ht, hf⟩
      · exact ⟨hi, ht, y, by omega, hf⟩
      · exact ⟨hi, ht, z, by omega, hf⟩
theorem tab_spans (fs : List SFld) (th : List Bool) : Spans (tabAll fs th 4).pl (ksAt fs) (fun i => i < fs.length ∧ thAt th i) 4 (tabAll fs th 4).size True False ∧ 4 ≤ (tabAll fs th 4).size := by
  obtain ⟨h, _, h4⟩ := t_spans fs th 4 (Nat.le_refl _)
  exact ⟨h.same (fun i => ⟨fun hi => ⟨hi.1, hi.2, inlP_is _⟩, fun hi => ⟨hi.1, hi.2.1⟩⟩), h4⟩
/-! ### what is taken -/
def takeL (l : List Bool) (a : Nat) : Nat → List Bool
  | 0 => l
  | k + 1 => (takeL l a k).set (a + k) true
theorem takeL_len (l : List Bool) (a : Nat) : ∀ n, (takeL l a n).length = l.length
  | 0 => rfl
  | n + 1 => by unfold takeL; rw [List.length_set]; exact takeL_len l a n
theorem takeL_get (l : List Bool) (a : Nat) : ∀ n, a + n ≤ l.length → ∀ c, (takeL l a n).getD c false = if a ≤ c ∧ c < a + n then true else l.getD c false
  | 0, _, c => by rw [if_neg (by omega)]; rfl
  | n + 1, h, c => by
    have ih := takeL_get l a n (by omega) c
    have hl := takeL_len l a n
    unfold takeL
    by_cases e : a + n = c
    · subst e
      rw [if_pos (by omega)]
      simp [List.getD, hl, show a + n < l.length by omega]
    · have e2 : ((takeL l a n).set (a + n) true).getD c false = (takeL l a n).getD c false := by
        simp only [List.getD]
        rw [List.getElem?_set_ne e]
      rw [e2, ih]
      by_cases h1 : a ≤ c ∧ c < a + n
      · rw [if_pos h1, if_pos (by omega)]
      · rw [if_neg h1, if_neg (by omega)]
def Marked (l : List Bool) (pl : List Int) (W : Nat → Int) (S : Nat → Prop) : Prop := ∀ c : Nat, c < l.length → (l.getD c false = true ↔ ∃ i, S i ∧ pl.getD i 0 ≤ (c : Int) ∧ (c : Int) < pl.getD i 0 + W i)
theorem mark_nil (n : Nat) (pl : List Int) (W : Nat → Int) (S : Nat → Prop) (hS : ∀ i, ¬ S i) : Marked (List.replicate n false) pl W S := by
  intro c hc
  constructor
  · intro h
    rw [List.length_replicate] at hc
    simp [List.getD, hc] at h
  · rintro ⟨i, hi, _⟩
    exact absurd hi (hS i)
theorem mark_take {l : List Bool} {pl : List Int} {W : Nat → Int} {S F S' : Nat → Prop} {lo cur : Int} {al cv : Prop} (h : Spans pl W F lo cur al cv) (hlo : 0 ≤ lo) (hc : cur ≤ l.length) (hSF : ∀ i, S i → F i) (k : Nat) (hk : F k) (hS : ¬ S k) (hw : 0 ≤ W k) (hm : Marked l pl W S) (hS' : ∀ i, S' i ↔ S i ∨ i = k) :
    ∃ a n : Nat, pl.getD k 0 = a ∧ W k = n ∧ a + n ≤ l.length ∧ (∀ c, a ≤ c → c < a + n → l.getD c false = false) ∧ Marked (takeL l a n) pl W S' := by
  obtain ⟨_, h1, h2⟩ := h.inn k hk
  refine ⟨(pl.getD k 0).toNat, (W k).toNat, by omega, by omega, by omega, ?_, ?_⟩
  · intro c h3 h4
    cases hb : l.getD c false
    · rfl
    · obtain ⟨i, hi, h5, h6⟩ := (hm c (by omega)).1 hb
      have hne : i ≠ k := fun e => hS (e ▸ hi)
      have := h.apart i k (hSF i hi) hk hne
      omega
  · intro c hcl
    rw [takeL_len] at hcl
    rw [takeL_get _ _ _ (by omega)]
    split
    · rename_i hin
      refine ⟨fun _ => ⟨k, (hS' k).2 (.inr rfl), by omega, by omega⟩, fun _ => rfl⟩
    · rename_i hout
      rw [hm c hcl]
      constructor
      · rintro ⟨i, hi, h5⟩
        exact ⟨i, (hS' i).2 (.inl hi), h5⟩
      · rintro ⟨i, hi, h5, h6⟩
        rcases (hS' i).1 hi with hi | rfl
        · exact ⟨i, hi, h5, h6⟩
        · exact absurd ⟨by omega, by omega⟩ hout
theorem mark_all {l : List Bool} {pl : List Int} {W : Nat → Int} {S F : Nat → Prop} {cur : Int} {al cv : Prop} (h : Spans pl W F 0 cur al cv) (hcv : cv) (hc : cur = l.length) (hSF : ∀ i, F i → S i) (hm : Marked l pl W S) : ∀ c, c < l.length → l.getD c false = true := by
  intro c hcl
  obtain ⟨i, hi, h1⟩ := h.cover hcv c (by omega) (by omega)
  exact (hm c hcl).2 ⟨i, hSF i hi, h1⟩
end Go.Proofs.YtdlfndjgncdgfaaDoor
