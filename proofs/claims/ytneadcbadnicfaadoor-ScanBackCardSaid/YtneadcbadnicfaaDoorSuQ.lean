/-
  The document's text in quotes is the program's: plain. No run of the program stands in this text. Conditions: those that each theorem names.
-/
import Derived.Test.YtneadcbadnicfaaDoorSuP
import Derived.Test.YtneadcbadnicfaaDoorSrG
namespace Go.Proofs.YtneadcbadnicfaaDoor
open Go.RowKit Go.Lib

/-- No byte that stands behind a sign's first. -/
def NoCont (Y : List Int) : Prop := Y = [] ∨ Y.getD 0 0 < 128 ∨ 192 ≤ Y.getD 0 0
theorem NoCont.app {M X : List Int} (h : NoCont M) (hx : NoCont X) : NoCont (M ++ X) := by
  cases M with
  | nil => exact hx
  | cons a M =>
    right
    rcases h with h | h
    · cases h
    · exact h
theorem enc_head (r : Nat) (_hr : isRune r) : NoCont (enc r) := by
  right
  unfold enc
  split
  · left; simp; omega
  split
  · right; simp; omega
  split
  · right; simp; omega
  · right; simp; omega
/-- Bytes that are no UTF-8, whatever stands behind them but the rest of a sign. -/
def Dead (U : List Int) : Prop := ∀ Y, (∀ z ∈ Y, 0 ≤ z ∧ z ≤ 255) → NoCont Y → ¬ Wf (U ++ Y)
/-- Behind such bytes no text ends right. -/
theorem rtx_dead {zs : List Int} (hz : ∀ i, 0 ≤ zs.getD i 0 ∧ zs.getD i 0 ≤ 255) {U : List Int} (hU : Dead U) (hUb : ∀ z ∈ U, 0 ≤ z ∧ z ≤ 255) : ∀ (f a : Nat) (M : List Int), zs.length < f + a → (∀ z ∈ M, 0 ≤ z ∧ z ≤ 255) → NoCont M → (M = [] → hereZ zs a < 128) → rtxGo zs a (U ++ M) = none
  | 0, a, M, hf, _, _, _ => by
    refine rtxGo_low ?_
    unfold hereZ
    rw [if_neg (by omega)]
    omega
  | f + 1, a, M, hf, hb, hM, h0 => by
    by_cases c1 : hereZ zs a < 32
    · exact rtxGo_low c1
    have hal := here_lt c1
    by_cases c2 : hereZ zs a = 34
    · rw [rtxGo_end c2, if_neg]
      intro h
      exact hU M hb hM ((okT_iff (fun z hz => by
        rcases List.mem_append.1 hz with h | h
        · exact hUb z h
        · exact hb z h)).1 h)
    by_cases c3 : hereZ zs a = 92
    · cases he : escAt zs (a + 1) with
      | none => exact rtxGo_bad c3 he
      | some rb =>
        obtain ⟨r, b⟩ := rb
        have his := escAt_is he
        rw [rtxGo_esc c3 he, List.append_assoc]
        refine rtx_dead hz hU hUb f b (M ++ enc r) (by omega) (fun z hz' => ?_) (hM.app (enc_head r his.1)) (fun h => ?_)
        · rcases List.mem_append.1 hz' with h | h
          · exact hb z h
          · exact enc_bd r his.1 z h
        · have := congrArg List.length h
          rw [List.length_append, List.length_nil] at this
          have := (enc_len r).1
          omega
    · rw [rtxGo_raw c1 c2 c3, List.append_assoc]
      have hzv : hereZ zs a ≤ 255 := by
        have e : hereZ zs a = zs.getD a 0 := if_pos hal
        rw [e]
        exact (hz a).2
      refine rtx_dead hz hU hUb f (a + 1) (M ++ [hereZ zs a]) (by omega) (fun z hz' => ?_) ?_ (fun h => ?_)
      · rcases List.mem_append.1 hz' with h | h
        · exact hb z h
        · rw [List.mem_singleton.1 h]; omega
      · by_cases hm : M = []
        · subst hm
          exact .inr (.inl (h0 rfl))
        · cases M with
          | nil => exact absurd rfl hm
          | cons x M =>
            right
            rcases hM with h | h
            · cases h
            · exact h
      · have := congrArg List.length h
        rw [List.length_append, List.length_nil] at this
        simp at this
/-- Bytes of no quote, no backslash and no less than 32 are taken as they are. -/
theorem rtx_raws {zs : List Int} : ∀ (k a : Nat) (T : List Int), a + k ≤ zs.length → (∀ j, j < k → 128 ≤ zs.getD (a + j) 0) → rtxGo zs a T = rtxGo zs (a + k) (T ++ (zs.drop a).take k)
  | 0, a, T, _, _ => by simp
  | k + 1, a, T, hk, hb => by
    have hal : a < zs.length := by omega
    have e : hereZ zs a = zs.getD a 0 := if_pos hal
    have h128 : 128 ≤ hereZ zs a := by have := hb 0 (by omega); rw [Nat.add_zero] at this; omega
    rw [rtxGo_raw (by omega) (by omega) (by omega), rtx_raws k (a + 1) _ (by omega) (fun j hj => by have := hb (j + 1) (by omega); rw [show a + 1 + j = a + (j + 1) by omega]; exact this), e, drop_cons hal, List.take_succ_cons, show a + 1 + k = a + (k + 1) by omega, List.append_assoc]
    rfl
theorem enc_low {c : Nat} (h : c < 128) : enc c = [(c : Int)] := if_pos h
theorem enc_high (r : Nat) (h : 128 ≤ r) : ∀ z ∈ enc r, 128 ≤ z := by
  intro z hz
  unfold enc at hz
  rw [if_neg (by omega)] at hz
  split at hz
  · simp at hz; omega
  split at hz
  · simp at hz; omega
  · simp at hz; omega
/-- The document's text is the program's. -/
theorem rtx_txt {zs : List Int} (hz : ∀ i, 0 ≤ zs.getD i 0 ∧ zs.getD i 0 ≤ 255) : ∀ (f a : Nat) (T : List Int), zs.length < f + a → Wf T → rtxGo zs a T = txtGo zs a T
  | 0, a, T, hf, _ => by
    rw [rtxGo_low (by unfold hereZ; rw [if_neg (by omega)]; omega), txtGo_no (stA_ge (by omega))]
    unfold sgnAt
    rw [if_neg (by rw [stA_ge (by omega)]; decide), dec_nil_len _ (by simp; omega), if_pos ⟨rfl, by decide⟩]
  | f + 1, a, T, hf, hT => by
    by_cases hal : a < zs.length
    · have e : hereZ zs a = zs.getD a 0 := if_pos hal
      have s34 := here_st (zs := zs) (c := 34) (by decide) a
      have s92 := here_st (zs := zs) (c := 92) (by decide) a
      have hbd : ∀ j, 0 ≤ (zs.drop a).getD j 0 ∧ (zs.drop a).getD j 0 ≤ 255 := fun j => by have := hz (a + j); simpa [List.getD] using this
      by_cases c2 : hereZ zs a = 34
      · rw [rtxGo_end c2, if_pos ((okT_iff hT.bd).2 hT), txtGo_end (by rw [← s34, decide_eq_true c2])]
      have t34 : stA zs (isC 34) a = false := by rw [← s34, decide_eq_false c2]
      by_cases c3 : hereZ zs a = 92
      · have t92 : stA zs (isC 92) a = true := by rw [← s92, decide_eq_true c3]
        have hs : sgnAt zs a = escAt zs (a + 1) := by unfold sgnAt; rw [if_pos t92]
        cases he : escAt zs (a + 1) with
        | none => rw [rtxGo_bad c3 he, txtGo_no t34 (by rw [hs, he])]
        | some rb =>
          obtain ⟨r, b⟩ := rb
          have his := escAt_is he
          rw [rtxGo_esc c3 he, txtGo_step hz t34 (by rw [hs, he])]
          exact rtx_txt hz f b _ (by omega) (hT.app (Wf.one his.1))
      have t92 : stA zs (isC 92) a = false := by rw [← s92, decide_eq_false c3]
      have h0 : 0 ≤ hereZ zs a := by rw [e]; exact (hz a).1
      obtain ⟨c, hc⟩ := nat_of _ h0
      have hg0 : (zs.drop a).getD 0 0 = c := by rw [← hc, e]; simp [List.getD]
      have hl : 0 < (zs.drop a).length := by simp; omega
      by_cases clow : c < 128
      · -- a byte of its own
        have hd : dec (zs.drop a) = ((c : Int), 1) := by
          obtain ⟨y1, hy1⟩ := nat_of _ (hbd 1).1
          obtain ⟨y2, hy2⟩ := nat_of _ (hbd 2).1
          obtain ⟨y3, hy3⟩ := nat_of _ (hbd 3).1
          rw [dec_eq _ hbd hl _ c y1 y2 y3 rfl hg0 hy1 hy2 hy3]
          unfold Lib.decodeN
          rw [if_pos clow]
          rfl
        by_cases c1 : hereZ zs a < 32
        · rw [rtxGo_low c1, txtGo_no t34]
          unfold sgnAt
          rw [if_neg (by rw [t92]; decide), hd, if_neg (by simp only; omega), if_pos (by simp only; omega)]
        · have hs : sgnAt zs a = some (c, a + 1) := by
            unfold sgnAt
            rw [if_neg (by rw [t92]; decide), hd, if_neg (by simp only; omega), if_neg (by simp only; omega)]
            rfl
          rw [rtxGo_raw c1 c2 c3, txtGo_step hz t34 hs, enc_low clow, hc]
          refine rtx_txt hz f (a + 1) _ (by omega) (hT.app ?_)
          rw [← enc_low clow]
          exact Wf.one (by unfold isRune; omega)
      · by_cases hgood : (dec (zs.drop a)).1 = 65533 ∧ (dec (zs.drop a)).2 = 1
        · -- no sign
          have hs : sgnAt zs a = none := by
            unfold sgnAt
            rw [if_neg (by rw [t92]; decide), if_pos ⟨hgood.1, by rw [hgood.2]; decide⟩]
          rw [txtGo_no t34 hs]
          -- the bytes from 128 on that stand here
          have hrun := runTo_all zs (fun z => decide (128 ≤ z)) a
          have hge := runTo_ge zs (fun z => decide (128 ≤ z)) a
          have hle := runTo_le zs (fun z => decide (128 ≤ z)) a (by omega)
          have hend := runTo_end zs (fun z => decide (128 ≤ z)) a
          have hst : stA zs (fun z => decide (128 ≤ z)) a = true := by rw [stA_of hal, decide_eq_true_iff, ← e, hc]; omega
          have hgt : a + 1 ≤ runTo zs (fun z => decide (128 ≤ z)) a := by rw [runTo_step hst]; exact runTo_ge _ _ _
          generalize hk : runTo zs (fun z => decide (128 ≤ z)) a = m at hrun hge hle hend hgt
          obtain ⟨k, rfl⟩ : ∃ k, m = a + k := ⟨m - a, by omega⟩
          rw [rtx_raws k a T hle (fun j hj => by
            have := stA_p (hrun (a + j) (by omega) (by omega))
            exact of_decide_eq_true this)]
          have hLl : ((zs.drop a).take k).length = k := by simp; omega
          have hLb : ∀ z ∈ (zs.drop a).take k, 0 ≤ z ∧ z ≤ 255 := fun z hz' => bd_mem hbd z (List.mem_of_mem_take hz')
          have := rtx_dead hz (U := T ++ (zs.drop a).take k) (fun Y hY hN hW => ?_) (fun z hz' => by
            rcases List.mem_append.1 hz' with h | h
            · exact hT.bd z h
            · exact hLb z h) (zs.length + 1) (a + k) [] (by omega) (fun z hz' => by cases hz') (.inl rfl) (fun _ => ?_)
          · rwa [List.append_nil] at this
          · -- it would begin with a sign
            rw [List.append_assoc] at hW
            have hW2 := Wf.drop hT (fun z hz' => by
              rcases List.mem_append.1 hz' with h | h
              · exact hLb z h
              · exact hY z h) hW
            obtain ⟨rs, h1, h2⟩ := hW2
            cases rs with
            | nil =>
              have h3 := congrArg List.length h2
              rw [List.length_append, List.flatMap_nil, List.length_nil] at h3
              omega
            | cons r rs =>
              rw [List.flatMap_cons] at h2
              have hr := h1 r (List.mem_cons_self ..)
              have hel := enc_len r
              by_cases hrk : (enc r).length ≤ k
              · -- all of it is here
                have hp : (zs.drop a).take (enc r).length = enc r := by
                  have h3 := congrArg (List.take (enc r).length) h2
                  rw [List.take_left, List.take_append_of_le_length (by omega), List.take_take, Nat.min_eq_left hrk] at h3
                  exact h3
                have hl2 : zs.drop a = enc r ++ (zs.drop a).drop (enc r).length := by
                  conv => lhs; rw [← List.take_append_drop (enc r).length (zs.drop a), hp]
                have := dec_enc r hr ((zs.drop a).drop (enc r).length) (fun j => by
                  have h9 := hbd ((enc r).length + j)
                  rw [show ((zs.drop a).drop (enc r).length).getD j 0 = (zs.drop a).getD ((enc r).length + j) 0 by simp [List.getD, Nat.add_assoc]]
                  exact h9)
                rw [← hl2] at this
                exact this.2 hgood
              · -- a byte of it that isn't the first would stand where none stands
                have h3 : ((zs.drop a).take k ++ Y).getD k 0 = (enc r ++ rs.flatMap enc).getD k 0 := by rw [h2]
                have hg : ((zs.drop a).take k ++ Y).getD k 0 = Y.getD 0 0 := by
                  simp [List.getD, List.getElem?_append_right, hLl]
                have hg2 : (enc r ++ rs.flatMap enc).getD k 0 = (enc r).getD k 0 := by
                  simp [List.getD, List.getElem?_append_left (show k < (enc r).length by omega)]
                obtain ⟨b, hb, hb0, hb1⟩ := enc_tail r k (by omega) (by omega)
                rw [hg, hg2, hb] at h3
                rcases hN with h | h
                · subst h
                  have h4 := congrArg List.length h2
                  rw [List.append_nil, hLl, List.length_append] at h4
                  omega
                · omega
          · -- the byte behind them
            unfold hereZ
            split
            · rename_i h5
              rw [stA_of h5, decide_eq_false_iff_not] at hend
              omega
            · omega
        · -- a sign of more bytes
          obtain ⟨r, hr, e1, e2, e3, e4⟩ := dec_good _ hbd hl hgood
          have hr128 : 128 ≤ r := by
            rcases Nat.lt_or_ge r 128 with h | h
            · exfalso
              rw [enc_low h] at e2
              rw [show ([(r : Int)] : List Int).length = 1 from rfl, take1 hl, hg0] at e2
              simp at e2
              omega
            · exact h
          have hle4 : a + (enc r).length ≤ zs.length := by simp at e4; omega
          have hs : sgnAt zs a = some (r, a + (enc r).length) := by
            unfold sgnAt
            rw [if_neg (by rw [t92]; decide), e1, e3, if_neg, if_neg (by omega)]
            · simp
            · rintro ⟨h1, h2⟩
              have := (enc_len r).1
              refine hgood ⟨by rw [e1]; exact h1, by rw [e3]; omega⟩
          have h1 := (enc_len r).1
          rw [txtGo_step hz t34 hs, rtx_raws (enc r).length a T hle4 (fun j hj => by
            have h5 : zs.getD (a + j) 0 = (enc r).getD j 0 := by rw [← e2, getD_take hj]
            rw [h5]
            have : (enc r).getD j 0 ∈ enc r := by simp [List.getD, hj]
            exact enc_high r hr128 _ this), e2]
          exact rtx_txt hz f (a + (enc r).length) _ (by omega) (hT.app (Wf.one hr))
    · rw [rtxGo_low (by unfold hereZ; rw [if_neg hal]; omega), txtGo_no (stA_ge (by omega))]
      unfold sgnAt
      rw [if_neg (by rw [stA_ge (by omega)]; decide), dec_nil_len _ (by simp; omega), if_pos ⟨rfl, by decide⟩]
theorem rtx_is {zs : List Int} (hz : ∀ i, 0 ≤ zs.getD i 0 ∧ zs.getD i 0 ≤ 255) (a : Nat) : rtxAt zs a = txtAt zs a := by
  unfold rtxAt
  cases h : stA zs (isC 34) (runTo zs isBlank a)
  · rw [if_neg (by decide), txtAt_no h]
  · rw [if_pos rfl, txtAt_yes h, rtx_txt hz (zs.length + 1) _ _ (by omega) Wf.nil]
end Go.Proofs.YtneadcbadnicfaaDoor
