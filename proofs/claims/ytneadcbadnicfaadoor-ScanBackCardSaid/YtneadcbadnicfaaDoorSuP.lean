/-
  Plain facts on UTF-8: bytes are UTF-8 just if they are the bytes of signs, one behind the other; what stands behind signs is UTF-8 just if all is. No run of the program stands in this text. Conditions: those that each theorem names.
-/
import Derived.Test.YtneadcbadnicfaaDoorRune
import Derived.Test.YtneadcbadnicfaaDoorSnP
namespace Go.Proofs.YtneadcbadnicfaaDoor
open Go.RowKit Go.Lib

/-- Are bytes UTF-8? -/
def okT (T : List Int) : Bool := decide (u8At T 0 < 0)
theorem take1 : ∀ {l : List Int}, 1 ≤ l.length → l.take 1 = [l.getD 0 0]
  | _ :: _, _ => rfl
theorem take2 : ∀ {l : List Int}, 2 ≤ l.length → l.take 2 = [l.getD 0 0, l.getD 1 0]
  | _ :: _ :: _, _ => rfl
theorem take3 : ∀ {l : List Int}, 3 ≤ l.length → l.take 3 = [l.getD 0 0, l.getD 1 0, l.getD 2 0]
  | _ :: _ :: _ :: _, _ => rfl
theorem take4 : ∀ {l : List Int}, 4 ≤ l.length → l.take 4 = [l.getD 0 0, l.getD 1 0, l.getD 2 0, l.getD 3 0]
  | _ :: _ :: _ :: _ :: _, _ => rfl
/-- A sign at the head of bytes is the bytes' head. -/
theorem dec_good (l : List Int) (hb : ∀ i, 0 ≤ l.getD i 0 ∧ l.getD i 0 ≤ 255) (hl : 0 < l.length) (h : ¬ ((dec l).1 = 65533 ∧ (dec l).2 = 1)) :
    ∃ r : Nat, isRune r ∧ (dec l).1 = r ∧ l.take (enc r).length = enc r ∧ (dec l).2 = ((enc r).length : Nat) ∧ (enc r).length ≤ l.length := by
  obtain ⟨y0, hy0⟩ := nat_of _ (hb 0).1
  obtain ⟨y1, hy1⟩ := nat_of _ (hb 1).1
  obtain ⟨y2, hy2⟩ := nat_of _ (hb 2).1
  obtain ⟨y3, hy3⟩ := nat_of _ (hb 3).1
  have l0 := (hb 0).2
  have l1 := (hb 1).2
  have l2 := (hb 2).2
  have l3 := (hb 3).2
  rw [hy0] at l0
  rw [hy1] at l1
  rw [hy2] at l2
  rw [hy3] at l3
  have e := dec_eq l hb hl l.length y0 y1 y2 y3 rfl hy0 hy1 hy2 hy3
  rw [e] at h ⊢
  unfold Lib.decodeN at h ⊢
  by_cases c1 : y0 < 128
  · rw [if_pos c1]
    refine ⟨y0, by unfold isRune; omega, rfl, ?_, ?_, ?_⟩ <;> rw [show enc y0 = [(y0 : Int)] from if_pos c1]
    · rw [show ([(y0 : Int)] : List Int).length = 1 from rfl, take1 hl, hy0]
    · rfl
    · exact hl
  rw [if_neg c1] at h ⊢
  by_cases c2 : y0 / 32 = 6 ∧ (1 < l.length ∧ y1 / 64 = 2)
  · rw [if_pos c2] at h ⊢
    by_cases d : y0 % 32 * 64 + y1 % 64 ≥ 128
    · rw [if_pos d]
      obtain ⟨c21, c22, c23⟩ := c2
      have er : enc (y0 % 32 * 64 + y1 % 64) = [(y0 : Int), (y1 : Int)] := by
        unfold enc
        rw [if_neg (by omega), if_pos (by omega), show 192 + (y0 % 32 * 64 + y1 % 64) / 64 = y0 by omega, show 128 + (y0 % 32 * 64 + y1 % 64) % 64 = y1 by omega]
      refine ⟨_, by unfold isRune; omega, rfl, ?_, ?_, ?_⟩ <;> rw [er]
      · rw [show ([(y0 : Int), (y1 : Int)] : List Int).length = 2 from rfl, take2 c22, hy0, hy1]
      · rfl
      · exact c22
    · rw [if_neg d] at h
      exact absurd ⟨rfl, rfl⟩ h
  rw [if_neg c2] at h ⊢
  by_cases c3 : y0 / 16 = 14 ∧ (1 < l.length ∧ y1 / 64 = 2) ∧ (2 < l.length ∧ y2 / 64 = 2)
  · rw [if_pos c3] at h ⊢
    split at h
    · rename_i d
      rw [if_pos d]
      obtain ⟨c31, ⟨_, c33⟩, c34, c35⟩ := c3
      have er : enc (y0 % 16 * 4096 + y1 % 64 * 64 + y2 % 64) = [(y0 : Int), (y1 : Int), (y2 : Int)] := by
        unfold enc
        rw [if_neg (by omega), if_neg (by omega), if_pos (by omega), show 224 + (y0 % 16 * 4096 + y1 % 64 * 64 + y2 % 64) / 4096 = y0 by omega, show 128 + (y0 % 16 * 4096 + y1 % 64 * 64 + y2 % 64) / 64 % 64 = y1 by omega, show 128 + (y0 % 16 * 4096 + y1 % 64 * 64 + y2 % 64) % 64 = y2 by omega]
      refine ⟨_, by unfold isRune; omega, rfl, ?_, ?_, ?_⟩ <;> rw [er]
      · rw [show ([(y0 : Int), (y1 : Int), (y2 : Int)] : List Int).length = 3 from rfl, take3 c34, hy0, hy1, hy2]
      · rfl
      · exact c34
    · exact absurd ⟨rfl, rfl⟩ h
  rw [if_neg c3] at h ⊢
  by_cases c4 : y0 / 8 = 30 ∧ (1 < l.length ∧ y1 / 64 = 2) ∧ (2 < l.length ∧ y2 / 64 = 2) ∧ (3 < l.length ∧ y3 / 64 = 2)
  · rw [if_pos c4] at h ⊢
    split at h
    · rename_i d
      rw [if_pos d]
      obtain ⟨c41, ⟨_, c43⟩, ⟨_, c45⟩, c46, c47⟩ := c4
      have er : enc (y0 % 8 * 262144 + y1 % 64 * 4096 + y2 % 64 * 64 + y3 % 64) = [(y0 : Int), (y1 : Int), (y2 : Int), (y3 : Int)] := by
        unfold enc
        rw [if_neg (by omega), if_neg (by omega), if_neg (by omega), show 240 + (y0 % 8 * 262144 + y1 % 64 * 4096 + y2 % 64 * 64 + y3 % 64) / 262144 = y0 by omega, show 128 + (y0 % 8 * 262144 + y1 % 64 * 4096 + y2 % 64 * 64 + y3 % 64) / 4096 % 64 = y1 by omega, show 128 + (y0 % 8 * 262144 + y1 % 64 * 4096 + y2 % 64 * 64 + y3 % 64) / 64 % 64 = y2 by omega, show 128 + (y0 % 8 * 262144 + y1 % 64 * 4096 + y2 % 64 * 64 + y3 % 64) % 64 = y3 by omega]
      refine ⟨_, by unfold isRune; omega, rfl, ?_, ?_, ?_⟩ <;> rw [er]
      · rw [show ([(y0 : Int), (y1 : Int), (y2 : Int), (y3 : Int)] : List Int).length = 4 from rfl, take4 c46, hy0, hy1, hy2, hy3]
      · rfl
      · exact c46
    · exact absurd ⟨rfl, rfl⟩ h
  rw [if_neg c4] at h
  exact absurd ⟨rfl, rfl⟩ h
/-- Bytes of signs, one behind the other. -/
def Wf (X : List Int) : Prop := ∃ rs : List Nat, (∀ r ∈ rs, isRune r) ∧ X = rs.flatMap enc
theorem Wf.nil : Wf [] := ⟨[], (fun r h => by cases h), rfl⟩
theorem Wf.cons {r : Nat} {X : List Int} (hr : isRune r) (h : Wf X) : Wf (enc r ++ X) := by
  obtain ⟨rs, h1, rfl⟩ := h
  exact ⟨r :: rs, fun q hq => by rcases List.mem_cons.1 hq with rfl | hq; · exact hr
                                 · exact h1 q hq, by rw [List.flatMap_cons]⟩
theorem Wf.one {r : Nat} (hr : isRune r) : Wf (enc r) := by
  have := Wf.cons hr Wf.nil
  rwa [List.append_nil] at this
theorem Wf.app {X Y : List Int} (hx : Wf X) (hy : Wf Y) : Wf (X ++ Y) := by
  obtain ⟨rs, h1, rfl⟩ := hx
  obtain ⟨qs, h2, rfl⟩ := hy
  exact ⟨rs ++ qs, fun r hr => by rcases List.mem_append.1 hr with h | h; · exact h1 r h
                                  · exact h2 r h, by rw [List.flatMap_append]⟩
theorem Wf.bd {X : List Int} (h : Wf X) : ∀ z ∈ X, 0 ≤ z ∧ z ≤ 255 := by
  obtain ⟨rs, h1, rfl⟩ := h
  intro z hz
  obtain ⟨r, hr, hz⟩ := List.mem_flatMap.1 hz
  exact enc_bd r (h1 r hr) z hz
/-- What stands first tells which sign it is. -/
theorem dec_first (r : Nat) (hr : isRune r) (Y : List Int) (hy : ∀ i, 0 ≤ Y.getD i 0 ∧ Y.getD i 0 ≤ 255) : (dec (enc r ++ Y)).1 = r := by
  have hb := enc_append_bd r hr Y hy
  obtain ⟨d1, d2⟩ := dec_enc r hr Y hy
  have hl : 0 < (enc r ++ Y).length := by rw [List.length_append]; have := (enc_len r).1; omega
  obtain ⟨q, hq, e1, e2, e3, e4⟩ := dec_good _ hb hl d2
  rw [e1]
  have hlen : (enc q).length = (enc r).length := by rw [d1] at e3; omega
  rw [hlen, List.take_left] at e2
  -- equal bytes, equal signs
  have key : q = r := by
    unfold isRune at hr hq
    unfold enc at e2
    by_cases r1 : r < 128 <;> by_cases r2 : r < 2048 <;> by_cases r3 : r < 65536 <;> by_cases q1 : q < 128 <;> by_cases q2 : q < 2048 <;> by_cases q3 : q < 65536 <;> simp only [r1, r2, r3, q1, q2, q3, if_true, if_false, List.cons.injEq, reduceCtorEq, and_false, and_true] at e2 <;> omega
  rw [key]
theorem Wf.tail {r : Nat} (hr : isRune r) {X : List Int} (hx : ∀ z ∈ X, 0 ≤ z ∧ z ≤ 255) (h : Wf (enc r ++ X)) : Wf X := by
  obtain ⟨rs, h1, h2⟩ := h
  cases rs with
  | nil =>
    have h3 := congrArg List.length h2
    rw [List.length_append, List.flatMap_nil, List.length_nil] at h3
    have := (enc_len r).1
    omega
  | cons q rs =>
    rw [List.flatMap_cons] at h2
    have hq := h1 q (List.mem_cons_self ..)
    have hw : Wf (rs.flatMap enc) := ⟨rs, fun x hx => h1 x (List.mem_cons_of_mem _ hx), rfl⟩
    have e1 := dec_first r hr X (bd_le hx)
    rw [h2, dec_first q hq _ (bd_le hw.bd)] at e1
    have : q = r := by omega
    subst this
    have := List.append_cancel_left h2
    rw [this]
    exact hw
theorem Wf.drop {T X : List Int} (hT : Wf T) (hx : ∀ z ∈ X, 0 ≤ z ∧ z ≤ 255) (h : Wf (T ++ X)) : Wf X := by
  obtain ⟨rs, h1, rfl⟩ := hT
  induction rs with
  | nil => simpa using h
  | cons r rs ih =>
    rw [List.flatMap_cons, List.append_assoc] at h
    have hr := h1 r (List.mem_cons_self ..)
    have hrs : ∀ q ∈ rs, isRune q := fun q hq => h1 q (List.mem_cons_of_mem _ hq)
    exact ih hrs (Wf.tail hr (fun z hz => by
      rcases List.mem_append.1 hz with h2 | h2
      · exact (Wf.bd ⟨rs, hrs, rfl⟩) z h2
      · exact hx z h2) h)
theorem u8_wf (rs : List Nat) : ∀ (pre : List Int), (∀ r ∈ rs, isRune r) → u8At (pre ++ rs.flatMap enc) pre.length = -1 := by
  induction rs with
  | nil => intro pre _; exact u8At_end _ _ (by simp)
  | cons r rs ih =>
    intro pre h
    have hr := h r (List.mem_cons_self ..)
    have hrs : ∀ q ∈ rs, isRune q := fun q hq => h q (List.mem_cons_of_mem _ hq)
    have hd : (pre ++ (r :: rs).flatMap enc).drop pre.length = enc r ++ rs.flatMap enc := by rw [List.drop_left, List.flatMap_cons]
    obtain ⟨d1, d2⟩ := dec_enc r hr (rs.flatMap enc) (bd_le (Wf.bd ⟨rs, hrs, rfl⟩))
    have h1 := (enc_len r).1
    rw [u8At_good _ _ (by rw [List.length_append, List.flatMap_cons, List.length_append]; omega) (by rw [hd]; exact d2), hd, d1, Int.toNat_natCast, List.flatMap_cons, ← List.append_assoc, ← List.length_append]
    exact ih (pre ++ enc r) hrs
theorem wf_u8 (zs : List Int) (hb : ∀ i, 0 ≤ zs.getD i 0 ∧ zs.getD i 0 ≤ 255) : ∀ (f i : Nat), zs.length < f + i → u8From zs f i < 0 → Wf (zs.drop i)
  | 0, i, hf, _ => by rw [List.drop_eq_nil_of_le (by omega)]; exact Wf.nil
  | f + 1, i, hf, h => by
    simp only [u8From] at h
    by_cases hi : i < zs.length
    · rw [if_pos hi] at h
      split at h
      · omega
      · rename_i hg
        have hbd : ∀ j, 0 ≤ (zs.drop i).getD j 0 ∧ (zs.drop i).getD j 0 ≤ 255 := fun j => by have := hb (i + j); simpa [List.getD] using this
        obtain ⟨r, hr, e1, e2, e3, e4⟩ := dec_good (zs.drop i) hbd (by simp; omega) hg
        rw [e3, Int.toNat_natCast] at h
        have h1 := (enc_len r).1
        have ih := wf_u8 zs hb f (i + (enc r).length) (by omega) h
        have : zs.drop i = enc r ++ zs.drop (i + (enc r).length) := by
          conv => lhs; rw [← List.take_append_drop (enc r).length (zs.drop i), e2, List.drop_drop]
        rw [this]
        exact Wf.cons hr ih
    · rw [List.drop_eq_nil_of_le (by omega)]
      exact Wf.nil
theorem okT_iff {T : List Int} (hb : ∀ z ∈ T, 0 ≤ z ∧ z ≤ 255) : okT T = true ↔ Wf T := by
  unfold okT
  rw [decide_eq_true_iff]
  constructor
  · intro h
    have := wf_u8 T (bd_le hb) _ 0 (by omega) h
    rwa [List.drop_zero] at this
  · rintro ⟨rs, h1, rfl⟩
    have := u8_wf rs [] h1
    rw [List.nil_append] at this
    rw [show (0 : Nat) = ([] : List Int).length from rfl, this]
    decide
end Go.Proofs.YtneadcbadnicfaaDoor
