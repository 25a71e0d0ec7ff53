/-
  Plain facts on UTF-8: what one sign's bytes are, that they are read back, cut short or entered in the middle they begin no sign, and neither do a half of a pair's or a too great number's; where bytes behind a sign's first begin none. Conditions: those that each theorem names.
-/
import Derived.Test.YtneadcbadnicfaaDoorUtf8P
namespace Go.Proofs.YtneadcbadnicfaaDoor
open Go.RowKit Go.Lib

theorem bytesOf_nat (zs : List Int) (hb : ∀ i, 0 ≤ zs.getD i 0 ∧ zs.getD i 0 ≤ 255) (j : Nat) : ((bytesOf zs).get! j).toNat = (zs.getD j 0).toNat := by
  by_cases hj : j < zs.length
  · have := bytesOf_get zs hb j hj
    omega
  · have h1 : zs.getD j 0 = 0 := by simp [List.getD, List.getElem?_eq_none (Nat.le_of_not_lt hj)]
    rw [h1]
    have h2 : ¬ j < (bytesOf zs).size := by rw [bytesOf_size]; exact hj
    have h3 : (bytesOf zs).get! j = default := by
      show (bytesOf zs).data[j]! = default
      exact getElem!_neg _ _ h2
    rw [h3]
    rfl
theorem dec_eq (zs : List Int) (hb : ∀ i, 0 ≤ zs.getD i 0 ∧ zs.getD i 0 ≤ 255) (h : 0 < zs.length) (n b0 b1 b2 b3 : Nat) (hn : zs.length = n) (h0 : zs.getD 0 0 = b0) (h1 : zs.getD 1 0 = b1) (h2 : zs.getD 2 0 = b2) (h3 : zs.getD 3 0 = b3) :
    dec zs = (((Lib.decodeN n b0 b1 b2 b3).1 : Int), ((Lib.decodeN n b0 b1 b2 b3).2 : Int)) := by
  have e : Lib.decodeGo (bytesOf zs) = Utf8.decode (bytesOf zs) 0 := by
    unfold Lib.decodeGo
    rw [if_neg (by rw [bytesOf_size]; omega)]
  unfold dec
  rw [e, Lib.decode_at, bytesOf_size, bytesOf_nat zs hb, bytesOf_nat zs hb, bytesOf_nat zs hb, bytesOf_nat zs hb]
  simp only [Nat.zero_add, h0, h1, h2, h3, Int.toNat_natCast, Nat.sub_zero, hn]

/-- The bytes of a sign. -/
def enc (c : Nat) : List Int :=
  if c < 128 then [(c : Int)]
  else if c < 2048 then [((192 + c / 64 : Nat) : Int), ((128 + c % 64 : Nat) : Int)]
  else if c < 65536 then [((224 + c / 4096 : Nat) : Int), ((128 + c / 64 % 64 : Nat) : Int), ((128 + c % 64 : Nat) : Int)]
  else [((240 + c / 262144 : Nat) : Int), ((128 + c / 4096 % 64 : Nat) : Int), ((128 + c / 64 % 64 : Nat) : Int), ((128 + c % 64 : Nat) : Int)]
def isRune (c : Nat) : Prop := c < 55296 ∨ (57344 ≤ c ∧ c ≤ 1114111)
theorem bd_cons {x : Nat} {zs : List Int} (hx : x ≤ 255) (h : ∀ i, 0 ≤ zs.getD i 0 ∧ zs.getD i 0 ≤ 255) : ∀ i, 0 ≤ ((x : Int) :: zs).getD i 0 ∧ ((x : Int) :: zs).getD i 0 ≤ 255 := by
  intro i
  cases i with
  | zero => simp; omega
  | succ i => simpa [List.getD] using h i
theorem bd_nil : ∀ i, 0 ≤ ([] : List Int).getD i 0 ∧ ([] : List Int).getD i 0 ≤ 255 := by intro i; simp [List.getD]
theorem enc_append_bd (c : Nat) (hc : isRune c) (ys : List Int) (h : ∀ i, 0 ≤ ys.getD i 0 ∧ ys.getD i 0 ≤ 255) : ∀ i, 0 ≤ (enc c ++ ys).getD i 0 ∧ (enc c ++ ys).getD i 0 ≤ 255 := by
  unfold isRune at hc
  unfold enc
  split
  · exact bd_cons (by omega) h
  split
  · exact bd_cons (by omega) (bd_cons (by omega) h)
  split
  · exact bd_cons (by omega) (bd_cons (by omega) (bd_cons (by omega) h))
  · exact bd_cons (by omega) (bd_cons (by omega) (bd_cons (by omega) (bd_cons (by omega) h)))
theorem nat_of (z : Int) (h0 : 0 ≤ z) : ∃ n : Nat, z = n := ⟨z.toNat, by omega⟩
theorem dec_enc (c : Nat) (hc : isRune c) (ys : List Int) (h : ∀ i, 0 ≤ ys.getD i 0 ∧ ys.getD i 0 ≤ 255) : (dec (enc c ++ ys)).2 = (enc c).length ∧ ¬ ((dec (enc c ++ ys)).1 = 65533 ∧ (dec (enc c ++ ys)).2 = 1) := by
  have hbd := enc_append_bd c hc ys h
  obtain ⟨y0, hy0⟩ := nat_of _ (h 0).1
  obtain ⟨y1, hy1⟩ := nat_of _ (h 1).1
  obtain ⟨y2, hy2⟩ := nat_of _ (h 2).1
  unfold isRune at hc
  by_cases h1 : c < 128
  · have e : enc c = [(c : Int)] := if_pos h1
    rw [e] at hbd ⊢
    rw [dec_eq _ hbd (by simp) (1 + ys.length) c y0 y1 y2 (by simp; omega) rfl (by simpa using hy0) (by simpa using hy1) (by simpa using hy2)]
    unfold Lib.decodeN
    rw [if_pos h1]
    simp
    omega
  by_cases h2 : c < 2048
  · have e : enc c = [((192 + c / 64 : Nat) : Int), ((128 + c % 64 : Nat) : Int)] := by unfold enc; rw [if_neg h1, if_pos h2]
    rw [e] at hbd ⊢
    rw [dec_eq _ hbd (by simp) (2 + ys.length) (192 + c / 64) (128 + c % 64) y0 y1 (by simp; omega) rfl rfl (by simpa using hy0) (by simpa using hy1)]
    unfold Lib.decodeN
    rw [if_neg (by omega), if_pos (by omega), if_pos (by omega)]
    simp
  by_cases h3 : c < 65536
  · have e : enc c = [((224 + c / 4096 : Nat) : Int), ((128 + c / 64 % 64 : Nat) : Int), ((128 + c % 64 : Nat) : Int)] := by unfold enc; rw [if_neg h1, if_neg h2, if_pos h3]
    rw [e] at hbd ⊢
    rw [dec_eq _ hbd (by simp) (3 + ys.length) (224 + c / 4096) (128 + c / 64 % 64) (128 + c % 64) y0 (by simp; omega) rfl rfl rfl (by simpa using hy0)]
    unfold Lib.decodeN
    rw [if_neg (by omega), if_neg (by omega), if_pos (by omega), if_pos (by omega)]
    simp
  · have e : enc c = [((240 + c / 262144 : Nat) : Int), ((128 + c / 4096 % 64 : Nat) : Int), ((128 + c / 64 % 64 : Nat) : Int), ((128 + c % 64 : Nat) : Int)] := by unfold enc; rw [if_neg h1, if_neg h2, if_neg h3]
    rw [e] at hbd ⊢
    rw [dec_eq _ hbd (by simp) (4 + ys.length) (240 + c / 262144) (128 + c / 4096 % 64) (128 + c / 64 % 64) (128 + c % 64) (by simp; omega) rfl rfl rfl rfl]
    unfold Lib.decodeN
    rw [if_neg (by omega), if_neg (by omega), if_neg (by omega), if_pos (by omega), if_pos (by omega)]
    simp
theorem bd_le {zs : List Int} (h : ∀ z ∈ zs, 0 ≤ z ∧ z ≤ 255) : ∀ i, 0 ≤ zs.getD i 0 ∧ zs.getD i 0 ≤ 255 := by
  intro i
  by_cases hi : i < zs.length
  · have hm : zs.getD i 0 ∈ zs := by simp [List.getD, hi]
    exact h _ hm
  · simp [List.getD, List.getElem?_eq_none (Nat.le_of_not_lt hi)]
theorem bd_mem {zs : List Int} (h : ∀ i, 0 ≤ zs.getD i 0 ∧ zs.getD i 0 ≤ 255) : ∀ z ∈ zs, 0 ≤ z ∧ z ≤ 255 := by
  intro z hz
  obtain ⟨i, hi, rfl⟩ := List.getElem_of_mem hz
  have := h i
  simpa [List.getD, hi] using this
theorem enc_bd (c : Nat) (hc : isRune c) : ∀ z ∈ enc c, 0 ≤ z ∧ z ≤ 255 := by
  have h := enc_append_bd c hc [] bd_nil
  rw [List.append_nil] at h
  exact bd_mem h
theorem enc_len (c : Nat) : 1 ≤ (enc c).length ∧ (enc c).length ≤ 4 := by
  unfold enc
  split
  · simp
  split
  · simp
  split <;> simp
/-- A byte that stands behind a sign's first begins no sign. -/
theorem dec_cont (zs : List Int) (hb : ∀ i, 0 ≤ zs.getD i 0 ∧ zs.getD i 0 ≤ 255) (h : 0 < zs.length) (b : Nat) (h0 : zs.getD 0 0 = b) (hb0 : 128 ≤ b) (hb1 : b < 192) : dec zs = (65533, 1) := by
  obtain ⟨y1, hy1⟩ := nat_of _ (hb 1).1
  obtain ⟨y2, hy2⟩ := nat_of _ (hb 2).1
  obtain ⟨y3, hy3⟩ := nat_of _ (hb 3).1
  rw [dec_eq zs hb h zs.length b y1 y2 y3 rfl h0 hy1 hy2 hy3]
  unfold Lib.decodeN
  rw [if_neg (by omega), if_neg (by omega), if_neg (by omega), if_neg (by omega)]
  rfl
/-- Cut short, or entered behind its first byte, a sign's bytes begin none. -/
theorem dec_take (c : Nat) (hc : isRune c) (k : Nat) (h1 : 1 ≤ k) (h2 : k < (enc c).length) : dec ((enc c).take k) = (65533, 1) := by
  have hb : ∀ i, 0 ≤ ((enc c).take k).getD i 0 ∧ ((enc c).take k).getD i 0 ≤ 255 := bd_le fun z hz => enc_bd c hc z (List.mem_of_mem_take hz)
  have hl : ((enc c).take k).length = k := by simp; omega
  unfold isRune at hc
  by_cases g1 : c < 128
  · have e : enc c = [(c : Int)] := if_pos g1
    rw [e] at h2
    simp at h2
    omega
  by_cases g2 : c < 2048
  · have e : enc c = [((192 + c / 64 : Nat) : Int), ((128 + c % 64 : Nat) : Int)] := by unfold enc; rw [if_neg g1, if_pos g2]
    rw [e] at hb h2 hl ⊢
    obtain rfl : k = 1 := by simp at h2; omega
    rw [dec_eq _ hb (by simp) 1 (192 + c / 64) 0 0 0 rfl rfl rfl rfl rfl]
    unfold Lib.decodeN
    rw [if_neg (by omega), if_neg (by omega), if_neg (by omega), if_neg (by omega)]
    rfl
  by_cases g3 : c < 65536
  · have e : enc c = [((224 + c / 4096 : Nat) : Int), ((128 + c / 64 % 64 : Nat) : Int), ((128 + c % 64 : Nat) : Int)] := by unfold enc; rw [if_neg g1, if_neg g2, if_pos g3]
    rw [e] at hb h2 hl ⊢
    obtain rfl | rfl : k = 1 ∨ k = 2 := by simp at h2; omega
    · rw [dec_eq _ hb (by simp) 1 (224 + c / 4096) 0 0 0 rfl rfl rfl rfl rfl]
      unfold Lib.decodeN
      rw [if_neg (by omega), if_neg (by omega), if_neg (by omega), if_neg (by omega)]
      rfl
    · rw [dec_eq _ hb (by simp) 2 (224 + c / 4096) (128 + c / 64 % 64) 0 0 rfl rfl rfl rfl rfl]
      unfold Lib.decodeN
      rw [if_neg (by omega), if_neg (by omega), if_neg (by omega), if_neg (by omega)]
      rfl
  · have e : enc c = [((240 + c / 262144 : Nat) : Int), ((128 + c / 4096 % 64 : Nat) : Int), ((128 + c / 64 % 64 : Nat) : Int), ((128 + c % 64 : Nat) : Int)] := by unfold enc; rw [if_neg g1, if_neg g2, if_neg g3]
    rw [e] at hb h2 hl ⊢
    obtain rfl | rfl | rfl : k = 1 ∨ k = 2 ∨ k = 3 := by simp at h2; omega
    · rw [dec_eq _ hb (by simp) 1 (240 + c / 262144) 0 0 0 rfl rfl rfl rfl rfl]
      unfold Lib.decodeN
      rw [if_neg (by omega), if_neg (by omega), if_neg (by omega), if_neg (by omega)]
      rfl
    · rw [dec_eq _ hb (by simp) 2 (240 + c / 262144) (128 + c / 4096 % 64) 0 0 rfl rfl rfl rfl rfl]
      unfold Lib.decodeN
      rw [if_neg (by omega), if_neg (by omega), if_neg (by omega), if_neg (by omega)]
      rfl
    · rw [dec_eq _ hb (by simp) 3 (240 + c / 262144) (128 + c / 4096 % 64) (128 + c / 64 % 64) 0 rfl rfl rfl rfl rfl]
      unfold Lib.decodeN
      rw [if_neg (by omega), if_neg (by omega), if_neg (by omega), if_neg (by omega)]
      rfl
theorem enc_tail (c k : Nat) (h1 : 1 ≤ k) (h2 : k < (enc c).length) : ∃ b : Nat, (enc c).getD k 0 = b ∧ 128 ≤ b ∧ b < 192 := by
  unfold enc at h2 ⊢
  split at h2
  · simp at h2; omega
  split at h2
  · rename_i g1 g2
    rw [if_neg g1, if_pos g2]
    obtain rfl : k = 1 := by simp at h2; omega
    exact ⟨128 + c % 64, rfl, by omega, by omega⟩
  split at h2
  · rename_i g1 g2 g3
    rw [if_neg g1, if_neg g2, if_pos g3]
    obtain rfl | rfl : k = 1 ∨ k = 2 := by simp at h2; omega
    · exact ⟨128 + c / 64 % 64, rfl, by omega, by omega⟩
    · exact ⟨128 + c % 64, rfl, by omega, by omega⟩
  · rename_i g1 g2 g3
    rw [if_neg g1, if_neg g2, if_neg g3]
    obtain rfl | rfl | rfl : k = 1 ∨ k = 2 ∨ k = 3 := by simp at h2; omega
    · exact ⟨128 + c / 4096 % 64, rfl, by omega, by omega⟩
    · exact ⟨128 + c / 64 % 64, rfl, by omega, by omega⟩
    · exact ⟨128 + c % 64, rfl, by omega, by omega⟩
theorem dec_drop (c : Nat) (hc : isRune c) (k : Nat) (h1 : 1 ≤ k) (h2 : k < (enc c).length) : dec ((enc c).drop k) = (65533, 1) := by
  obtain ⟨b, hb, hb0, hb1⟩ := enc_tail c k h1 h2
  refine dec_cont _ (bd_le fun z hz => enc_bd c hc z (List.mem_of_mem_drop hz)) (by simp; omega) b ?_ hb0 hb1
  rw [← hb]
  simp [List.getD]
/-- The half of a pair, and a number that is too great, as bytes. -/
def raw3 (c : Nat) : List Int := [((224 + c / 4096 % 16 : Nat) : Int), ((128 + c / 64 % 64 : Nat) : Int), ((128 + c % 64 : Nat) : Int)]
def raw4 (c : Nat) : List Int := [((240 + c / 262144 % 8 : Nat) : Int), ((128 + c / 4096 % 64 : Nat) : Int), ((128 + c / 64 % 64 : Nat) : Int), ((128 + c % 64 : Nat) : Int)]
theorem raw3_bd (c : Nat) (ys : List Int) (h : ∀ i, 0 ≤ ys.getD i 0 ∧ ys.getD i 0 ≤ 255) : ∀ i, 0 ≤ (raw3 c ++ ys).getD i 0 ∧ (raw3 c ++ ys).getD i 0 ≤ 255 :=
  bd_cons (by omega) (bd_cons (by omega) (bd_cons (by omega) h))
theorem raw4_bd (c : Nat) (ys : List Int) (h : ∀ i, 0 ≤ ys.getD i 0 ∧ ys.getD i 0 ≤ 255) : ∀ i, 0 ≤ (raw4 c ++ ys).getD i 0 ∧ (raw4 c ++ ys).getD i 0 ≤ 255 :=
  bd_cons (by omega) (bd_cons (by omega) (bd_cons (by omega) (bd_cons (by omega) h)))
theorem dec_raw3 (c : Nat) (hc : 55296 ≤ c ∧ c < 57344) (ys : List Int) (h : ∀ i, 0 ≤ ys.getD i 0 ∧ ys.getD i 0 ≤ 255) : dec (raw3 c ++ ys) = (65533, 1) := by
  obtain ⟨y0, hy0⟩ := nat_of _ (h 0).1
  rw [dec_eq _ (raw3_bd c ys h) (by simp [raw3]) (3 + ys.length) (224 + c / 4096 % 16) (128 + c / 64 % 64) (128 + c % 64) y0 (by simp [raw3]; omega) rfl rfl rfl (by simpa [raw3] using hy0)]
  unfold Lib.decodeN
  rw [if_neg (by omega), if_neg (by omega), if_pos (by omega), if_neg (by omega)]
  rfl
theorem dec_raw4 (c : Nat) (hc : 1114111 < c ∧ c < 2097152) (ys : List Int) (h : ∀ i, 0 ≤ ys.getD i 0 ∧ ys.getD i 0 ≤ 255) : dec (raw4 c ++ ys) = (65533, 1) := by
  rw [dec_eq _ (raw4_bd c ys h) (by simp [raw4]) (4 + ys.length) (240 + c / 262144 % 8) (128 + c / 4096 % 64) (128 + c / 64 % 64) (128 + c % 64) (by simp [raw4]; omega) rfl rfl rfl rfl]
  unfold Lib.decodeN
  rw [if_neg (by omega), if_neg (by omega), if_neg (by omega), if_pos (by omega), if_neg (by omega)]
  rfl

/-! ### where no sign begins -/
theorem u8At_first (zs : List Int) (h : 0 < zs.length) (hd : dec zs = (65533, 1)) : u8At zs 0 = 0 := by
  have := u8At_bad zs 0 h (by rw [List.drop_zero, hd]) (by rw [List.drop_zero, hd])
  simpa using this
/-- A place behind so many bytes more; none stays none. -/
def shiftBy (n : Nat) (u : Int) : Int := if u < 0 then -1 else n + u
theorem u8From_shift (xs zs : List Int) : ∀ (f i : Nat), u8From (xs ++ zs) f (xs.length + i) = shiftBy xs.length (u8From zs f i)
  | 0, i => by simp [u8From, shiftBy]
  | f + 1, i => by
    have ed : (xs ++ zs).drop (xs.length + i) = zs.drop i := by rw [List.drop_append]; simp
    have ih := u8From_shift xs zs f (i + (dec (zs.drop i)).2.toNat)
    simp only [u8From, ed, List.length_append]
    by_cases h : i < zs.length
    · rw [if_pos (show xs.length + i < xs.length + zs.length by omega), if_pos h]
      by_cases hb : (dec (zs.drop i)).1 = 65533 ∧ (dec (zs.drop i)).2 = 1
      · rw [if_pos hb, if_pos hb]
        unfold shiftBy
        rw [if_neg (by omega)]
        omega
      · rw [if_neg hb, if_neg hb, Nat.add_assoc, ih]
    · rw [if_neg (show ¬ xs.length + i < xs.length + zs.length by omega), if_neg h]
      rfl
theorem u8At_shift (xs zs : List Int) : u8At (xs ++ zs) xs.length = shiftBy xs.length (u8At zs 0) := by
  unfold u8At
  rw [u8From_fuel (xs ++ zs) ((xs ++ zs).length + 1) ((xs ++ zs).length + zs.length + 1) xs.length (by simp; omega) (by simp; omega)]
  rw [u8From_fuel zs (zs.length + 1) ((xs ++ zs).length + zs.length + 1) 0 (by omega) (by simp; omega)]
  exact u8From_shift xs zs _ 0
theorem u8At_enc (c : Nat) (hc : isRune c) (ys : List Int) (h : ∀ i, 0 ≤ ys.getD i 0 ∧ ys.getD i 0 ≤ 255) : u8At (enc c ++ ys) 0 = shiftBy (enc c).length (u8At ys 0) := by
  obtain ⟨h1, h2⟩ := dec_enc c hc ys h
  have hl := (enc_len c).1
  have hg := u8At_good (enc c ++ ys) 0 (by simp; omega) (by rw [List.drop_zero]; exact h2)
  rw [List.drop_zero, h1] at hg
  rw [hg, show 0 + ((enc c).length : Int).toNat = (enc c).length by omega]
  exact u8At_shift (enc c) ys
end Go.Proofs.YtneadcbadnicfaaDoor
