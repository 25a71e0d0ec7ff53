/-
  The document's reader of JSON in memory; its here, Blank, Sign. Conditions: those that each theorem names. The document's reader of JSON: Blank, Sign, digit, unit. Conditions: those that each theorem names.
-/
import Derived.Test.YtiknhkkeifemcaaGreatDoorPkN2
import Derived.Test.YtiknhkkeifemcaaGreatDoorPkN3
import Derived.Test.YtiknhkkeifemcaaGreatDoorPkN5
import Derived.Lib.RuneBytes
import Derived.Deep.QuietTactic
namespace Go.Proofs.YtiknhkkeifemcaaGreatDoor
open Go.ChangeShapes Go.WideShapes Go.ChangeAt Go.RowKit

theorem wsize_any (n : Int) (w : World) :
    Calls Tryz.prog 94 #[.int .u8 n] w fun e w' => e = .returned (.int .i64 (kSize n)) ∧ w = w' := by
  by_cases h : n < 1 ∨ 10 < n
  · have H := Lib.hid (kSize_else n h)
    have b1 : (n == 1) = false := by simp; omega
    have b2 : (n == 2) = false := by simp; omega
    have b3 : (n == 3) = false := by simp; omega
    have b4 : (n == 4) = false := by simp; omega
    have b5 : (n == 5) = false := by simp; omega
    have b6 : (n == 6) = false := by simp; omega
    have b7 : (n == 7) = false := by simp; omega
    have b8 : (n == 8) = false := by simp; omega
    have b9 : (n == 9) = false := by simp; omega
    have b10 : (n == 10) = false := by simp; omega
    clear h
    rw [H.out]
    go_enter Tryz.func94, Tryz.ntmps94
    go_wp2
    go_ret
    exact ⟨rfl, rfl⟩
  · have h' : n = 1 ∨ n = 2 ∨ n = 3 ∨ n = 4 ∨ n = 5 ∨ n = 6 ∨ n = 7 ∨ n = 8 ∨ n = 9 ∨ n = 10 := by omega
    clear h
    rcases h' with rfl | rfl | rfl | rfl | rfl | rfl | rfl | rfl | rfl | rfl
    all_goals
      go_enter Tryz.func94, Tryz.ntmps94
      go_wp2
      go_ret
      exact ⟨ret_int (by decide), rfl⟩
end Go.Proofs.YtiknhkkeifemcaaGreatDoor
namespace Go.Proofs.YtiknhkkeifemcaaGreatDoor
open Go.ChangeShapes Go.WideShapes Go.ChangeAt Go.RowKit

theorem wsign_any (n : Int) (w : World) :
    Calls Tryz.prog 96 #[.int .u8 n] w fun e w' => e = .returned (.bool (kSign n)) ∧ w = w' := by
  by_cases h1 : 2 ≤ n
  · by_cases h2 : n ≤ 5
    · rw [show kSign n = true from decide_eq_true ⟨h1, h2⟩]
      go_enter Tryz.func96, Tryz.ntmps96
      go_wp2
      go_ret
      exact ⟨rfl, rfl⟩
    · rw [show kSign n = false from decide_eq_false (fun h => h2 h.2)]
      go_enter Tryz.func96, Tryz.ntmps96
      go_wp2
      go_ret
      exact ⟨rfl, rfl⟩
  · rw [show kSign n = false from decide_eq_false (fun h => h1 h.1)]
    go_enter Tryz.func96, Tryz.ntmps96
    go_wp2
    go_ret
    exact ⟨rfl, rfl⟩
end Go.Proofs.YtiknhkkeifemcaaGreatDoor
namespace Go.Proofs.YtiknhkkeifemcaaGreatDoor
open Go.RowKit Go.Lib

theorem bytesOf_nat (zs : List Int) (hb : ∀ i, 0 ≤ zs.getD i 0 ∧ zs.getD i 0 ≤ 255) (j : Nat) : ((bytesOf zs).get! j).toNat = (zs.getD j 0).toNat := by
  by_cases hj : j < zs.length
  · have := bytesOf_get zs hb j hj
    omega
  · have h1 : zs.getD j 0 = 0 := by simp [List.getD, List.getElem?_eq_none (Nat.le_of_not_lt hj)]
    rw [h1]
    have h2 : ¬ j < (bytesOf zs).size := by rw [bytesOf_size]; exact hj
    have h3 : (bytesOf zs).get! j = default := by
      show (bytesOf zs).data[j]! = default
      exact getElem!_neg _ _ h2
    rw [h3]
    rfl
theorem dec_eq (zs : List Int) (hb : ∀ i, 0 ≤ zs.getD i 0 ∧ zs.getD i 0 ≤ 255) (h : 0 < zs.length) (n b0 b1 b2 b3 : Nat) (hn : zs.length = n) (h0 : zs.getD 0 0 = b0) (h1 : zs.getD 1 0 = b1) (h2 : zs.getD 2 0 = b2) (h3 : zs.getD 3 0 = b3) :
    dec zs = (((Lib.decodeN n b0 b1 b2 b3).1 : Int), ((Lib.decodeN n b0 b1 b2 b3).2 : Int)) := by
  have e : Lib.decodeGo (bytesOf zs) = Utf8.decode (bytesOf zs) 0 := by
    unfold Lib.decodeGo
    rw [if_neg (by rw [bytesOf_size]; omega)]
  unfold dec
  rw [e, Lib.decode_at, bytesOf_size, bytesOf_nat zs hb, bytesOf_nat zs hb, bytesOf_nat zs hb, bytesOf_nat zs hb]
  simp only [Nat.zero_add, h0, h1, h2, h3, Int.toNat_natCast, Nat.sub_zero, hn]

def enc (c : Nat) : List Int :=
  if c < 128 then [(c : Int)]
  else if c < 2048 then [((192 + c / 64 : Nat) : Int), ((128 + c % 64 : Nat) : Int)]
  else if c < 65536 then [((224 + c / 4096 : Nat) : Int), ((128 + c / 64 % 64 : Nat) : Int), ((128 + c % 64 : Nat) : Int)]
  else [((240 + c / 262144 : Nat) : Int), ((128 + c / 4096 % 64 : Nat) : Int), ((128 + c / 64 % 64 : Nat) : Int), ((128 + c % 64 : Nat) : Int)]
def isRune (c : Nat) : Prop := c < 55296 ∨ (57344 ≤ c ∧ c ≤ 1114111)
theorem bd_cons {x : Nat} {zs : List Int} (hx : x ≤ 255) (h : ∀ i, 0 ≤ zs.getD i 0 ∧ zs.getD i 0 ≤ 255) : ∀ i, 0 ≤ ((x : Int) :: zs).getD i 0 ∧ ((x : Int) :: zs).getD i 0 ≤ 255 := by
  intro i
  cases i with
  | zero => simp; omega
  | succ i => simpa [List.getD] using h i
theorem bd_nil : ∀ i, 0 ≤ ([] : List Int).getD i 0 ∧ ([] : List Int).getD i 0 ≤ 255 := by intro i; simp [List.getD]
theorem enc_append_bd (c : Nat) (hc : isRune c) (ys : List Int) (h : ∀ i, 0 ≤ ys.getD i 0 ∧ ys.getD i 0 ≤ 255) : ∀ i, 0 ≤ (enc c ++ ys).getD i 0 ∧ (enc c ++ ys).getD i 0 ≤ 255 := by
  unfold isRune at hc
  unfold enc
  split
  · exact bd_cons (by omega) h
  split
  · exact bd_cons (by omega) (bd_cons (by omega) h)
  split
  · exact bd_cons (by omega) (bd_cons (by omega) (bd_cons (by omega) h))
  · exact bd_cons (by omega) (bd_cons (by omega) (bd_cons (by omega) (bd_cons (by omega) h)))
theorem nat_of (z : Int) (h0 : 0 ≤ z) : ∃ n : Nat, z = n := ⟨z.toNat, by omega⟩
theorem dec_enc (c : Nat) (hc : isRune c) (ys : List Int) (h : ∀ i, 0 ≤ ys.getD i 0 ∧ ys.getD i 0 ≤ 255) : (dec (enc c ++ ys)).2 = (enc c).length ∧ ¬ ((dec (enc c ++ ys)).1 = 65533 ∧ (dec (enc c ++ ys)).2 = 1) := by
  have hbd := enc_append_bd c hc ys h
  obtain ⟨y0, hy0⟩ := nat_of _ (h 0).1
  obtain ⟨y1, hy1⟩ := nat_of _ (h 1).1
  obtain ⟨y2, hy2⟩ := nat_of _ (h 2).1
  unfold isRune at hc
  by_cases h1 : c < 128
  · have e : enc c = [(c : Int)] := if_pos h1
    rw [e] at hbd ⊢
    rw [dec_eq _ hbd (by simp) (1 + ys.length) c y0 y1 y2 (by simp; omega) rfl (by simpa using hy0) (by simpa using hy1) (by simpa using hy2)]
    unfold Lib.decodeN
    rw [if_pos h1]
    simp
    omega
  by_cases h2 : c < 2048
  · have e : enc c = [((192 + c / 64 : Nat) : Int), ((128 + c % 64 : Nat) : Int)] := by unfold enc; rw [if_neg h1, if_pos h2]
    rw [e] at hbd ⊢
    rw [dec_eq _ hbd (by simp) (2 + ys.length) (192 + c / 64) (128 + c % 64) y0 y1 (by simp; omega) rfl rfl (by simpa using hy0) (by simpa using hy1)]
    unfold Lib.decodeN
    rw [if_neg (by omega), if_pos (by omega), if_pos (by omega)]
    simp
  by_cases h3 : c < 65536
  · have e : enc c = [((224 + c / 4096 : Nat) : Int), ((128 + c / 64 % 64 : Nat) : Int), ((128 + c % 64 : Nat) : Int)] := by unfold enc; rw [if_neg h1, if_neg h2, if_pos h3]
    rw [e] at hbd ⊢
    rw [dec_eq _ hbd (by simp) (3 + ys.length) (224 + c / 4096) (128 + c / 64 % 64) (128 + c % 64) y0 (by simp; omega) rfl rfl rfl (by simpa using hy0)]
    unfold Lib.decodeN
    rw [if_neg (by omega), if_neg (by omega), if_pos (by omega), if_pos (by omega)]
    simp
  · have e : enc c = [((240 + c / 262144 : Nat) : Int), ((128 + c / 4096 % 64 : Nat) : Int), ((128 + c / 64 % 64 : Nat) : Int), ((128 + c % 64 : Nat) : Int)] := by unfold enc; rw [if_neg h1, if_neg h2, if_neg h3]
    rw [e] at hbd ⊢
    rw [dec_eq _ hbd (by simp) (4 + ys.length) (240 + c / 262144) (128 + c / 4096 % 64) (128 + c / 64 % 64) (128 + c % 64) (by simp; omega) rfl rfl rfl rfl]
    unfold Lib.decodeN
    rw [if_neg (by omega), if_neg (by omega), if_neg (by omega), if_pos (by omega), if_pos (by omega)]
    simp
theorem bd_le {zs : List Int} (h : ∀ z ∈ zs, 0 ≤ z ∧ z ≤ 255) : ∀ i, 0 ≤ zs.getD i 0 ∧ zs.getD i 0 ≤ 255 := by
  intro i
  by_cases hi : i < zs.length
  · have hm : zs.getD i 0 ∈ zs := by simp [List.getD, hi]
    exact h _ hm
  · simp [List.getD, List.getElem?_eq_none (Nat.le_of_not_lt hi)]
theorem bd_mem {zs : List Int} (h : ∀ i, 0 ≤ zs.getD i 0 ∧ zs.getD i 0 ≤ 255) : ∀ z ∈ zs, 0 ≤ z ∧ z ≤ 255 := by
  intro z hz
  obtain ⟨i, hi, rfl⟩ := List.getElem_of_mem hz
  have := h i
  simpa [List.getD, hi] using this
theorem enc_bd (c : Nat) (hc : isRune c) : ∀ z ∈ enc c, 0 ≤ z ∧ z ≤ 255 := by
  have h := enc_append_bd c hc [] bd_nil
  rw [List.append_nil] at h
  exact bd_mem h
theorem enc_len (c : Nat) : 1 ≤ (enc c).length ∧ (enc c).length ≤ 4 := by
  unfold enc
  split
  · simp
  split
  · simp
  split <;> simp
/-! ### where no sign begins -/
end Go.Proofs.YtiknhkkeifemcaaGreatDoor
namespace Go.Proofs.YtiknhkkeifemcaaGreatDoor
open Go.RowKit Go.Lib
theorem take1 : ∀ {l : List Int}, 1 ≤ l.length → l.take 1 = [l.getD 0 0]
  | _ :: _, _ => rfl
theorem take2 : ∀ {l : List Int}, 2 ≤ l.length → l.take 2 = [l.getD 0 0, l.getD 1 0]
  | _ :: _ :: _, _ => rfl
theorem take3 : ∀ {l : List Int}, 3 ≤ l.length → l.take 3 = [l.getD 0 0, l.getD 1 0, l.getD 2 0]
  | _ :: _ :: _ :: _, _ => rfl
theorem take4 : ∀ {l : List Int}, 4 ≤ l.length → l.take 4 = [l.getD 0 0, l.getD 1 0, l.getD 2 0, l.getD 3 0]
  | _ :: _ :: _ :: _ :: _, _ => rfl
theorem dec_good (l : List Int) (hb : ∀ i, 0 ≤ l.getD i 0 ∧ l.getD i 0 ≤ 255) (hl : 0 < l.length) (h : ¬ ((dec l).1 = 65533 ∧ (dec l).2 = 1)) :
    ∃ r : Nat, isRune r ∧ (dec l).1 = r ∧ l.take (enc r).length = enc r ∧ (dec l).2 = ((enc r).length : Nat) ∧ (enc r).length ≤ l.length := by
  obtain ⟨y0, hy0⟩ := nat_of _ (hb 0).1
  obtain ⟨y1, hy1⟩ := nat_of _ (hb 1).1
  obtain ⟨y2, hy2⟩ := nat_of _ (hb 2).1
  obtain ⟨y3, hy3⟩ := nat_of _ (hb 3).1
  have l0 := (hb 0).2
  have l1 := (hb 1).2
  have l2 := (hb 2).2
  have l3 := (hb 3).2
  rw [hy0] at l0
  rw [hy1] at l1
  rw [hy2] at l2
  rw [hy3] at l3
  have e := dec_eq l hb hl l.length y0 y1 y2 y3 rfl hy0 hy1 hy2 hy3
  rw [e] at h ⊢
  unfold Lib.decodeN at h ⊢
  by_cases c1 : y0 < 128
  · rw [if_pos c1]
    refine ⟨y0, by unfold isRune; omega, rfl, ?_, ?_, ?_⟩ <;> rw [show enc y0 = [(y0 : Int)] from if_pos c1]
    · rw [show ([(y0 : Int)] : List Int).length = 1 from rfl, take1 hl, hy0]
    · rfl
    · exact hl
  rw [if_neg c1] at h ⊢
  by_cases c2 : y0 / 32 = 6 ∧ (1 < l.length ∧ y1 / 64 = 2)
  · rw [if_pos c2] at h ⊢
    by_cases d : y0 % 32 * 64 + y1 % 64 ≥ 128
    · rw [if_pos d]
      obtain ⟨c21, c22, c23⟩ := c2
      have er : enc (y0 % 32 * 64 + y1 % 64) = [(y0 : Int), (y1 : Int)] := by
        unfold enc
        rw [if_neg (by omega), if_pos (by omega), show 192 + (y0 % 32 * 64 + y1 % 64) / 64 = y0 by omega, show 128 + (y0 % 32 * 64 + y1 % 64) % 64 = y1 by omega]
      refine ⟨_, by unfold isRune; omega, rfl, ?_, ?_, ?_⟩ <;> rw [er]
      · rw [show ([(y0 : Int), (y1 : Int)] : List Int).length = 2 from rfl, take2 c22, hy0, hy1]
      · rfl
      · exact c22
    · rw [if_neg d] at h
      exact absurd ⟨rfl, rfl⟩ h
  rw [if_neg c2] at h ⊢
  by_cases c3 : y0 / 16 = 14 ∧ (1 < l.length ∧ y1 / 64 = 2) ∧ (2 < l.length ∧ y2 / 64 = 2)
  · rw [if_pos c3] at h ⊢
    split at h
    · rename_i d
      rw [if_pos d]
      obtain ⟨c31, ⟨_, c33⟩, c34, c35⟩ := c3
      have er : enc (y0 % 16 * 4096 + y1 % 64 * 64 + y2 % 64) = [(y0 : Int), (y1 : Int), (y2 : Int)] := by
        unfold enc
        rw [if_neg (by omega), if_neg (by omega), if_pos (by omega), show 224 + (y0 % 16 * 4096 + y1 % 64 * 64 + y2 % 64) / 4096 = y0 by omega, show 128 + (y0 % 16 * 4096 + y1 % 64 * 64 + y2 % 64) / 64 % 64 = y1 by omega, show 128 + (y0 % 16 * 4096 + y1 % 64 * 64 + y2 % 64) % 64 = y2 by omega]
      refine ⟨_, by unfold isRune; omega, rfl, ?_, ?_, ?_⟩ <;> rw [er]
      · rw [show ([(y0 : Int), (y1 : Int), (y2 : Int)] : List Int).length = 3 from rfl, take3 c34, hy0, hy1, hy2]
      · rfl
      · exact c34
    · exact absurd ⟨rfl, rfl⟩ h
  rw [if_neg c3] at h ⊢
  by_cases c4 : y0 / 8 = 30 ∧ (1 < l.length ∧ y1 / 64 = 2) ∧ (2 < l.length ∧ y2 / 64 = 2) ∧ (3 < l.length ∧ y3 / 64 = 2)
  · rw [if_pos c4] at h ⊢
    split at h
    · rename_i d
      rw [if_pos d]
      obtain ⟨c41, ⟨_, c43⟩, ⟨_, c45⟩, c46, c47⟩ := c4
      have er : enc (y0 % 8 * 262144 + y1 % 64 * 4096 + y2 % 64 * 64 + y3 % 64) = [(y0 : Int), (y1 : Int), (y2 : Int), (y3 : Int)] := by
        unfold enc
        rw [if_neg (by omega), if_neg (by omega), if_neg (by omega), show 240 + (y0 % 8 * 262144 + y1 % 64 * 4096 + y2 % 64 * 64 + y3 % 64) / 262144 = y0 by omega, show 128 + (y0 % 8 * 262144 + y1 % 64 * 4096 + y2 % 64 * 64 + y3 % 64) / 4096 % 64 = y1 by omega, show 128 + (y0 % 8 * 262144 + y1 % 64 * 4096 + y2 % 64 * 64 + y3 % 64) / 64 % 64 = y2 by omega, show 128 + (y0 % 8 * 262144 + y1 % 64 * 4096 + y2 % 64 * 64 + y3 % 64) % 64 = y3 by omega]
      refine ⟨_, by unfold isRune; omega, rfl, ?_, ?_, ?_⟩ <;> rw [er]
      · rw [show ([(y0 : Int), (y1 : Int), (y2 : Int), (y3 : Int)] : List Int).length = 4 from rfl, take4 c46, hy0, hy1, hy2, hy3]
      · rfl
      · exact c46
    · exact absurd ⟨rfl, rfl⟩ h
  rw [if_neg c4] at h
  exact absurd ⟨rfl, rfl⟩ h
def Wf (X : List Int) : Prop := ∃ rs : List Nat, (∀ r ∈ rs, isRune r) ∧ X = rs.flatMap enc
theorem Wf.nil : Wf [] := ⟨[], (fun r h => by cases h), rfl⟩
theorem Wf.cons {r : Nat} {X : List Int} (hr : isRune r) (h : Wf X) : Wf (enc r ++ X) := by
  obtain ⟨rs, h1, rfl⟩ := h
  exact ⟨r :: rs, fun q hq => by rcases List.mem_cons.1 hq with rfl | hq; · exact hr
                                 · exact h1 q hq, by rw [List.flatMap_cons]⟩
theorem Wf.one {r : Nat} (hr : isRune r) : Wf (enc r) := by
  have := Wf.cons hr Wf.nil
  rwa [List.append_nil] at this
theorem Wf.app {X Y : List Int} (hx : Wf X) (hy : Wf Y) : Wf (X ++ Y) := by
  obtain ⟨rs, h1, rfl⟩ := hx
  obtain ⟨qs, h2, rfl⟩ := hy
  exact ⟨rs ++ qs, fun r hr => by rcases List.mem_append.1 hr with h | h; · exact h1 r h
                                  · exact h2 r h, by rw [List.flatMap_append]⟩
theorem Wf.bd {X : List Int} (h : Wf X) : ∀ z ∈ X, 0 ≤ z ∧ z ≤ 255 := by
  obtain ⟨rs, h1, rfl⟩ := h
  intro z hz
  obtain ⟨r, hr, hz⟩ := List.mem_flatMap.1 hz
  exact enc_bd r (h1 r hr) z hz
theorem dec_first (r : Nat) (hr : isRune r) (Y : List Int) (hy : ∀ i, 0 ≤ Y.getD i 0 ∧ Y.getD i 0 ≤ 255) : (dec (enc r ++ Y)).1 = r := by
  have hb := enc_append_bd r hr Y hy
  obtain ⟨d1, d2⟩ := dec_enc r hr Y hy
  have hl : 0 < (enc r ++ Y).length := by rw [List.length_append]; have := (enc_len r).1; omega
  obtain ⟨q, hq, e1, e2, e3, e4⟩ := dec_good _ hb hl d2
  rw [e1]
  have hlen : (enc q).length = (enc r).length := by rw [d1] at e3; omega
  rw [hlen, List.take_left] at e2
  -- equal bytes, equal signs
  have key : q = r := by
    unfold isRune at hr hq
    unfold enc at e2
    by_cases r1 : r < 128 <;> by_cases r2 : r < 2048 <;> by_cases r3 : r < 65536 <;> by_cases q1 : q < 128 <;> by_cases q2 : q < 2048 <;> by_cases q3 : q < 65536 <;> simp only [r1, r2, r3, q1, q2, q3, if_true, if_false, List.cons.injEq, reduceCtorEq, and_false, and_true] at e2 <;> omega
  rw [key]
theorem Wf.tail {r : Nat} (hr : isRune r) {X : List Int} (hx : ∀ z ∈ X, 0 ≤ z ∧ z ≤ 255) (h : Wf (enc r ++ X)) : Wf X := by
  obtain ⟨rs, h1, h2⟩ := h
  cases rs with
  | nil =>
    have h3 := congrArg List.length h2
    rw [List.length_append, List.flatMap_nil, List.length_nil] at h3
    have := (enc_len r).1
    omega
  | cons q rs =>
    rw [List.flatMap_cons] at h2
    have hq := h1 q (List.mem_cons_self ..)
    have hw : Wf (rs.flatMap enc) := ⟨rs, fun x hx => h1 x (List.mem_cons_of_mem _ hx), rfl⟩
    have e1 := dec_first r hr X (bd_le hx)
    rw [h2, dec_first q hq _ (bd_le hw.bd)] at e1
    have : q = r := by omega
    subst this
    have := List.append_cancel_left h2
    rw [this]
    exact hw
theorem Wf.drop {T X : List Int} (hT : Wf T) (hx : ∀ z ∈ X, 0 ≤ z ∧ z ≤ 255) (h : Wf (T ++ X)) : Wf X := by
  obtain ⟨rs, h1, rfl⟩ := hT
  induction rs with
  | nil => simpa using h
  | cons r rs ih =>
    rw [List.flatMap_cons, List.append_assoc] at h
    have hr := h1 r (List.mem_cons_self ..)
    have hrs : ∀ q ∈ rs, isRune q := fun q hq => h1 q (List.mem_cons_of_mem _ hq)
    exact ih hrs (Wf.tail hr (fun z hz => by
      rcases List.mem_append.1 hz with h2 | h2
      · exact (Wf.bd ⟨rs, hrs, rfl⟩) z h2
      · exact hx z h2) h)
end Go.Proofs.YtiknhkkeifemcaaGreatDoor
namespace Go.Proofs.YtiknhkkeifemcaaGreatDoor
open Go.ChangeShapes Go.WideShapes Go.ChangeAt Go.RowKit

structure RdSc (W : World) (r : Nat) (x0 x1 x2 : Value) (p : Option Addr) (n cap : Nat) (zs : List Int) (bad : Value) (a : Nat) : Prop where
  blk : W.heap[r]? = some (.cells #[x0, x1, x2, .slice p n cap, .int .i64 (a : Nat), bad] 155 (0, 0))
  by_ : Bytes W p zs
  len : zs.length = n
  cap_ : n ≤ cap
  np : zs ≠ [] → ∀ q, p = some q → q.block ≠ r
  le : a ≤ n + 1
  high : n ≤ 1099511627776
section
variable {w : World} {r : Nat} {x0 x1 x2 : Value} {p : Option Addr} {n cap : Nat} {zs : List Int} {bad : Value} {a : Nat}
theorem Bytes.excR {W W' : World} {R : Nat} {p : Option Addr} {zs : List Int} (h : Bytes W p zs) (hb : Exc R W.heap.size W W') (hp : zs ≠ [] → ∀ q, p = some q → q.block ≠ R) : Bytes W' p zs := by
  refine ⟨h.1, fun hne => ?_⟩
  obtain ⟨b, off, rfl, hlt, hc⟩ := h.2 hne
  exact ⟨b, off, rfl, Nat.lt_of_lt_of_le hlt hb.size, fun i hi => (hb.cell (p := ⟨b, off + i, none⟩) hlt (hp hne ⟨b, off, none⟩ rfl)).trans (hc i hi)⟩
theorem RdSc.below {w' : World} (h : RdSc w r x0 x1 x2 p n cap zs bad a) (hb : Below w.heap.size w w') : RdSc w' r x0 x1 x2 p n cap zs bad a :=
  ⟨blk_below h.blk hb (blk_lt h.blk), h.by_.below (Nat.le_refl _) hb, h.len, h.cap_, h.np, h.le, h.high⟩
def RdTo (w : World) (r : Nat) (x0 x1 x2 : Value) (p : Option Addr) (n cap : Nat) (zs : List Int) (bad : Value) (a : Nat) (w' : World) : Prop := Exc r w.heap.size w w' ∧ RdSc w' r x0 x1 x2 p n cap zs bad a
theorem RdTo.then {w1 w2 : World} {b c : Nat} (h : RdTo w r x0 x1 x2 p n cap zs bad b w1) (k : RdTo w1 r x0 x1 x2 p n cap zs bad c w2) : RdTo w r x0 x1 x2 p n cap zs bad c w2 := ⟨h.1.then k.1, k.2⟩
theorem RdTo.bel {w1 w2 : World} {c : Nat} (h : RdTo w r x0 x1 x2 p n cap zs bad c w1) (k : Below w1.heap.size w1 w2) : RdTo w r x0 x1 x2 p n cap zs bad c w2 := ⟨h.1.then (.of_below k), h.2.below k⟩
theorem RdTo.refl (h : RdSc w r x0 x1 x2 p n cap zs bad a) : RdTo w r x0 x1 x2 p n cap zs bad a w := ⟨.refl _ _ _, h⟩
end
end Go.Proofs.YtiknhkkeifemcaaGreatDoor
