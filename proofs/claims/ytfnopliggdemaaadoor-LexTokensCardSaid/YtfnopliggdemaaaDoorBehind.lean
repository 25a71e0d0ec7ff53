/-
  The document's own Behind: the place behind blanks and remarks. Conditions: those that each theorem names.
-/
import Derived.Test.YtfnopliggdemaaaDoorRefLex
import Derived.Test.YtfnopliggdemaaaDoorGapPlain
namespace Go.Proofs.YtfnopliggdemaaaDoor
open Go.ChangeShapes Go.WideShapes Go.ChangeAt Go.RowKit Go.Shelf

theorem blank_no {s : ByteArray} {k : Nat} (h : k < s.size) (hb : stA (bts s) isBlank k = false) : ((s[k].toNat : Int) == 32) = false ∧ ((s[k].toNat : Int) == 9) = false ∧ ((s[k].toNat : Int) == 10) = false ∧ ((s[k].toNat : Int) == 13) = false := by
  rw [stA_of (by rw [bts_length]; exact h), bts_get h] at hb
  have hc := of_decide_eq_false hb
  simp only [beq_eq_false_iff_ne, ne_eq]
  omega
theorem slash_no {s : ByteArray} {k : Nat} (h : k < s.size) (hc : (s[k].toNat : Int) = 47) (h2 : slash2 (bts s) k = false) : ((bts s).getD (k + 1) 0 == 47) = false := by
  unfold slash2 at h2
  rw [stA_of (by rw [bts_length]; exact h), bts_get h, hc, show isC 47 47 = true from rfl, Bool.true_and] at h2
  by_cases h3 : k + 1 < s.size
  · rw [stA_of (by rw [bts_length]; exact h3)] at h2
    exact h2
  · rw [bts_end (by omega)]
    rfl
theorem slash_yes {s : ByteArray} {k : Nat} (h : k < s.size) (h2 : slash2 (bts s) k = true) : ((s[k].toNat : Int) == 47) = true ∧ ((bts s).getD (k + 1) 0 == 47) = true := by
  unfold slash2 at h2
  rw [Bool.and_eq_true] at h2
  rw [← bts_get h]
  exact ⟨stA_p h2.1, stA_p h2.2⟩
set_option maxRecDepth 100000 in
set_option maxHeartbeats 800000 in
theorem behind_any (s : ByteArray) (x : Int) (i : Nat) (w : World) (hx : x = i) (hs : s.size ≤ 281474976710656) (hi : i ≤ s.size) :
    Calls Tryd.prog 15 #[.string s, .int .i64 x] w fun e w' => e = .returned (.int .i64 (gap (bts s) i : Nat)) ∧ w = w' := by
  subst hx
  obtain ⟨r, hr⟩ : ∃ r, gap (bts s) i = r := ⟨_, rfl⟩
  have HR := Lib.hid hr
  rw [hr]
  clear hr
  go_enter Tryd.func15, Tryd.ntmps15
  go_wp2
  go_loop [1] (fun j => ∃ k : Nat, k ≤ s.size ∧ j = .int .i64 k ∧ r = gap (bts s) k) (fun j => s.size - (intOf j).toNat)
  case atStart => exact ⟨i, hi, rfl, HR.out.symm⟩
  case round =>
    obtain ⟨k, hk, rfl, hj⟩ := hrel
    have HJ := Lib.hid hj
    clear hj
    by_cases hlt : k < s.size
    · have hgk := bts_get hlt
      cases hb : stA (bts s) isBlank k
      · cases h2 : slash2 (bts s) k
        · have HG := Lib.hid (gap_stop hb h2)
          obtain ⟨t32, t9, t10, t13⟩ := blank_no hlt hb
          by_cases c47 : (s[k].toNat : Int) = 47
          · have hd := slash_no hlt c47 h2
            have t47 : ((s[k].toNat : Int) == 47) = true := beq_iff_eq.2 c47
            clear hb h2 c47 hgk
            go_wp2_with fail
            refine (at_any s _ (k + 1) _ (by omega)).mono ?_
            rintro e w2 ⟨rfl, rfl⟩
            generalize (bts s).getD (k + 1) 0 = z at hd ⊢
            go_wp2
            go_ret
            exact ⟨ret_int (by rw [HJ.out, HG.out]), rfl⟩
          · have t47 : ((s[k].toNat : Int) == 47) = false := beq_eq_false_iff_ne.2 c47
            clear hb h2 c47 hgk
            go_wp2
            go_ret
            exact ⟨ret_int (by rw [HJ.out, HG.out]), rfl⟩
        · have HG := Lib.hid (gap_remark h2)
          obtain ⟨t32, t9, t10, t13⟩ := blank_no hlt hb
          obtain ⟨t47, hd⟩ := slash_yes hlt h2
          have hrl := runTo_le (bts s) notLf k (by rw [bts_length]; exact hk)
          have hrg := slash2_run h2
          rw [bts_length] at hrl
          clear hb h2 hgk
          go_wp2_with fail
          refine (at_any s _ (k + 1) _ (by omega)).mono ?_
          rintro e w2 ⟨rfl, rfl⟩
          generalize (bts s).getD (k + 1) 0 = z at hd ⊢
          go_wp2
          go_loop [1] (fun j => ∃ m : Nat, k ≤ m ∧ m ≤ s.size ∧ j = .int .i64 m ∧ runTo (bts s) notLf k = runTo (bts s) notLf m) (fun j => s.size - (intOf j).toNat)
          case atStart => exact ⟨k, Nat.le_refl _, hk, rfl, rfl⟩
          case round =>
            obtain ⟨m, hkm, hm, rfl, hq⟩ := hrel
            have HQ := Lib.hid hq
            clear hq
            by_cases hml : m < s.size
            · have hgm := bts_get hml
              by_cases c10 : (s[m].toNat : Int) = 10
              · have HS := Lib.hid (runTo_stop (zs := bts s) (p := notLf) (i := m) (by rw [stA_of (by rw [bts_length]; exact hml), hgm, c10]; rfl))
                have tm : ((s[m].toNat : Int) != 10) = false := by rw [c10]; rfl
                have hkm2 : k + 2 ≤ m := by have h1 := HQ.out; rw [HS.out] at h1; omega
                clear c10 hgm
                go_wp2
                go_round
                case rel => exact ⟨m, hm, rfl, by rw [HJ.out, HG.out, HQ.out, HS.out]⟩
                case measure => simp [intOf]; omega
              · have HS := Lib.hid (runTo_step (zs := bts s) (p := notLf) (i := m) (by rw [stA_of (by rw [bts_length]; exact hml), hgm]; exact decide_eq_true c10))
                have tm : ((s[m].toNat : Int) != 10) = true := by rw [bne_iff_ne]; exact c10
                clear c10 hgm
                go_wp2
                go_round
                case rel => exact ⟨m + 1, by omega, by omega, by go_num, by rw [HQ.out, HS.out]⟩
                case measure => simp [intOf]; omega
            · have HS := Lib.hid (runTo_stop (zs := bts s) (p := notLf) (i := m) (stA_ge (by rw [bts_length]; omega)))
              have hkm2 : k + 2 ≤ m := by have h1 := HQ.out; rw [HS.out] at h1; omega
              go_wp2
              go_round
              case rel => exact ⟨m, hm, rfl, by rw [HJ.out, HG.out, HQ.out, HS.out]⟩
              case measure => simp [intOf]; omega
      · have HG := Lib.hid (gap_blank hb)
        have hc : (s[k].toNat : Int) = 32 ∨ (s[k].toNat : Int) = 9 ∨ (s[k].toNat : Int) = 10 ∨ (s[k].toNat : Int) = 13 := by
          rw [← hgk]
          exact of_decide_eq_true (stA_p hb)
        clear hb hgk
        rcases hc with hc | hc | hc | hc
        · have t32 : ((s[k].toNat : Int) == 32) = true := by simp only [beq_iff_eq]; omega
          clear hc
          go_wp2
          go_round
          case rel => exact ⟨k + 1, by omega, by go_num, HJ.out.trans HG.out⟩
          case measure => simp [intOf]; omega
        · have t32 : ((s[k].toNat : Int) == 32) = false := by simp only [beq_eq_false_iff_ne, ne_eq]; omega
          have t9 : ((s[k].toNat : Int) == 9) = true := by simp only [beq_iff_eq]; omega
          clear hc
          go_wp2
          go_round
          case rel => exact ⟨k + 1, by omega, by go_num, HJ.out.trans HG.out⟩
          case measure => simp [intOf]; omega
        · have t32 : ((s[k].toNat : Int) == 32) = false := by simp only [beq_eq_false_iff_ne, ne_eq]; omega
          have t9 : ((s[k].toNat : Int) == 9) = false := by simp only [beq_eq_false_iff_ne, ne_eq]; omega
          have t10 : ((s[k].toNat : Int) == 10) = true := by simp only [beq_iff_eq]; omega
          clear hc
          go_wp2
          go_round
          case rel => exact ⟨k + 1, by omega, by go_num, HJ.out.trans HG.out⟩
          case measure => simp [intOf]; omega
        · have t32 : ((s[k].toNat : Int) == 32) = false := by simp only [beq_eq_false_iff_ne, ne_eq]; omega
          have t9 : ((s[k].toNat : Int) == 9) = false := by simp only [beq_eq_false_iff_ne, ne_eq]; omega
          have t10 : ((s[k].toNat : Int) == 10) = false := by simp only [beq_eq_false_iff_ne, ne_eq]; omega
          have t13 : ((s[k].toNat : Int) == 13) = true := by simp only [beq_iff_eq]; omega
          clear hc
          go_wp2
          go_round
          case rel => exact ⟨k + 1, by omega, by go_num, HJ.out.trans HG.out⟩
          case measure => simp [intOf]; omega
    · have HG := Lib.hid (gap_end (zs := bts s) (i := k) (by rw [bts_length]; omega))
      go_wp2
      go_ret
      exact ⟨ret_int (by rw [HJ.out, HG.out]), rfl⟩
end Go.Proofs.YtfnopliggdemaaaDoor
