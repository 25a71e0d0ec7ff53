/-
  The document's own One, at a sign and at a byte where no token stands; and One whatever stands there. Conditions: those that each theorem names; the library's tables hold what the row lists.
-/
import Derived.Test.YtfnopliggdemaaaDoorRefOneQuo
namespace Go.Proofs.YtfnopliggdemaaaDoor
open Go.ChangeShapes Go.WideShapes Go.ChangeAt Go.RowKit Go.Shelf

set_option maxRecDepth 100000 in
set_option maxHeartbeats 2000000 in
theorem one_sign (s sg : ByteArray) (x : Int) (i : Nat) (w : World) (hx : x = i) (hi : i < s.size) (hs : s.size ≤ 281474976710656) (hg : sg.size ≤ 9223372036854775807) (h1 : stA (bts s) isLet i = false) (h2 : begins (bts s) i = false) (h3 : stA (bts s) (isC 34) i = false) :
    Calls Tryd.prog 19 #[.string s, .string sg, .int .i64 x] w fun e w' => OneVal (if amg sg ((bts s).getD i 0) = true then some (⟨4, sub (bts s) i (i + 1), i⟩, i + 1) else none) e ∧ Below w.heap.size w w' := by
  subst hx
  unfold begins at h2
  rw [Bool.or_eq_false_iff] at h2
  obtain ⟨h4, h5⟩ := h2
  have hil : i < (bts s).length := by rw [bts_length]; exact hi
  rw [stA_of hil] at h1 h3 h4 h5
  rw [stA_at (p := isDig) rfl (i + 1)] at h5
  have hzi := bts_get hi
  have HHAS := Lib.hid (fun W => has_any sg ((bts s).getD i 0) W hg)
  obtain ⟨r, hr⟩ : ∃ r, (if amg sg ((bts s).getD i 0) = true then some ((⟨4, sub (bts s) i (i + 1), i⟩ : Tok), i + 1) else none) = r := ⟨_, rfl⟩
  have HR := Lib.hid hr
  have HX := Lib.hid (ext_str s i (i + 1))
  rw [hr]
  clear hr
  have HAT := Lib.hid (fun W => at_any s ((i : Int) + 1) (i + 1) W (by omega))
  generalize (bts s).getD i 0 = z at *
  generalize (bts s).getD (i + 1) 0 = z1 at *
  have hz : (s[i].toNat : Int) = z := hzi.symm
  have n34 : (z == 34) = false := h3
  have H1 := Lib.hid h1
  have H4 := Lib.hid h4
  have H5 := Lib.hid h5
  clear h1 h3 h4 h5 hzi hil
  by_cases h45 : z = 45
  · have t45 : (z == 45) = true := beq_iff_eq.2 h45
    have H5' := Lib.hid (show isDig z1 = false by have := H5.out; rw [h45] at this; exact this)
    clear h45
    go_enter Tryd.func19, Tryd.ntmps19
    go_wp2_with fail
    refine (rletter_any _ _).mono ?_
    rintro e w1 ⟨rfl, rfl⟩
    rw [H1.out]
    go_wp2_with fail
    refine (rdigit_any _ _).mono ?_
    rintro e w1 ⟨rfl, rfl⟩
    rw [H4.out]
    go_wp2_with fail
    refine (HAT.out _).mono ?_
    rintro e w1 ⟨rfl, rfl⟩
    go_wp2_with fail
    refine (rdigit_any _ _).mono ?_
    rintro e w1 ⟨rfl, rfl⟩
    rw [H5'.out]
    go_wp2_with fail
    refine (HHAS.out _).mono ?_
    rintro e w1 ⟨rfl, rfl⟩
    cases hq : amg sg z
    · have HRR := Lib.hid (show r = none by rw [← HR.out, hq]; rfl)
      clear hq
      go_wp2
      exact bodyPost_ret (v := .tuple #[.agg #[.int .i64 0, .string ⟨#[]⟩, .int .i64 i], .int .i64 i, .bool false]) (by simp [results, Tryd.results19, go_sem]) rfl ⟨HRR.out ▸ ⟨_, _, _, _, rfl⟩, two_new w _ _⟩
    · have HRR := Lib.hid (show r = some ((⟨4, sub (bts s) i (i + 1), i⟩ : Tok), i + 1) by rw [← HR.out, hq]; rfl)
      clear hq
      go_upto_region 33 with (fail)
      rw [HX.out]
      go_wp2
      exact bodyPost_ret (v := .tuple #[.agg #[.int .i64 4, .string (strOfNums (sub (bts s) i (i + 1))), .int .i64 i], .int .i64 (i + 1 : Nat), .bool true]) (by simp [results, Tryd.results19, go_sem]) rfl ⟨HRR.out ▸ rfl, two_new w _ _⟩
  · have t45 : (z == 45) = false := beq_eq_false_iff_ne.2 h45
    clear h45
    go_enter Tryd.func19, Tryd.ntmps19
    go_wp2_with fail
    refine (rletter_any _ _).mono ?_
    rintro e w1 ⟨rfl, rfl⟩
    rw [H1.out]
    go_wp2_with fail
    refine (rdigit_any _ _).mono ?_
    rintro e w1 ⟨rfl, rfl⟩
    rw [H4.out]
    go_wp2_with fail
    refine (HHAS.out _).mono ?_
    rintro e w1 ⟨rfl, rfl⟩
    cases hq : amg sg z
    · have HRR := Lib.hid (show r = none by rw [← HR.out, hq]; rfl)
      clear hq
      go_wp2
      exact bodyPost_ret (v := .tuple #[.agg #[.int .i64 0, .string ⟨#[]⟩, .int .i64 i], .int .i64 i, .bool false]) (by simp [results, Tryd.results19, go_sem]) rfl ⟨HRR.out ▸ ⟨_, _, _, _, rfl⟩, two_new w _ _⟩
    · have HRR := Lib.hid (show r = some ((⟨4, sub (bts s) i (i + 1), i⟩ : Tok), i + 1) by rw [← HR.out, hq]; rfl)
      clear hq
      go_upto_region 33 with (fail)
      rw [HX.out]
      go_wp2
      exact bodyPost_ret (v := .tuple #[.agg #[.int .i64 4, .string (strOfNums (sub (bts s) i (i + 1))), .int .i64 i], .int .i64 (i + 1 : Nat), .bool true]) (by simp [results, Tryd.results19, go_sem]) rfl ⟨HRR.out ▸ rfl, two_new w _ _⟩
/-- The document's own One. -/
theorem one_any (s sg : ByteArray) (x : Int) (i : Nat) (w : World) (hT : Tabs w) (hx : x = i) (hi : i ≤ s.size) (hs : s.size ≤ 281474976710656) (hg : sg.size ≤ 9223372036854775807) :
    Calls Tryd.prog 19 #[.string s, .string sg, .int .i64 x] w fun e w' => OneVal (tok okU (amg sg) (bts s) i) e ∧ Below w.heap.size w w' := by
  by_cases h0 : i = s.size
  · rw [tok_end (by rw [bts_length]; exact h0)]
    exact one_end s sg x i w hx h0
  have hlt : i < s.size := by omega
  have hil : i < (bts s).length := by rw [bts_length]; exact hlt
  cases h1 : stA (bts s) isLet i
  · cases h2 : begins (bts s) i
    · cases h3 : stA (bts s) (isC 34) i
      · have e : tok okU (amg sg) (bts s) i = if amg sg ((bts s).getD i 0) = true then some (⟨4, sub (bts s) i (i + 1), i⟩, i + 1) else none := by
          cases h4 : amg sg ((bts s).getD i 0)
          · rw [tok_none hil h1 h2 h3 (by rw [stA_of hil]; exact h4)]
            rfl
          · rw [tok_sign hil h1 h2 h3 (by rw [stA_of hil]; exact h4)]
            rfl
        rw [e]
        exact one_sign s sg x i w hx hlt hs hg h1 h2 h3
      · rw [tok_quo hil h1 h2 h3]
        exact one_quo s sg x i w hT hx hs h3
    · rw [tok_num hil h1 h2]
      exact one_num s sg x i w hx hs h1 h2
  · rw [tok_name hil h1]
    exact one_name s sg x i w hx hs h1
end Go.Proofs.YtfnopliggdemaaaDoor
