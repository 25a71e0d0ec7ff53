/-
  The document's reader of JSON: digit, unit. Conditions: those that each theorem names.
  The document's reader of JSON: sign, escape. Conditions: those that each theorem names.
-/
import Derived.Test.YtneadcbadnicfaaDoorSrB
import Derived.Test.YtneadcbadnicfaaDoorSnD
namespace Go.Proofs.YtneadcbadnicfaaDoor
open Go.ChangeShapes Go.WideShapes Go.ChangeAt Go.RowKit Go.Shelf

/-- What the document's digit says; -1: none. -/
def digZ (c : Int) (g : Bool) : Int := if 48 ≤ c ∧ c ≤ 57 then c - 48 else if 97 ≤ c ∧ c ≤ 102 then c - 97 + 10 else if g = true ∧ 65 ≤ c ∧ c ≤ 70 then c - 65 + 10 else -1
def optZ : Option Nat → Int
  | none => -1
  | some d => (d : Nat)
theorem digZ_small (c : Int) : digZ c false = optZ (hexD c) := by
  unfold digZ hexD
  split
  · simp only [optZ]; omega
  split
  · simp only [optZ]; omega
  · simp [optZ]
theorem digZ_great (c : Int) : digZ c true = optZ (hexU c) := by
  unfold digZ hexU
  by_cases h1 : 48 ≤ c ∧ c ≤ 57
  · rw [if_pos h1, show smallC c = c by unfold smallC; rw [if_neg (by omega)]]
    unfold hexD
    rw [if_pos h1]
    simp only [optZ]; omega
  rw [if_neg h1]
  by_cases h2 : 97 ≤ c ∧ c ≤ 102
  · rw [if_pos h2, show smallC c = c by unfold smallC; rw [if_neg (by omega)]]
    unfold hexD
    rw [if_neg h1, if_pos h2]
    simp only [optZ]; omega
  rw [if_neg h2]
  by_cases h3 : 65 ≤ c ∧ c ≤ 70
  · rw [if_pos ⟨rfl, h3⟩, show smallC c = c + 32 by unfold smallC; rw [if_pos (by omega)]]
    unfold hexD
    rw [if_neg (by omega), if_pos (by omega)]
    simp only [optZ]; omega
  rw [if_neg (fun h => h3 h.2)]
  by_cases h4 : 65 ≤ c ∧ c ≤ 90
  · rw [show smallC c = c + 32 by unfold smallC; rw [if_pos h4]]
    unfold hexD
    rw [if_neg (by omega), if_neg (by omega)]
    rfl
  · rw [show smallC c = c by unfold smallC; rw [if_neg h4]]
    unfold hexD
    rw [if_neg h1, if_neg h2]
    rfl
theorem rdigit13 (c : Int) (g : Bool) (w : World) (h0 : -1 ≤ c) (h1 : c ≤ 255) : Calls Tryd.prog 40 #[.int .i64 c, .bool g] w fun e w' => e = .returned (.int .i64 (digZ c g)) ∧ w = w' := by
  by_cases a1 : 48 ≤ c
  · by_cases a2 : c ≤ 57
    · skip
      have E : Hid (c - 48 = digZ c g) := by unfold Hid digZ; rw [if_pos ⟨a1, a2⟩]
      go_enter Tryd.func40, Tryd.ntmps40
      go_wp2
      go_ret
      exact ⟨ret_int E.out, rfl⟩
    · skip
      by_cases b1 : 97 ≤ c
      · by_cases b2 : c ≤ 102
        · skip
          have E : Hid (c - 97 + 10 = digZ c g) := by unfold Hid digZ; rw [if_neg (by omega), if_pos ⟨b1, b2⟩]
          go_enter Tryd.func40, Tryd.ntmps40
          go_wp2
          go_ret
          exact ⟨ret_int E.out, rfl⟩
        · cases g
          · skip
            have E : Hid (-1 = digZ c false) := by unfold Hid digZ; rw [if_neg (by omega), if_neg (by omega), if_neg (by omega)]
            go_enter Tryd.func40, Tryd.ntmps40
            go_wp2
            go_ret
            exact ⟨ret_int E.out, rfl⟩
          · skip
            have E : Hid (-1 = digZ c true) := by unfold Hid digZ; rw [if_neg (by omega), if_neg (by omega), if_neg (by omega)]
            go_enter Tryd.func40, Tryd.ntmps40
            go_wp2
            go_ret
            exact ⟨ret_int E.out, rfl⟩
      · cases g
        · skip
          have E : Hid (-1 = digZ c false) := by unfold Hid digZ; rw [if_neg (by omega), if_neg (by omega), if_neg (fun h => by cases h.1)]
          go_enter Tryd.func40, Tryd.ntmps40
          go_wp2
          go_ret
          exact ⟨ret_int E.out, rfl⟩
        · by_cases d1 : 65 ≤ c
          · by_cases d2 : c ≤ 70
            · skip
              have E : Hid (c - 65 + 10 = digZ c true) := by unfold Hid digZ; rw [if_neg (by omega), if_neg (by omega), if_pos ⟨rfl, d1, d2⟩]
              go_enter Tryd.func40, Tryd.ntmps40
              go_wp2
              go_ret
              exact ⟨ret_int E.out, rfl⟩
            · skip
              have E : Hid (-1 = digZ c true) := by unfold Hid digZ; rw [if_neg (by omega), if_neg (by omega), if_neg (by omega)]
              go_enter Tryd.func40, Tryd.ntmps40
              go_wp2
              go_ret
              exact ⟨ret_int E.out, rfl⟩
          · skip
            have E : Hid (-1 = digZ c true) := by unfold Hid digZ; rw [if_neg (by omega), if_neg (by omega), if_neg (by omega)]
            go_enter Tryd.func40, Tryd.ntmps40
            go_wp2
            go_ret
            exact ⟨ret_int E.out, rfl⟩
  · cases g
    · skip
      have E : Hid (-1 = digZ c false) := by unfold Hid digZ; rw [if_neg (by omega), if_neg (by omega), if_neg (by omega)]
      go_enter Tryd.func40, Tryd.ntmps40
      go_wp2
      go_ret
      exact ⟨ret_int E.out, rfl⟩
    · skip
      have E : Hid (-1 = digZ c true) := by unfold Hid digZ; rw [if_neg (by omega), if_neg (by omega), if_neg (by omega)]
      go_enter Tryd.func40, Tryd.ntmps40
      go_wp2
      go_ret
      exact ⟨ret_int E.out, rfl⟩
/-- What the document's unit leaves: the unit and the place behind it; -1, at whatever place. -/
def UnitPost (w : World) (r : Nat) (x0 x1 x2 : Value) (p : Option Addr) (n cap : Nat) (zs : List Int) (bad : Value) (a : Nat) (o : Option Nat) (e : Ending) (w' : World) : Prop :=
  e = .returned (.int .i64 (optZ o)) ∧ (∃ a', a' ≤ n + 1 ∧ RdTo w r x0 x1 x2 p n cap zs bad a' w') ∧ (o.isSome = true → RdTo w r x0 x1 x2 p n cap zs bad (a + 4) w')
theorem runit_any (r : Nat) (x0 x1 x2 : Value) (p : Option Addr) (n cap : Nat) (zs : List Int) (bad : Value) (a : Nat) (w : World) (ha : a ≤ n) (h : RdSc w r x0 x1 x2 p n cap zs bad a) :
    Calls Tryd.prog 52 #[.pointer (some ⟨r, 0, none⟩)] w fun e w' => UnitPost w r x0 x1 x2 p n cap zs bad a (unitAt zs a) e w' := by
  have H := Lib.hid h
  have hlen := h.len
  have hhigh := h.high
  have hbd := h.by_.1
  obtain ⟨o, ho⟩ : ∃ o, unitAt zs a = o := ⟨_, rfl⟩
  have HO := Lib.hid ho
  rw [ho]
  clear h ho
  go_enter Tryd.func52, Tryd.ntmps52
  go_wp2
  go_loopw [3, 4] (fun x i wr => ∃ j y : Nat, j ≤ 4 ∧ a + j ≤ n ∧ y < 16 ^ j ∧ i = .int .i64 j ∧ x = .int .i64 (y : Nat) ∧ (a + 4 ≤ n → o = hexsU (((zs.drop a).take 4).drop j) y) ∧ RdTo w r x0 x1 x2 p n cap zs bad (a + j) wr) (fun _ i _ => 4 - (intOf i).toNat)
  case atStart => exact ⟨0, 0, by omega, by omega, by omega, rfl, rfl, fun h => by rw [← HO.out]; unfold unitAt; rw [if_pos (by omega)]; rfl, RdTo.refl H.out⟩
  case round =>
    obtain ⟨j, y, hj, haj, hy, rfl, rfl, hr, hx⟩ := hrel
    have HX := Lib.hid hx
    have HE := Lib.hid hr
    have HYJ := Lib.hid hy
    clear hr hx
    by_cases hj4 : j < 4
    · have hy' : y < 4096 := Nat.lt_of_lt_of_le hy (Nat.pow_le_pow_right (by decide) (show j ≤ 3 by omega))
      have HH := Lib.hid (here_any r x0 x1 x2 p n cap zs bad (a + j) _ HX.out.2)
      have hz : -1 ≤ hereZ zs (a + j) ∧ hereZ zs (a + j) ≤ 255 := by
        unfold hereZ
        split
        · have := hbd (a + j); omega
        · omega
      have HNE := Lib.hid (@here_ne zs (a + j))
      have HST : Hid (a + 4 ≤ n → hereZ zs (a + j) = ((zs.drop a).take 4).getD j 0) := by
        intro h4
        unfold hereZ
        rw [if_pos (by omega), getD_take hj4]
      generalize hereZ zs (a + j) = z at HH hz HNE HST
      obtain ⟨z0, z1⟩ := hz
      have HG := Lib.hid (fun W => rdigit13 z true W z0 z1)
      have hg := digZ_great z
      have hlt : ∀ d, hexU z = some d → d < 16 := fun d h => hexD_lt h
      have hneg : z = -1 → hexU z = none := by rintro rfl; rfl
      obtain ⟨od, hod⟩ : ∃ od, hexU z = od := ⟨_, rfl⟩
      rw [hod] at hg hlt hneg
      rw [hg] at HG
      have HOD := Lib.hid hod
      clear hg hod hy
      cases od with
      | none =>
        have HN : Hid (o = none) := by
          unfold Hid
          by_cases h4 : a + 4 ≤ n
          · rw [HE.out h4, hexsU_step (by simp; omega), ← HST.out h4, HOD.out]
          · rw [← HO.out]; unfold unitAt; rw [if_neg (by omega)]
        have HG' : Hid (∀ W, Calls Tryd.prog 40 #[.int .i64 z, .bool true] W fun e w' => e = .returned (.int .i64 (-1)) ∧ W = w') := HG
        clear HG hneg hlt
        go_wp2_with fail
        refine HH.out.mono ?_
        rintro e w1 ⟨rfl, hb1⟩
        have H1 := Lib.hid (HX.out.bel hb1)
        clear hb1
        go_wp2_with fail
        refine (HG'.out _).mono ?_
        rintro e w2 ⟨rfl, rfl⟩
        go_wp2
        go_ret
        exact ⟨by rw [HN.out]; rfl, ⟨a + j, by omega, H1.out⟩, fun h => by rw [HN.out] at h; cases h⟩
      | some d =>
        have hd := hlt d rfl
        have hz0 : 0 ≤ z := by
          rcases Int.lt_or_le z 0 with h | h
          · have := hneg (by omega); cases this
          · exact h
        have HL : Hid (a + j < n) := by unfold Hid; have := (HNE.out hz0).1; omega
        have HG' : Hid (∀ W, Calls Tryd.prog 40 #[.int .i64 z, .bool true] W fun e w' => e = .returned (.int .i64 (d : Nat)) ∧ W = w') := HG
        clear HG hneg hlt
        go_wp2_with fail
        refine HH.out.mono ?_
        rintro e w1 ⟨rfl, hb1⟩
        have H1 := Lib.hid (HX.out.bel hb1)
        obtain ⟨hr, c3, c4, f3, f4⟩ := rd6 H1.out.2
        have hl := HL.out
        clear hb1
        go_wp2_with fail
        refine (HG'.out _).mono ?_
        rintro e w2 ⟨rfl, rfl⟩
        go_wp2
        go_roundw
        case rel =>
          refine ⟨j + 1, y * 16 + d, by omega, by omega, by rw [Nat.pow_succ]; have := HYJ.out; omega, by go_num, by simp; omega, fun h4 => ?_, H1.out.then (step1_any _ _ _ _ _ _ _ _ _ _ _ H1.out.2 (by omega) _ (by omega))⟩
          rw [HE.out h4, hexsU_step (by simp; omega), ← HST.out h4, HOD.out]
        case measure => simp [intOf]; omega
    · obtain rfl : 4 = j := by omega
      have HN : Hid (o = some y) := by
        unfold Hid
        rw [HE.out haj, List.drop_eq_nil_of_le (by simp; omega)]
        rfl
      clear hy
      go_wp2
      go_ret
      exact ⟨by rw [HN.out]; rfl, ⟨a + 4, by omega, HX.out⟩, fun _ => HX.out⟩
/-- A row of bytes that was just laid. -/
def RowNew (w : World) (T : List Int) (e : Value) (w' : World) : Prop := e = .slice (some ⟨w.heap.size, 0, none⟩) T.length T.length ∧ w' = w.alloc (.cells (T.map (Value.int .u8)).toArray 5)
theorem rsgn_any (n : Nat) (w : World) (h : isRune n) : Calls Tryd.prog 53 #[.int .i64 (n : Nat)] w fun e w' => e = .returned (.slice (some ⟨w.heap.size, 0, none⟩) (enc n).length (enc n).length) ∧ w' = w.alloc (.cells ((enc n).map (Value.int .u8)).toArray 5) := by
  have hn : (n : Int) ≤ 1114111 := by unfold isRune at h; omega
  by_cases h1 : (n : Int) < 128
  · have E : Hid (enc n = [((n : Nat) : Int)]) := by unfold Hid enc; rw [if_pos (by omega)]
    rw [E.out]
    obtain ⟨x, hx⟩ : ∃ x : Int, x = (n : Int) := ⟨_, rfl⟩
    rw [← hx] at h1 hn ⊢
    have h0 : 0 ≤ x := by omega
    clear h E hx
    go_enter Tryd.func53, Tryd.ntmps53
    go_wp2
    go_ret
    exact ⟨rfl, rfl⟩
  by_cases h2 : (n : Int) < 2048
  · have E : Hid (enc n = [192 + (n : Int) / 64, 128 + (n : Int) % 64]) := by unfold Hid enc; rw [if_neg (by omega), if_pos (by omega)]; simp
    rw [E.out]
    obtain ⟨x, hx⟩ : ∃ x : Int, x = (n : Int) := ⟨_, rfl⟩
    rw [← hx] at h1 h2 hn ⊢
    have h0 : 0 ≤ x := by omega
    have q1 : x.tdiv 64 = x / 64 := Int.tdiv_eq_ediv_of_nonneg h0
    have q2 : x.tmod 64 = x % 64 := Int.tmod_eq_emod_of_nonneg h0
    obtain ⟨A, hA⟩ : ∃ A, x / 64 = A := ⟨_, rfl⟩
    obtain ⟨B, hB⟩ : ∃ B, x % 64 = B := ⟨_, rfl⟩
    have a0 : 0 ≤ A := by omega
    have a9 : A < 65536 := by omega
    have a1 : A < 32 := by omega
    have b0 : 0 ≤ B := by omega
    have b1 : B < 64 := by omega
    rw [hA] at q1
    rw [hB] at q2
    rw [hA, hB]
    clear h E hx hA hB
    go_enter Tryd.func53, Tryd.ntmps53
    go_wp2
    go_ret
    exact ⟨rfl, rfl⟩
  by_cases h3 : (n : Int) < 65536
  · have E : Hid (enc n = [224 + (n : Int) / 4096, 128 + (n : Int) / 64 % 64, 128 + (n : Int) % 64]) := by unfold Hid enc; rw [if_neg (by omega), if_neg (by omega), if_pos (by omega)]; simp
    rw [E.out]
    obtain ⟨x, hx⟩ : ∃ x : Int, x = (n : Int) := ⟨_, rfl⟩
    rw [← hx] at h1 h2 h3 hn ⊢
    have h0 : 0 ≤ x := by omega
    have q0 : x.tdiv 4096 = x / 4096 := Int.tdiv_eq_ediv_of_nonneg h0
    have q1 : x.tdiv 64 = x / 64 := Int.tdiv_eq_ediv_of_nonneg h0
    have q2 : x.tmod 64 = x % 64 := Int.tmod_eq_emod_of_nonneg h0
    obtain ⟨A, hA⟩ : ∃ A, x / 4096 = A := ⟨_, rfl⟩
    obtain ⟨C, hC⟩ : ∃ C, x / 64 = C := ⟨_, rfl⟩
    obtain ⟨B, hB⟩ : ∃ B, x % 64 = B := ⟨_, rfl⟩
    have c0 : 0 ≤ C := by omega
    have c1 : C < 65536 := by omega
    have q3 : C.tmod 64 = C % 64 := Int.tmod_eq_emod_of_nonneg c0
    obtain ⟨D, hD⟩ : ∃ D, C % 64 = D := ⟨_, rfl⟩
    have a0 : 0 ≤ A := by omega
    have a9 : A < 65536 := by omega
    have a1 : A < 16 := by omega
    have b0 : 0 ≤ B := by omega
    have b1 : B < 64 := by omega
    have d0 : 0 ≤ D := by omega
    have d1 : D < 64 := by omega
    rw [hA] at q0
    rw [hC] at q1
    rw [hB] at q2
    rw [hD] at q3
    rw [hA, hC, hB, hD]
    clear h E hx hA hB hC hD
    go_enter Tryd.func53, Tryd.ntmps53
    go_wp2
    go_ret
    exact ⟨rfl, rfl⟩
  · have E : Hid (enc n = [240 + (n : Int) / 262144, 128 + (n : Int) / 4096 % 64, 128 + (n : Int) / 64 % 64, 128 + (n : Int) % 64]) := by unfold Hid enc; rw [if_neg (by omega), if_neg (by omega), if_neg (by omega)]; simp
    rw [E.out]
    obtain ⟨x, hx⟩ : ∃ x : Int, x = (n : Int) := ⟨_, rfl⟩
    rw [← hx] at h1 h2 h3 hn ⊢
    have h0 : 0 ≤ x := by omega
    have q9 : x.tdiv 262144 = x / 262144 := Int.tdiv_eq_ediv_of_nonneg h0
    have q0 : x.tdiv 4096 = x / 4096 := Int.tdiv_eq_ediv_of_nonneg h0
    have q1 : x.tdiv 64 = x / 64 := Int.tdiv_eq_ediv_of_nonneg h0
    have q2 : x.tmod 64 = x % 64 := Int.tmod_eq_emod_of_nonneg h0
    obtain ⟨F, hF⟩ : ∃ F, x / 262144 = F := ⟨_, rfl⟩
    obtain ⟨A, hA⟩ : ∃ A, x / 4096 = A := ⟨_, rfl⟩
    obtain ⟨C, hC⟩ : ∃ C, x / 64 = C := ⟨_, rfl⟩
    obtain ⟨B, hB⟩ : ∃ B, x % 64 = B := ⟨_, rfl⟩
    have c0 : 0 ≤ C := by omega
    have c1 : C < 65536 := by omega
    have a0 : 0 ≤ A := by omega
    have a9 : A < 65536 := by omega
    have q3 : C.tmod 64 = C % 64 := Int.tmod_eq_emod_of_nonneg c0
    have q4 : A.tmod 64 = A % 64 := Int.tmod_eq_emod_of_nonneg a0
    obtain ⟨D, hD⟩ : ∃ D, C % 64 = D := ⟨_, rfl⟩
    obtain ⟨G, hG⟩ : ∃ G, A % 64 = G := ⟨_, rfl⟩
    have f0 : 0 ≤ F := by omega
    have f1 : F < 8 := by omega
    have b0 : 0 ≤ B := by omega
    have b1 : B < 64 := by omega
    have d0 : 0 ≤ D := by omega
    have d1 : D < 64 := by omega
    have g0 : 0 ≤ G := by omega
    have g1 : G < 64 := by omega
    rw [hF] at q9
    rw [hA] at q0
    rw [hC] at q1
    rw [hB] at q2
    rw [hD] at q3
    rw [hG] at q4
    rw [hF, hA, hC, hB, hD, hG]
    clear h E hx hF hA hB hC hD hG
    go_enter Tryd.func53, Tryd.ntmps53
    go_wp2
    go_ret
    exact ⟨rfl, rfl⟩
end Go.Proofs.YtneadcbadnicfaaDoor
