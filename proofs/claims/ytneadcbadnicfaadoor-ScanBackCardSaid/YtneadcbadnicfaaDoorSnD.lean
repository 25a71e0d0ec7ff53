/-
  The package scan's Hex and small, and the scanner's unit: four digits of base sixteen. Conditions: those that each theorem names.
-/
import Derived.Test.YtneadcbadnicfaaDoorSnC
import Derived.Test.YtneadcbadnicfaaDoorSnP
import Derived.Test.YtneadcbadnicfaaDoorPart
namespace Go.Proofs.YtneadcbadnicfaaDoor
open Go.ChangeShapes Go.WideShapes Go.ChangeAt Go.RowKit Go.Shelf

theorem ret_val {a b : Value} (h : a = b) : Ending.returned a = .returned b := by rw [h]
def hexV : Option Nat → Value
  | none => .tuple #[.int .u8 0, .bool false]
  | some d => .tuple #[.int .u8 (d : Nat), .bool true]
theorem shex_any (c : Int) (w : World) (h0 : 0 ≤ c) (h1 : c ≤ 255) : Calls Tryd.prog 25 #[.int .u8 c] w fun e w' => e = .returned (hexV (hexD c)) ∧ Below w.heap.size w w' := by
  have D := Lib.hid (sdigit1 c w)
  by_cases hd : 48 ≤ c ∧ c ≤ 57
  · rw [show isDig c = true by unfold isDig; rw [decide_eq_true_iff]; omega] at D
    have E : Hid (hexV (hexD c) = .tuple #[.int .u8 (c - 48), .bool true]) := by
      unfold Hid hexD
      rw [if_pos hd]
      simp [hexV]
      omega
    generalize hexV (hexD c) = V at E ⊢
    go_enter Tryd.func25, Tryd.ntmps25
    go_wp2_with fail
    refine D.out.mono ?_
    rintro e w1 ⟨rfl, hb1⟩
    go_wp2
    go_ret2
    exact ⟨ret_val E.out.symm, hb1⟩
  · rw [show isDig c = false by unfold isDig; rw [decide_eq_false_iff_not]; exact hd] at D
    by_cases hx : 97 ≤ c ∧ c ≤ 102
    · have E : Hid (hexV (hexD c) = .tuple #[.int .u8 (c - 97 + 10), .bool true]) := by
        unfold Hid hexD
        rw [if_neg hd, if_pos hx]
        simp [hexV]
        omega
      generalize hexV (hexD c) = V at E ⊢
      obtain ⟨x1, x2⟩ := hx
      clear hd
      go_enter Tryd.func25, Tryd.ntmps25
      go_wp2_with fail
      refine D.out.mono ?_
      rintro e w1 ⟨rfl, hb1⟩
      go_wp2
      go_ret2
      exact ⟨ret_val E.out.symm, hb1⟩
    · have E : Hid (hexV (hexD c) = .tuple #[.int .u8 0, .bool false]) := by
        unfold Hid hexD
        rw [if_neg hd, if_neg hx]
        rfl
      generalize hexV (hexD c) = V at E ⊢
      by_cases x1 : 97 ≤ c
      · have x2 : ¬ c ≤ 102 := fun h => hx ⟨x1, h⟩
        clear hd hx
        go_enter Tryd.func25, Tryd.ntmps25
        go_wp2_with fail
        refine D.out.mono ?_
        rintro e w1 ⟨rfl, hb1⟩
        go_wp2
        go_ret2
        exact ⟨ret_val E.out.symm, hb1⟩
      · clear hd hx
        go_enter Tryd.func25, Tryd.ntmps25
        go_wp2_with fail
        refine D.out.mono ?_
        rintro e w1 ⟨rfl, hb1⟩
        go_wp2
        go_ret2
        exact ⟨ret_val E.out.symm, hb1⟩
theorem ssmall_any (c : Int) (w : World) (h0 : 0 ≤ c) (h1 : c ≤ 255) : Calls Tryd.prog 80 #[.int .u8 c] w fun e w' => e = .returned (.int .u8 (smallC c)) ∧ w = w' := by
  by_cases x1 : 65 ≤ c
  · by_cases x2 : c ≤ 90
    · rw [show smallC c = c - 65 + 97 by unfold smallC; rw [if_pos ⟨x1, x2⟩]; omega]
      go_enter Tryd.func80, Tryd.ntmps80
      go_wp2
      go_ret
      exact ⟨rfl, rfl⟩
    · rw [show smallC c = c by unfold smallC; rw [if_neg (fun h => x2 h.2)]]
      go_enter Tryd.func80, Tryd.ntmps80
      go_wp2
      go_ret
      exact ⟨rfl, rfl⟩
  · rw [show smallC c = c by unfold smallC; rw [if_neg (fun h => x1 h.1)]]
    go_enter Tryd.func80, Tryd.ntmps80
    go_wp2
    go_ret
    exact ⟨rfl, rfl⟩
theorem smallC_bd {c : Int} (h0 : 0 ≤ c) (h1 : c ≤ 255) : 0 ≤ smallC c ∧ smallC c ≤ 255 := by
  unfold smallC
  split <;> omega
def runV : Option Nat → Value
  | none => .tuple #[.int .i32 0, .bool false]
  | some d => .tuple #[.int .i32 (d : Nat), .bool true]
theorem or_hex (x : Int) (d : Nat) (h0 : 0 ≤ x) (h1 : x < 65536) (hd : d < 16) : bits BinOp.or .i32 (x * 16) (d : Int) = x * 16 + (d : Int) :=
  bits_join .i32 31 (by decide) wraps_i32 4 _ _ (by omega) (by omega) (by omega) (by omega) (by omega) (by omega)
theorem hexsU_step {L : List Int} {j x : Nat} (hj : j < L.length) : hexsU (L.drop j) x = match hexU (L.getD j 0) with | none => none | some d => hexsU (L.drop (j + 1)) (x * 16 + d) := by
  rw [drop_cons hj]
  rfl
theorem getD_take {zs : List Int} {a k j : Nat} (hj : j < k) : ((zs.drop a).take k).getD j 0 = zs.getD (a + j) 0 := by
  simp [List.getD, hj]
/-- What Part hands back where bytes are there, and some are asked for. -/
theorem part_pos (g off len cap : Nat) (a n : Nat) (w : World) (hl : (len : Int) ≤ 9223372036854775807) (hcap : len ≤ cap) (h1 : 0 < n) (h3 : a + n ≤ len) :
    Calls Tryd.prog 38 #[.slice (some ⟨g, off, none⟩) len cap, .int .i64 (a : Nat), .int .i64 (n : Nat)] w fun e w' => e = .returned (.tuple #[.slice (some ⟨g, off + a, none⟩) n n, .bool true]) ∧ w = w' := by
  refine (part_yes g off len cap a n w hl hcap (by omega) (by omega) (by omega) (by omega)).mono ?_
  rintro e w' ⟨⟨o, rfl, ho⟩, rfl⟩
  simp only [Int.toNat_natCast] at ho
  rw [ho h1]
  exact ⟨by simp, rfl⟩
theorem unit_any (s mb : Nat) (p : Option Addr) (n cap K : Nat) (zs : List Int) (a : Nat) (w : World) (h : ScSt w s mb p n cap K zs a) :
    Calls Tryd.prog 70 #[.pointer (some ⟨s, 0, none⟩)] w fun e w' => e = .returned (runV (unitAt zs a)) ∧ ScTo w s mb p n cap K zs (if (unitAt zs a).isSome = true then a + 4 else a) w' := by
  obtain ⟨hs, c0, c1, c2, f0, f1, f2⟩ := blk3 h.blk
  have hcap := h.cap_
  have hhigh := h.high
  have hlow := h.low
  have H := Lib.hid h
  by_cases hi : a + 4 ≤ n
  · obtain ⟨hbd, hp⟩ := h.by_
    have hlen := h.len
    obtain ⟨b, off, rfl, hlt, hc⟩ := hp (by rintro rfl; simp at hlen; omega)
    have P1 := Lib.hid (fun W => part_pos b off n cap a 4 W (by omega) hcap (by omega) hi)
    obtain ⟨L, hL⟩ : ∃ L, L = (zs.drop a).take 4 := ⟨_, rfl⟩
    have eU : unitAt zs a = hexsU L 0 := by unfold unitAt; rw [if_pos (by omega), hL]
    have l4 : L.length = 4 := by rw [hL]; simp; omega
    have hLc := Lib.hid (show ∀ j, j < 4 → w.cell? ⟨b, off + a + j, none⟩ = some (.int .u8 (L.getD j 0)) ∧ 0 ≤ L.getD j 0 ∧ L.getD j 0 ≤ 255 from fun j hj => by
      rw [hL, getD_take hj, Nat.add_assoc]
      exact ⟨hc (a + j) (by omega), hbd _⟩)
    have L4 := Lib.hid l4
    rw [eU]
    clear hc hp hbd hlen hL l4 eU h
    generalize hR : hexsU L 0 = R
    have HR := Lib.hid hR
    clear hR
    obtain ⟨a2, ha2⟩ : ∃ a2, (if R.isSome = true then a + 4 else a) = a2 := ⟨_, rfl⟩
    have HA := Lib.hid ha2
    rw [ha2]
    clear ha2
    obtain ⟨V, hV⟩ : ∃ V, runV R = V := ⟨_, rfl⟩
    have HV := Lib.hid hV
    rw [hV]
    clear hV
    go_enter Tryd.func70, Tryd.ntmps70
    go_wp2
    go_quiet (first | (go_at_call 38; exact quiet_same (P1.out _)))
    go_wp2
    go_loopw [6, 27] (fun x i wr => Below w.heap.size w wr ∧ ∃ j y : Nat, j ≤ 4 ∧ y < 16 ^ j ∧ i = .int .i64 j ∧ x = .int .i32 (y : Nat) ∧ R = hexsU (L.drop j) y) (fun _ i _ => 4 - (intOf i).toNat)
    case atStart => exact ⟨bel_drewN (Below.refl _ _) _, 0, 0, by omega, by omega, rfl, rfl, HR.out.symm⟩
    case round =>
      obtain ⟨hb, j, y, hj, hy, rfl, rfl, hr⟩ := hrel
      have HB := Lib.hid hb
      have HE := Lib.hid hr
      have HYJ := Lib.hid hy
      clear hb hr
      by_cases hi4 : j < 4
      · have hy' : y < 4096 := Nat.lt_of_lt_of_le hy (Nat.pow_le_pow_right (by decide) (show j ≤ 3 by omega))
        have hst := hexsU_step (L := L) (x := y) (show j < L.length by rw [L4.out]; exact hi4)
        obtain ⟨hc, z0, z1⟩ := hLc.out j hi4
        have hc' := (HB.out.cell (p := ⟨b, off + a + j, none⟩) hlt).trans hc
        generalize L.getD j 0 = z at hst hc' z0 z1
        have SM := Lib.hid (fun W => ssmall_any z W z0 z1)
        obtain ⟨s0, s1⟩ := smallC_bd z0 z1
        have SH := Lib.hid (fun W => shex_any (smallC z) W s0 s1)
        unfold hexU at hst
        generalize smallC z = u at SM SH s0 s1 hst
        have hdl : ∀ d, hexD u = some d → d < 16 := fun d h => hexD_lt h
        generalize hexD u = o at SH hst hdl
        have HS := Lib.hid hst
        clear hc hst hy
        cases o with
        | none =>
          have SHn : Hid (∀ W, Calls Tryd.prog 25 #[.int .u8 u] W fun e w' => e = .returned (.tuple #[.int .u8 0, .bool false]) ∧ Below W.heap.size W w') := SH
          clear hdl SH
          go_wp2_with fail
          refine (SM.out _).mono ?_
          rintro e w1 ⟨rfl, rfl⟩
          go_wp2_with fail
          refine (SHn.out _).mono ?_
          rintro e w2 ⟨rfl, hb2⟩
          have HB2 := Lib.hid (HB.out.trans (hb2.mono HB.out.size))
          clear hb2
          go_wp2
          go_ret2
          have e1 : R = none := HE.out.trans HS.out
          rw [← HV.out, ← HA.out, e1]
          exact ⟨rfl, (ScTo.refl H.out).bel HB2.out⟩
        | some d =>
          have hd := hdl d rfl
          have SHn : Hid (∀ W, Calls Tryd.prog 25 #[.int .u8 u] W fun e w' => e = .returned (.tuple #[.int .u8 (d : Nat), .bool true]) ∧ Below W.heap.size W w') := SH
          have O := or_hex (y : Nat) d (by omega) (by omega) hd
          have HS2 : Hid (hexsU (L.drop j) y = hexsU (L.drop (j + 1)) (y * 16 + d)) := HS
          clear hdl SH HS
          go_wp2_with fail
          refine (SM.out _).mono ?_
          rintro e w1 ⟨rfl, rfl⟩
          go_wp2_with fail
          refine (SHn.out _).mono ?_
          rintro e w2 ⟨rfl, hb2⟩
          have HB2 := Lib.hid (HB.out.trans (hb2.mono HB.out.size))
          clear hb2
          go_wp2
          go_roundw
          case rel => exact ⟨HB2.out, j + 1, y * 16 + d, by omega, by rw [Nat.pow_succ]; have := HYJ.out; omega, by go_num, by simp, HE.out.trans HS2.out⟩
          case measure => simp [intOf]; omega
      · obtain rfl : 4 = j := by omega
        have e1 : R = some y := by rw [HE.out, List.drop_eq_nil_of_le (by rw [L4.out]; exact Nat.le_refl _)]; rfl
        have E1 := Lib.hid e1
        clear e1 hy
        go_wp2_with fail
        refine (take_any s mb _ n cap K zs a 4 _ (H.out.below HB.out) hi).mono ?_
        rintro e w2 ⟨rfl, h2⟩
        have H2 := Lib.hid h2
        clear h2
        go_wp2
        go_ret2
        rw [← HV.out, ← HA.out, E1.out]
        exact ⟨rfl, ScTo.after HB.out H2.out⟩
  · have P1 := Lib.hid (fun W => part_no p n cap (a : Nat) 4 W (by omega) (.inr (.inr (.inr (by omega)))))
    have eU : unitAt zs a = none := by unfold unitAt; rw [if_neg (by rw [h.len]; exact hi)]
    rw [eU]
    clear eU h
    go_enter Tryd.func70, Tryd.ntmps70
    go_wp2
    go_quiet (first | (go_at_call 38; exact quiet_same (P1.out _)))
    go_wp2
    go_ret2
    exact ⟨rfl, (ScTo.refl H.out).bel (bel_drewN (Below.refl _ _) _)⟩
end Go.Proofs.YtneadcbadnicfaaDoor
