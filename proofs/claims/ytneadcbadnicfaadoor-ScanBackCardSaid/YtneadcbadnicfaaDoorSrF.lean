/-
  The document's reader of JSON: escape. Conditions: those that each theorem names.
-/
import Derived.Test.YtneadcbadnicfaaDoorSrE
import Derived.Deep.Cut
namespace Go.Proofs.YtneadcbadnicfaaDoor
open Go.ChangeShapes Go.WideShapes Go.ChangeAt Go.RowKit Go.Shelf

/-- What escape leaves: a sign's bytes in a row of their own, and the place behind; or false. -/
def EscPost (w : World) (r : Nat) (x0 x1 x2 : Value) (p : Option Addr) (n cap : Nat) (zs : List Int) (bad : Value) (o : Option (Nat × Nat)) (e : Ending) (w' : World) : Prop :=
  (∃ rn b g, o = some (rn, b) ∧ e = .returned (.tuple #[.slice (some ⟨g, 0, none⟩) (enc rn).length (enc rn).length, .bool true]) ∧ w'.heap[g]? = some (.cells ((enc rn).map (Value.int .u8)).toArray 5 (0, 0)) ∧ w.heap.size ≤ g ∧ RdTo w r x0 x1 x2 p n cap zs bad b w') ∨
  (o = none ∧ e = .returned (.tuple #[.slice none 0 0, .bool false]) ∧ ∃ a', RdTo w r x0 x1 x2 p n cap zs bad a' w')
section
variable {w w' : World} {r : Nat} {x0 x1 x2 : Value} {p : Option Addr} {n cap : Nat} {zs : List Int} {bad : Value} {o : Option (Nat × Nat)}
theorem EscPost.no {a' : Nat} (h : o = none) (h2 : RdTo w r x0 x1 x2 p n cap zs bad a' w') : EscPost w r x0 x1 x2 p n cap zs bad o (.returned (.tuple #[.slice none 0 0, .bool false])) w' := .inr ⟨h, rfl, a', h2⟩
theorem EscPost.yes {W : World} {rn b : Nat} (h : o = some (rn, b)) (h2 : RdTo w r x0 x1 x2 p n cap zs bad b W) : EscPost w r x0 x1 x2 p n cap zs bad o (.returned (.tuple #[.slice (some ⟨W.heap.size, 0, none⟩) (enc rn).length (enc rn).length, .bool true])) (W.alloc (.cells ((enc rn).map (Value.int .u8)).toArray 5)) :=
  .inl ⟨rn, b, W.heap.size, h, rfl, heap_alloc_new W _, h2.1.size, h2.bel ((Below.refl _ _).alloc (Nat.le_refl _) _)⟩
theorem EscPost.one {W : World} {m b : Nat} {x : Int} (h : o = some (m, b)) (hm : m < 128) (hx : x = (m : Nat)) (h2 : RdTo w r x0 x1 x2 p n cap zs bad b W) : EscPost w r x0 x1 x2 p n cap zs bad o (.returned (.tuple #[.slice (some ⟨W.heap.size, 0, none⟩) 1 1, .bool true])) (W.alloc (.cells #[.int .u8 x] 5)) := by
  subst hx
  have e : enc m = [((m : Nat) : Int)] := if_pos hm
  have := EscPost.yes h h2
  rw [e] at this
  exact this
end
def fromL : List Int := [34, 92, 47, 98, 102, 110, 114, 116]
theorem meantC_none {z : Int} (h : ∀ j, j < 8 → z ≠ fromL.getD j 0) : meantC z = none := by
  unfold meantC
  rw [if_neg (show ¬ z = 34 from h 0 (by decide)), if_neg (show ¬ z = 92 from h 1 (by decide)), if_neg (show ¬ z = 47 from h 2 (by decide)), if_neg (show ¬ z = 98 from h 3 (by decide)), if_neg (show ¬ z = 102 from h 4 (by decide)), if_neg (show ¬ z = 110 from h 5 (by decide)), if_neg (show ¬ z = 114 from h 6 (by decide)), if_neg (show ¬ z = 116 from h 7 (by decide))]
theorem lt_step {z : Int} {k : Nat} (h : ∀ j, j < k → z ≠ fromL.getD j 0) (hk : z ≠ fromL.getD k 0) : ∀ j, j < k + 1 → z ≠ fromL.getD j 0 := fun j hj => by
  rcases Nat.lt_or_ge j k with h1 | h1
  · exact h j h1
  · obtain rfl : j = k := by omega
    exact hk
/-- What escape answers, by the byte behind the backslash. -/
theorem escAt_here {zs : List Int} {a : Nat} : escAt zs a = if hereZ zs a = 117 then unitsAt zs (a + 1) else if 0 ≤ hereZ zs a then (match meantC (hereZ zs a) with | none => none | some m => some (m, a + 1)) else none := by
  unfold escAt
  have h1 := here_st (zs := zs) (c := 117) (by decide) a
  by_cases h : hereZ zs a = 117
  · rw [if_pos h, if_pos (by rw [← h1, decide_eq_true h])]
  · rw [if_neg h, if_neg (by rw [← h1, decide_eq_false h]; decide)]
    by_cases hl : a < zs.length
    · have e : hereZ zs a = zs.getD a 0 := if_pos hl
      rw [if_pos hl, e]
      by_cases h0 : 0 ≤ zs.getD a 0
      · rw [if_pos h0]
        cases meantC (zs.getD a 0) <;> rfl
      · rw [if_neg h0, meantC_none (fun j hj => by
          have : 0 ≤ fromL.getD j 0 := by unfold fromL; match j, hj with | 0, _ => decide | 1, _ => decide | 2, _ => decide | 3, _ => decide | 4, _ => decide | 5, _ => decide | 6, _ => decide | 7, _ => decide
          omega)]
    · have e : hereZ zs a = -1 := if_neg hl
      rw [if_neg hl, e]
      rfl
set_option maxHeartbeats 4000000 in
theorem resc_any (r : Nat) (x0 x1 x2 : Value) (p : Option Addr) (n cap : Nat) (zs : List Int) (bad : Value) (a : Nat) (w : World) (ha : a ≤ n) (h : RdSc w r x0 x1 x2 p n cap zs bad a) :
    Calls Tryd.prog 37 #[.pointer (some ⟨r, 0, none⟩)] w fun e w' => EscPost w r x0 x1 x2 p n cap zs bad (escAt zs a) e w' := by
  have HH := Lib.hid (here_any r x0 x1 x2 p n cap zs bad a w h)
  have hlen := h.len
  have hhigh := h.high
  have H := Lib.hid h
  obtain ⟨o, ho⟩ : ∃ o, escAt zs a = o := ⟨_, rfl⟩
  rw [ho]
  rw [escAt_here] at ho
  have HNE := Lib.hid (@here_ne zs a)
  have hz1 : hereZ zs a ≤ 255 := by
    unfold hereZ
    split
    · have := h.by_.1 a; omega
    · omega
  generalize hereZ zs a = z at HH ho HNE hz1
  have HO := Lib.hid ho
  clear h ho
  go_enter Tryd.func37, Tryd.ntmps37
  go_wp2_with fail
  refine HH.out.mono ?_
  rintro e w1 ⟨rfl, hb1⟩
  have H1 := Lib.hid ((RdTo.refl H.out).bel hb1)
  obtain ⟨hr, c3, c4, f3, f4⟩ := rd6 H1.out.2
  clear hb1
  go_upto_region 3 with (fail)
  have H2 := Lib.hid (H1.out.then (step1_any _ _ _ _ _ _ _ _ _ _ _ H1.out.2 ha _ rfl))
  clear hr c3 c4 f3 f4
  generalize w1.setCell ⟨r, 4, none⟩ (.int .i64 ((a : Int) + 1)) = w2 at *
  go_wp2
  go_loopw [7] (fun i wr => wr = w2 ∧ ∃ k : Nat, k ≤ 8 ∧ i = .int .i64 k ∧ ∀ j, j < k → z ≠ fromL.getD j 0) (fun i _ => 8 - (intOf i).toNat)
  case atStart => exact ⟨rfl, 0, by omega, rfl, fun j hj => absurd hj (Nat.not_lt_zero _)⟩
  case round =>
    obtain ⟨rfl, k, hk, rfl, hne⟩ := hrel
    have HNN := Lib.hid hne
    clear hne
    by_cases hk8 : k < 8
    · match k, hk8, HNN with
      | 0, _, HNN =>
        clear hk
        have hf : (⟨#[34, 92, 47, 98, 102, 110, 114, 116]⟩ : ByteArray)[0] = 34 := rfl
        have hg : (⟨#[34, 92, 47, 8, 12, 10, 13, 9]⟩ : ByteArray)[0] = 34 := rfl
        by_cases hz : z = 34
        · subst hz
          have HY : Hid (o = some (34, a + 1)) := by unfold Hid; rw [← HO.out]; rfl
          clear HO
          go_wp2
          go_ret2
          exact .one HY.out (by decide) rfl H2.out
        · have t : (z == 34) = false := by simpa using hz
          have HS := Lib.hid (lt_step HNN.out (show z ≠ fromL.getD 0 0 from hz))
          clear hz
          go_wp2
          go_roundw
          case rel => exact ⟨by first | rfl | trivial, 1, by omega, by first | rfl | go_num, HS.out⟩
          case measure => simp [intOf]
      | 1, _, HNN =>
        clear hk
        have hf : (⟨#[34, 92, 47, 98, 102, 110, 114, 116]⟩ : ByteArray)[1] = 92 := rfl
        have hg : (⟨#[34, 92, 47, 8, 12, 10, 13, 9]⟩ : ByteArray)[1] = 92 := rfl
        by_cases hz : z = 92
        · subst hz
          have HY : Hid (o = some (92, a + 1)) := by unfold Hid; rw [← HO.out]; rfl
          clear HO
          go_wp2
          go_ret2
          exact .one HY.out (by decide) rfl H2.out
        · have t : (z == 92) = false := by simpa using hz
          have HS := Lib.hid (lt_step HNN.out (show z ≠ fromL.getD 1 0 from hz))
          clear hz
          go_wp2
          go_roundw
          case rel => exact ⟨by first | rfl | trivial, 2, by omega, by first | rfl | go_num, HS.out⟩
          case measure => simp [intOf]
      | 2, _, HNN =>
        clear hk
        have hf : (⟨#[34, 92, 47, 98, 102, 110, 114, 116]⟩ : ByteArray)[2] = 47 := rfl
        have hg : (⟨#[34, 92, 47, 8, 12, 10, 13, 9]⟩ : ByteArray)[2] = 47 := rfl
        by_cases hz : z = 47
        · subst hz
          have HY : Hid (o = some (47, a + 1)) := by unfold Hid; rw [← HO.out]; rfl
          clear HO
          go_wp2
          go_ret2
          exact .one HY.out (by decide) rfl H2.out
        · have t : (z == 47) = false := by simpa using hz
          have HS := Lib.hid (lt_step HNN.out (show z ≠ fromL.getD 2 0 from hz))
          clear hz
          go_wp2
          go_roundw
          case rel => exact ⟨by first | rfl | trivial, 3, by omega, by first | rfl | go_num, HS.out⟩
          case measure => simp [intOf]
      | 3, _, HNN =>
        clear hk
        have hf : (⟨#[34, 92, 47, 98, 102, 110, 114, 116]⟩ : ByteArray)[3] = 98 := rfl
        have hg : (⟨#[34, 92, 47, 8, 12, 10, 13, 9]⟩ : ByteArray)[3] = 8 := rfl
        by_cases hz : z = 98
        · subst hz
          have HY : Hid (o = some (8, a + 1)) := by unfold Hid; rw [← HO.out]; rfl
          clear HO
          go_wp2
          go_ret2
          exact .one HY.out (by decide) rfl H2.out
        · have t : (z == 98) = false := by simpa using hz
          have HS := Lib.hid (lt_step HNN.out (show z ≠ fromL.getD 3 0 from hz))
          clear hz
          go_wp2
          go_roundw
          case rel => exact ⟨by first | rfl | trivial, 4, by omega, by first | rfl | go_num, HS.out⟩
          case measure => simp [intOf]
      | 4, _, HNN =>
        clear hk
        have hf : (⟨#[34, 92, 47, 98, 102, 110, 114, 116]⟩ : ByteArray)[4] = 102 := rfl
        have hg : (⟨#[34, 92, 47, 8, 12, 10, 13, 9]⟩ : ByteArray)[4] = 12 := rfl
        by_cases hz : z = 102
        · subst hz
          have HY : Hid (o = some (12, a + 1)) := by unfold Hid; rw [← HO.out]; rfl
          clear HO
          go_wp2
          go_ret2
          exact .one HY.out (by decide) rfl H2.out
        · have t : (z == 102) = false := by simpa using hz
          have HS := Lib.hid (lt_step HNN.out (show z ≠ fromL.getD 4 0 from hz))
          clear hz
          go_wp2
          go_roundw
          case rel => exact ⟨by first | rfl | trivial, 5, by omega, by first | rfl | go_num, HS.out⟩
          case measure => simp [intOf]
      | 5, _, HNN =>
        clear hk
        have hf : (⟨#[34, 92, 47, 98, 102, 110, 114, 116]⟩ : ByteArray)[5] = 110 := rfl
        have hg : (⟨#[34, 92, 47, 8, 12, 10, 13, 9]⟩ : ByteArray)[5] = 10 := rfl
        by_cases hz : z = 110
        · subst hz
          have HY : Hid (o = some (10, a + 1)) := by unfold Hid; rw [← HO.out]; rfl
          clear HO
          go_wp2
          go_ret2
          exact .one HY.out (by decide) rfl H2.out
        · have t : (z == 110) = false := by simpa using hz
          have HS := Lib.hid (lt_step HNN.out (show z ≠ fromL.getD 5 0 from hz))
          clear hz
          go_wp2
          go_roundw
          case rel => exact ⟨by first | rfl | trivial, 6, by omega, by first | rfl | go_num, HS.out⟩
          case measure => simp [intOf]
      | 6, _, HNN =>
        clear hk
        have hf : (⟨#[34, 92, 47, 98, 102, 110, 114, 116]⟩ : ByteArray)[6] = 114 := rfl
        have hg : (⟨#[34, 92, 47, 8, 12, 10, 13, 9]⟩ : ByteArray)[6] = 13 := rfl
        by_cases hz : z = 114
        · subst hz
          have HY : Hid (o = some (13, a + 1)) := by unfold Hid; rw [← HO.out]; rfl
          clear HO
          go_wp2
          go_ret2
          exact .one HY.out (by decide) rfl H2.out
        · have t : (z == 114) = false := by simpa using hz
          have HS := Lib.hid (lt_step HNN.out (show z ≠ fromL.getD 6 0 from hz))
          clear hz
          go_wp2
          go_roundw
          case rel => exact ⟨by first | rfl | trivial, 7, by omega, by first | rfl | go_num, HS.out⟩
          case measure => simp [intOf]
      | 7, _, HNN =>
        clear hk
        have hf : (⟨#[34, 92, 47, 98, 102, 110, 114, 116]⟩ : ByteArray)[7] = 116 := rfl
        have hg : (⟨#[34, 92, 47, 8, 12, 10, 13, 9]⟩ : ByteArray)[7] = 9 := rfl
        by_cases hz : z = 116
        · subst hz
          have HY : Hid (o = some (9, a + 1)) := by unfold Hid; rw [← HO.out]; rfl
          clear HO
          go_wp2
          go_ret2
          exact .one HY.out (by decide) rfl H2.out
        · have t : (z == 116) = false := by simpa using hz
          have HS := Lib.hid (lt_step HNN.out (show z ≠ fromL.getD 7 0 from hz))
          clear hz
          go_wp2
          go_roundw
          case rel => exact ⟨by first | rfl | trivial, 8, by omega, by first | rfl | go_num, HS.out⟩
          case measure => simp [intOf]
      | (k + 8), hk, _ => omega
    · obtain rfl : 8 = k := by omega
      have HM := Lib.hid (meantC_none HNN.out)
      by_cases hz : z = 117
      · subst hz
        have hal : a < n := by have := (HNE.out (by decide)).1; omega
        have HO2 : Hid (unitsAt zs (a + 1) = o) := by have e := HO.out; rw [if_pos rfl] at e; exact e
        clear HO HM HNE HNN
        unfold unitsAt at HO2
        have HUL := @unitAt_lt zs (a + 1)
        have U1 := Lib.hid (fun W h => runit_any r x0 x1 x2 p n cap zs bad (a + 1) W (by omega) h)
        obtain ⟨u, hu⟩ : ∃ u, unitAt zs (a + 1) = u := ⟨_, rfl⟩
        rw [hu] at HO2 U1 HUL
        clear hu
        cases u with
        | none =>
          have HN : Hid (o = none) := HO2.out.symm
          clear HO2 HUL
          go_wp2_with fail
          refine (U1.out _ H2.out.2).mono ?_
          rintro e w3 ⟨rfl, ⟨a', _, h3⟩, _⟩
          have H3 := Lib.hid (H2.out.then h3)
          have x1 : optZ none = -1 := rfl
          clear h3
          rw [x1]
          go_wp2
          go_ret2
          exact .no HN.out H3.out
        | some u =>
          obtain ⟨hu1, hu2⟩ := HUL rfl
          have U2 : Hid (∀ W, RdSc W r x0 x1 x2 p n cap zs bad (a + 1) → Calls Tryd.prog 52 #[.pointer (some ⟨r, 0, none⟩)] W fun e w' => e = .returned (.int .i64 (u : Nat)) ∧ RdTo W r x0 x1 x2 p n cap zs bad (a + 5) w') := fun W h => (U1.out W h).mono fun e w' h => ⟨h.1, h.2.2 rfl⟩
          have HO3 := Lib.hid HO2.out
          simp only at HO2
          obtain ⟨x, hx⟩ : ∃ x : Int, x = (u : Int) := ⟨_, rfl⟩
          rw [← hx] at U2
          have HX := Lib.hid hx
          have hx0 : 0 ≤ x := by omega
          have hx1 : x < 65536 := by omega
          have ha5 : a + 5 ≤ n := by omega
          clear U1 HUL hu1 hu2
          by_cases c1 : x < 55296
          · have HY : Hid (o = some (u, a + 5)) := by have e := HO3.out; simp only at e; rw [if_pos (.inl (by omega))] at e; exact e.symm
            have HR : Hid (isRune u) := by unfold Hid isRune; omega
            clear HO2 HO3 hx
            go_wp2_with fail
            refine (U2.out _ H2.out.2).mono ?_
            rintro e w3 ⟨rfl, h3⟩
            have H3 := Lib.hid (H2.out.then h3)
            clear h3
            go_wp2_with fail
            rw [HX.out]
            refine (rsgn_any u _ HR.out).mono ?_
            rintro e w9 ⟨rfl, rfl⟩
            go_wp2
            go_ret2
            exact .yes HY.out H3.out
          by_cases c2 : 57344 ≤ x
          · have HY : Hid (o = some (u, a + 5)) := by have e := HO3.out; simp only at e; rw [if_pos (.inr (by omega))] at e; exact e.symm
            have HR : Hid (isRune u) := by unfold Hid isRune; omega
            clear HO2 HO3 hx
            go_wp2_with fail
            refine (U2.out _ H2.out.2).mono ?_
            rintro e w3 ⟨rfl, h3⟩
            have H3 := Lib.hid (H2.out.then h3)
            clear h3
            go_wp2_with fail
            rw [HX.out]
            refine (rsgn_any u _ HR.out).mono ?_
            rintro e w9 ⟨rfl, rfl⟩
            go_wp2
            go_ret2
            exact .yes HY.out H3.out
          by_cases c3 : 56320 ≤ x
          · have HN : Hid (o = none) := by have e := HO3.out; simp only at e; rw [if_neg (by omega), if_pos (by omega)] at e; exact e.symm
            clear HO2 HO3 hx
            go_wp2_with fail
            refine (U2.out _ H2.out.2).mono ?_
            rintro e w3 ⟨rfl, h3⟩
            have H3 := Lib.hid (H2.out.then h3)
            clear h3
            go_wp2
            go_ret2
            exact .no HN.out H3.out
          have HO4 : Hid ((if stA zs (isC 92) (a + 1 + 4) = true ∧ stA zs (isC 117) (a + 1 + 5) = true then (match unitAt zs (a + 1 + 6) with | none => none | some v => if v < 56320 ∨ 57343 < v then none else some (65536 + (u - 55296) * 1024 + (v - 56320), a + 1 + 10)) else none) = o) := by
            have e := HO3.out
            simp only at e
            rw [if_neg (by omega), if_neg (by omega)] at e
            rw [← e]
            unfold Hid
            split
            · cases unitAt zs (a + 1 + 6) <;> rfl
            · rfl
          clear HO2 HO3 hx
          have HA2 := Lib.hid (fun W h => here_any r x0 x1 x2 p n cap zs bad (a + 5) W h)
          have E2 := Lib.hid (here_st (zs := zs) (c := 92) (by decide) (a + 5))
          have N2 := Lib.hid (@here_ne zs (a + 5))
          generalize hereZ zs (a + 5) = z2 at HA2 E2 N2
          by_cases d1 : z2 = 92
          rotate_left
          · have HN : Hid (o = none) := by unfold Hid; rw [← HO4.out, if_neg (fun h => by have e := E2.out; rw [decide_eq_false d1] at e; rw [show a + 1 + 4 = a + 5 from rfl, ← e] at h; cases h.1)]
            have t2 : (z2 == 92) = false := by simpa using d1
            clear d1 HO4
            go_wp2_with fail
            refine (U2.out _ H2.out.2).mono ?_
            rintro e w3 ⟨rfl, h3⟩
            have H3 := Lib.hid (H2.out.then h3)
            clear h3
            go_wp2_with fail
            refine (HA2.out _ H3.out.2).mono ?_
            rintro e w4 ⟨rfl, hb4⟩
            have H4 := Lib.hid ((H3.out).bel hb4)
            clear hb4
            go_wp2
            go_ret2
            exact .no HN.out H4.out
          subst d1
          have l2 : a + 5 < n := by have := (N2.out (by decide)).1; omega
          have HA3 := Lib.hid (fun W h => here_any r x0 x1 x2 p n cap zs bad (a + 5 + 1) W h)
          have E3 := Lib.hid (here_st (zs := zs) (c := 117) (by decide) (a + 5 + 1))
          have N3 := Lib.hid (@here_ne zs (a + 5 + 1))
          generalize hereZ zs (a + 5 + 1) = z3 at HA3 E3 N3
          by_cases d2 : z3 = 117
          rotate_left
          · have HN : Hid (o = none) := by unfold Hid; rw [← HO4.out, if_neg (fun h => by have e := E3.out; rw [decide_eq_false d2] at e; rw [show a + 1 + 5 = a + 5 + 1 from rfl, ← e] at h; cases h.2)]
            have t3 : (z3 == 117) = false := by simpa using d2
            clear d2 HO4
            go_wp2_with fail
            refine (U2.out _ H2.out.2).mono ?_
            rintro e w3 ⟨rfl, h3⟩
            have H3 := Lib.hid (H2.out.then h3)
            clear h3
            go_wp2_with fail
            refine (HA2.out _ H3.out.2).mono ?_
            rintro e w4 ⟨rfl, hb4⟩
            have H4 := Lib.hid ((H3.out).bel hb4)
            clear hb4
            obtain ⟨hrH4, c3H4, c4H4, f3H4, f4H4⟩ := rd6 H4.out.2
            go_wp2_with fail
            refine (HA3.out _ (H4.out.then (step1_any _ _ _ _ _ _ _ _ _ _ _ H4.out.2 (by omega) _ (by omega))).2).mono ?_
            rintro e w5 ⟨rfl, hb5⟩
            have H5 := Lib.hid (((H4.out.then (step1_any _ _ _ _ _ _ _ _ _ _ _ H4.out.2 (by omega) _ (by omega)))).bel hb5)
            clear hb5
            go_wp2
            go_ret2
            exact .no HN.out H5.out
          subst d2
          have l3 : a + 5 + 1 < n := by have := (N3.out (by decide)).1; omega
          have HO5 : Hid ((match unitAt zs (a + 7) with | none => none | some v => if v < 56320 ∨ 57343 < v then none else some (65536 + (u - 55296) * 1024 + (v - 56320), a + 11)) = o) := by
            have e := HO4.out
            rw [if_pos ⟨by rw [show a + 1 + 4 = a + 5 from rfl, ← E2.out]; rfl, by rw [show a + 1 + 5 = a + 5 + 1 from rfl, ← E3.out]; rfl⟩] at e
            exact e
          have HUL := @unitAt_lt zs (a + 7)
          have V1 := Lib.hid (fun W h => runit_any r x0 x1 x2 p n cap zs bad (a + 7) W (by omega) h)
          obtain ⟨v, hv⟩ : ∃ v, unitAt zs (a + 7) = v := ⟨_, rfl⟩
          rw [hv] at HO5 V1 HUL
          clear hv HO4
          cases v with
          | none =>
            have HN : Hid (o = none) := HO5.out.symm
            clear HO5 HUL
            go_wp2_with fail
            refine (U2.out _ H2.out.2).mono ?_
            rintro e w3 ⟨rfl, h3⟩
            have H3 := Lib.hid (H2.out.then h3)
            clear h3
            go_wp2_with fail
            refine (HA2.out _ H3.out.2).mono ?_
            rintro e w4 ⟨rfl, hb4⟩
            have H4 := Lib.hid ((H3.out).bel hb4)
            clear hb4
            obtain ⟨hrH4, c3H4, c4H4, f3H4, f4H4⟩ := rd6 H4.out.2
            go_wp2_with fail
            refine (HA3.out _ (H4.out.then (step1_any _ _ _ _ _ _ _ _ _ _ _ H4.out.2 (by omega) _ (by omega))).2).mono ?_
            rintro e w5 ⟨rfl, hb5⟩
            have H5 := Lib.hid (((H4.out.then (step1_any _ _ _ _ _ _ _ _ _ _ _ H4.out.2 (by omega) _ (by omega)))).bel hb5)
            clear hb5
            clear hrH4 c3H4 c4H4 f3H4 f4H4
            obtain ⟨hrH5, c3H5, c4H5, f3H5, f4H5⟩ := rd6 H5.out.2
            go_wp2_with fail
            refine (V1.out _ (H5.out.then (step1_any _ _ _ _ _ _ _ _ _ _ _ H5.out.2 (by omega) _ (by omega))).2).mono ?_
            rintro e w6 ⟨rfl, ⟨a', _, h6⟩, _⟩
            have H6 := Lib.hid ((H5.out.then (step1_any _ _ _ _ _ _ _ _ _ _ _ H5.out.2 (by omega) _ (by omega))).then h6)
            have xn : optZ none = -1 := rfl
            clear h6
            rw [xn]
            go_wp2
            go_ret2
            exact .no HN.out H6.out
          | some v =>
            obtain ⟨hv1, hv2⟩ := HUL rfl
            have V2 : Hid (∀ W, RdSc W r x0 x1 x2 p n cap zs bad (a + 7) → Calls Tryd.prog 52 #[.pointer (some ⟨r, 0, none⟩)] W fun e w' => e = .returned (.int .i64 (v : Nat)) ∧ RdTo W r x0 x1 x2 p n cap zs bad (a + 11) w') := fun W h => (V1.out W h).mono fun e w' h => ⟨h.1, h.2.2 rfl⟩
            obtain ⟨y, hy⟩ : ∃ y : Int, y = (v : Int) := ⟨_, rfl⟩
            rw [← hy] at V2
            have HY0 := Lib.hid hy
            have hy0 : 0 ≤ y := by omega
            have hy1 : y < 65536 := by omega
            have HO6 := Lib.hid HO5.out
            clear V1 HUL hv1 hv2 HO5
            by_cases e1 : y < 56320
            · have HN : Hid (o = none) := by have e := HO6.out; simp only at e; rw [if_pos (.inl (by omega))] at e; exact e.symm
              clear HO6 hy
              go_wp2_with fail
              refine (U2.out _ H2.out.2).mono ?_
              rintro e w3 ⟨rfl, h3⟩
              have H3 := Lib.hid (H2.out.then h3)
              clear h3
              go_wp2_with fail
              refine (HA2.out _ H3.out.2).mono ?_
              rintro e w4 ⟨rfl, hb4⟩
              have H4 := Lib.hid ((H3.out).bel hb4)
              clear hb4
              obtain ⟨hrH4, c3H4, c4H4, f3H4, f4H4⟩ := rd6 H4.out.2
              go_wp2_with fail
              refine (HA3.out _ (H4.out.then (step1_any _ _ _ _ _ _ _ _ _ _ _ H4.out.2 (by omega) _ (by omega))).2).mono ?_
              rintro e w5 ⟨rfl, hb5⟩
              have H5 := Lib.hid (((H4.out.then (step1_any _ _ _ _ _ _ _ _ _ _ _ H4.out.2 (by omega) _ (by omega)))).bel hb5)
              clear hb5
              clear hrH4 c3H4 c4H4 f3H4 f4H4
              obtain ⟨hrH5, c3H5, c4H5, f3H5, f4H5⟩ := rd6 H5.out.2
              go_wp2_with fail
              refine (V2.out _ (H5.out.then (step1_any _ _ _ _ _ _ _ _ _ _ _ H5.out.2 (by omega) _ (by omega))).2).mono ?_
              rintro e w6 ⟨rfl, h6⟩
              have H6 := Lib.hid ((H5.out.then (step1_any _ _ _ _ _ _ _ _ _ _ _ H5.out.2 (by omega) _ (by omega))).then h6)
              clear h6
              go_wp2
              go_ret2
              exact .no HN.out H6.out
            by_cases e2 : 57344 ≤ y
            · have HN : Hid (o = none) := by have e := HO6.out; simp only at e; rw [if_pos (.inr (by omega))] at e; exact e.symm
              clear HO6 hy
              go_wp2_with fail
              refine (U2.out _ H2.out.2).mono ?_
              rintro e w3 ⟨rfl, h3⟩
              have H3 := Lib.hid (H2.out.then h3)
              clear h3
              go_wp2_with fail
              refine (HA2.out _ H3.out.2).mono ?_
              rintro e w4 ⟨rfl, hb4⟩
              have H4 := Lib.hid ((H3.out).bel hb4)
              clear hb4
              obtain ⟨hrH4, c3H4, c4H4, f3H4, f4H4⟩ := rd6 H4.out.2
              go_wp2_with fail
              refine (HA3.out _ (H4.out.then (step1_any _ _ _ _ _ _ _ _ _ _ _ H4.out.2 (by omega) _ (by omega))).2).mono ?_
              rintro e w5 ⟨rfl, hb5⟩
              have H5 := Lib.hid (((H4.out.then (step1_any _ _ _ _ _ _ _ _ _ _ _ H4.out.2 (by omega) _ (by omega)))).bel hb5)
              clear hb5
              clear hrH4 c3H4 c4H4 f3H4 f4H4
              obtain ⟨hrH5, c3H5, c4H5, f3H5, f4H5⟩ := rd6 H5.out.2
              go_wp2_with fail
              refine (V2.out _ (H5.out.then (step1_any _ _ _ _ _ _ _ _ _ _ _ H5.out.2 (by omega) _ (by omega))).2).mono ?_
              rintro e w6 ⟨rfl, h6⟩
              have H6 := Lib.hid ((H5.out.then (step1_any _ _ _ _ _ _ _ _ _ _ _ H5.out.2 (by omega) _ (by omega))).then h6)
              clear h6
              go_wp2
              go_ret2
              exact .no HN.out H6.out
            have HY : Hid (o = some (65536 + (u - 55296) * 1024 + (v - 56320), a + 11)) := by have e := HO6.out; simp only at e; rw [if_neg (by omega)] at e; exact e.symm
            have HR : Hid (isRune (65536 + (u - 55296) * 1024 + (v - 56320))) := by have := HX.out; have := HY0.out; unfold Hid isRune; omega
            have HE : Hid (65536 + (x - 55296) * 1024 + y - 56320 = ((65536 + (u - 55296) * 1024 + (v - 56320) : Nat) : Int)) := by have := HX.out; have := HY0.out; unfold Hid; omega
            generalize 65536 + (u - 55296) * 1024 + (v - 56320) = rn at HY HR HE
            clear HO6 hy
            obtain ⟨A, hA⟩ : ∃ A : Int, x - 55296 = A := ⟨_, rfl⟩
            have a0 : 0 ≤ A := by omega
            have a1 : A < 1024 := by omega
            rw [hA] at HE
            go_wp2_with fail
            refine (U2.out _ H2.out.2).mono ?_
            rintro e w3 ⟨rfl, h3⟩
            have H3 := Lib.hid (H2.out.then h3)
            clear h3
            go_wp2_with fail
            refine (HA2.out _ H3.out.2).mono ?_
            rintro e w4 ⟨rfl, hb4⟩
            have H4 := Lib.hid ((H3.out).bel hb4)
            clear hb4
            obtain ⟨hrH4, c3H4, c4H4, f3H4, f4H4⟩ := rd6 H4.out.2
            go_wp2_with fail
            refine (HA3.out _ (H4.out.then (step1_any _ _ _ _ _ _ _ _ _ _ _ H4.out.2 (by omega) _ (by omega))).2).mono ?_
            rintro e w5 ⟨rfl, hb5⟩
            have H5 := Lib.hid (((H4.out.then (step1_any _ _ _ _ _ _ _ _ _ _ _ H4.out.2 (by omega) _ (by omega)))).bel hb5)
            clear hb5
            clear hrH4 c3H4 c4H4 f3H4 f4H4
            obtain ⟨hrH5, c3H5, c4H5, f3H5, f4H5⟩ := rd6 H5.out.2
            go_wp2_with fail
            refine (V2.out _ (H5.out.then (step1_any _ _ _ _ _ _ _ _ _ _ _ H5.out.2 (by omega) _ (by omega))).2).mono ?_
            rintro e w6 ⟨rfl, h6⟩
            have H6 := Lib.hid ((H5.out.then (step1_any _ _ _ _ _ _ _ _ _ _ _ H5.out.2 (by omega) _ (by omega))).then h6)
            clear h6
            go_wp2_with fail
            rw [HE.out]
            refine (rsgn_any rn _ HR.out).mono ?_
            rintro e w9 ⟨rfl, rfl⟩
            go_wp2
            go_ret2
            exact .yes HY.out H6.out
      · have HN : Hid (o = none) := by
          unfold Hid
          rw [← HO.out, if_neg hz]
          split
          · rw [HM.out]
          · rfl
        have t : (z == 117) = false := by simpa using hz
        clear HO HM hz
        go_wp2
        go_ret2
        exact .no HN.out H2.out
end Go.Proofs.YtneadcbadnicfaaDoor
