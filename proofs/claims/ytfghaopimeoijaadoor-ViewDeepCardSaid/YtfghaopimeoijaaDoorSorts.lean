/-
  The package sorts: Of, Element; the package view's bare. Conditions: those that each theorem names.
-/
import Derived.Test.YtfghaopimeoijaaDoorVal
import Derived.Test.YtfghaopimeoijaaDoorWSize
import Derived.Test.YtfghaopimeoijaaDoorPlanMore
import Derived.IntWalk
namespace Go.Proofs.YtfghaopimeoijaaDoor
open Go.ChangeShapes Go.WideShapes Go.ChangeAt Go.RowKit Go.Shelf

theorem sorts_any (k : Nat) (ref lists : Int) (w : World) :
    Calls Tryd.prog 29 #[.agg #[.int .u8 k, .int .i64 ref, .int .i64 lists]] w fun e w' => e = .returned (.int .i64 (sortP k lists : Nat)) ∧ Below w.heap.size w w' := by
  have h0 := heap_alloc_new w (.cells #[.int .u8 k, .int .i64 ref, .int .i64 lists] 55)
  have HB := Lib.hid ((Below.refl w.heap.size w).alloc (Nat.le_refl _) (.cells #[.int .u8 k, .int .i64 ref, .int .i64 lists] 55))
  obtain ⟨_, x0, x1, x2, _⟩ := blk3 h0
  obtain ⟨o, ho⟩ : ∃ o, sortP k lists = o := ⟨_, rfl⟩
  have HO := Lib.hid ho
  rw [ho]
  clear h0 ho
  by_cases h1 : 0 < lists
  · have HE : Hid (o = 3) := Lib.hid (by rw [← HO.out]; unfold sortP; rw [if_pos h1])
    obtain rfl := HE.out
    go_enter Tryd.func29, Tryd.ntmps29
    go_wp2
    go_ret
    exact ⟨rfl, HB.out⟩
  by_cases h2 : lists < 0
  · have HE : Hid (o = 0) := Lib.hid (by rw [← HO.out]; unfold sortP; rw [if_neg h1, if_pos h2])
    obtain rfl := HE.out
    go_enter Tryd.func29, Tryd.ntmps29
    go_wp2
    go_ret
    exact ⟨rfl, HB.out⟩
  have hz : Hid (sortP k lists = if 0 < kSize k then 1 else if k = 11 ∨ k = 12 then 2 else if k = 13 then 4 else 0) := Lib.hid (by unfold sortP; rw [if_neg h1, if_neg h2])
  go_enter Tryd.func29, Tryd.ntmps29
  go_wp2_with fail
  refine (wsize_any (k : Int) _).mono ?_
  rintro e W1 ⟨rfl, rfl⟩
  by_cases h3 : 0 < kSize (k : Int)
  · have HE : Hid (o = 1) := Lib.hid (by rw [← HO.out, hz.out, if_pos h3])
    obtain rfl := HE.out
    generalize kSize (k : Int) = z at *
    go_wp2
    go_ret
    exact ⟨rfl, HB.out⟩
  have hz2 : Hid (o = if k = 11 ∨ k = 12 then 2 else if k = 13 then 4 else 0) := Lib.hid (by rw [← HO.out, hz.out, if_neg h3])
  generalize kSize (k : Int) = z at *
  by_cases h11 : k = 11
  · have HE : Hid (o = 2) := Lib.hid (by rw [hz2.out, if_pos (.inl h11)])
    obtain rfl := HE.out
    subst h11
    go_wp2
    go_ret
    exact ⟨rfl, HB.out⟩
  have t11 : ((k : Int) == 11) = false := by simp; omega
  by_cases h12 : k = 12
  · have HE : Hid (o = 2) := Lib.hid (by rw [hz2.out, if_pos (.inr h12)])
    obtain rfl := HE.out
    subst h12
    go_wp2
    go_ret
    exact ⟨rfl, HB.out⟩
  have t12 : ((k : Int) == 12) = false := by simp; omega
  by_cases h13 : k = 13
  · have HE : Hid (o = 4) := Lib.hid (by rw [hz2.out, if_neg (by omega), if_pos h13])
    obtain rfl := HE.out
    subst h13
    go_wp2
    go_ret
    exact ⟨rfl, HB.out⟩
  have t13 : ((k : Int) == 13) = false := by simp; omega
  have HE : Hid (o = 0) := Lib.hid (by rw [hz2.out, if_neg (by omega), if_neg h13])
  obtain rfl := HE.out
  clear h11 h12 h13
  go_wp2
  go_ret
  exact ⟨rfl, HB.out⟩
theorem element_any (k : Nat) (ref lists : Int) (hl : -9223372036854775807 ≤ lists ∧ lists ≤ 9223372036854775807) (w : World) :
    Calls Tryd.prog 43 #[.agg #[.int .u8 k, .int .i64 ref, .int .i64 lists]] w fun e w' => e = .returned (.agg #[.int .u8 k, .int .i64 ref, .int .i64 (lists - 1)]) ∧ Below w.heap.size w w' := by
  obtain ⟨hb, hq1, hq2⟩ := two_start w #[.int .u8 k, .int .i64 ref, .int .i64 lists] #[.int .u8 0, .int .i64 0, .int .i64 0] 55 55
  have HB := Lib.hid hb
  have HQ1 := Lib.hid hq1
  have HQ2 := Lib.hid hq2
  have hw := IntWalk.i64_in (lists - 1) (by omega)
  clear hb hq1 hq2
  go_enter Tryd.func43, Tryd.ntmps43
  go_upto_region 1 with (fail)
  generalize (w.alloc (.cells #[.int .u8 k, .int .i64 ref, .int .i64 lists] 55)).alloc (.cells #[.int .u8 0, .int .i64 0, .int .i64 0] 55) = W1 at *
  have hAB : w.heap.size ≠ w.heap.size + 1 := by omega
  have HAB := Lib.hid hAB
  generalize hBe : w.heap.size + 1 = B at *
  have hBl : w.heap.size ≤ B := by omega
  have HBL := Lib.hid hBl
  clear hBe hBl
  obtain ⟨_, a0, a1, a2, f0, f1, f2⟩ := blk3 HQ1.out
  have HQ3 := Lib.hid ((blk_set HQ1.out 2 (.int .i64 (lists - 1))).trans rfl)
  have HQ4 := Lib.hid (blk_set_ne HQ2.out (p := ⟨w.heap.size, 2, none⟩) HAB.out (.int .i64 (lists - 1)))
  have HB3 := Lib.hid (HB.out.setCell (p := ⟨w.heap.size, 2, none⟩) (Nat.le_refl _) (.int .i64 (lists - 1)))
  go_upto_region 2 with (fail)
  generalize W1.setCell ⟨w.heap.size, 2, none⟩ (.int .i64 (lists - 1)) = W2 at *
  clear a0 a1 a2 f0 f1 f2 hAB
  obtain ⟨_, a0, a1, a2, _⟩ := blk3 HQ3.out
  obtain ⟨_, b0, b1, b2, f0, f1, f2⟩ := blk3 HQ4.out
  go_wp2
  refine post_gen (fun Wf => Wf.heap[B]? = some (.cells #[.int .u8 k, .int .i64 ref, .int .i64 (lists - 1)] 55 (0, 0)) ∧ Below w.heap.size w Wf) ⟨blk_set3 HQ4.out _ _ _, ((HB3.out.setCell (p := ⟨B, 0, none⟩) HBL.out _).setCell (p := ⟨B, 1, none⟩) HBL.out _).setCell (p := ⟨B, 2, none⟩) HBL.out _⟩ ?_
  rintro Wf ⟨e1, e2⟩
  obtain ⟨_, c0, c1, c2, _⟩ := blk3 e1
  exact bodyPost_ret (v := .agg #[.int .u8 k, .int .i64 ref, .int .i64 (lists - 1)]) (by simp [results, Tryd.results43, go_sem, c0, c1, c2]) rfl ⟨rfl, e2⟩
set_option maxHeartbeats 8000000 in
theorem bare_any (o : Nat) (v : PV) (val : Value) (w : World) (hv : IsV w v val) :
    Calls Tryd.prog 39 #[.int .i64 o, val] w fun e w' => e = .returned (.bool (bareP o v)) ∧ Below w.heap.size w w' := by
  obtain ⟨ba, ka, bc, kc, rfl, hrest⟩ := hv.form
  clear hrest hv
  have h0 := heap_alloc_new w (.cells #[.int .u64 v.num, .slice ba v.bytes.length bc, .slice ka v.kids.length kc, .bool v.has] 36)
  have HB := Lib.hid ((Below.refl w.heap.size w).alloc (Nat.le_refl _) (.cells #[.int .u64 v.num, .slice ba v.bytes.length bc, .slice ka v.kids.length kc, .bool v.has] 36))
  obtain ⟨_, x0, x1, x2, x3⟩ := blk4p h0
  have HE : Hid (bareP o v = ((decide (o = 1) || decide (v.num = 0)) && ((decide (o = 2) || decide (v.bytes.length = 0)) && (((decide (o = 3) || v.has) || decide (v.kids.length = 0)) && (decide (o = 4) || !v.has))))) := Lib.hid rfl
  clear h0
  obtain ⟨res, hres⟩ : ∃ res, bareP o v = res := ⟨_, rfl⟩
  rw [hres] at HE ⊢
  clear hres
  generalize v.num = n at *
  generalize v.bytes.length = bl at *
  generalize v.kids.length = kl at *
  generalize v.has = h at *
  go_enter Tryd.func39, Tryd.ntmps39
  have e1 : ((o : Int) == 1) = decide (o = 1) := by by_cases h : o = 1 <;> simp [h]; omega
  have e2 : ((o : Int) == 2) = decide (o = 2) := by by_cases h : o = 2 <;> simp [h]; omega
  have e3 : ((o : Int) == 3) = decide (o = 3) := by by_cases h : o = 3 <;> simp [h]; omega
  have e4 : ((o : Int) == 4) = decide (o = 4) := by by_cases h : o = 4 <;> simp [h]; omega
  have g1 : ((n : Int) == 0) = decide (n = 0) := by by_cases h : n = 0 <;> simp [h]
  have g2 : ((bl : Int) == 0) = decide (bl = 0) := by by_cases h : bl = 0 <;> simp [h]
  have g3 : ((kl : Int) == 0) = decide (kl = 0) := by by_cases h : kl = 0 <;> simp [h]
  generalize decide (o = 1) = q1 at *
  generalize decide (o = 2) = q2 at *
  generalize decide (o = 3) = q3 at *
  generalize decide (o = 4) = q4 at *
  generalize decide (n = 0) = r1 at *
  generalize decide (bl = 0) = r2 at *
  generalize decide (kl = 0) = r3 at *
  have c1 : (q1 = false ∧ r1 = false) ∨ q1 = true ∨ (q1 = false ∧ r1 = true) := by cases q1 <;> cases r1 <;> simp
  have c2 : (q2 = false ∧ r2 = false) ∨ q2 = true ∨ (q2 = false ∧ r2 = true) := by cases q2 <;> cases r2 <;> simp
  have c3 : (q3 = false ∧ h = false ∧ r3 = false) ∨ (q3 = true ∧ h = true) ∨ (q3 = true ∧ h = false) ∨ (q3 = false ∧ h = true) ∨ (q3 = false ∧ h = false ∧ r3 = true) := by cases q3 <;> cases h <;> cases r3 <;> simp
  have C2 := Lib.hid c2
  have C3 := Lib.hid c3
  clear c2 c3
  rcases c1 with ⟨rfl, rfl⟩ | rfl | ⟨rfl, rfl⟩
  · go_wp2
    go_ret
    exact ⟨ret_bool HE.out.symm, HB.out⟩
  all_goals
    rcases C2.out with ⟨rfl, rfl⟩ | rfl | ⟨rfl, rfl⟩
    · go_wp2
      go_ret
      exact ⟨ret_bool HE.out.symm, HB.out⟩
    all_goals
      rcases C3.out with ⟨rfl, rfl, rfl⟩ | ⟨rfl, rfl⟩ | ⟨rfl, rfl⟩ | ⟨rfl, rfl⟩ | ⟨rfl, rfl, rfl⟩
      · go_wp2
        go_ret
        exact ⟨ret_bool HE.out.symm, HB.out⟩
      all_goals
        cases q4 <;> (go_wp2; go_ret; exact ⟨ret_bool HE.out.symm, HB.out⟩)
end Go.Proofs.YtfghaopimeoijaaDoor
