/-
  What lies ready in memory, both Checks say the same of it. Conditions: those that the theorem names; the library's tables hold what the row lists.
-/
import Derived.Test.YtdlfndjgncdgfaaGreatDoorPkS38
import Derived.Test.YtdlfndjgncdgfaaGreatDoorPkS41
import Derived.Test.YtdlfndjgncdgfaaGreatDoorPkS45
namespace Go.Proofs.YtdlfndjgncdgfaaGreatDoor
open Go.ChangeShapes Go.WideShapes Go.ChangeAt Go.RowKit Go.Shelf

set_option maxRecDepth 100000 in
set_option maxHeartbeats 4000000 in
theorem chk1_any (w : World) (S : Nat) {base : Nat} {ss : List (CRec × Value)} {es : List (SCho × Value)} {sv ev : Value} (root : Int) (h : CRows base w ss es sv ev) (hS : w.heap[S]? = some (.cells #[sv, ev, .int .i64 root] 30 (0, 0))) (q : CRec × Value) (hq : q ∈ ss) (hf : ∀ f ∈ q.1.fields, FldFit f) (hT : Tabs w) :
    Calls Tryz.prog 34 #[.agg #[.string q.1.name, q.2], .pointer (some ⟨S, 0, none⟩)] w fun e w' => e = .returned (.bool (recordB ss.length (es.map Prod.fst) q.1)) ∧ Below w.heap.size w w' := by
  obtain ⟨sa, sc, ea, ec, rfl, rfl⟩ := h.forms
  have hr := h.fields q hq
  obtain ⟨r, v⟩ := q
  simp only at hf hr
  obtain ⟨a, cp, rfl⟩ := ownsRow_form hr
  have h0 := heap_alloc_new w (.cells #[.string r.name, .slice a r.fields.length cp] 54)
  have hb := (Below.refl w.heap.size w).alloc (Nat.le_refl _) (.cells #[.string r.name, .slice a r.fields.length cp] 54)
  have HB := Lib.hid hb
  have HC := Lib.hid (srecord_any _ root (h.below hb) r _ (row_keep hb hr) hf (hT.below (Nat.le_refl _) hb))
  obtain ⟨_, p0, p1, p2, _⟩ := blk3 (blk_below hS hb (blk_lt hS))
  obtain ⟨_, q0, q1, _⟩ := blk2 h0
  clear h0 hb h hT hS hf hr hq
  go_enter Tryz.func34, Tryz.ntmps34
  go_upto_region 1 with (fail)
  generalize (w.alloc (.cells #[.string r.name, .slice a r.fields.length cp] 54)) = W0 at *
  go_wp2_with fail
  refine HC.out.mono ?_
  rintro e W1 ⟨rfl, hb1⟩
  have HB1 := Lib.hid (HB.out.trans (hb1.mono HB.out.size))
  clear hb1 p0 p1 p2 q0 q1
  go_wp2
  go_ret
  exact ⟨rfl, HB1.out⟩
theorem tells_chk1 (w : World) (S : Nat) {base : Nat} {ss : List (CRec × Value)} {es : List (SCho × Value)} {sv ev : Value} (root : Int) (h : CRows base w ss es sv ev) (hS : w.heap[S]? = some (.cells #[sv, ev, .int .i64 root] 30 (0, 0))) (hf : ∀ q ∈ ss, ∀ f ∈ q.1.fields, FldFit f) (hT : Tabs w) :
    Tells w 34 #[.pointer (some ⟨S, 0, none⟩)] (fun q : CRec × Value => Value.agg #[.string q.1.name, q.2]) ss (fun q => recordB ss.length (es.map Prod.fst) q.1) :=
  ⟨enters_of Tryz.func34 (by kernel_rfl) rfl, fun W x hx hb => chk1_any W S root (h.below hb) (blk_below hS hb (blk_lt hS)) x hx (hf x hx) (hT.below (Nat.le_refl _) hb)⟩
theorem tells_cho (w : World) {base : Nat} {es : List (SCho × Value)} (h : ∀ q ∈ es, w.ownsRow base 9 1 q.2 q.1.names.length (strsCells q.1.names)) (hs : ∀ q ∈ es, ∀ s ∈ q.1.names, s.size ≤ 281474976710656) (hT : Tabs w) :
    Tells w 32 #[] (fun q : SCho × Value => Value.agg #[.string q.1.name, q.2]) es (fun q => choiceB q.1) :=
  ⟨enters_of Tryz.func32 (by kernel_rfl) rfl, fun W x hx hb => schoice_any x.1 x.2 base W (row_keep hb (h x hx)) (hT.below (Nat.le_refl _) hb) (hs x hx)⟩
theorem namesC_rows (ss : List (CRec × Value)) (es : List (SCho × Value)) : namesC (ss.map Prod.fst) (es.map Prod.fst) = (es.map fun q => q.1.name) ++ ss.map fun q => q.1.name := by
  unfold namesC
  rw [List.map_map, List.map_map]
  rfl
set_option maxRecDepth 100000 in
set_option maxHeartbeats 4000000 in
theorem check_any (w : World) {base : Nat} {ss : List (CRec × Value)} {es : List (SCho × Value)} {sv ev : Value} (root : Int) (h : CRows base w ss es sv ev) (hf : ∀ q ∈ ss, q.1.name.size ≤ 281474976710656 ∧ ∀ f ∈ q.1.fields, FldFit f) (he : ∀ q ∈ es, q.1.name.size ≤ 281474976710656 ∧ ∀ s ∈ q.1.names, s.size ≤ 281474976710656) (hT : Tabs w) :
    Calls Tryz.prog 12 #[.agg #[sv, ev, .int .i64 root]] w fun e w' => e = .returned (.bool (checkB ⟨ss.map Prod.fst, es.map Prod.fst, root⟩)) ∧ Below w.heap.size w w' := by
  obtain ⟨sa, sc, ea, ec, rfl, rfl⟩ := h.forms
  obtain ⟨res, hres⟩ : ∃ res, checkB ⟨ss.map Prod.fst, es.map Prod.fst, root⟩ = res := ⟨_, rfl⟩
  rw [hres]
  unfold checkB at hres
  simp only [List.length_map, namesC_rows, List.all_map] at hres
  have hf1 := row_few h.structs
  have hf2 := row_few h.enums
  have h0 := heap_alloc_new w (.cells #[.slice sa ss.length sc, .slice ea es.length ec, .int .i64 root] 30)
  have hb := (Below.refl w.heap.size w).alloc (Nat.le_refl _) (.cells #[.slice sa ss.length sc, .slice ea es.length ec, .int .i64 root] 30)
  have HB := Lib.hid hb
  have HQ := Lib.hid h0
  have HR := Lib.hid (h.below hb)
  have HT := Lib.hid (hT.below (Nat.le_refl _) hb)
  have HF := Lib.hid hf
  have HE := Lib.hid he
  have HN := Lib.hid hres
  have hns : ∀ s ∈ (es.map fun q => q.1.name) ++ (ss.map fun q => q.1.name), s.size ≤ 281474976710656 := by
    intro s hs
    rcases List.mem_append.1 hs with h | h
    · obtain ⟨q, hq, rfl⟩ := List.mem_map.1 h
      exact (he q hq).1
    · obtain ⟨q, hq, rfl⟩ := List.mem_map.1 h
      exact (hf q hq).1
  have hln : ss.length + es.length = ((es.map fun q => q.1.name) ++ (ss.map fun q => q.1.name)).length := by
    rw [List.length_append, List.length_map, List.length_map]; omega
  have HNS := Lib.hid hns
  have HLN := Lib.hid hln
  obtain ⟨_, p0, p1, p2, _⟩ := blk3 h0
  clear h0 hb h hT hf he hres hns hln
  go_enter Tryz.func12, Tryz.ntmps12
  go_upto_region 1 with (fail)
  generalize (w.alloc (.cells #[.slice sa ss.length sc, .slice ea es.length ec, .int .i64 root] 30)) = W0 at *
  go_wp2_with fail
  by_cases hl : 1 ≤ ss.length ∧ ss.length ≤ 16
  rotate_left
  · refine (samong_any ((ss.length : Int) - 1) 16 false (decide_eq_false (by omega)) _).mono ?_
    rintro e W1 ⟨rfl, rfl⟩
    have HX := Lib.hid (show res = false by rw [← HN.out, if_pos (.inl hl)])
    clear HN hl
    go_wp2
    go_ret
    exact ⟨ret_bool HX.out.symm, HB.out⟩
  refine (samong_any ((ss.length : Int) - 1) 16 true (decide_eq_true (by omega)) _).mono ?_
  rintro e W1 ⟨rfl, rfl⟩
  by_cases h8 : 8 < es.length
  · have HX := Lib.hid (show res = false by rw [← HN.out, if_pos (.inr (.inl h8))])
    have g8 : (8 : Int) < (es.length : Int) := by omega
    clear HN hl
    go_wp2
    go_ret
    exact ⟨ret_bool HX.out.symm, HB.out⟩
  have g8 : ¬ (8 : Int) < (es.length : Int) := by omega
  have hl1 : ss.length ≤ 16 := hl.2
  have hl2 : es.length ≤ 8 := by omega
  by_cases hr : 0 ≤ root ∧ root < (ss.length : Int)
  rotate_left
  · have HX := Lib.hid (show res = false by rw [← HN.out, if_pos (.inr (.inr hr))])
    have HA := Lib.hid (samong_any root ss.length false (decide_eq_false hr))
    clear HN hl hr
    go_wp2_with fail
    refine (HA.out _).mono ?_
    rintro e W2 ⟨rfl, rfl⟩
    go_wp2
    go_ret
    exact ⟨ret_bool HX.out.symm, HB.out⟩
  have HN2 := Lib.hid (show res = _ from HN.out.symm.trans (if_neg (by omega)))
  have HA := Lib.hid (samong_any root ss.length true (decide_eq_true hr))
  clear HN hl hr
  go_wp2_with fail
  refine (HA.out _).mono ?_
  rintro e W2 ⟨rfl, rfl⟩
  clear HA
  go_wp2_with fail
  refine (declared_any _ root HR.out hl1 hl2).mono ?_
  rintro e W3 ⟨nv, rfl, hrow, hb3⟩
  rw [HLN.out] at hrow
  generalize (es.map fun q => q.1.name) ++ (ss.map fun q => q.1.name) = names at *
  obtain ⟨na, nc, rfl⟩ := ownsRow_form hrow
  have HB3 := Lib.hid (HB.out.trans (hb3.mono HB.out.size))
  have HR3 := Lib.hid (HR.out.below hb3)
  have HQ3 := Lib.hid (blk_below HQ.out hb3 (blk_lt HQ.out))
  have HT3 := Lib.hid (HT.out.below (Nat.le_refl _) hb3)
  have HROW := Lib.hid hrow
  clear hb3 hrow p0 p1 p2 HB HR HQ HT
  go_wp2_with fail
  refine (all_str names freeB _ _ W3 28 #[] HROW.out (tells_free names W3 HT3.out HNS.out)).mono ?_
  rintro e W4 ⟨rfl, hb4⟩
  have HB4 := Lib.hid (HB3.out.trans (hb4.mono HB3.out.size))
  have HR4 := Lib.hid (HR3.out.below hb4)
  have HQ4 := Lib.hid (blk_below HQ3.out hb4 (blk_lt HQ3.out))
  have HT4 := Lib.hid (HT3.out.below (Nat.le_refl _) hb4)
  have HROW4 := Lib.hid (row_keep hb4 HROW.out)
  clear hb4 HB3 HR3 HQ3 HT3 HROW
  obtain ⟨_, p0, p1, p2, _⟩ := blk3 HQ4.out
  cases h1 : names.all freeB
  · have HX := Lib.hid (show res = false by rw [HN2.out, h1, Bool.false_and])
    clear HN2 h1
    go_wp2
    go_ret
    exact ⟨ret_bool HX.out.symm, HB4.out⟩
  have HN3 := Lib.hid (show res = _ from HN2.out.trans (by rw [h1, Bool.true_and]))
  clear HN2 h1
  go_wp2_with fail
  refine (again_strS names _ _ W4 HROW4.out).mono ?_
  rintro e W5 ⟨rfl, hb5⟩
  have HB5 := Lib.hid (HB4.out.trans (hb5.mono HB4.out.size))
  have HR5 := Lib.hid (HR4.out.below hb5)
  have HQ5 := Lib.hid (blk_below HQ4.out hb5 (blk_lt HQ4.out))
  have HT5 := Lib.hid (HT4.out.below (Nat.le_refl _) hb5)
  clear hb5 p0 p1 p2 HB4 HR4 HQ4 HT4 HROW4
  obtain ⟨_, p0, p1, p2, _⟩ := blk3 HQ5.out
  rw [List.map_id]
  have HD := Lib.hid (dupI_neg (dup names))
  by_cases h2 : dup names = none
  rotate_left
  · have HX := Lib.hid (show res = false by rw [HN3.out, decide_eq_false h2, Bool.false_and])
    have hd : ¬ dupI (dup names) < 0 := by have := HD.out; rw [decide_eq_false h2] at this; exact of_decide_eq_false this
    generalize dupI (dup names) = d at *
    clear HN3 h2 HD
    go_wp2
    go_ret
    exact ⟨ret_bool HX.out.symm, HB5.out⟩
  have HN4 := Lib.hid (show res = _ from HN3.out.trans (by rw [decide_eq_true h2, Bool.true_and]))
  have hd : dupI (dup names) < 0 := by have := HD.out; rw [decide_eq_true h2] at this; exact of_decide_eq_true this
  generalize dupI (dup names) = d at *
  clear HN3 h2 HD
  go_wp2_with fail
  refine (all_cho es (fun q => choiceB q.1) _ _ W5 32 #[] HR5.out.enums (fun q hq => by obtain ⟨a, c, h⟩ := ownsRow_form (HR5.out.names q hq); exact ⟨_, _, _, h⟩) (tells_cho W5 HR5.out.names (fun q hq => (HE.out q hq).2) HT5.out)).mono ?_
  rintro e W6 ⟨rfl, hb6⟩
  have HB6 := Lib.hid (HB5.out.trans (hb6.mono HB5.out.size))
  have HR6 := Lib.hid (HR5.out.below hb6)
  have HQ6 := Lib.hid (blk_below HQ5.out hb6 (blk_lt HQ5.out))
  have HT6 := Lib.hid (HT5.out.below (Nat.le_refl _) hb6)
  clear hb6 p0 p1 p2 HB5 HR5 HQ5 HT5
  obtain ⟨_, p0, p1, p2, _⟩ := blk3 HQ6.out
  cases h3 : es.all (fun q => choiceB q.1)
  · have HX := Lib.hid (show res = false by rw [HN4.out, show es.all (choiceB ∘ Prod.fst) = false from h3, Bool.false_and])
    clear HN4 h3
    go_wp2
    go_ret
    exact ⟨ret_bool HX.out.symm, HB6.out⟩
  have HX := Lib.hid (show res = ss.all (fun q => recordB ss.length (es.map Prod.fst) q.1) from HN4.out.trans (by rw [show es.all (choiceB ∘ Prod.fst) = true from h3, Bool.true_and]; rfl))
  clear HN4 h3
  go_wp2_with fail
  refine (all_crec ss (fun q => recordB ss.length (es.map Prod.fst) q.1) _ _ W6 34 _ HR6.out.structs (fun q hq => by obtain ⟨a, c, h⟩ := ownsRow_form (HR6.out.fields q hq); exact ⟨_, _, _, h⟩) (tells_chk1 W6 w.heap.size root HR6.out HQ6.out (fun q hq => (HF.out q hq).2) HT6.out)).mono ?_
  rintro e W7 ⟨rfl, hb7⟩
  have HB7 := Lib.hid (HB6.out.trans (hb7.mono HB6.out.size))
  clear hb7
  go_wp2
  go_ret
  exact ⟨ret_bool HX.out.symm, HB7.out⟩
end Go.Proofs.YtdlfndjgncdgfaaGreatDoor
namespace Go.Proofs.YtdlfndjgncdgfaaGreatDoor
open Go.ChangeShapes Go.WideShapes Go.ChangeAt Go.RowKit Go.Shelf

set_option maxRecDepth 100000 in
set_option maxHeartbeats 8000000 in
theorem rcheck_any (w : World) {base : Nat} {ss : List (CRec × Value)} {es : List (SCho × Value)} {sv ev : Value} (root : Int) (h : CRows base w ss es sv ev) (hf : ∀ q ∈ ss, q.1.name.size ≤ 281474976710656 ∧ ∀ f ∈ q.1.fields, FldFit f) (he : ∀ q ∈ es, q.1.name.size ≤ 281474976710656 ∧ ∀ s ∈ q.1.names, s.size ≤ 281474976710656) (hT : Tabs w) :
    Calls Tryz.prog 13 #[.agg #[sv, ev, .int .i64 root]] w fun e w' => e = .returned (.bool (checkB ⟨ss.map Prod.fst, es.map Prod.fst, root⟩)) ∧ Below w.heap.size w w' := by
  obtain ⟨sa, sc, ea, ec, rfl, rfl⟩ := h.forms
  rw [← rcB_eq]
  obtain ⟨res, hres⟩ : ∃ res, rcB ⟨ss.map Prod.fst, es.map Prod.fst, root⟩ = res := ⟨_, rfl⟩
  rw [hres]
  unfold rcB at hres
  simp only [List.length_map, namesC_rows, List.all_map] at hres
  have hb0 : Below w.heap.size w (w.alloc (.cells #[.slice sa ss.length sc, .slice ea es.length ec, .int .i64 root] 30)) := (Below.refl _ _).alloc (Nat.le_refl _) _
  have HQ := Lib.hid (heap_alloc_new w (.cells #[.slice sa ss.length sc, .slice ea es.length ec, .int .i64 root] 30))
  have HB := Lib.hid hb0
  have HC := Lib.hid (h.below hb0)
  have HT := Lib.hid (hT.below (Nat.le_refl _) hb0)
  have HF := Lib.hid hf
  have HE := Lib.hid he
  have HN := Lib.hid hres
  have hfs := row_few h.structs
  have hfe := row_few h.enums
  clear h hf he hT hb0 hres
  go_enter Tryz.func13, Tryz.ntmps13
  go_upto_region 1 with (fail)
  generalize w.alloc (.cells #[.slice sa ss.length sc, .slice ea es.length ec, .int .i64 root] 30) = W0 at *
  obtain ⟨_, z0, z1, z2, _⟩ := blk3 HQ.out
  by_cases g1 : ss.length < 1
  · have HR := Lib.hid (HN.out.symm.trans (if_pos (.inl (fun h => by omega))))
    have t1 : (ss.length : Int) < 1 := by omega
    have d1 : decide ((ss.length : Int) < 1) = true := decide_eq_true t1
    clear HN
    go_wp2
    go_ret
    exact ⟨ret_bool HR.out.symm, HB.out⟩
  have t1 : ¬ (ss.length : Int) < 1 := by omega
  have d1 : decide ((ss.length : Int) < 1) = false := decide_eq_false t1
  by_cases g2 : 16 < ss.length
  · have HR := Lib.hid (HN.out.symm.trans (if_pos (.inl (fun h => by omega))))
    have t2 : (16 : Int) < (ss.length : Int) := by omega
    have d2 : decide ((16 : Int) < (ss.length : Int)) = true := decide_eq_true t2
    clear HN
    go_wp2
    go_ret
    exact ⟨ret_bool HR.out.symm, HB.out⟩
  have t2 : ¬ (16 : Int) < (ss.length : Int) := by omega
  have d2 : decide ((16 : Int) < (ss.length : Int)) = false := decide_eq_false t2
  by_cases g3 : 8 < es.length
  · have HR := Lib.hid (HN.out.symm.trans (if_pos (.inr (.inl g3))))
    have t3 : (8 : Int) < (es.length : Int) := by omega
    have d3 : decide ((8 : Int) < (es.length : Int)) = true := decide_eq_true t3
    clear HN
    go_wp2
    go_ret
    exact ⟨ret_bool HR.out.symm, HB.out⟩
  have t3 : ¬ (8 : Int) < (es.length : Int) := by omega
  have d3 : decide ((8 : Int) < (es.length : Int)) = false := decide_eq_false t3
  by_cases g4 : root < 0
  · have HR := Lib.hid (HN.out.symm.trans (if_pos (.inr (.inr (fun h => by omega)))))
    have d4 : decide (root < 0) = true := decide_eq_true g4
    clear HN
    go_wp2
    go_ret
    exact ⟨ret_bool HR.out.symm, HB.out⟩
  have d4 : decide (root < 0) = false := decide_eq_false g4
  by_cases g5 : (ss.length : Int) ≤ root
  · have HR := Lib.hid (HN.out.symm.trans (if_pos (.inr (.inr (fun h => by omega)))))
    have d5 : decide ((ss.length : Int) ≤ root) = true := decide_eq_true g5
    clear HN
    go_wp2
    go_ret
    exact ⟨ret_bool HR.out.symm, HB.out⟩
  have d5 : decide ((ss.length : Int) ≤ root) = false := decide_eq_false g5
  have HN2 := Lib.hid (HN.out.symm.trans (if_neg (by omega)))
  clear HN
  clear t1 t2 t3 d1 d2 d3 d4 d5
  go_wp2_with fail
  clear z0 z1 z2
  refine rca_wp (base := base) (rt := root) ⟨rfl, rfl, rfl, rfl, rfl⟩ HQ.out HC.out HT.out (by omega) (fun p hp => (HE.out p hp).2) ?_ ?_
  · intro c1 w1 a1 e1 hall1 hc1 hb1 hU1
    have HA1 := Lib.hid hall1
    have HB1 := Lib.hid hb1
    have HU1 := Lib.hid hU1
    obtain ⟨u1, rfl⟩ := hc1.lit
    clear hall1 hc1 hb1 hU1
    simp only [Exit.inBlock, Exit.then]
    apply_assumption
    go_wp2_with fail
    refine rcb_wp (wz := W0) (base := base) (rt := root) (H0 := es.map fun q => q.1.name) ⟨rfl, rfl, rfl, rfl, rfl⟩ HQ.out HC.out HT.out (by omega) (by omega) (fun p hp => (HF.out p hp).2) HB1.out HU1.out ?_ ?_
    · intro c2 w2 a2 e2 hall2 hc2 hb2 hU2
      have HA2 := Lib.hid hall2
      have HB2 := Lib.hid hb2
      have HU2 := Lib.hid hU2
      obtain ⟨u2, rfl⟩ := hc2.lit
      clear hall2 hc2 hb2 hU2
      simp only [Exit.inBlock, Exit.then]
      apply_assumption
      go_wp2_with fail
      have hln : ((es.map fun q => q.1.name) ++ ss.map fun q => q.1.name).length = ss.length + es.length := by rw [List.length_append, List.length_map, List.length_map]; omega
      have hns : ∀ s ∈ (es.map fun q => q.1.name) ++ (ss.map fun q => q.1.name), s.size ≤ 281474976710656 := by
        intro s hs
        rcases List.mem_append.1 hs with h | h
        · obtain ⟨q, hq, rfl⟩ := List.mem_map.1 h
          exact (HE.out q hq).1
        · obtain ⟨q, hq, rfl⟩ := List.mem_map.1 h
          exact (HF.out q hq).1
      have HNS := Lib.hid hns
      have HU3 := Lib.hid (by have h := HU2.out; rwa [← hln] at h)
      have HLN := Lib.hid hln
      have HT2 := Lib.hid (HT.out.below (Nat.le_refl _) HB2.out)
      rw [← hln]
      generalize ((es.map fun q => q.1.name) ++ ss.map fun q => q.1.name) = L at *
      clear hns hln
      refine rcc_wp (l := L) ⟨rfl, rfl, rfl, rfl, rfl⟩ HU3.out HT2.out HNS.out ?_ ?_
      · intro c3 w3 hall3 hc3 hb3
        have HA3 := Lib.hid hall3
        have HB3 := Lib.hid (HB.out.trans (HB2.out.trans (hb3.mono HB2.out.size) |>.mono HB.out.size))
        have HU4 := Lib.hid (row_keep hb3 HU3.out)
        obtain ⟨u3, rfl⟩ := hc3.lit
        have HR := Lib.hid (show res = decide (dup L = none) from HN2.out.trans (by
          rw [show es.all (rcCho ∘ Prod.fst) = true from HA1.out, show ss.all (rcRec ss.length (List.map Prod.fst es) ∘ Prod.fst) = true from HA2.out, HA3.out]
          simp))
        clear hall3 hc3 hb3 HN2
        simp only [Exit.inBlock, Exit.then]
        apply_assumption
        go_wp2_with fail
        refine (runlike_any L _ _ w3 HU4.out).mono ?_
        rintro ee w4 ⟨rfl, hb4⟩
        have HB4 := Lib.hid (HB3.out.trans (hb4.mono HB3.out.size))
        clear hb4
        generalize decide (dup L = none) = d at *
        go_wp2
        go_ret
        exact ⟨ret_bool HR.out.symm, HB4.out⟩
      · intro c3 w3 hall3 hc3 hb3
        have HB3 := Lib.hid (HB.out.trans (HB2.out.trans (hb3.mono HB2.out.size) |>.mono HB.out.size))
        obtain ⟨u3, rfl⟩ := hc3.lit
        have HR := Lib.hid (show res = false from HN2.out.trans (by
          rw [hall3]
          simp))
        clear hall3 hc3 hb3 HN2
        simp only [Exit.inBlock, Exit.then]
        refine bodyPost_ret (v := .bool false) (by simp [results, Tryz.results13, go_sem]) rfl ?_
        exact ⟨ret_bool HR.out.symm, HB3.out⟩
    · intro c2 w2 hall2 hc2 hb2
      have HB2 := Lib.hid (HB.out.trans (hb2.mono HB.out.size))
      obtain ⟨u2, rfl⟩ := hc2.lit
      have HR := Lib.hid (show res = false from HN2.out.trans (by
        rw [show ss.all (rcRec ss.length (List.map Prod.fst es) ∘ Prod.fst) = false from hall2]
        simp))
      clear hall2 hc2 hb2 HN2
      simp only [Exit.inBlock, Exit.then]
      refine bodyPost_ret (v := .bool false) (by simp [results, Tryz.results13, go_sem]) rfl ?_
      exact ⟨ret_bool HR.out.symm, HB2.out⟩
  · intro c1 w1 hall1 hc1 hb1
    have HB1 := Lib.hid (HB.out.trans (hb1.mono HB.out.size))
    obtain ⟨u1, rfl⟩ := hc1.lit
    have HR := Lib.hid (show res = false from HN2.out.trans (by
      rw [show es.all (rcCho ∘ Prod.fst) = false from hall1]
      simp))
    clear hall1 hc1 hb1 HN2
    simp only [Exit.inBlock, Exit.then]
    refine bodyPost_ret (v := .bool false) (by simp [results, Tryz.results13, go_sem]) rfl ?_
    exact ⟨ret_bool HR.out.symm, HB1.out⟩
end Go.Proofs.YtdlfndjgncdgfaaGreatDoor
namespace Go.Proofs.YtdlfndjgncdgfaaGreatDoor
open Go.ChangeShapes Go.WideShapes Go.ChangeAt Go.RowKit Go.Shelf

theorem ready_checks {S : Nat} {W : World} (h : Ready S W) (hT : Tabs W) :
    ∃ (sa : Option Addr) (sn sc : Nat) (ea : Option Addr) (en ec : Nat) (root : Int) (b : Bool), W.heap[S]? = some (.cells #[.slice sa sn sc, .slice ea en ec, .int .i64 root] 30 (0, 0)) ∧
      (∀ W', Below W.heap.size W W' → Calls Tryz.prog 12 #[.agg #[.slice sa sn sc, .slice ea en ec, .int .i64 root]] W' fun e w' => e = .returned (.bool b) ∧ Below W'.heap.size W' w') ∧
      (∀ W', Below W.heap.size W W' → Calls Tryz.prog 13 #[.agg #[.slice sa sn sc, .slice ea en ec, .int .i64 root]] W' fun e w' => e = .returned (.bool b) ∧ Below W'.heap.size W' w') := by
  obtain ⟨base, ss, es, sa, sc, ea, ec, root, hS, hC, hF⟩ := h
  exact ⟨sa, ss.length, sc, ea, es.length, ec, root, checkB ⟨ss.map Prod.fst, es.map Prod.fst, root⟩, hS,
    fun W' hb => check_any W' root (hC.below hb) hF.recs hF.chos (hT.below (Nat.le_refl _) hb),
    fun W' hb => rcheck_any W' root (hC.below hb) hF.recs hF.chos (hT.below (Nat.le_refl _) hb)⟩
end Go.Proofs.YtdlfndjgncdgfaaGreatDoor
