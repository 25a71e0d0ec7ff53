/-
  The document's own parser: name in whatever state, and a type. Conditions: those that each theorem names.
-/
import Derived.Test.YtleclhnlojalbaaGreatDoorPkW6
import Derived.Test.YtleclhnlojalbaaGreatDoorPkW28
namespace Go.Proofs.YtleclhnlojalbaaGreatDoor
open Go.ChangeShapes Go.WideShapes Go.ChangeAt Go.RowKit Go.Shelf

theorem dname_fell (w : World) (P g c : Nat) (l r : List Tok) (F : Int × Nat) (q : Bool) (h0 : (F.1 != 0) = true) (h : Dp w P g c l r F) :
    Calls Tryz.prog 54 #[.pointer (some ⟨P, 0, none⟩), .bool q] w fun e w' => e = .returned (tokV noTok) ∧ Dp w' P g c l r F ∧ Exc P w.heap.size w w' := by
  have HZ0 := Lib.hid (heap_alloc_new w (.cells #[.int .i64 0, .string ByteArray.empty, .int .i64 0] 109))
  have hbA : Below w.heap.size w (w.alloc (.cells #[.int .i64 0, .string ByteArray.empty, .int .i64 0] 109)) := (Below.refl _ _).alloc (Nat.le_refl _) _
  have HBA := Lib.hid hbA
  have HD := Lib.hid (h.keep hbA)
  have HH := Lib.hid (dhere_any _ P g c l r _ HD.out)
  have hP := blk_lt h.blk
  have hg := h.glt
  clear h hbA
  unfold tokV at HH
  go_enter Tryz.func54, Tryz.ntmps54
  go_wp2_with fail
  refine HH.out.mono ?_
  rintro e W1 ⟨rfl, hb1⟩
  have hW1 : w.heap.size + 1 ≤ W1.heap.size := Nat.le_trans (by simp) hb1.size
  have HB1 := Lib.hid (HBA.out.trans (hb1.mono HBA.out.size))
  have HT2 := Lib.hid (heap_alloc_new W1 (.cells #[.int .i64 (hd r).kind, .string (strOfNums (hd r).text), .int .i64 (hd r).place] 109))
  have hb2 : Below W1.heap.size W1 (W1.alloc (.cells #[.int .i64 (hd r).kind, .string (strOfNums (hd r).text), .int .i64 (hd r).place] 109)) := (Below.refl _ _).alloc (Nat.le_refl _) _
  have HB2 := Lib.hid (HB1.out.trans (hb2.mono HB1.out.size))
  have HD2 := Lib.hid ((HD.out.keep hb1).keep hb2)
  have HZ2 := Lib.hid (blk_below (blk_below HZ0.out hb1 (by simp)) hb2 (by omega))
  have hT2 := blk_lt HT2.out
  have hTW := hW1
  clear hb1 hb2
  go_upto_region 2 with (fail)
  generalize W1.alloc (.cells #[.int .i64 (hd r).kind, .string (strOfNums (hd r).text), .int .i64 (hd r).place] 109) = W2 at *
  generalize W1.heap.size = BT at *
  obtain ⟨hTl, x0, x1, x2, _⟩ := blk3 HT2.out
  obtain ⟨hPl, r0, r1, r2, r3, s1, s2, s3⟩ := blk4 HD2.out.blk
  obtain ⟨hz, z0, z1, z2, y0, y1, y2⟩ := blk3 HZ2.out
  go_wp2
  refine post_gen (fun Wf => Wf.heap[w.heap.size]? = some (.cells #[.int .i64 0, .string ByteArray.empty, .int .i64 0] 109 (0, 0)) ∧ Exc P w.heap.size w Wf ∧ Dp Wf P g c l r F) ⟨?_, ?_, ?_⟩ ?_
  · exact blk_set3 HZ2.out _ _ _
  · exact (Exc.of_below HB2.out).set3 (Nat.le_refl _) _ _ _
  · exact HD2.out.set3 (by omega) (by omega) _ _ _
  · rintro Wf ⟨f1, f2, f3⟩
    obtain ⟨_, c0, c1, c2, _⟩ := blk3 f1
    exact bodyPost_ret (v := .agg #[.int .i64 0, .string ByteArray.empty, .int .i64 0]) (by simp [results, Tryz.results54, go_sem, c0, c1, c2]) rfl ⟨rfl, f3, f2⟩
theorem dname_badF (w : World) (P g c : Nat) (l r : List Tok) (t1 : ((hd r).kind != 1) = true) (h : Dp w P g c l r (0, 0)) :
    Calls Tryz.prog 54 #[.pointer (some ⟨P, 0, none⟩), .bool false] w fun e w' => e = .returned (tokV noTok) ∧ Dp w' P g c l r (11, (hd r).place) ∧ Exc P w.heap.size w w' := by
  have HZ0 := Lib.hid (heap_alloc_new w (.cells #[.int .i64 0, .string ByteArray.empty, .int .i64 0] 109))
  have hbA : Below w.heap.size w (w.alloc (.cells #[.int .i64 0, .string ByteArray.empty, .int .i64 0] 109)) := (Below.refl _ _).alloc (Nat.le_refl _) _
  have HBA := Lib.hid hbA
  have HD := Lib.hid (h.keep hbA)
  have HH := Lib.hid (dhere_any _ P g c l r _ HD.out)
  have hP := blk_lt h.blk
  have hg := h.glt
  clear h hbA
  unfold tokV at HH
  go_enter Tryz.func54, Tryz.ntmps54
  go_wp2_with fail
  refine HH.out.mono ?_
  rintro e W1 ⟨rfl, hb1⟩
  have hW1 : w.heap.size + 1 ≤ W1.heap.size := Nat.le_trans (by simp) hb1.size
  have HB1 := Lib.hid (HBA.out.trans (hb1.mono HBA.out.size))
  have HT2 := Lib.hid (heap_alloc_new W1 (.cells #[.int .i64 (hd r).kind, .string (strOfNums (hd r).text), .int .i64 (hd r).place] 109))
  have hb2 : Below W1.heap.size W1 (W1.alloc (.cells #[.int .i64 (hd r).kind, .string (strOfNums (hd r).text), .int .i64 (hd r).place] 109)) := (Below.refl _ _).alloc (Nat.le_refl _) _
  have HB2 := Lib.hid (HB1.out.trans (hb2.mono HB1.out.size))
  have HD2 := Lib.hid ((HD.out.keep hb1).keep hb2)
  have HZ2 := Lib.hid (blk_below (blk_below HZ0.out hb1 (by simp)) hb2 (by omega))
  have hT2 := blk_lt HT2.out
  have hTW := hW1
  clear hb1 hb2
  go_upto_region 2 with (fail)
  generalize W1.alloc (.cells #[.int .i64 (hd r).kind, .string (strOfNums (hd r).text), .int .i64 (hd r).place] 109) = W2 at *
  generalize W1.heap.size = BT at *
  obtain ⟨hTl, x0, x1, x2, _⟩ := blk3 HT2.out
  obtain ⟨hPl, r0, r1, r2, r3, s1, s2, s3⟩ := blk4 HD2.out.blk
  simp only at r2 r3
  have HC := Lib.hid (dbad_go W2 P g c l r 11 HD2.out)
  go_wp2_with fail
  refine HC.out.mono ?_
  rintro e W3 ⟨rfl, hd3, hx3⟩
  have HD3 := Lib.hid hd3
  have HX3 := Lib.hid ((Exc.of_below (R := P) HB2.out).then hx3)
  have HZ3 := Lib.hid (blk_exc HZ2.out hx3 (blk_lt HZ2.out) (by omega))
  obtain ⟨hz, z0, z1, z2, y0, y1, y2⟩ := blk3 HZ3.out
  clear hd3 hx3
  go_wp2
  refine post_gen (fun Wf => Wf.heap[w.heap.size]? = some (.cells #[.int .i64 0, .string ByteArray.empty, .int .i64 0] 109 (0, 0)) ∧ Exc P w.heap.size w Wf ∧ Dp Wf P g c l r (11, (hd r).place)) ⟨?_, ?_, ?_⟩ ?_
  · exact blk_set3 HZ3.out _ _ _
  · exact HX3.out.set3 (Nat.le_refl _) _ _ _
  · exact HD3.out.set3 (by omega) (by omega) _ _ _
  · rintro Wf ⟨f1, f2, f3⟩
    obtain ⟨_, c0, c1, c2, _⟩ := blk3 f1
    exact bodyPost_ret (v := .agg #[.int .i64 0, .string ByteArray.empty, .int .i64 0]) (by simp [results, Tryz.results54, go_sem, c0, c1, c2]) rfl ⟨rfl, f3, f2⟩
theorem dname_badT (w : World) (P g c : Nat) (l r : List Tok) (t1 : ((hd r).kind != 1) = true) (t3 : ((hd r).kind == 3) = false) (h : Dp w P g c l r (0, 0)) :
    Calls Tryz.prog 54 #[.pointer (some ⟨P, 0, none⟩), .bool true] w fun e w' => e = .returned (tokV noTok) ∧ Dp w' P g c l r (11, (hd r).place) ∧ Exc P w.heap.size w w' := by
  have HZ0 := Lib.hid (heap_alloc_new w (.cells #[.int .i64 0, .string ByteArray.empty, .int .i64 0] 109))
  have hbA : Below w.heap.size w (w.alloc (.cells #[.int .i64 0, .string ByteArray.empty, .int .i64 0] 109)) := (Below.refl _ _).alloc (Nat.le_refl _) _
  have HBA := Lib.hid hbA
  have HD := Lib.hid (h.keep hbA)
  have HH := Lib.hid (dhere_any _ P g c l r _ HD.out)
  have hP := blk_lt h.blk
  have hg := h.glt
  clear h hbA
  unfold tokV at HH
  go_enter Tryz.func54, Tryz.ntmps54
  go_wp2_with fail
  refine HH.out.mono ?_
  rintro e W1 ⟨rfl, hb1⟩
  have hW1 : w.heap.size + 1 ≤ W1.heap.size := Nat.le_trans (by simp) hb1.size
  have HB1 := Lib.hid (HBA.out.trans (hb1.mono HBA.out.size))
  have HT2 := Lib.hid (heap_alloc_new W1 (.cells #[.int .i64 (hd r).kind, .string (strOfNums (hd r).text), .int .i64 (hd r).place] 109))
  have hb2 : Below W1.heap.size W1 (W1.alloc (.cells #[.int .i64 (hd r).kind, .string (strOfNums (hd r).text), .int .i64 (hd r).place] 109)) := (Below.refl _ _).alloc (Nat.le_refl _) _
  have HB2 := Lib.hid (HB1.out.trans (hb2.mono HB1.out.size))
  have HD2 := Lib.hid ((HD.out.keep hb1).keep hb2)
  have HZ2 := Lib.hid (blk_below (blk_below HZ0.out hb1 (by simp)) hb2 (by omega))
  have hT2 := blk_lt HT2.out
  have hTW := hW1
  clear hb1 hb2
  go_upto_region 2 with (fail)
  generalize W1.alloc (.cells #[.int .i64 (hd r).kind, .string (strOfNums (hd r).text), .int .i64 (hd r).place] 109) = W2 at *
  generalize W1.heap.size = BT at *
  obtain ⟨hTl, x0, x1, x2, _⟩ := blk3 HT2.out
  obtain ⟨hPl, r0, r1, r2, r3, s1, s2, s3⟩ := blk4 HD2.out.blk
  simp only at r2 r3
  have HC := Lib.hid (dbad_go W2 P g c l r 11 HD2.out)
  go_wp2_with fail
  refine HC.out.mono ?_
  rintro e W3 ⟨rfl, hd3, hx3⟩
  have HD3 := Lib.hid hd3
  have HX3 := Lib.hid ((Exc.of_below (R := P) HB2.out).then hx3)
  have HZ3 := Lib.hid (blk_exc HZ2.out hx3 (blk_lt HZ2.out) (by omega))
  obtain ⟨hz, z0, z1, z2, y0, y1, y2⟩ := blk3 HZ3.out
  clear hd3 hx3
  go_wp2
  refine post_gen (fun Wf => Wf.heap[w.heap.size]? = some (.cells #[.int .i64 0, .string ByteArray.empty, .int .i64 0] 109 (0, 0)) ∧ Exc P w.heap.size w Wf ∧ Dp Wf P g c l r (11, (hd r).place)) ⟨?_, ?_, ?_⟩ ?_
  · exact blk_set3 HZ3.out _ _ _
  · exact HX3.out.set3 (Nat.le_refl _) _ _ _
  · exact HD3.out.set3 (by omega) (by omega) _ _ _
  · rintro Wf ⟨f1, f2, f3⟩
    obtain ⟨_, c0, c1, c2, _⟩ := blk3 f1
    exact bodyPost_ret (v := .agg #[.int .i64 0, .string ByteArray.empty, .int .i64 0]) (by simp [results, Tryz.results54, go_sem, c0, c1, c2]) rfl ⟨rfl, f3, f2⟩
theorem dname_noneN (w : World) (P g c : Nat) (l r : List Tok) (q : Bool) (t1 : ((hd r).kind != 1) = false) (t4 : decide (((strOfNums (hd r).text).size : Int) < 1) = true) (h : Dp w P g c l r (0, 0)) :
    Calls Tryz.prog 54 #[.pointer (some ⟨P, 0, none⟩), .bool q] w fun e w' => e = .returned (tokV noTok) ∧ Dp w' P g c l r (12, (hd r).place) ∧ Exc P w.heap.size w w' := by
  have HZ0 := Lib.hid (heap_alloc_new w (.cells #[.int .i64 0, .string ByteArray.empty, .int .i64 0] 109))
  have hbA : Below w.heap.size w (w.alloc (.cells #[.int .i64 0, .string ByteArray.empty, .int .i64 0] 109)) := (Below.refl _ _).alloc (Nat.le_refl _) _
  have HBA := Lib.hid hbA
  have HD := Lib.hid (h.keep hbA)
  have HH := Lib.hid (dhere_any _ P g c l r _ HD.out)
  have hP := blk_lt h.blk
  have hg := h.glt
  clear h hbA
  unfold tokV at HH
  go_enter Tryz.func54, Tryz.ntmps54
  go_wp2_with fail
  refine HH.out.mono ?_
  rintro e W1 ⟨rfl, hb1⟩
  have hW1 : w.heap.size + 1 ≤ W1.heap.size := Nat.le_trans (by simp) hb1.size
  have HB1 := Lib.hid (HBA.out.trans (hb1.mono HBA.out.size))
  have HT2 := Lib.hid (heap_alloc_new W1 (.cells #[.int .i64 (hd r).kind, .string (strOfNums (hd r).text), .int .i64 (hd r).place] 109))
  have hb2 : Below W1.heap.size W1 (W1.alloc (.cells #[.int .i64 (hd r).kind, .string (strOfNums (hd r).text), .int .i64 (hd r).place] 109)) := (Below.refl _ _).alloc (Nat.le_refl _) _
  have HB2 := Lib.hid (HB1.out.trans (hb2.mono HB1.out.size))
  have HD2 := Lib.hid ((HD.out.keep hb1).keep hb2)
  have HZ2 := Lib.hid (blk_below (blk_below HZ0.out hb1 (by simp)) hb2 (by omega))
  have hT2 := blk_lt HT2.out
  have hTW := hW1
  clear hb1 hb2
  go_upto_region 2 with (fail)
  generalize W1.alloc (.cells #[.int .i64 (hd r).kind, .string (strOfNums (hd r).text), .int .i64 (hd r).place] 109) = W2 at *
  generalize W1.heap.size = BT at *
  obtain ⟨hTl, x0, x1, x2, _⟩ := blk3 HT2.out
  obtain ⟨hPl, r0, r1, r2, r3, s1, s2, s3⟩ := blk4 HD2.out.blk
  simp only at r2 r3
  have HC := Lib.hid (dbad_go W2 P g c l r 12 HD2.out)
  go_wp2_with fail
  refine HC.out.mono ?_
  rintro e W3 ⟨rfl, hd3, hx3⟩
  have HD3 := Lib.hid hd3
  have HX3 := Lib.hid ((Exc.of_below (R := P) HB2.out).then hx3)
  have HZ3 := Lib.hid (blk_exc HZ2.out hx3 (blk_lt HZ2.out) (by omega))
  obtain ⟨hz, z0, z1, z2, y0, y1, y2⟩ := blk3 HZ3.out
  clear hd3 hx3
  go_wp2
  refine post_gen (fun Wf => Wf.heap[w.heap.size]? = some (.cells #[.int .i64 0, .string ByteArray.empty, .int .i64 0] 109 (0, 0)) ∧ Exc P w.heap.size w Wf ∧ Dp Wf P g c l r (12, (hd r).place)) ⟨?_, ?_, ?_⟩ ?_
  · exact blk_set3 HZ3.out _ _ _
  · exact HX3.out.set3 (Nat.le_refl _) _ _ _
  · exact HD3.out.set3 (by omega) (by omega) _ _ _
  · rintro Wf ⟨f1, f2, f3⟩
    obtain ⟨_, c0, c1, c2, _⟩ := blk3 f1
    exact bodyPost_ret (v := .agg #[.int .i64 0, .string ByteArray.empty, .int .i64 0]) (by simp [results, Tryz.results54, go_sem, c0, c1, c2]) rfl ⟨rfl, f3, f2⟩
theorem dname_noneQ (w : World) (P g c : Nat) (l r : List Tok) (t1 : ((hd r).kind != 1) = true) (t3 : ((hd r).kind == 3) = true) (t4 : decide (((strOfNums (hd r).text).size : Int) < 1) = true) (h : Dp w P g c l r (0, 0)) :
    Calls Tryz.prog 54 #[.pointer (some ⟨P, 0, none⟩), .bool true] w fun e w' => e = .returned (tokV noTok) ∧ Dp w' P g c l r (12, (hd r).place) ∧ Exc P w.heap.size w w' := by
  have HZ0 := Lib.hid (heap_alloc_new w (.cells #[.int .i64 0, .string ByteArray.empty, .int .i64 0] 109))
  have hbA : Below w.heap.size w (w.alloc (.cells #[.int .i64 0, .string ByteArray.empty, .int .i64 0] 109)) := (Below.refl _ _).alloc (Nat.le_refl _) _
  have HBA := Lib.hid hbA
  have HD := Lib.hid (h.keep hbA)
  have HH := Lib.hid (dhere_any _ P g c l r _ HD.out)
  have hP := blk_lt h.blk
  have hg := h.glt
  clear h hbA
  unfold tokV at HH
  go_enter Tryz.func54, Tryz.ntmps54
  go_wp2_with fail
  refine HH.out.mono ?_
  rintro e W1 ⟨rfl, hb1⟩
  have hW1 : w.heap.size + 1 ≤ W1.heap.size := Nat.le_trans (by simp) hb1.size
  have HB1 := Lib.hid (HBA.out.trans (hb1.mono HBA.out.size))
  have HT2 := Lib.hid (heap_alloc_new W1 (.cells #[.int .i64 (hd r).kind, .string (strOfNums (hd r).text), .int .i64 (hd r).place] 109))
  have hb2 : Below W1.heap.size W1 (W1.alloc (.cells #[.int .i64 (hd r).kind, .string (strOfNums (hd r).text), .int .i64 (hd r).place] 109)) := (Below.refl _ _).alloc (Nat.le_refl _) _
  have HB2 := Lib.hid (HB1.out.trans (hb2.mono HB1.out.size))
  have HD2 := Lib.hid ((HD.out.keep hb1).keep hb2)
  have HZ2 := Lib.hid (blk_below (blk_below HZ0.out hb1 (by simp)) hb2 (by omega))
  have hT2 := blk_lt HT2.out
  have hTW := hW1
  clear hb1 hb2
  go_upto_region 2 with (fail)
  generalize W1.alloc (.cells #[.int .i64 (hd r).kind, .string (strOfNums (hd r).text), .int .i64 (hd r).place] 109) = W2 at *
  generalize W1.heap.size = BT at *
  obtain ⟨hTl, x0, x1, x2, _⟩ := blk3 HT2.out
  obtain ⟨hPl, r0, r1, r2, r3, s1, s2, s3⟩ := blk4 HD2.out.blk
  simp only at r2 r3
  have HC := Lib.hid (dbad_go W2 P g c l r 12 HD2.out)
  go_wp2_with fail
  refine HC.out.mono ?_
  rintro e W3 ⟨rfl, hd3, hx3⟩
  have HD3 := Lib.hid hd3
  have HX3 := Lib.hid ((Exc.of_below (R := P) HB2.out).then hx3)
  have HZ3 := Lib.hid (blk_exc HZ2.out hx3 (blk_lt HZ2.out) (by omega))
  obtain ⟨hz, z0, z1, z2, y0, y1, y2⟩ := blk3 HZ3.out
  clear hd3 hx3
  go_wp2
  refine post_gen (fun Wf => Wf.heap[w.heap.size]? = some (.cells #[.int .i64 0, .string ByteArray.empty, .int .i64 0] 109 (0, 0)) ∧ Exc P w.heap.size w Wf ∧ Dp Wf P g c l r (12, (hd r).place)) ⟨?_, ?_, ?_⟩ ?_
  · exact blk_set3 HZ3.out _ _ _
  · exact HX3.out.set3 (Nat.le_refl _) _ _ _
  · exact HD3.out.set3 (by omega) (by omega) _ _ _
  · rintro Wf ⟨f1, f2, f3⟩
    obtain ⟨_, c0, c1, c2, _⟩ := blk3 f1
    exact bodyPost_ret (v := .agg #[.int .i64 0, .string ByteArray.empty, .int .i64 0]) (by simp [results, Tryz.results54, go_sem, c0, c1, c2]) rfl ⟨rfl, f3, f2⟩
theorem dname_longN (w : World) (P g c : Nat) (l r : List Tok) (q : Bool) (t1 : ((hd r).kind != 1) = false) (t4 : decide (((strOfNums (hd r).text).size : Int) < 1) = false) (t5 : decide ((40 : Int) < ((strOfNums (hd r).text).size : Int)) = true) (h : Dp w P g c l r (0, 0)) :
    Calls Tryz.prog 54 #[.pointer (some ⟨P, 0, none⟩), .bool q] w fun e w' => e = .returned (tokV noTok) ∧ Dp w' P g c l r (12, (hd r).place) ∧ Exc P w.heap.size w w' := by
  have HZ0 := Lib.hid (heap_alloc_new w (.cells #[.int .i64 0, .string ByteArray.empty, .int .i64 0] 109))
  have hbA : Below w.heap.size w (w.alloc (.cells #[.int .i64 0, .string ByteArray.empty, .int .i64 0] 109)) := (Below.refl _ _).alloc (Nat.le_refl _) _
  have HBA := Lib.hid hbA
  have HD := Lib.hid (h.keep hbA)
  have HH := Lib.hid (dhere_any _ P g c l r _ HD.out)
  have hP := blk_lt h.blk
  have hg := h.glt
  clear h hbA
  unfold tokV at HH
  go_enter Tryz.func54, Tryz.ntmps54
  go_wp2_with fail
  refine HH.out.mono ?_
  rintro e W1 ⟨rfl, hb1⟩
  have hW1 : w.heap.size + 1 ≤ W1.heap.size := Nat.le_trans (by simp) hb1.size
  have HB1 := Lib.hid (HBA.out.trans (hb1.mono HBA.out.size))
  have HT2 := Lib.hid (heap_alloc_new W1 (.cells #[.int .i64 (hd r).kind, .string (strOfNums (hd r).text), .int .i64 (hd r).place] 109))
  have hb2 : Below W1.heap.size W1 (W1.alloc (.cells #[.int .i64 (hd r).kind, .string (strOfNums (hd r).text), .int .i64 (hd r).place] 109)) := (Below.refl _ _).alloc (Nat.le_refl _) _
  have HB2 := Lib.hid (HB1.out.trans (hb2.mono HB1.out.size))
  have HD2 := Lib.hid ((HD.out.keep hb1).keep hb2)
  have HZ2 := Lib.hid (blk_below (blk_below HZ0.out hb1 (by simp)) hb2 (by omega))
  have hT2 := blk_lt HT2.out
  have hTW := hW1
  clear hb1 hb2
  go_upto_region 2 with (fail)
  generalize W1.alloc (.cells #[.int .i64 (hd r).kind, .string (strOfNums (hd r).text), .int .i64 (hd r).place] 109) = W2 at *
  generalize W1.heap.size = BT at *
  obtain ⟨hTl, x0, x1, x2, _⟩ := blk3 HT2.out
  obtain ⟨hPl, r0, r1, r2, r3, s1, s2, s3⟩ := blk4 HD2.out.blk
  simp only at r2 r3
  have HC := Lib.hid (dbad_go W2 P g c l r 12 HD2.out)
  go_wp2_with fail
  refine HC.out.mono ?_
  rintro e W3 ⟨rfl, hd3, hx3⟩
  have HD3 := Lib.hid hd3
  have HX3 := Lib.hid ((Exc.of_below (R := P) HB2.out).then hx3)
  have HZ3 := Lib.hid (blk_exc HZ2.out hx3 (blk_lt HZ2.out) (by omega))
  obtain ⟨hz, z0, z1, z2, y0, y1, y2⟩ := blk3 HZ3.out
  clear hd3 hx3
  go_wp2
  refine post_gen (fun Wf => Wf.heap[w.heap.size]? = some (.cells #[.int .i64 0, .string ByteArray.empty, .int .i64 0] 109 (0, 0)) ∧ Exc P w.heap.size w Wf ∧ Dp Wf P g c l r (12, (hd r).place)) ⟨?_, ?_, ?_⟩ ?_
  · exact blk_set3 HZ3.out _ _ _
  · exact HX3.out.set3 (Nat.le_refl _) _ _ _
  · exact HD3.out.set3 (by omega) (by omega) _ _ _
  · rintro Wf ⟨f1, f2, f3⟩
    obtain ⟨_, c0, c1, c2, _⟩ := blk3 f1
    exact bodyPost_ret (v := .agg #[.int .i64 0, .string ByteArray.empty, .int .i64 0]) (by simp [results, Tryz.results54, go_sem, c0, c1, c2]) rfl ⟨rfl, f3, f2⟩
theorem dname_longQ (w : World) (P g c : Nat) (l r : List Tok) (t1 : ((hd r).kind != 1) = true) (t3 : ((hd r).kind == 3) = true) (t4 : decide (((strOfNums (hd r).text).size : Int) < 1) = false) (t5 : decide ((40 : Int) < ((strOfNums (hd r).text).size : Int)) = true) (h : Dp w P g c l r (0, 0)) :
    Calls Tryz.prog 54 #[.pointer (some ⟨P, 0, none⟩), .bool true] w fun e w' => e = .returned (tokV noTok) ∧ Dp w' P g c l r (12, (hd r).place) ∧ Exc P w.heap.size w w' := by
  have HZ0 := Lib.hid (heap_alloc_new w (.cells #[.int .i64 0, .string ByteArray.empty, .int .i64 0] 109))
  have hbA : Below w.heap.size w (w.alloc (.cells #[.int .i64 0, .string ByteArray.empty, .int .i64 0] 109)) := (Below.refl _ _).alloc (Nat.le_refl _) _
  have HBA := Lib.hid hbA
  have HD := Lib.hid (h.keep hbA)
  have HH := Lib.hid (dhere_any _ P g c l r _ HD.out)
  have hP := blk_lt h.blk
  have hg := h.glt
  clear h hbA
  unfold tokV at HH
  go_enter Tryz.func54, Tryz.ntmps54
  go_wp2_with fail
  refine HH.out.mono ?_
  rintro e W1 ⟨rfl, hb1⟩
  have hW1 : w.heap.size + 1 ≤ W1.heap.size := Nat.le_trans (by simp) hb1.size
  have HB1 := Lib.hid (HBA.out.trans (hb1.mono HBA.out.size))
  have HT2 := Lib.hid (heap_alloc_new W1 (.cells #[.int .i64 (hd r).kind, .string (strOfNums (hd r).text), .int .i64 (hd r).place] 109))
  have hb2 : Below W1.heap.size W1 (W1.alloc (.cells #[.int .i64 (hd r).kind, .string (strOfNums (hd r).text), .int .i64 (hd r).place] 109)) := (Below.refl _ _).alloc (Nat.le_refl _) _
  have HB2 := Lib.hid (HB1.out.trans (hb2.mono HB1.out.size))
  have HD2 := Lib.hid ((HD.out.keep hb1).keep hb2)
  have HZ2 := Lib.hid (blk_below (blk_below HZ0.out hb1 (by simp)) hb2 (by omega))
  have hT2 := blk_lt HT2.out
  have hTW := hW1
  clear hb1 hb2
  go_upto_region 2 with (fail)
  generalize W1.alloc (.cells #[.int .i64 (hd r).kind, .string (strOfNums (hd r).text), .int .i64 (hd r).place] 109) = W2 at *
  generalize W1.heap.size = BT at *
  obtain ⟨hTl, x0, x1, x2, _⟩ := blk3 HT2.out
  obtain ⟨hPl, r0, r1, r2, r3, s1, s2, s3⟩ := blk4 HD2.out.blk
  simp only at r2 r3
  have HC := Lib.hid (dbad_go W2 P g c l r 12 HD2.out)
  go_wp2_with fail
  refine HC.out.mono ?_
  rintro e W3 ⟨rfl, hd3, hx3⟩
  have HD3 := Lib.hid hd3
  have HX3 := Lib.hid ((Exc.of_below (R := P) HB2.out).then hx3)
  have HZ3 := Lib.hid (blk_exc HZ2.out hx3 (blk_lt HZ2.out) (by omega))
  obtain ⟨hz, z0, z1, z2, y0, y1, y2⟩ := blk3 HZ3.out
  clear hd3 hx3
  go_wp2
  refine post_gen (fun Wf => Wf.heap[w.heap.size]? = some (.cells #[.int .i64 0, .string ByteArray.empty, .int .i64 0] 109 (0, 0)) ∧ Exc P w.heap.size w Wf ∧ Dp Wf P g c l r (12, (hd r).place)) ⟨?_, ?_, ?_⟩ ?_
  · exact blk_set3 HZ3.out _ _ _
  · exact HX3.out.set3 (Nat.le_refl _) _ _ _
  · exact HD3.out.set3 (by omega) (by omega) _ _ _
  · rintro Wf ⟨f1, f2, f3⟩
    obtain ⟨_, c0, c1, c2, _⟩ := blk3 f1
    exact bodyPost_ret (v := .agg #[.int .i64 0, .string ByteArray.empty, .int .i64 0]) (by simp [results, Tryz.results54, go_sem, c0, c1, c2]) rfl ⟨rfl, f3, f2⟩
theorem dname_fitsN (w : World) (P g c : Nat) (l r : List Tok) (q : Bool) (t1 : ((hd r).kind != 1) = false) (h0 : (hd r).kind ≠ 0) (t4 : decide (((strOfNums (hd r).text).size : Int) < 1) = false) (t5 : decide ((40 : Int) < ((strOfNums (hd r).text).size : Int)) = false) (h : Dp w P g c l r (0, 0)) :
    Calls Tryz.prog 54 #[.pointer (some ⟨P, 0, none⟩), .bool q] w fun e w' => e = .returned (tokV (hd r)) ∧ Dp w' P g c l r.tail (0, 0) ∧ Exc P w.heap.size w w' := by
  have H0 := Lib.hid h0
  clear h0
  have HZ0 := Lib.hid (heap_alloc_new w (.cells #[.int .i64 0, .string ByteArray.empty, .int .i64 0] 109))
  have hbA : Below w.heap.size w (w.alloc (.cells #[.int .i64 0, .string ByteArray.empty, .int .i64 0] 109)) := (Below.refl _ _).alloc (Nat.le_refl _) _
  have HBA := Lib.hid hbA
  have HD := Lib.hid (h.keep hbA)
  have HH := Lib.hid (dhere_any _ P g c l r _ HD.out)
  have hP := blk_lt h.blk
  have hg := h.glt
  clear h hbA
  unfold tokV at HH
  go_enter Tryz.func54, Tryz.ntmps54
  go_wp2_with fail
  refine HH.out.mono ?_
  rintro e W1 ⟨rfl, hb1⟩
  have hW1 : w.heap.size + 1 ≤ W1.heap.size := Nat.le_trans (by simp) hb1.size
  have HB1 := Lib.hid (HBA.out.trans (hb1.mono HBA.out.size))
  have HT2 := Lib.hid (heap_alloc_new W1 (.cells #[.int .i64 (hd r).kind, .string (strOfNums (hd r).text), .int .i64 (hd r).place] 109))
  have hb2 : Below W1.heap.size W1 (W1.alloc (.cells #[.int .i64 (hd r).kind, .string (strOfNums (hd r).text), .int .i64 (hd r).place] 109)) := (Below.refl _ _).alloc (Nat.le_refl _) _
  have HB2 := Lib.hid (HB1.out.trans (hb2.mono HB1.out.size))
  have HD2 := Lib.hid ((HD.out.keep hb1).keep hb2)
  have HZ2 := Lib.hid (blk_below (blk_below HZ0.out hb1 (by simp)) hb2 (by omega))
  have hT2 := blk_lt HT2.out
  have hTW := hW1
  clear hb1 hb2
  go_upto_region 2 with (fail)
  generalize W1.alloc (.cells #[.int .i64 (hd r).kind, .string (strOfNums (hd r).text), .int .i64 (hd r).place] 109) = W2 at *
  generalize W1.heap.size = BT at *
  obtain ⟨hTl, x0, x1, x2, _⟩ := blk3 HT2.out
  obtain ⟨hPl, r0, r1, r2, r3, s1, s2, s3⟩ := blk4 HD2.out.blk
  simp only at r2 r3
  have hfew := HD2.out.few
  have hn := HD2.out.len
  go_upto_region 11 with (fail)
  have HD3 := Lib.hid (dp_next HD2.out H0.out)
  have hx3 : Exc P W2.heap.size W2 (W2.setCell ⟨P, 1, none⟩ (.int .i64 (((l.length - r.length : Nat) : Int) + 1))) := exc_set _ _ _ _
  have HX3 := Lib.hid ((Exc.of_below (R := P) HB2.out).then hx3)
  have HZ3 := Lib.hid (blk_exc HZ2.out hx3 (blk_lt HZ2.out) (by omega))
  have HT3 := Lib.hid (blk_exc HT2.out hx3 (blk_lt HT2.out) (by omega))
  clear hx3 r0 r1 r2 r3 s1 s2 s3 x0 x1 x2
  generalize W2.setCell ⟨P, 1, none⟩ (.int .i64 (((l.length - r.length : Nat) : Int) + 1)) = W3 at *
  obtain ⟨hTl, x0, x1, x2, _⟩ := blk3 HT3.out
  obtain ⟨hz, z0, z1, z2, y0, y1, y2⟩ := blk3 HZ3.out
  go_wp2
  refine post_gen (fun Wf => Wf.heap[w.heap.size]? = some (.cells #[.int .i64 (hd r).kind, .string (strOfNums (hd r).text), .int .i64 (hd r).place] 109 (0, 0)) ∧ Exc P w.heap.size w Wf ∧ Dp Wf P g c l r.tail (0, 0)) ⟨?_, ?_, ?_⟩ ?_
  · exact blk_set3 HZ3.out _ _ _
  · exact HX3.out.set3 (Nat.le_refl _) _ _ _
  · exact HD3.out.set3 (by omega) (by omega) _ _ _
  · rintro Wf ⟨f1, f2, f3⟩
    obtain ⟨_, c0, c1, c2, _⟩ := blk3 f1
    exact bodyPost_ret (v := .agg #[.int .i64 (hd r).kind, .string (strOfNums (hd r).text), .int .i64 (hd r).place]) (by simp [results, Tryz.results54, go_sem, c0, c1, c2]) rfl ⟨rfl, f3, f2⟩
theorem dname_fitsQ (w : World) (P g c : Nat) (l r : List Tok) (t1 : ((hd r).kind != 1) = true) (t3 : ((hd r).kind == 3) = true) (h0 : (hd r).kind ≠ 0) (t4 : decide (((strOfNums (hd r).text).size : Int) < 1) = false) (t5 : decide ((40 : Int) < ((strOfNums (hd r).text).size : Int)) = false) (h : Dp w P g c l r (0, 0)) :
    Calls Tryz.prog 54 #[.pointer (some ⟨P, 0, none⟩), .bool true] w fun e w' => e = .returned (tokV (hd r)) ∧ Dp w' P g c l r.tail (0, 0) ∧ Exc P w.heap.size w w' := by
  have H0 := Lib.hid h0
  clear h0
  have HZ0 := Lib.hid (heap_alloc_new w (.cells #[.int .i64 0, .string ByteArray.empty, .int .i64 0] 109))
  have hbA : Below w.heap.size w (w.alloc (.cells #[.int .i64 0, .string ByteArray.empty, .int .i64 0] 109)) := (Below.refl _ _).alloc (Nat.le_refl _) _
  have HBA := Lib.hid hbA
  have HD := Lib.hid (h.keep hbA)
  have HH := Lib.hid (dhere_any _ P g c l r _ HD.out)
  have hP := blk_lt h.blk
  have hg := h.glt
  clear h hbA
  unfold tokV at HH
  go_enter Tryz.func54, Tryz.ntmps54
  go_wp2_with fail
  refine HH.out.mono ?_
  rintro e W1 ⟨rfl, hb1⟩
  have hW1 : w.heap.size + 1 ≤ W1.heap.size := Nat.le_trans (by simp) hb1.size
  have HB1 := Lib.hid (HBA.out.trans (hb1.mono HBA.out.size))
  have HT2 := Lib.hid (heap_alloc_new W1 (.cells #[.int .i64 (hd r).kind, .string (strOfNums (hd r).text), .int .i64 (hd r).place] 109))
  have hb2 : Below W1.heap.size W1 (W1.alloc (.cells #[.int .i64 (hd r).kind, .string (strOfNums (hd r).text), .int .i64 (hd r).place] 109)) := (Below.refl _ _).alloc (Nat.le_refl _) _
  have HB2 := Lib.hid (HB1.out.trans (hb2.mono HB1.out.size))
  have HD2 := Lib.hid ((HD.out.keep hb1).keep hb2)
  have HZ2 := Lib.hid (blk_below (blk_below HZ0.out hb1 (by simp)) hb2 (by omega))
  have hT2 := blk_lt HT2.out
  have hTW := hW1
  clear hb1 hb2
  go_upto_region 2 with (fail)
  generalize W1.alloc (.cells #[.int .i64 (hd r).kind, .string (strOfNums (hd r).text), .int .i64 (hd r).place] 109) = W2 at *
  generalize W1.heap.size = BT at *
  obtain ⟨hTl, x0, x1, x2, _⟩ := blk3 HT2.out
  obtain ⟨hPl, r0, r1, r2, r3, s1, s2, s3⟩ := blk4 HD2.out.blk
  simp only at r2 r3
  have hfew := HD2.out.few
  have hn := HD2.out.len
  go_upto_region 11 with (fail)
  have HD3 := Lib.hid (dp_next HD2.out H0.out)
  have hx3 : Exc P W2.heap.size W2 (W2.setCell ⟨P, 1, none⟩ (.int .i64 (((l.length - r.length : Nat) : Int) + 1))) := exc_set _ _ _ _
  have HX3 := Lib.hid ((Exc.of_below (R := P) HB2.out).then hx3)
  have HZ3 := Lib.hid (blk_exc HZ2.out hx3 (blk_lt HZ2.out) (by omega))
  have HT3 := Lib.hid (blk_exc HT2.out hx3 (blk_lt HT2.out) (by omega))
  clear hx3 r0 r1 r2 r3 s1 s2 s3 x0 x1 x2
  generalize W2.setCell ⟨P, 1, none⟩ (.int .i64 (((l.length - r.length : Nat) : Int) + 1)) = W3 at *
  obtain ⟨hTl, x0, x1, x2, _⟩ := blk3 HT3.out
  obtain ⟨hz, z0, z1, z2, y0, y1, y2⟩ := blk3 HZ3.out
  go_wp2
  refine post_gen (fun Wf => Wf.heap[w.heap.size]? = some (.cells #[.int .i64 (hd r).kind, .string (strOfNums (hd r).text), .int .i64 (hd r).place] 109 (0, 0)) ∧ Exc P w.heap.size w Wf ∧ Dp Wf P g c l r.tail (0, 0)) ⟨?_, ?_, ?_⟩ ?_
  · exact blk_set3 HZ3.out _ _ _
  · exact HX3.out.set3 (Nat.le_refl _) _ _ _
  · exact HD3.out.set3 (by omega) (by omega) _ _ _
  · rintro Wf ⟨f1, f2, f3⟩
    obtain ⟨_, c0, c1, c2, _⟩ := blk3 f1
    exact bodyPost_ret (v := .agg #[.int .i64 (hd r).kind, .string (strOfNums (hd r).text), .int .i64 (hd r).place]) (by simp [results, Tryz.results54, go_sem, c0, c1, c2]) rfl ⟨rfl, f3, f2⟩
end Go.Proofs.YtleclhnlojalbaaGreatDoor
namespace Go.Proofs.YtleclhnlojalbaaGreatDoor
open Go.ChangeShapes Go.WideShapes Go.ChangeAt Go.RowKit Go.Shelf

def Sto.rd {α : Type} (st : Sto) (f : List Tok → Res α) : Res α :=
  match st with
  | .go r => f r
  | .fell c p => .no c p
def Got {α : Type} (st : Sto) (f : List Tok → Res α) (t : α) : Prop := ∀ r a r', st = .go r → f r = .ok a r' → t = a
theorem got_rd {α β : Type} {st : Sto} {f : List Tok → Res α} {k : α → List Tok → Res β} {t : α} (h : Got st f t) : (st.rd fun r => (f r).bind k) = (st.step f).rd (k t) := by
  cases st with
  | fell c p => rfl
  | go r =>
    show (f r).bind k = _
    generalize hq : f r = q
    cases q with
    | ok a r' =>
      rw [step_ok hq, h r a r' rfl hq]
      rfl
    | no c p =>
      rw [step_no hq]
      rfl
theorem got_unit {st : Sto} {f : List Tok → Res Unit} : Got st f () := fun _ _ _ _ _ => rfl
theorem step_of {α : Type} {st st' : Sto} {f : List Tok → Res α} {a : α} (h : st.rd f = st'.rd (fun r => .ok a r)) : st.step f = st' ∧ Got st f a := by
  cases st with
  | fell c p =>
    refine ⟨?_, fun r _ _ e => by cases e⟩
    cases st' with
    | go r => cases h
    | fell c' p' =>
      have h' : (Res.no c p : Res α) = .no c' p' := h
      injection h' with h1 h2
      rw [h1, h2]
      rfl
  | go r =>
    have h1 : f r = st'.rd (fun r => .ok a r) := h
    cases st' with
    | go r2 => exact ⟨step_ok h1, fun r' a' r3 e e2 => by cases e; rw [h1] at e2; exact (Res.ok.inj e2).1⟩
    | fell c' p' => exact ⟨step_no h1, fun r' a' r3 e e2 => by cases e; rw [h1] at e2; cases e2⟩
theorem step_bad {α : Type} {st : Sto} {f : List Tok → Res α} {c : Int} {p : Nat} (h : st.rd f = .no c p) (a : α) : st.step f = .fell c p ∧ Got st f a := by
  cases st with
  | fell c' p' =>
    have h' : (Res.no c' p' : Res α) = .no c p := h
    injection h' with h1 h2
    exact ⟨by rw [h1, h2]; rfl, fun r _ _ e => by cases e⟩
  | go r => exact ⟨step_no h, fun r' a' r3 e e2 => by cases e; rw [show f r = _ from h] at e2; cases e2⟩
theorem DpS.set3 {w : World} {P g c : Nat} {l : List Tok} {st : Sto} (h : DpS w P g c l st) {X : Nat} (hP : P ≠ X) (hg : g ≠ X) (x y z : Value) : DpS (((w.setCell ⟨X, 0, none⟩ x).setCell ⟨X, 1, none⟩ y).setCell ⟨X, 2, none⟩ z) P g c l st := h.other (exc_set3 w X x y z) hP hg
theorem DpS.set1 {w : World} {P g c : Nat} {l : List Tok} {st : Sto} (h : DpS w P g c l st) {X : Nat} (hP : P ≠ X) (hg : g ≠ X) (i : Nat) (x : Value) : DpS (w.setCell ⟨X, i, none⟩ x) P g c l st := h.other (exc_set w X i x) hP hg
theorem DpS.alloc {w : World} {P g c : Nat} {l : List Tok} {st : Sto} (h : DpS w P g c l st) (o : Obj) : DpS (w.alloc o) P g c l st := h.keep ((Below.refl _ _).alloc (Nat.le_refl _) _)
def PostD {α : Type} (enc : α → Value) (P g c : Nat) (l : List Tok) (w : World) (st : Sto) (f : List Tok → Res α) (e : Ending) (w' : World) : Prop :=
  ∃ a, e = .returned (enc a) ∧ DpS w' P g c l (st.step f) ∧ Exc P w.heap.size w w' ∧ Got st f a
theorem dhere_st (w : World) (P g c : Nat) (l : List Tok) (st : Sto) (h : DpS w P g c l st) :
    Calls Tryz.prog 50 #[.pointer (some ⟨P, 0, none⟩)] w fun e w' => ∃ t, e = .returned (tokV t) ∧ Below w.heap.size w w' ∧ (∀ r, st = .go r → t = hd r) := by
  cases st with
  | go r => exact (dhere_any w P g c l r _ h).mono fun e w' ⟨he, hb⟩ => ⟨hd r, he, hb, fun r' e' => by cases e'; rfl⟩
  | fell c' p => exact (dhere_any w P g c l _ _ h.2.choose_spec).mono fun e w' ⟨he, hb⟩ => ⟨_, he, hb, fun r' e' => by cases e'⟩
def nmR (q : Bool) (r : List Tok) : Res Tok := if q = true then labelR r else nameR r
theorem dname_any (w : World) (P g c : Nat) (l : List Tok) (st : Sto) (q : Bool) (h : DpS w P g c l st) :
    Calls Tryz.prog 54 #[.pointer (some ⟨P, 0, none⟩), .bool q] w (PostD tokV P g c l w st (nmR q)) := by
  cases st with
  | fell c' p =>
    obtain ⟨h0, r, hd'⟩ := h
    exact (dname_fell w P g c l r (c', p) q (by simp [h0]) hd').mono fun e w' ⟨he, hd2, hx⟩ => ⟨noTok, he, ⟨h0, r, hd2⟩, hx, fun _ _ _ e => by cases e⟩
  | go r =>
    have hdr : Dp w P g c l r (0, 0) := h
    have hsz : (strOfNums (hd r).text).size = (hd r).text.length := strOfNums_size _
    have no : ∀ code : Int, code ≠ 0 → nmR q r = bad code r → Calls Tryz.prog 54 #[.pointer (some ⟨P, 0, none⟩), .bool q] w (fun e w' => e = .returned (tokV noTok) ∧ Dp w' P g c l r (code, (hd r).place) ∧ Exc P w.heap.size w w') → Calls Tryz.prog 54 #[.pointer (some ⟨P, 0, none⟩), .bool q] w (PostD tokV P g c l w (.go r) (nmR q)) := by
      intro code h0 hn hc
      refine hc.mono fun e w' ⟨he, hd2, hx⟩ => ⟨noTok, he, ?_, hx, fun r' a r2 e1 e2 => by cases e1; rw [hn] at e2; cases e2⟩
      rw [step_no (show nmR q r = .no code (hd r).place from hn)]
      exact ⟨h0, r, hd2⟩
    have ok : nmR q r = .ok (hd r) r.tail → Calls Tryz.prog 54 #[.pointer (some ⟨P, 0, none⟩), .bool q] w (fun e w' => e = .returned (tokV (hd r)) ∧ Dp w' P g c l r.tail (0, 0) ∧ Exc P w.heap.size w w') → Calls Tryz.prog 54 #[.pointer (some ⟨P, 0, none⟩), .bool q] w (PostD tokV P g c l w (.go r) (nmR q)) := by
      intro hn hc
      refine hc.mono fun e w' ⟨he, hd2, hx⟩ => ⟨hd r, he, ?_, hx, fun r' a r2 e1 e2 => by cases e1; rw [hn] at e2; exact (Res.ok.inj e2).1⟩
      rw [step_ok hn]
      exact hd2
    by_cases h1 : (hd r).kind = 1
    · have t1 : ((hd r).kind != 1) = false := by simp [h1]
      have hq : nmR q r = sizedR r := by
        cases q
        · exact if_pos (c := (hd r).kind = 1) h1
        · exact if_pos (c := (hd r).kind = 1 ∨ (hd r).kind = 3) (.inl h1)
      by_cases hn : (hd r).text.length = 0
      · exact no 12 (by decide) (hq.trans (if_pos (.inl hn))) (dname_noneN w P g c l r q t1 (by rw [hsz, hn]; rfl) hdr)
      · by_cases hm : 40 < (hd r).text.length
        · exact no 12 (by decide) (hq.trans (if_pos (.inr hm))) (dname_longN w P g c l r q t1 (by rw [hsz]; exact decide_eq_false (by omega)) (by rw [hsz]; exact decide_eq_true (by omega)) hdr)
        · exact ok (hq.trans (if_neg (by omega))) (dname_fitsN w P g c l r q t1 (by rw [h1]; decide) (by rw [hsz]; exact decide_eq_false (by omega)) (by rw [hsz]; exact decide_eq_false (by omega)) hdr)
    · have t1 : ((hd r).kind != 1) = true := by simp [h1]
      cases q
      · exact no 11 (by decide) (if_neg (c := (hd r).kind = 1) h1) (dname_badF w P g c l r t1 hdr)
      · by_cases h3 : (hd r).kind = 3
        · have t3 : ((hd r).kind == 3) = true := by simp [h3]
          have hq : nmR true r = sizedR r := if_pos (c := (hd r).kind = 1 ∨ (hd r).kind = 3) (.inr h3)
          by_cases hn : (hd r).text.length = 0
          · exact no 12 (by decide) (hq.trans (if_pos (.inl hn))) (dname_noneQ w P g c l r t1 t3 (by rw [hsz, hn]; rfl) hdr)
          · by_cases hm : 40 < (hd r).text.length
            · exact no 12 (by decide) (hq.trans (if_pos (.inr hm))) (dname_longQ w P g c l r t1 t3 (by rw [hsz]; exact decide_eq_false (by omega)) (by rw [hsz]; exact decide_eq_true (by omega)) hdr)
            · exact ok (hq.trans (if_neg (by omega))) (dname_fitsQ w P g c l r t1 t3 (by rw [h3]; decide) (by rw [hsz]; exact decide_eq_false (by omega)) (by rw [hsz]; exact decide_eq_false (by omega)) hdr)
        · exact no 11 (by decide) (if_neg (c := (hd r).kind = 1 ∨ (hd r).kind = 3) (by omega)) (dname_badT w P g c l r t1 (by simp [h3]) hdr)
end Go.Proofs.YtleclhnlojalbaaGreatDoor
