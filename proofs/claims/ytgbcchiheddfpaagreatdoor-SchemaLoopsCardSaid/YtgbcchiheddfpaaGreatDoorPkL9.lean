/-
  The reader of the package idl: name, label, value. Conditions: those that each theorem names.
-/
import Derived.Test.YtgbcchiheddfpaaGreatDoorPkL8
namespace Go.Proofs.YtgbcchiheddfpaaGreatDoor
open Go.ChangeShapes Go.WideShapes Go.ChangeAt Go.RowKit Go.Shelf

theorem name_bad (w : World) (R g c : Nat) (l r : List Tok) (h : Rd w R g c l r (0, 0)) (t1 : ((hd r).kind != 1) = true) :
    Calls Tryz.prog 207 #[.pointer (some ⟨R, 0, none⟩)] w (PostR tokV R g c l w (bad 11 r)) := by
  have HB0 := Lib.hid (heap_alloc_new w (.cells #[.int .i64 0, .string ByteArray.empty, .int .i64 0] 282))
  have hbA : Below w.heap.size w (w.alloc (.cells #[.int .i64 0, .string ByteArray.empty, .int .i64 0] 282)) := (Below.refl _ _).alloc (Nat.le_refl _) _
  have HBA := Lib.hid hbA
  have HD := Lib.hid (h.keep hbA)
  have HH := Lib.hid (here_any _ R g c l r (0, 0) HD.out)
  have hR := blk_lt h.blk
  have hg := h.glt
  have hf := fld0
  clear h hbA
  unfold tokV at HH
  unfold bad
  go_enter Tryz.func207, Tryz.ntmps207
  go_wp2_with fail
  refine HH.out.mono ?_
  rintro e W1 ⟨rfl, hb1⟩
  have HB1 := Lib.hid (HBA.out.trans (hb1.mono HBA.out.size))
  have HD1 := Lib.hid (HD.out.keep hb1)
  have HZ1 := Lib.hid (blk_below HB0.out hb1 (by simp))
  clear hb1
  have HT := Lib.hid (refuse_any W1 R g c l r (0, 0) 11 HD1.out)
  go_wp2_with fail
  refine HT.out.mono ?_
  rintro e W2 ⟨rfl, hr2, hx2⟩
  have HR2 := Lib.hid hr2
  have HX2 := Lib.hid ((Exc.of_below HB1.out).then hx2)
  have HZ2 := Lib.hid (blk_exc HZ1.out hx2 (blk_lt HZ1.out) (by omega))
  obtain ⟨hz, z0, z1, z2, y0, y1, y2⟩ := blk3 HZ2.out
  clear hr2 hx2
  go_wp2
  refine post_gen (fun Wf => Wf.heap[w.heap.size]? = some (.cells #[.int .i64 0, .string ByteArray.empty, .int .i64 0] 282 (0, 0)) ∧ Exc R w.heap.size w Wf ∧ Rd Wf R g c l r (11, (hd r).place)) ⟨?_, ?_, ?_⟩ ?_
  · exact blk_set3 HZ2.out _ _ _
  · exact HX2.out.set3 (Nat.le_refl _) _ _ _
  · exact HR2.out.set3 (by omega) (by omega) _ _ _
  · rintro Wf ⟨f1, f2, f3⟩
    obtain ⟨_, c0, c1, c2, _⟩ := blk3 f1
    exact bodyPost_ret (v := .tuple #[.agg #[.int .i64 0, .string ByteArray.empty, .int .i64 0], .bool false]) (by simp [results, Tryz.results207, go_sem, c0, c1, c2]) rfl ⟨noTok, r, _, false, rfl, f3, f2, rfl, rfl⟩
theorem name_good (w : World) (R g c : Nat) (l r : List Tok) (h : Rd w R g c l r (0, 0)) (t1 : ((hd r).kind != 1) = false) (h0 : (hd r).kind ≠ 0) :
    Calls Tryz.prog 207 #[.pointer (some ⟨R, 0, none⟩)] w (PostR tokV R g c l w (sizedR r)) := by
  have HB0 := Lib.hid (heap_alloc_new w (.cells #[.int .i64 0, .string ByteArray.empty, .int .i64 0] 282))
  have hbA : Below w.heap.size w (w.alloc (.cells #[.int .i64 0, .string ByteArray.empty, .int .i64 0] 282)) := (Below.refl _ _).alloc (Nat.le_refl _) _
  have HBA := Lib.hid hbA
  have HD := Lib.hid (h.keep hbA)
  have HH := Lib.hid (here_any _ R g c l r (0, 0) HD.out)
  have hR := blk_lt h.blk
  have hg := h.glt
  have hf := fld0
  clear h hbA
  unfold tokV at HH
  have HK := Lib.hid h0
  clear h0
  go_enter Tryz.func207, Tryz.ntmps207
  go_wp2_with fail
  refine HH.out.mono ?_
  rintro e W1 ⟨rfl, hb1⟩
  have HB1 := Lib.hid (HBA.out.trans (hb1.mono HBA.out.size))
  have HD1 := Lib.hid (HD.out.keep hb1)
  have HZ1 := Lib.hid (blk_below HB0.out hb1 (by simp))
  clear hb1
  have HT := Lib.hid (sized_any W1 R g c l r HD1.out HK.out)
  go_wp2_with fail
  refine HT.out.mono ?_
  rintro e W2 ⟨a, r', F, ok, rfl, hr2, hx2, hs⟩
  have HS := Lib.hid hs
  clear hs
  unfold tokV
  have HR2 := Lib.hid hr2
  have HX2 := Lib.hid ((Exc.of_below HB1.out).then hx2)
  have HZ2 := Lib.hid (blk_exc HZ1.out hx2 (blk_lt HZ1.out) (by omega))
  obtain ⟨hz, z0, z1, z2, y0, y1, y2⟩ := blk3 HZ2.out
  clear hr2 hx2
  go_wp2
  refine post_gen (fun Wf => Wf.heap[w.heap.size]? = some (.cells #[.int .i64 a.kind, .string (strOfNums a.text), .int .i64 a.place] 282 (0, 0)) ∧ Exc R w.heap.size w Wf ∧ Rd Wf R g c l r' F) ⟨?_, ?_, ?_⟩ ?_
  · exact blk_set3 HZ2.out _ _ _
  · exact HX2.out.set3 (Nat.le_refl _) _ _ _
  · exact HR2.out.set3 (by omega) (by omega) _ _ _
  · rintro Wf ⟨f1, f2, f3⟩
    obtain ⟨_, c0, c1, c2, _⟩ := blk3 f1
    exact bodyPost_ret (v := .tuple #[.agg #[.int .i64 a.kind, .string (strOfNums a.text), .int .i64 a.place], .bool ok]) (by simp [results, Tryz.results207, go_sem, c0, c1, c2]) rfl ⟨a, r', F, ok, rfl, f3, f2, HS.out⟩
theorem label_bad (w : World) (R g c : Nat) (l r : List Tok) (h : Rd w R g c l r (0, 0)) (t1 : ((hd r).kind != 1) = true) (t3 : ((hd r).kind != 3) = true) :
    Calls Tryz.prog 247 #[.pointer (some ⟨R, 0, none⟩)] w (PostR tokV R g c l w (bad 11 r)) := by
  have HB0 := Lib.hid (heap_alloc_new w (.cells #[.int .i64 0, .string ByteArray.empty, .int .i64 0] 282))
  have hbA : Below w.heap.size w (w.alloc (.cells #[.int .i64 0, .string ByteArray.empty, .int .i64 0] 282)) := (Below.refl _ _).alloc (Nat.le_refl _) _
  have HBA := Lib.hid hbA
  have HD := Lib.hid (h.keep hbA)
  have HH := Lib.hid (here_any _ R g c l r (0, 0) HD.out)
  have hR := blk_lt h.blk
  have hg := h.glt
  have hf := fld0
  clear h hbA
  unfold tokV at HH
  unfold bad
  go_enter Tryz.func247, Tryz.ntmps247
  go_wp2_with fail
  refine HH.out.mono ?_
  rintro e W1 ⟨rfl, hb1⟩
  have HB1 := Lib.hid (HBA.out.trans (hb1.mono HBA.out.size))
  have HD1 := Lib.hid (HD.out.keep hb1)
  have HZ1 := Lib.hid (blk_below HB0.out hb1 (by simp))
  clear hb1
  have HT := Lib.hid (refuse_any W1 R g c l r (0, 0) 11 HD1.out)
  go_wp2_with fail
  refine HT.out.mono ?_
  rintro e W2 ⟨rfl, hr2, hx2⟩
  have HR2 := Lib.hid hr2
  have HX2 := Lib.hid ((Exc.of_below HB1.out).then hx2)
  have HZ2 := Lib.hid (blk_exc HZ1.out hx2 (blk_lt HZ1.out) (by omega))
  obtain ⟨hz, z0, z1, z2, y0, y1, y2⟩ := blk3 HZ2.out
  clear hr2 hx2
  go_wp2
  refine post_gen (fun Wf => Wf.heap[w.heap.size]? = some (.cells #[.int .i64 0, .string ByteArray.empty, .int .i64 0] 282 (0, 0)) ∧ Exc R w.heap.size w Wf ∧ Rd Wf R g c l r (11, (hd r).place)) ⟨?_, ?_, ?_⟩ ?_
  · exact blk_set3 HZ2.out _ _ _
  · exact HX2.out.set3 (Nat.le_refl _) _ _ _
  · exact HR2.out.set3 (by omega) (by omega) _ _ _
  · rintro Wf ⟨f1, f2, f3⟩
    obtain ⟨_, c0, c1, c2, _⟩ := blk3 f1
    exact bodyPost_ret (v := .tuple #[.agg #[.int .i64 0, .string ByteArray.empty, .int .i64 0], .bool false]) (by simp [results, Tryz.results247, go_sem, c0, c1, c2]) rfl ⟨noTok, r, _, false, rfl, f3, f2, rfl, rfl⟩
theorem label_one (w : World) (R g c : Nat) (l r : List Tok) (h : Rd w R g c l r (0, 0)) (t1 : ((hd r).kind != 1) = false) (h0 : (hd r).kind ≠ 0) :
    Calls Tryz.prog 247 #[.pointer (some ⟨R, 0, none⟩)] w (PostR tokV R g c l w (sizedR r)) := by
  have HB0 := Lib.hid (heap_alloc_new w (.cells #[.int .i64 0, .string ByteArray.empty, .int .i64 0] 282))
  have hbA : Below w.heap.size w (w.alloc (.cells #[.int .i64 0, .string ByteArray.empty, .int .i64 0] 282)) := (Below.refl _ _).alloc (Nat.le_refl _) _
  have HBA := Lib.hid hbA
  have HD := Lib.hid (h.keep hbA)
  have HH := Lib.hid (here_any _ R g c l r (0, 0) HD.out)
  have hR := blk_lt h.blk
  have hg := h.glt
  have hf := fld0
  clear h hbA
  unfold tokV at HH
  have HK := Lib.hid h0
  clear h0
  go_enter Tryz.func247, Tryz.ntmps247
  go_wp2_with fail
  refine HH.out.mono ?_
  rintro e W1 ⟨rfl, hb1⟩
  have HB1 := Lib.hid (HBA.out.trans (hb1.mono HBA.out.size))
  have HD1 := Lib.hid (HD.out.keep hb1)
  have HZ1 := Lib.hid (blk_below HB0.out hb1 (by simp))
  clear hb1
  have HT := Lib.hid (sized_any W1 R g c l r HD1.out HK.out)
  go_wp2_with fail
  refine HT.out.mono ?_
  rintro e W2 ⟨a, r', F, ok, rfl, hr2, hx2, hs⟩
  have HS := Lib.hid hs
  clear hs
  unfold tokV
  have HR2 := Lib.hid hr2
  have HX2 := Lib.hid ((Exc.of_below HB1.out).then hx2)
  have HZ2 := Lib.hid (blk_exc HZ1.out hx2 (blk_lt HZ1.out) (by omega))
  obtain ⟨hz, z0, z1, z2, y0, y1, y2⟩ := blk3 HZ2.out
  clear hr2 hx2
  go_wp2
  refine post_gen (fun Wf => Wf.heap[w.heap.size]? = some (.cells #[.int .i64 a.kind, .string (strOfNums a.text), .int .i64 a.place] 282 (0, 0)) ∧ Exc R w.heap.size w Wf ∧ Rd Wf R g c l r' F) ⟨?_, ?_, ?_⟩ ?_
  · exact blk_set3 HZ2.out _ _ _
  · exact HX2.out.set3 (Nat.le_refl _) _ _ _
  · exact HR2.out.set3 (by omega) (by omega) _ _ _
  · rintro Wf ⟨f1, f2, f3⟩
    obtain ⟨_, c0, c1, c2, _⟩ := blk3 f1
    exact bodyPost_ret (v := .tuple #[.agg #[.int .i64 a.kind, .string (strOfNums a.text), .int .i64 a.place], .bool ok]) (by simp [results, Tryz.results247, go_sem, c0, c1, c2]) rfl ⟨a, r', F, ok, rfl, f3, f2, HS.out⟩
theorem label_three (w : World) (R g c : Nat) (l r : List Tok) (h : Rd w R g c l r (0, 0)) (t1 : ((hd r).kind != 1) = true) (t3 : ((hd r).kind != 3) = false) (h0 : (hd r).kind ≠ 0) :
    Calls Tryz.prog 247 #[.pointer (some ⟨R, 0, none⟩)] w (PostR tokV R g c l w (sizedR r)) := by
  have HB0 := Lib.hid (heap_alloc_new w (.cells #[.int .i64 0, .string ByteArray.empty, .int .i64 0] 282))
  have hbA : Below w.heap.size w (w.alloc (.cells #[.int .i64 0, .string ByteArray.empty, .int .i64 0] 282)) := (Below.refl _ _).alloc (Nat.le_refl _) _
  have HBA := Lib.hid hbA
  have HD := Lib.hid (h.keep hbA)
  have HH := Lib.hid (here_any _ R g c l r (0, 0) HD.out)
  have hR := blk_lt h.blk
  have hg := h.glt
  have hf := fld0
  clear h hbA
  unfold tokV at HH
  have HK := Lib.hid h0
  clear h0
  go_enter Tryz.func247, Tryz.ntmps247
  go_wp2_with fail
  refine HH.out.mono ?_
  rintro e W1 ⟨rfl, hb1⟩
  have HB1 := Lib.hid (HBA.out.trans (hb1.mono HBA.out.size))
  have HD1 := Lib.hid (HD.out.keep hb1)
  have HZ1 := Lib.hid (blk_below HB0.out hb1 (by simp))
  clear hb1
  have HT := Lib.hid (sized_any W1 R g c l r HD1.out HK.out)
  go_wp2_with fail
  refine HT.out.mono ?_
  rintro e W2 ⟨a, r', F, ok, rfl, hr2, hx2, hs⟩
  have HS := Lib.hid hs
  clear hs
  unfold tokV
  have HR2 := Lib.hid hr2
  have HX2 := Lib.hid ((Exc.of_below HB1.out).then hx2)
  have HZ2 := Lib.hid (blk_exc HZ1.out hx2 (blk_lt HZ1.out) (by omega))
  obtain ⟨hz, z0, z1, z2, y0, y1, y2⟩ := blk3 HZ2.out
  clear hr2 hx2
  go_wp2
  refine post_gen (fun Wf => Wf.heap[w.heap.size]? = some (.cells #[.int .i64 a.kind, .string (strOfNums a.text), .int .i64 a.place] 282 (0, 0)) ∧ Exc R w.heap.size w Wf ∧ Rd Wf R g c l r' F) ⟨?_, ?_, ?_⟩ ?_
  · exact blk_set3 HZ2.out _ _ _
  · exact HX2.out.set3 (Nat.le_refl _) _ _ _
  · exact HR2.out.set3 (by omega) (by omega) _ _ _
  · rintro Wf ⟨f1, f2, f3⟩
    obtain ⟨_, c0, c1, c2, _⟩ := blk3 f1
    exact bodyPost_ret (v := .tuple #[.agg #[.int .i64 a.kind, .string (strOfNums a.text), .int .i64 a.place], .bool ok]) (by simp [results, Tryz.results247, go_sem, c0, c1, c2]) rfl ⟨a, r', F, ok, rfl, f3, f2, HS.out⟩
theorem value_bad (w : World) (R g c : Nat) (l r : List Tok) (h : Rd w R g c l r (0, 0)) (t1 : ((hd r).kind != 1) = true) (t2 : ((hd r).kind != 2) = true) :
    Calls Tryz.prog 249 #[.pointer (some ⟨R, 0, none⟩)] w (PostR tokV R g c l w (bad 11 r)) := by
  have HB0 := Lib.hid (heap_alloc_new w (.cells #[.int .i64 0, .string ByteArray.empty, .int .i64 0] 282))
  have hbA : Below w.heap.size w (w.alloc (.cells #[.int .i64 0, .string ByteArray.empty, .int .i64 0] 282)) := (Below.refl _ _).alloc (Nat.le_refl _) _
  have HBA := Lib.hid hbA
  have HD := Lib.hid (h.keep hbA)
  have HH := Lib.hid (here_any _ R g c l r (0, 0) HD.out)
  have hR := blk_lt h.blk
  have hg := h.glt
  have hf := fld0
  clear h hbA
  unfold tokV at HH
  unfold bad
  go_enter Tryz.func249, Tryz.ntmps249
  go_wp2_with fail
  refine HH.out.mono ?_
  rintro e W1 ⟨rfl, hb1⟩
  have HB1 := Lib.hid (HBA.out.trans (hb1.mono HBA.out.size))
  have HD1 := Lib.hid (HD.out.keep hb1)
  have HZ1 := Lib.hid (blk_below HB0.out hb1 (by simp))
  clear hb1
  have HT := Lib.hid (refuse_any W1 R g c l r (0, 0) 11 HD1.out)
  go_wp2_with fail
  refine HT.out.mono ?_
  rintro e W2 ⟨rfl, hr2, hx2⟩
  have HR2 := Lib.hid hr2
  have HX2 := Lib.hid ((Exc.of_below HB1.out).then hx2)
  have HZ2 := Lib.hid (blk_exc HZ1.out hx2 (blk_lt HZ1.out) (by omega))
  obtain ⟨hz, z0, z1, z2, y0, y1, y2⟩ := blk3 HZ2.out
  clear hr2 hx2
  go_wp2
  refine post_gen (fun Wf => Wf.heap[w.heap.size]? = some (.cells #[.int .i64 0, .string ByteArray.empty, .int .i64 0] 282 (0, 0)) ∧ Exc R w.heap.size w Wf ∧ Rd Wf R g c l r (11, (hd r).place)) ⟨?_, ?_, ?_⟩ ?_
  · exact blk_set3 HZ2.out _ _ _
  · exact HX2.out.set3 (Nat.le_refl _) _ _ _
  · exact HR2.out.set3 (by omega) (by omega) _ _ _
  · rintro Wf ⟨f1, f2, f3⟩
    obtain ⟨_, c0, c1, c2, _⟩ := blk3 f1
    exact bodyPost_ret (v := .tuple #[.agg #[.int .i64 0, .string ByteArray.empty, .int .i64 0], .bool false]) (by simp [results, Tryz.results249, go_sem, c0, c1, c2]) rfl ⟨noTok, r, _, false, rfl, f3, f2, rfl, rfl⟩
theorem value_one (w : World) (R g c : Nat) (l r : List Tok) (h : Rd w R g c l r (0, 0)) (t1 : ((hd r).kind != 1) = false) (h0 : (hd r).kind ≠ 0) :
    Calls Tryz.prog 249 #[.pointer (some ⟨R, 0, none⟩)] w (PostR tokV R g c l w (.ok (hd r) r.tail)) := by
  have HB0 := Lib.hid (heap_alloc_new w (.cells #[.int .i64 0, .string ByteArray.empty, .int .i64 0] 282))
  have hbA : Below w.heap.size w (w.alloc (.cells #[.int .i64 0, .string ByteArray.empty, .int .i64 0] 282)) := (Below.refl _ _).alloc (Nat.le_refl _) _
  have HBA := Lib.hid hbA
  have HD := Lib.hid (h.keep hbA)
  have HH := Lib.hid (here_any _ R g c l r (0, 0) HD.out)
  have hR := blk_lt h.blk
  have hg := h.glt
  have hf := fld0
  clear h hbA
  unfold tokV at HH
  have HK := Lib.hid h0
  clear h0
  go_enter Tryz.func249, Tryz.ntmps249
  go_wp2_with fail
  refine HH.out.mono ?_
  rintro e W1 ⟨rfl, hb1⟩
  have HB1 := Lib.hid (HBA.out.trans (hb1.mono HBA.out.size))
  have HD1 := Lib.hid (HD.out.keep hb1)
  have HZ1 := Lib.hid (blk_below HB0.out hb1 (by simp))
  clear hb1
  have HT := Lib.hid (take_any W1 R g c l r (0, 0) HD1.out HK.out)
  unfold tokV at HT
  go_wp2_with fail
  refine HT.out.mono ?_
  rintro e W2 ⟨rfl, hr2, hx2⟩
  have HR2 := Lib.hid hr2
  have HX2 := Lib.hid ((Exc.of_below HB1.out).then hx2)
  have HZ2 := Lib.hid (blk_exc HZ1.out hx2 (blk_lt HZ1.out) (by omega))
  obtain ⟨hz, z0, z1, z2, y0, y1, y2⟩ := blk3 HZ2.out
  clear hr2 hx2
  go_wp2
  refine post_gen (fun Wf => Wf.heap[w.heap.size]? = some (.cells #[.int .i64 (hd r).kind, .string (strOfNums (hd r).text), .int .i64 (hd r).place] 282 (0, 0)) ∧ Exc R w.heap.size w Wf ∧ Rd Wf R g c l r.tail (0, 0)) ⟨?_, ?_, ?_⟩ ?_
  · exact blk_set3 HZ2.out _ _ _
  · exact HX2.out.set3 (Nat.le_refl _) _ _ _
  · exact HR2.out.set3 (by omega) (by omega) _ _ _
  · rintro Wf ⟨f1, f2, f3⟩
    obtain ⟨_, c0, c1, c2, _⟩ := blk3 f1
    exact bodyPost_ret (v := .tuple #[.agg #[.int .i64 (hd r).kind, .string (strOfNums (hd r).text), .int .i64 (hd r).place], .bool true]) (by simp [results, Tryz.results249, go_sem, c0, c1, c2]) rfl ⟨hd r, r.tail, _, true, rfl, f3, f2, rfl, rfl, rfl, rfl⟩
theorem value_two (w : World) (R g c : Nat) (l r : List Tok) (h : Rd w R g c l r (0, 0)) (t1 : ((hd r).kind != 1) = true) (t2 : ((hd r).kind != 2) = false) (h0 : (hd r).kind ≠ 0) :
    Calls Tryz.prog 249 #[.pointer (some ⟨R, 0, none⟩)] w (PostR tokV R g c l w (.ok (hd r) r.tail)) := by
  have HB0 := Lib.hid (heap_alloc_new w (.cells #[.int .i64 0, .string ByteArray.empty, .int .i64 0] 282))
  have hbA : Below w.heap.size w (w.alloc (.cells #[.int .i64 0, .string ByteArray.empty, .int .i64 0] 282)) := (Below.refl _ _).alloc (Nat.le_refl _) _
  have HBA := Lib.hid hbA
  have HD := Lib.hid (h.keep hbA)
  have HH := Lib.hid (here_any _ R g c l r (0, 0) HD.out)
  have hR := blk_lt h.blk
  have hg := h.glt
  have hf := fld0
  clear h hbA
  unfold tokV at HH
  have HK := Lib.hid h0
  clear h0
  go_enter Tryz.func249, Tryz.ntmps249
  go_wp2_with fail
  refine HH.out.mono ?_
  rintro e W1 ⟨rfl, hb1⟩
  have HB1 := Lib.hid (HBA.out.trans (hb1.mono HBA.out.size))
  have HD1 := Lib.hid (HD.out.keep hb1)
  have HZ1 := Lib.hid (blk_below HB0.out hb1 (by simp))
  clear hb1
  have HT := Lib.hid (take_any W1 R g c l r (0, 0) HD1.out HK.out)
  unfold tokV at HT
  go_wp2_with fail
  refine HT.out.mono ?_
  rintro e W2 ⟨rfl, hr2, hx2⟩
  have HR2 := Lib.hid hr2
  have HX2 := Lib.hid ((Exc.of_below HB1.out).then hx2)
  have HZ2 := Lib.hid (blk_exc HZ1.out hx2 (blk_lt HZ1.out) (by omega))
  obtain ⟨hz, z0, z1, z2, y0, y1, y2⟩ := blk3 HZ2.out
  clear hr2 hx2
  go_wp2
  refine post_gen (fun Wf => Wf.heap[w.heap.size]? = some (.cells #[.int .i64 (hd r).kind, .string (strOfNums (hd r).text), .int .i64 (hd r).place] 282 (0, 0)) ∧ Exc R w.heap.size w Wf ∧ Rd Wf R g c l r.tail (0, 0)) ⟨?_, ?_, ?_⟩ ?_
  · exact blk_set3 HZ2.out _ _ _
  · exact HX2.out.set3 (Nat.le_refl _) _ _ _
  · exact HR2.out.set3 (by omega) (by omega) _ _ _
  · rintro Wf ⟨f1, f2, f3⟩
    obtain ⟨_, c0, c1, c2, _⟩ := blk3 f1
    exact bodyPost_ret (v := .tuple #[.agg #[.int .i64 (hd r).kind, .string (strOfNums (hd r).text), .int .i64 (hd r).place], .bool true]) (by simp [results, Tryz.results249, go_sem, c0, c1, c2]) rfl ⟨hd r, r.tail, _, true, rfl, f3, f2, rfl, rfl, rfl, rfl⟩
theorem ne_true {a b : Int} (h : ¬ a = b) : (a != b) = true := by simp [h]
theorem ne_false {a b : Int} (h : a = b) : (a != b) = false := by simp [h]
theorem name_any (w : World) (R g c : Nat) (l r : List Tok) (h : Rd w R g c l r (0, 0)) :
    Calls Tryz.prog 207 #[.pointer (some ⟨R, 0, none⟩)] w (PostR tokV R g c l w (nameR r)) := by
  by_cases h1 : (hd r).kind = 1
  · rw [show nameR r = sizedR r from if_pos h1]
    exact name_good w R g c l r h (ne_false h1) (by omega)
  · rw [show nameR r = bad 11 r from if_neg h1]
    exact name_bad w R g c l r h (ne_true h1)
theorem label_any (w : World) (R g c : Nat) (l r : List Tok) (h : Rd w R g c l r (0, 0)) :
    Calls Tryz.prog 247 #[.pointer (some ⟨R, 0, none⟩)] w (PostR tokV R g c l w (labelR r)) := by
  by_cases h1 : (hd r).kind = 1
  · rw [show labelR r = sizedR r from if_pos (.inl h1)]
    exact label_one w R g c l r h (ne_false h1) (by omega)
  · by_cases h3 : (hd r).kind = 3
    · rw [show labelR r = sizedR r from if_pos (.inr h3)]
      exact label_three w R g c l r h (ne_true h1) (ne_false h3) (by omega)
    · rw [show labelR r = bad 11 r from if_neg (by omega)]
      exact label_bad w R g c l r h (ne_true h1) (ne_true h3)
theorem value_any (w : World) (R g c : Nat) (l r : List Tok) (h : Rd w R g c l r (0, 0)) :
    Calls Tryz.prog 249 #[.pointer (some ⟨R, 0, none⟩)] w (PostR tokV R g c l w (valueR r)) := by
  by_cases h1 : (hd r).kind = 1
  · rw [show valueR r = .ok (hd r) r.tail from if_pos (.inl h1)]
    exact value_one w R g c l r h (ne_false h1) (by omega)
  · by_cases h3 : (hd r).kind = 2
    · rw [show valueR r = .ok (hd r) r.tail from if_pos (.inr h3)]
      exact value_two w R g c l r h (ne_true h1) (ne_false h3) (by omega)
    · rw [show valueR r = bad 11 r from if_neg (by omega)]
      exact value_bad w R g c l r h (ne_true h1) (ne_true h3)
end Go.Proofs.YtgbcchiheddfpaaGreatDoor
