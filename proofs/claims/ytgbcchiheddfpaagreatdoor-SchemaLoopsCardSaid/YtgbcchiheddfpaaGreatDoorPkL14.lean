/-
  The reader of the package idl: what stands between braces, read thing by thing by a function that is handed over, whatever that function keeps. Conditions: those that each theorem names.
-/
import Derived.Test.YtgbcchiheddfpaaGreatDoorPkL12
import Derived.Deep.Cut
import Derived.Deep.RegionWith
import Derived.Laws.EntriesVeiled
import Derived.Shelf.Abstract
namespace Go.Proofs.YtgbcchiheddfpaaGreatDoor
open Go.ChangeShapes Go.WideShapes Go.ChangeAt Go.RowKit Go.Shelf

def fieldV (f : RField) : Value := .agg #[.string (strOfNums f.name), .int .i64 f.place, .string (strOfNums f.ty.name), .int .i64 f.ty.lists, .int .i64 f.ty.place, .int .i64 f.dflt.kind, .string (strOfNums f.dflt.text), .int .i64 f.dflt.place]
def field2 (t : Tok) (r : List Tok) : Res RField := (wantR [58] r).bind fun _ r2 => (tyR r2).bind fun ty r3 => (dfltR r3).bind fun d r4 => (wantR [59] r4).bind fun _ r5 => .ok ⟨t.text, t.place, ty, d⟩ r5
def field3 (t : Tok) (r : List Tok) : Res RField := (tyR r).bind fun ty r3 => (dfltR r3).bind fun d r4 => (wantR [59] r4).bind fun _ r5 => .ok ⟨t.text, t.place, ty, d⟩ r5
def field4 (t : Tok) (ty : RTy) (r : List Tok) : Res RField := (dfltR r).bind fun d r4 => (wantR [59] r4).bind fun _ r5 => .ok ⟨t.text, t.place, ty, d⟩ r5
def field5 (t : Tok) (ty : RTy) (d : Tok) (r : List Tok) : Res RField := (wantR [59] r).bind fun _ r5 => .ok ⟨t.text, t.place, ty, d⟩ r5
theorem exc_set567 (w : World) (g : Nat) (x y z : Value) : Exc g w.heap.size w (((w.setCell ⟨g, 5, none⟩ x).setCell ⟨g, 6, none⟩ y).setCell ⟨g, 7, none⟩ z) :=
  ((exc_set w g 5 x).setCell (p := ⟨g, 6, none⟩) (.inl rfl) y).setCell (p := ⟨g, 7, none⟩) (.inl rfl) z
theorem blk_set567 {w : World} {g : Nat} {a b c d e f g' h : Value} {t : TypeId} (hb : w.heap[g]? = some (.cells #[a, b, c, d, e, f, g', h] t (0, 0))) (x y z : Value) :
    (((w.setCell ⟨g, 5, none⟩ x).setCell ⟨g, 6, none⟩ y).setCell ⟨g, 7, none⟩ z).heap[g]? = some (.cells #[a, b, c, d, e, x, y, z] t (0, 0)) := by
  have k0 : (w.setCell ⟨g, 5, none⟩ x).heap[g]? = some (.cells #[a, b, c, d, e, x, g', h] t (0, 0)) := (blk_set hb 5 x).trans rfl
  have k1 : ((w.setCell ⟨g, 5, none⟩ x).setCell ⟨g, 6, none⟩ y).heap[g]? = some (.cells #[a, b, c, d, e, x, y, h] t (0, 0)) := (blk_set k0 6 y).trans rfl
  exact (blk_set k1 7 z).trans rfl
theorem field_end {w W : World} {R g c : Nat} {l r r9 : List Tok} {F : Int × Nat} {ok : Bool} {t d : Tok} {ty : RTy} {x : Res RField} (hx : x = field5 t ty d r) (hs : Says (wantR [59] r) () r9 F ok) (hr : Rd W R g c l r9 F) (he : Exc R w.heap.size w W) :
    PostR fieldV R g c l w x (.returned (.tuple #[fieldV ⟨t.text, t.place, ty, d⟩, .bool ok])) W := by
  refine ⟨⟨t.text, t.place, ty, d⟩, r9, F, ok, rfl, hr, he, ?_⟩
  rw [hx]
  unfold field5
  generalize wantR [59] r = q at *
  obtain ⟨a, r'⟩ | ⟨cc, pp⟩ := q
  · obtain ⟨h1, _, h3, h4⟩ := hs
    exact ⟨h1, rfl, h3, h4⟩
  · exact hs
set_option maxRecDepth 100000 in
set_option maxHeartbeats 4000000 in
theorem field_any (w : World) (R g c : Nat) (l r : List Tok) (h : Rd w R g c l r (0, 0)) :
    Calls Tryz.prog 236 #[.pointer (some ⟨R, 0, none⟩)] w (PostR fieldV R g c l w (fieldR r)) := by
  have hR := blk_lt h.blk
  have hg := h.glt
  have hbA : Below w.heap.size w (w.alloc (.cells #[.string ⟨#[]⟩, .int .i64 0, .string ⟨#[]⟩, .int .i64 0, .int .i64 0, .int .i64 0, .string ⟨#[]⟩, .int .i64 0] 303)) := (Below.refl _ _).alloc (Nat.le_refl _) _
  have HX0 := Lib.hid (Exc.of_below (R := R) hbA)
  have HZ0 := Lib.hid (heap_alloc_new w (.cells #[.string ⟨#[]⟩, .int .i64 0, .string ⟨#[]⟩, .int .i64 0, .int .i64 0, .int .i64 0, .string ⟨#[]⟩, .int .i64 0] 303))
  have HR0 := Lib.hid (h.keep hbA)
  have HE0 : Hid (fieldR r = (labelR r).bind field2) := Lib.hid rfl
  clear h hbA
  go_enter Tryz.func236, Tryz.ntmps236
  go_wp2_with fail
  refine (label_any _ R g c l r HR0.out).mono ?_
  rintro e W1 ⟨a1, r1, F1, ok1, rfl, hr1, hx1, hs1⟩
  have HR1 := Lib.hid hr1
  have HX1 := Lib.hid (HX0.out.thenB (Nat.le_refl _) hx1)
  have HZ1 := Lib.hid (blk_exc HZ0.out hx1 (blk_lt HZ0.out) (by first | omega | (have := HX0.out.size; omega)))
  have HS1 := Lib.hid hs1
  clear hr1 hx1 hs1 HR0 HX0 HZ0
  unfold tokV
  generalize labelR r = q at *
  obtain ⟨a', q'⟩ | ⟨cc, pp⟩ := q
  · obtain ⟨rfl, rfl, rfl, rfl⟩ := HS1.out
    have HE1 := Lib.hid (HE0.out.trans (rfl : _ = (wantR [58] r1).bind fun _ r2 => field3 a1 r2))
    clear HS1 HE0
    go_wp2_with fail
    have HR2 := Lib.hid (HR1.out.alloc (.cells #[.int .i64 a1.kind, .string (strOfNums a1.text), .int .i64 a1.place] 282))
    have HX2 := Lib.hid (HX1.out.alloc HX1.out.size (.cells #[.int .i64 a1.kind, .string (strOfNums a1.text), .int .i64 a1.place] 282))
    have HL2 := Lib.hid (heap_alloc_new W1 (.cells #[.int .i64 a1.kind, .string (strOfNums a1.text), .int .i64 a1.place] 282))
    have HZ2 := Lib.hid (blk_alloc HZ1.out (.cells #[.int .i64 a1.kind, .string (strOfNums a1.text), .int .i64 a1.place] 282))
    have hLlt : w.heap.size < W1.heap.size := blk_lt HZ1.out
    clear HR1 HX1 HZ1
    generalize hW2 : W1.alloc (.cells #[.int .i64 a1.kind, .string (strOfNums a1.text), .int .i64 a1.place] 282) = W2 at *
    clear hW2
    generalize hBL : W1.heap.size = BL at *
    clear hBL
    refine (want_any _ R g c l r1 ⟨#[58]⟩ [58] (by kernel_rfl) HR2.out).mono ?_
    rintro e W3 ⟨r3, F3, ok3, rfl, hr3, hx3, hs3⟩
    have HR3 := Lib.hid hr3
    have HX3 := Lib.hid (HX2.out.thenB (Nat.le_refl _) hx3)
    have HZ3 := Lib.hid (blk_exc HZ2.out hx3 (blk_lt HZ2.out) (by first | omega | (have := HX2.out.size; omega)))
    have HL3 := Lib.hid (blk_exc HL2.out hx3 (blk_lt HL2.out) (by first | omega | (have := HX2.out.size; omega)))
    have HS3 := Lib.hid hs3
    clear hr3 hx3 hs3 HR2 HX2 HZ2 HL2
    generalize wantR [58] r1 = q at *
    obtain ⟨a', q'⟩ | ⟨cc, pp⟩ := q
    · obtain ⟨rfl, rfl, rfl, rfl⟩ := HS3.out
      have HE3 := Lib.hid (HE1.out.trans (rfl : _ = (tyR r3).bind fun ty r4 => field4 a1 ty r4))
      clear HS3 HE1
      go_wp2_with fail
      refine (written_any _ R g c l r3 HR3.out).mono ?_
      rintro e W4 ⟨a4, r4, F4, ok4, rfl, hr4, hx4, hs4⟩
      have HR4 := Lib.hid hr4
      have HX4 := Lib.hid (HX3.out.thenB (Nat.le_refl _) hx4)
      have HZ4 := Lib.hid (blk_exc HZ3.out hx4 (blk_lt HZ3.out) (by first | omega | (have := HX3.out.size; omega)))
      have HL4 := Lib.hid (blk_exc HL3.out hx4 (blk_lt HL3.out) (by first | omega | (have := HX3.out.size; omega)))
      have HS4 := Lib.hid hs4
      clear hr4 hx4 hs4 HR3 HX3 HZ3 HL3
      unfold tyV
      generalize tyR r3 = q at *
      obtain ⟨a', q'⟩ | ⟨cc, pp⟩ := q
      · obtain ⟨rfl, rfl, rfl, rfl⟩ := HS4.out
        have HE4 := Lib.hid (HE3.out.trans (rfl : _ = (if isT 4 [61] r4 = true then valueR r4.tail else .ok noTok r4).bind fun d r5 => field5 a1 a4 d r5))
        clear HS4 HE3
        obtain ⟨hl4, l0, l1, l2, _⟩ := blk3 HL4.out
        go_wp2_with fail
        have HR6 := Lib.hid ((HR4.out.alloc (.cells #[.string (strOfNums a4.name), .int .i64 a4.lists, .int .i64 a4.place] 301)).alloc (.cells #[.string (strOfNums a1.text), .int .i64 a1.place, .string (strOfNums a4.name), .int .i64 a4.lists, .int .i64 a4.place, .int .i64 0, .string ⟨#[]⟩, .int .i64 0] 303))
        have HX6 := Lib.hid ((HX4.out.alloc HX4.out.size (.cells #[.string (strOfNums a4.name), .int .i64 a4.lists, .int .i64 a4.place] 301)).alloc (HX4.out.alloc HX4.out.size (.cells #[.string (strOfNums a4.name), .int .i64 a4.lists, .int .i64 a4.place] 301)).size (.cells #[.string (strOfNums a1.text), .int .i64 a1.place, .string (strOfNums a4.name), .int .i64 a4.lists, .int .i64 a4.place, .int .i64 0, .string ⟨#[]⟩, .int .i64 0] 303))
        have HF6 := Lib.hid (show ((W4.alloc (.cells #[.string (strOfNums a4.name), .int .i64 a4.lists, .int .i64 a4.place] 301)).alloc (.cells #[.string (strOfNums a1.text), .int .i64 a1.place, .string (strOfNums a4.name), .int .i64 a4.lists, .int .i64 a4.place, .int .i64 0, .string ⟨#[]⟩, .int .i64 0] 303)).heap[W4.heap.size + 1]? = some (.cells #[.string (strOfNums a1.text), .int .i64 a1.place, .string (strOfNums a4.name), .int .i64 a4.lists, .int .i64 a4.place, .int .i64 0, .string ⟨#[]⟩, .int .i64 0] 303) from by have := heap_alloc_new (W4.alloc (.cells #[.string (strOfNums a4.name), .int .i64 a4.lists, .int .i64 a4.place] 301)) (.cells #[.string (strOfNums a1.text), .int .i64 a1.place, .string (strOfNums a4.name), .int .i64 a4.lists, .int .i64 a4.place, .int .i64 0, .string ⟨#[]⟩, .int .i64 0] 303); rwa [World.size_alloc] at this)
        have HZ6 := Lib.hid (blk_alloc (blk_alloc HZ4.out (.cells #[.string (strOfNums a4.name), .int .i64 a4.lists, .int .i64 a4.place] 301)) (.cells #[.string (strOfNums a1.text), .int .i64 a1.place, .string (strOfNums a4.name), .int .i64 a4.lists, .int .i64 a4.place, .int .i64 0, .string ⟨#[]⟩, .int .i64 0] 303))
        have hFlt : w.heap.size < W4.heap.size + 1 := Nat.lt_succ_of_lt (blk_lt HZ4.out)
        clear HR4 HX4 HZ4 HL4 l0 l1 l2 hl4
        generalize hW6 : (W4.alloc (.cells #[.string (strOfNums a4.name), .int .i64 a4.lists, .int .i64 a4.place] 301)).alloc (.cells #[.string (strOfNums a1.text), .int .i64 a1.place, .string (strOfNums a4.name), .int .i64 a4.lists, .int .i64 a4.place, .int .i64 0, .string ⟨#[]⟩, .int .i64 0] 303) = W6 at *
        clear hW6
        generalize hBF : W4.heap.size + 1 = BF at *
        clear hBF
        generalize W4.heap.size = BT at *
        refine (sign_any _ R g c l r4 (0, 0) ⟨#[61]⟩ [61] (by kernel_rfl) HR6.out).mono ?_
        rintro e W7 ⟨rfl, hr7, hx7⟩
        have HX7 := Lib.hid (HX6.out.thenB (Nat.le_refl _) hx7)
        have HZ7 := Lib.hid (blk_exc HZ6.out hx7 (blk_lt HZ6.out) (by omega))
        have HF7 := Lib.hid (blk_exc HF6.out hx7 (blk_lt HF6.out) (by omega))
        have HR7 := Lib.hid hr7
        clear hr7 hx7 HR6 HX6 HZ6 HF6
        generalize isT 4 [61] r4 = b at *
        cases b
        · have HE7 := Lib.hid (HE4.out.trans (rfl : _ = field5 a1 a4 noTok r4))
          rw [if_neg (by decide)] at HR7
          clear HE4
          go_wp2_with fail
          have HRd := Lib.hid (HR7.out.keep ((Below.refl _ _).drew))
          have HXd := Lib.hid (Exc.drew HX7.out)
          have HZd := Lib.hid (show W7.drew.heap[w.heap.size]? = _ from HZ7.out)
          have HFd := Lib.hid (show W7.drew.heap[BF]? = _ from HF7.out)
          obtain ⟨hf7, ⟨f0, f1, f2, f3, f4, f5, f6, f7⟩, _⟩ := blk8 HFd.out
          clear HR7 HX7 HZ7 HF7
          go_region_with (go_at_call 208; refine (want_any _ R g c l r4 ⟨#[59]⟩ [59] (by kernel_rfl) HRd.out).mono ?_; rintro e WA ⟨rA, FA, okA, rfl, hrA, hxA, hsA⟩; have HRA := Lib.hid hrA; have HSA := Lib.hid hsA; have HXA := Lib.hid (HXd.out.thenB (Nat.le_refl _) hxA); have HZA := Lib.hid (blk_exc HZd.out hxA (blk_lt HZd.out) (by omega)); obtain ⟨hfA, ⟨k0, k1, k2, k3, k4, k5, k6, k7⟩, _⟩ := blk8 (blk_exc HFd.out hxA (blk_lt HFd.out) (by omega)); obtain ⟨hz, ⟨z0, z1, z2, z3, z4, z5, z6, z7⟩, y0, y1, y2, y3, y4, y5, y6, y7⟩ := blk8 HZA.out; clear hrA hxA hsA)
          all_goals
            go_wp2
            refine post_gen (End8 w R g c l rA FA 303 (.string (strOfNums a1.text)) (.int .i64 a1.place) (.string (strOfNums a4.name)) (.int .i64 a4.lists) (.int .i64 a4.place) (.int .i64 0) (.string ⟨#[]⟩) (.int .i64 0)) (end8 HZA.out HXA.out HRA.out hR hg _ _ _ _ _ _ _ _) ?_
            rintro Wf ⟨e1, e2, e3⟩
            obtain ⟨_, ⟨c0, c1, c2, c3, c4, c5, c6, c7⟩, _⟩ := blk8 e1
            exact bodyPost_ret (v := .tuple #[.agg #[.string (strOfNums a1.text), .int .i64 a1.place, .string (strOfNums a4.name), .int .i64 a4.lists, .int .i64 a4.place, .int .i64 0, .string ⟨#[]⟩, .int .i64 0], .bool okA]) (by simp [results, Tryz.results236, go_sem, c0, c1, c2, c3, c4, c5, c6, c7]) rfl (field_end (HE7.out) HSA.out e3 e2)
        · have HE7 := Lib.hid (HE4.out.trans (rfl : _ = (valueR r4.tail).bind fun d r5 => field5 a1 a4 d r5))
          rw [if_pos rfl] at HR7
          clear HE4
          go_wp2_with fail
          refine (value_any _ R g c l r4.tail HR7.out).mono ?_
          rintro e W8 ⟨a8, r8, F8, ok8, rfl, hr8, hx8, hs8⟩
          have HR8 := Lib.hid hr8
          have HX8 := Lib.hid (HX7.out.thenB (Nat.le_refl _) hx8)
          have HZ8 := Lib.hid (blk_exc HZ7.out hx8 (blk_lt HZ7.out) (by first | omega | (have := HX7.out.size; omega)))
          have HF8 := Lib.hid (blk_exc HF7.out hx8 (blk_lt HF7.out) (by first | omega | (have := HX7.out.size; omega)))
          have HS8 := Lib.hid hs8
          clear hr8 hx8 hs8 HR7 HX7 HZ7 HF7
          unfold tokV
          obtain ⟨hf8, ⟨f0, f1, f2, f3, f4, f5, f6, f7⟩, g0, g1, g2, g3, g4, g5, g6, g7⟩ := blk8 HF8.out
          generalize valueR r4.tail = q at *
          obtain ⟨a', q'⟩ | ⟨cc, pp⟩ := q
          · obtain ⟨rfl, rfl, rfl, rfl⟩ := HS8.out
            have HE8 := Lib.hid (HE7.out.trans (rfl : _ = field5 a1 a4 a8 r8))
            clear HS8 HE7
            skip
            go_wp2_with fail
            have HRf := Lib.hid (HR8.out.other (exc_set567 W8 BF (.int .i64 a8.kind) (.string (strOfNums a8.text)) (.int .i64 a8.place)) (by omega) (by omega))
            have HXf := Lib.hid (((HX8.out.set1 (Nat.le_of_lt hFlt) 5 (.int .i64 a8.kind)).set1 (Nat.le_of_lt hFlt) 6 (.string (strOfNums a8.text))).set1 (Nat.le_of_lt hFlt) 7 (.int .i64 a8.place))
            have HZf := Lib.hid (blk_exc HZ8.out (exc_set567 W8 BF (.int .i64 a8.kind) (.string (strOfNums a8.text)) (.int .i64 a8.place)) (blk_lt HZ8.out) (by omega))
            have HFf := Lib.hid (blk_set567 HF8.out (.int .i64 a8.kind) (.string (strOfNums a8.text)) (.int .i64 a8.place))
            clear HR8 HX8 HZ8 HF8 hf8 f0 f1 f2 f3 f4 f5 f6 f7 g0 g1 g2 g3 g4 g5 g6 g7
            generalize ((W8.setCell ⟨BF, 5, none⟩ (.int .i64 a8.kind)).setCell ⟨BF, 6, none⟩ (.string (strOfNums a8.text))).setCell ⟨BF, 7, none⟩ (.int .i64 a8.place) = W9 at *
            have HR9 := HRf
            have HX9 := HXf
            have HZ9 := HZf
            have HF9 := HFf
            clear HRf HXf HZf HFf
            have HE9 := Lib.hid HE8.out
            have HRd := Lib.hid (HR9.out.keep ((Below.refl _ _).drew))
            have HXd := Lib.hid (Exc.drew HX9.out)
            have HZd := Lib.hid (show W9.drew.heap[w.heap.size]? = _ from HZ9.out)
            have HFd := Lib.hid (show W9.drew.heap[BF]? = _ from HF9.out)
            obtain ⟨hf7, ⟨f0, f1, f2, f3, f4, f5, f6, f7⟩, _⟩ := blk8 HFd.out
            clear HR9 HX9 HZ9 HF9
            go_region_with (go_at_call 208; refine (want_any _ R g c l r8 ⟨#[59]⟩ [59] (by kernel_rfl) HRd.out).mono ?_; rintro e WA ⟨rA, FA, okA, rfl, hrA, hxA, hsA⟩; have HRA := Lib.hid hrA; have HSA := Lib.hid hsA; have HXA := Lib.hid (HXd.out.thenB (Nat.le_refl _) hxA); have HZA := Lib.hid (blk_exc HZd.out hxA (blk_lt HZd.out) (by omega)); obtain ⟨hfA, ⟨k0, k1, k2, k3, k4, k5, k6, k7⟩, _⟩ := blk8 (blk_exc HFd.out hxA (blk_lt HFd.out) (by omega)); obtain ⟨hz, ⟨z0, z1, z2, z3, z4, z5, z6, z7⟩, y0, y1, y2, y3, y4, y5, y6, y7⟩ := blk8 HZA.out; clear hrA hxA hsA)
            all_goals
              go_wp2
              refine post_gen (End8 w R g c l rA FA 303 (.string (strOfNums a1.text)) (.int .i64 a1.place) (.string (strOfNums a4.name)) (.int .i64 a4.lists) (.int .i64 a4.place) (.int .i64 a8.kind) (.string (strOfNums a8.text)) (.int .i64 a8.place)) (end8 HZA.out HXA.out HRA.out hR hg _ _ _ _ _ _ _ _) ?_
              rintro Wf ⟨e1, e2, e3⟩
              obtain ⟨_, ⟨c0, c1, c2, c3, c4, c5, c6, c7⟩, _⟩ := blk8 e1
              exact bodyPost_ret (v := .tuple #[.agg #[.string (strOfNums a1.text), .int .i64 a1.place, .string (strOfNums a4.name), .int .i64 a4.lists, .int .i64 a4.place, .int .i64 a8.kind, .string (strOfNums a8.text), .int .i64 a8.place], .bool okA]) (by simp [results, Tryz.results236, go_sem, c0, c1, c2, c3, c4, c5, c6, c7]) rfl (field_end (HE9.out) HSA.out e3 e2)
          · obtain ⟨rfl, rfl⟩ := HS8.out
            have HE := Lib.hid (HE7.out.trans (rfl : _ = Res.no cc pp))
            go_upto_region 11 with (fail)
            have HRf := Lib.hid (HR8.out.other (exc_set567 W8 BF (.int .i64 a8.kind) (.string (strOfNums a8.text)) (.int .i64 a8.place)) (by omega) (by omega))
            have HXf := Lib.hid (((HX8.out.set1 (Nat.le_of_lt hFlt) 5 (.int .i64 a8.kind)).set1 (Nat.le_of_lt hFlt) 6 (.string (strOfNums a8.text))).set1 (Nat.le_of_lt hFlt) 7 (.int .i64 a8.place))
            have HZf := Lib.hid (blk_exc HZ8.out (exc_set567 W8 BF (.int .i64 a8.kind) (.string (strOfNums a8.text)) (.int .i64 a8.place)) (blk_lt HZ8.out) (by omega))
            have HFf := Lib.hid (blk_set567 HF8.out (.int .i64 a8.kind) (.string (strOfNums a8.text)) (.int .i64 a8.place))
            clear HR8 HX8 HZ8 HF8 hf8 f0 f1 f2 f3 f4 f5 f6 f7 g0 g1 g2 g3 g4 g5 g6 g7
            generalize ((W8.setCell ⟨BF, 5, none⟩ (.int .i64 a8.kind)).setCell ⟨BF, 6, none⟩ (.string (strOfNums a8.text))).setCell ⟨BF, 7, none⟩ (.int .i64 a8.place) = W9 at *
            have HR8 := HRf
            have HX8 := HXf
            have HZ8 := HZf
            clear HRf HXf HZf HFf
            obtain ⟨hz, ⟨z0, z1, z2, z3, z4, z5, z6, z7⟩, y0, y1, y2, y3, y4, y5, y6, y7⟩ := blk8 HZ8.out
            go_wp2
            refine post_gen (End8 w R g c l r8 (cc, pp) 303 (.string ⟨#[]⟩) (.int .i64 0) (.string ⟨#[]⟩) (.int .i64 0) (.int .i64 0) (.int .i64 0) (.string ⟨#[]⟩) (.int .i64 0)) (end8 HZ8.out HX8.out HR8.out hR hg _ _ _ _ _ _ _ _) ?_
            rintro Wf ⟨f1, f2, f3⟩
            obtain ⟨_, ⟨c0, c1, c2, c3, c4, c5, c6, c7⟩, _⟩ := blk8 f1
            exact bodyPost_ret (v := .tuple #[.agg #[.string ⟨#[]⟩, .int .i64 0, .string ⟨#[]⟩, .int .i64 0, .int .i64 0, .int .i64 0, .string ⟨#[]⟩, .int .i64 0], .bool false]) (by simp [results, Tryz.results236, go_sem, c0, c1, c2, c3, c4, c5, c6, c7]) rfl ⟨noField, r8, _, false, rfl, f3, f2, by rw [HE.out]; exact ⟨rfl, rfl⟩⟩
      · obtain ⟨rfl, rfl⟩ := HS4.out
        have HE := Lib.hid (HE3.out.trans (rfl : _ = Res.no cc pp))
        go_upto_region 6 with (fail)
        have HRf := Lib.hid (HR4.out.alloc (.cells #[.string (strOfNums a4.name), .int .i64 a4.lists, .int .i64 a4.place] 301))
        have HXf := Lib.hid (HX4.out.alloc HX4.out.size (.cells #[.string (strOfNums a4.name), .int .i64 a4.lists, .int .i64 a4.place] 301))
        have HZf := Lib.hid (blk_alloc HZ4.out (.cells #[.string (strOfNums a4.name), .int .i64 a4.lists, .int .i64 a4.place] 301))
        clear HR4 HX4 HZ4
        generalize W4.alloc (.cells #[.string (strOfNums a4.name), .int .i64 a4.lists, .int .i64 a4.place] 301) = Wj at *
        have HR4 := HRf
        have HX4 := HXf
        have HZ4 := HZf
        obtain ⟨hz, ⟨z0, z1, z2, z3, z4, z5, z6, z7⟩, y0, y1, y2, y3, y4, y5, y6, y7⟩ := blk8 HZ4.out
        go_wp2
        refine post_gen (End8 w R g c l r4 (cc, pp) 303 (.string ⟨#[]⟩) (.int .i64 0) (.string ⟨#[]⟩) (.int .i64 0) (.int .i64 0) (.int .i64 0) (.string ⟨#[]⟩) (.int .i64 0)) (end8 HZ4.out HX4.out HR4.out hR hg _ _ _ _ _ _ _ _) ?_
        rintro Wf ⟨f1, f2, f3⟩
        obtain ⟨_, ⟨c0, c1, c2, c3, c4, c5, c6, c7⟩, _⟩ := blk8 f1
        exact bodyPost_ret (v := .tuple #[.agg #[.string ⟨#[]⟩, .int .i64 0, .string ⟨#[]⟩, .int .i64 0, .int .i64 0, .int .i64 0, .string ⟨#[]⟩, .int .i64 0], .bool false]) (by simp [results, Tryz.results236, go_sem, c0, c1, c2, c3, c4, c5, c6, c7]) rfl ⟨noField, r4, _, false, rfl, f3, f2, by rw [HE.out]; exact ⟨rfl, rfl⟩⟩
    · obtain ⟨rfl, rfl⟩ := HS3.out
      have HE := Lib.hid (HE1.out.trans (rfl : _ = Res.no cc pp))
      obtain ⟨hz, ⟨z0, z1, z2, z3, z4, z5, z6, z7⟩, y0, y1, y2, y3, y4, y5, y6, y7⟩ := blk8 HZ3.out
      go_wp2
      refine post_gen (End8 w R g c l r3 (cc, pp) 303 (.string ⟨#[]⟩) (.int .i64 0) (.string ⟨#[]⟩) (.int .i64 0) (.int .i64 0) (.int .i64 0) (.string ⟨#[]⟩) (.int .i64 0)) (end8 HZ3.out HX3.out HR3.out hR hg _ _ _ _ _ _ _ _) ?_
      rintro Wf ⟨f1, f2, f3⟩
      obtain ⟨_, ⟨c0, c1, c2, c3, c4, c5, c6, c7⟩, _⟩ := blk8 f1
      exact bodyPost_ret (v := .tuple #[.agg #[.string ⟨#[]⟩, .int .i64 0, .string ⟨#[]⟩, .int .i64 0, .int .i64 0, .int .i64 0, .string ⟨#[]⟩, .int .i64 0], .bool false]) (by simp [results, Tryz.results236, go_sem, c0, c1, c2, c3, c4, c5, c6, c7]) rfl ⟨noField, r3, _, false, rfl, f3, f2, by rw [HE.out]; exact ⟨rfl, rfl⟩⟩
  · obtain ⟨rfl, rfl⟩ := HS1.out
    have HE := Lib.hid (HE0.out.trans (rfl : _ = Res.no cc pp))
    go_upto_region 3 with (fail)
    have HRf := Lib.hid (HR1.out.alloc (.cells #[.int .i64 a1.kind, .string (strOfNums a1.text), .int .i64 a1.place] 282))
    have HXf := Lib.hid (HX1.out.alloc HX1.out.size (.cells #[.int .i64 a1.kind, .string (strOfNums a1.text), .int .i64 a1.place] 282))
    have HZf := Lib.hid (blk_alloc HZ1.out (.cells #[.int .i64 a1.kind, .string (strOfNums a1.text), .int .i64 a1.place] 282))
    clear HR1 HX1 HZ1
    generalize W1.alloc (.cells #[.int .i64 a1.kind, .string (strOfNums a1.text), .int .i64 a1.place] 282) = Wj at *
    have HR1 := HRf
    have HX1 := HXf
    have HZ1 := HZf
    obtain ⟨hz, ⟨z0, z1, z2, z3, z4, z5, z6, z7⟩, y0, y1, y2, y3, y4, y5, y6, y7⟩ := blk8 HZ1.out
    go_wp2
    refine post_gen (End8 w R g c l r1 (cc, pp) 303 (.string ⟨#[]⟩) (.int .i64 0) (.string ⟨#[]⟩) (.int .i64 0) (.int .i64 0) (.int .i64 0) (.string ⟨#[]⟩) (.int .i64 0)) (end8 HZ1.out HX1.out HR1.out hR hg _ _ _ _ _ _ _ _) ?_
    rintro Wf ⟨f1, f2, f3⟩
    obtain ⟨_, ⟨c0, c1, c2, c3, c4, c5, c6, c7⟩, _⟩ := blk8 f1
    exact bodyPost_ret (v := .tuple #[.agg #[.string ⟨#[]⟩, .int .i64 0, .string ⟨#[]⟩, .int .i64 0, .int .i64 0, .int .i64 0, .string ⟨#[]⟩, .int .i64 0], .bool false]) (by simp [results, Tryz.results236, go_sem, c0, c1, c2, c3, c4, c5, c6, c7]) rfl ⟨noField, r1, _, false, rfl, f3, f2, by rw [HE.out]; exact ⟨rfl, rfl⟩⟩
end Go.Proofs.YtgbcchiheddfpaaGreatDoor
namespace Go.Proofs.YtgbcchiheddfpaaGreatDoor
open Go.ChangeShapes Go.WideShapes Go.ChangeAt Go.RowKit Go.Shelf

theorem tail_len (b : Bool) (r : List Tok) : (if b = true then r.tail else r).length ≤ r.length := by
  split
  · rw [List.length_tail]; omega
  · exact Nat.le_refl _
section
variable {α : Type}
def StepPost (I : World → List α → List Tok → Prop) (J : World → Int × Nat → Prop) (x : Res α) (acc : List α) (e : Ending) (W : World) : Prop :=
  match x with
  | .ok a r => e = .returned (.bool true) ∧ I W (acc ++ [a]) r
  | .no c p => e = .returned (.bool false) ∧ J W (c, p)
def ListPost (I : World → List α → List Tok → Prop) (J : World → Int × Nat → Prop) (x : Res (List α)) (e : Ending) (W : World) : Prop :=
  match x with
  | .ok acc r => e = .returned (.bool true) ∧ I W acc r
  | .no c p => e = .returned (.bool false) ∧ J W (c, p)
def lenAt : Option Value → Nat
  | some (.slice _ n _) => n
  | _ => 0
structure Keeper (R g c : Nat) (l : List Tok) (gf : FuncId) (lb : Array Value) (I : World → List α → List Tok → Prop) (J : World → Int × Nat → Prop) (step : List Tok → Res α) : Prop where
  enters : ∀ args w, (callFunc gf args).run Tryz.prog w = .ok (.enter gf args) w
  rd : ∀ W acc r, I W acc r → Rd W R g c l r (0, 0)
  stay : ∀ W W' acc r r', I W acc r → Rd W' R g c l r' (0, 0) → Exc R W.heap.size W W' → r'.length ≤ r.length → I W' acc r'
  fails : ∀ W W' acc r r' F, I W acc r → Rd W' R g c l r' F → Exc R W.heap.size W W' → J W' F
  eats : ∀ r, Ends r → Eats r (step r)
  gives : ∀ W acc r, I W acc r → Calls Tryz.prog gf lb W (StepPost I J (step r) acc)
set_option maxHeartbeats 1000000 in
theorem braced_any {R g c : Nat} {l : List Tok} {gf : FuncId} {lb : Array Value} {I : World → List α → List Tok → Prop} {J : World → Int × Nat → Prop} {step : List Tok → Res α} (L : List α → List Tok → Res (List α))
    (hL : ∀ acc r, Ends r → L acc r = if isT 4 [125] r = true then .ok acc r.tail else (step r).bind fun x r' => L (acc ++ [x]) r')
    (hK : Keeper R g c l gf lb I J step) (acc : List α) (r : List Tok) (w : World) (h : I w acc r) :
    Calls Tryz.prog 234 #[.pointer (some ⟨R, 0, none⟩), .func (.func gf) #[] lb] w (ListPost I J ((wantR [123] r).bind fun _ r2 => L acc r2)) := by
  have HI := Lib.hid h
  have e1 := hK.enters
  have HK := Lib.hid hK
  have HL := Lib.hid hL
  obtain ⟨T, hT⟩ : ∃ T, ((wantR [123] r).bind fun _ r2 => L acc r2) = T := ⟨_, rfl⟩
  rw [hT]
  have HT := Lib.hid hT
  clear h hK hL hT
  go_enter Tryz.func234, Tryz.ntmps234
  go_wp2_with fail
  refine (want_any _ R g c l r ⟨#[123]⟩ [123] (by kernel_rfl) (HK.out.rd _ _ _ HI.out)).mono ?_
  rintro e W1 ⟨r1, F1, ok1, rfl, hr1, hx1, hs1⟩
  have HR1 := Lib.hid hr1
  have HX1 := Lib.hid hx1
  have HS1 := Lib.hid hs1
  have HEAT := Lib.hid (want_eats (s := [123]) (HK.out.rd _ _ _ HI.out).ends)
  clear hr1 hx1 hs1
  generalize wantR [123] r = q at *
  obtain ⟨a', r'⟩ | ⟨cc, pp⟩ := q
  · obtain ⟨rfl, _, rfl, rfl⟩ := HS1.out
    have HT1 := Lib.hid (HT.out.symm.trans (bind_ok _ _ _))
    have HI1 := Lib.hid (HK.out.stay _ _ _ _ _ HI.out HR1.out HX1.out (Nat.le_of_lt (HEAT.out _ _ rfl).2))
    clear HI HR1 HX1 HEAT
    go_wp2
    go_loopw [] (fun wr => ∃ acc2 r2, I wr acc2 r2 ∧ L acc r1 = L acc2 r2) (fun wr => lenAt (wr.cell? ⟨R, 0, none⟩))
    case atStart => exact ⟨acc, r1, HI1.out, rfl⟩
    case round =>
      obtain ⟨acc2, r2, hi2, he2⟩ := hrel
      have hend := (HK.out.rd _ _ _ hi2).ends
      have HE2 := Lib.hid (he2.trans (HL.out acc2 r2 hend))
      have HI2 := Lib.hid hi2
      have HM := Lib.hid (show lenAt (wr.cell? ⟨R, 0, none⟩) = r2.length by rw [(HK.out.rd _ _ _ hi2).cells3.1]; rfl)
      have HEND := Lib.hid hend
      clear hi2 he2 hend
      go_wp2_with fail
      refine (sign_any _ R g c l r2 (0, 0) ⟨#[125]⟩ [125] (by kernel_rfl) (HK.out.rd _ _ _ HI2.out)).mono ?_
      rintro e W3 ⟨rfl, hr3, hx3⟩
      have HI3 := Lib.hid (HK.out.stay _ _ _ _ _ HI2.out hr3 hx3 (tail_len _ _))
      clear hr3 hx3
      generalize isT 4 [125] r2 = b at *
      cases b
      · have HE3 := Lib.hid (HE2.out.trans (if_neg (by decide)))
        rw [if_neg (by decide)] at HI3
        clear HE2
        have HG := Lib.hid (HK.out.gives _ _ _ HI3.out)
        go_wp2_with fail
        refine HG.out.mono ?_
        rintro e W4 hp
        have HP := Lib.hid hp
        have HEA := Lib.hid (HK.out.eats r2 HEND.out)
        clear hp
        generalize step r2 = q at *
        obtain ⟨a4, r4⟩ | ⟨cc, pp⟩ := q
        · obtain ⟨rfl, hi4⟩ := HP.out
          have HI4 := Lib.hid hi4
          have HE4 := Lib.hid (HE3.out.trans (bind_ok _ _ _))
          have HLT := Lib.hid (HEA.out a4 r4 rfl).2
          have HM4 := Lib.hid (show lenAt (W4.cell? ⟨R, 0, none⟩) = r4.length by rw [(HK.out.rd _ _ _ hi4).cells3.1]; rfl)
          clear hi4
          go_wp2
          go_roundw
          case rel => exact ⟨acc2 ++ [a4], r4, HI4.out, HE4.out⟩
          case measure => rw [HM4.out, HM.out]; exact HLT.out
        · obtain ⟨rfl, hi4⟩ := HP.out
          have HI4 := Lib.hid hi4
          have HE4 := Lib.hid (HE3.out.trans (bind_no _ _ _))
          clear hi4
          go_wp2
          go_ret
          rw [HT1.out, HE4.out]
          exact ⟨rfl, HI4.out⟩
      · have HE3 := Lib.hid (HE2.out.trans (if_pos rfl))
        rw [if_pos rfl] at HI3
        clear HE2
        go_wp2
        go_ret
        rw [HT1.out, HE3.out]
        exact ⟨rfl, HI3.out⟩
  · obtain ⟨rfl, rfl⟩ := HS1.out
    have HT1 := Lib.hid (HT.out.symm.trans (bind_no _ _ _))
    go_wp2
    go_ret
    rw [HT1.out]
    exact ⟨rfl, HK.out.fails _ _ _ _ _ _ HI.out HR1.out HX1.out⟩
end
end Go.Proofs.YtgbcchiheddfpaaGreatDoor
