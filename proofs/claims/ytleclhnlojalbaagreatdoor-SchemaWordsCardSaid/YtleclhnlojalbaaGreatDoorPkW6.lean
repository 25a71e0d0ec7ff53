/-
  The reader of the package idl: a field as it is written. Conditions: those that each theorem names.
-/
import Derived.Test.YtleclhnlojalbaaGreatDoorPkW5
import Derived.Deep.Cut
import Derived.Deep.RegionWith
namespace Go.Proofs.YtleclhnlojalbaaGreatDoor
open Go.ChangeShapes Go.WideShapes Go.ChangeAt Go.RowKit Go.Shelf

def tyV (t : RTy) : Value := .agg #[.string (strOfNums t.name), .int .i64 t.lists, .int .i64 t.place]
def numOf : Option Value → Nat
  | some (.int _ n) => n.toNat
  | _ => 0
def tyEnd (p n : Nat) (r : List Tok) : Res RTy := (nameR r).bind fun t r2 => (closeR n r2).bind fun _ r3 => .ok ⟨t.text, n, p⟩ r3
def TyAt (R g c : Nat) (l r : List Tok) (w : World) (T : Nat) (wr : World) : Prop :=
  ∃ (n : Nat) (r1 : List Tok), n ≤ 3 ∧ Rd wr R g c l r1 (0, 0) ∧ wr.heap[T]? = some (.cells #[.string ByteArray.empty, .int .i64 n, .int .i64 (hd r).place] 133 (0, 0)) ∧
    wr.heap[w.heap.size]? = some (.cells #[.string ByteArray.empty, .int .i64 0, .int .i64 0] 133 (0, 0)) ∧ Exc R w.heap.size w wr ∧ tyR r = (listsR (3 - n) n r1).bind (tyEnd (hd r).place)
theorem lists_step {n : Nat} {r : List Tok} (hn : n < 3) (h : isT 1 wList r = true) : listsR (3 - n) n r = (wantR [60] r.tail).bind fun _ r' => listsR (3 - (n + 1)) (n + 1) r' := by
  rw [show 3 - n = (3 - (n + 1)) + 1 by omega]
  conv => lhs; unfold listsR
  rw [if_pos h]
theorem lists_stop {n f : Nat} {r : List Tok} (h : isT 1 wList r = false) : listsR f n r = .ok n r := by
  unfold listsR
  rw [if_neg (by rw [h]; decide)]
theorem lists_many {r : List Tok} (h : isT 1 wList r = true) : listsR (3 - 3) 3 r = .no 16 (hd r).place := by
  unfold listsR
  rw [if_pos h]
  rfl
theorem close_step {n k : Nat} {r : List Tok} (h : k < n) : closeR (n - k) r = (wantR [62] r).bind fun _ r' => closeR (n - (k + 1)) r' := by
  rw [show n - k = (n - (k + 1)) + 1 by omega]
  rfl
def CloseAt (R g c : Nat) (l : List Tok) (w : World) (T n : Nat) (x p : Value) (r0 : List Tok) (i : Value) (wr : World) : Prop :=
  ∃ (k : Nat) (r1 : List Tok), i = .int .i64 k ∧ k ≤ n ∧ Rd wr R g c l r1 (0, 0) ∧ wr.heap[T]? = some (.cells #[x, .int .i64 n, p] 133 (0, 0)) ∧
    wr.heap[w.heap.size]? = some (.cells #[.string ByteArray.empty, .int .i64 0, .int .i64 0] 133 (0, 0)) ∧ Exc R w.heap.size w wr ∧ closeR n r0 = closeR (n - k) r1
set_option maxRecDepth 100000 in
set_option maxHeartbeats 2000000 in
theorem written_any (w : World) (R g c : Nat) (l r : List Tok) (h : Rd w R g c l r (0, 0)) :
    Calls Tryz.prog 165 #[.pointer (some ⟨R, 0, none⟩)] w (PostR tyV R g c l w (tyR r)) := by
  have HB0 := Lib.hid (heap_alloc_new w (.cells #[.string ByteArray.empty, .int .i64 0, .int .i64 0] 133))
  have hbA : Below w.heap.size w (w.alloc (.cells #[.string ByteArray.empty, .int .i64 0, .int .i64 0] 133)) := (Below.refl _ _).alloc (Nat.le_refl _) _
  have HBA := Lib.hid hbA
  have HD := Lib.hid (h.keep hbA)
  have HH := Lib.hid (here_any _ R g c l r (0, 0) HD.out)
  have hR := blk_lt h.blk
  have hg := h.glt
  have hf := fld2
  clear h hbA
  unfold tokV at HH
  go_enter Tryz.func165, Tryz.ntmps165
  go_wp2_with fail
  refine HH.out.mono ?_
  rintro e W1 ⟨rfl, hb1⟩
  have HB1 := Lib.hid (HBA.out.trans (hb1.mono HBA.out.size))
  have HD1 := Lib.hid (HD.out.keep hb1)
  have HZ1 := Lib.hid (blk_below HB0.out hb1 (by simp))
  have hT : w.heap.size < W1.heap.size := blk_lt HZ1.out
  clear hb1
  go_wp2_with fail
  have hbT : Below W1.heap.size W1 (W1.alloc (.cells #[.string ⟨#[]⟩, .int .i64 0, .int .i64 (hd r).place] 133)) := (Below.refl _ _).alloc (Nat.le_refl _) _
  have HRD := Lib.hid (HD1.out.keep hbT)
  have HX := Lib.hid ((Exc.of_below (R := R) HB1.out).thenB (Nat.le_refl _) (.of_below hbT))
  have HZ := Lib.hid (blk_below HZ1.out hbT hT)
  have HT := Lib.hid (heap_alloc_new W1 (.cells #[.string ⟨#[]⟩, .int .i64 0, .int .i64 (hd r).place] 133))
  have HTY : Hid (tyR r = (listsR (3 - 0) 0 r).bind (tyEnd (hd r).place)) := Lib.hid rfl
  clear hbT hf HH HD HD1 HB0 HBA HB1 HZ1
  generalize (W1.alloc (.cells #[.string ⟨#[]⟩, .int .i64 0, .int .i64 (hd r).place] 133)) = W2 at *
  generalize W1.heap.size = T at *
  go_loopw [] (fun wr => TyAt R g c l r w T wr) (fun wr => 3 - numOf (wr.cell? ⟨T, 1, none⟩))
  case atStart => exact ⟨0, r, by decide, HRD.out, HT.out, HZ.out, HX.out, HTY.out⟩
  case round =>
    clear HRD HX HZ HT HTY
    obtain ⟨n, r1, hn, hrd, ht, hz, hx, heq⟩ := hrel
    have HRD := Lib.hid hrd
    have HT := Lib.hid ht
    have HTm := Lib.hid ht
    have HZ := Lib.hid hz
    have HX := Lib.hid hx
    have HEQ := Lib.hid heq
    clear hrd ht hz hx heq
    go_wp2_with fail
    refine (rdStands_any _ R g c l r1 (0, 0) 1 ⟨#[108, 105, 115, 116]⟩ wList (by kernel_rfl) HRD.out).mono ?_
    rintro e W3 ⟨rfl, hb3⟩
    have HR3 := Lib.hid (HRD.out.keep hb3)
    have HT3 := Lib.hid (blk_below HT.out hb3 (blk_lt HT.out))
    have HZ3 := Lib.hid (blk_below HZ.out hb3 (blk_lt HZ.out))
    have HX3 := Lib.hid (HX.out.bel (Nat.le_refl _) hb3)
    clear hb3 HRD HT HZ HX
    generalize hi : isT 1 wList r1 = b
    have HI := Lib.hid hi
    clear hi
    cases b
    · have HE := Lib.hid (HEQ.out.trans (by rw [lists_stop HI.out]; rfl : _ = tyEnd (hd r).place n r1))
      clear HEQ
      go_wp2_with fail
      refine (name_any _ R g c l r1 HR3.out).mono ?_
      rintro e W4 ⟨a, r4, F4, ok4, rfl, hr4, hx4, hs4⟩
      have HR4 := Lib.hid hr4
      have HX4 := Lib.hid (HX3.out.thenB (Nat.le_refl _) hx4)
      have HZ4 := Lib.hid (blk_exc HZ3.out hx4 (blk_lt HZ3.out) (by omega))
      have HT4 := Lib.hid (blk_exc HT3.out hx4 (blk_lt HT3.out) (by omega))
      have HS4 := Lib.hid hs4
      clear hr4 hx4 hs4 HR3 HX3 HZ3 HT3
      unfold tokV
      generalize hq : nameR r1 = q at *
      have HQ := Lib.hid hq
      clear hq
      obtain ⟨a', r4'⟩ | ⟨cc, pp⟩ := q
      · obtain ⟨rfl, rfl, rfl, rfl⟩ := HS4.out
        have HE2 := Lib.hid (HE.out.trans (by unfold tyEnd; rw [HQ.out]; rfl : _ = (closeR n r4).bind fun _ r3 => .ok ⟨a.text, n, (hd r).place⟩ r3))
        clear HS4 HQ HE
        obtain ⟨hT', t0, t1, t2, u0, u1, u2⟩ := blk3 HT4.out
        go_wp2_with fail
        go_loopw [42] (fun i wr => CloseAt R g c l w T n (.string (strOfNums a.text)) (.int .i64 (hd r).place) r4 i wr) (fun i _ => n - (intOf i).toNat)
        case atStart => exact ⟨0, r4, rfl, Nat.zero_le _, (HR4.out.set1 (by omega) (by omega) _ _).alloc _, blk_alloc ((blk_set HT4.out 0 _).trans rfl) _, blk_alloc (blk_set_ne HZ4.out (by simp only; omega) _) _, (HX4.out.set1 (by omega) _ _).alloc (by simp [World.setCell]; omega) _, rfl⟩
        case round =>
          clear t0 t1 t2 u0 u1 u2 HR4 HX4 HZ4 HT4
          obtain ⟨k, r5, rfl, hk, hr5, ht5, hz5, hx5, he5⟩ := hrel
          have HR5 := Lib.hid hr5
          have HT5 := Lib.hid ht5
          have HZ5 := Lib.hid hz5
          have HX5 := Lib.hid hx5
          have HE5 := Lib.hid he5
          clear hr5 ht5 hz5 hx5 he5
          by_cases hkn : k < n
          · have HE6 := Lib.hid (HE5.out.trans (close_step hkn))
            clear HE5
            go_wp2_with fail
            refine (want_any _ R g c l r5 ⟨#[62]⟩ [62] (by kernel_rfl) HR5.out).mono ?_
            rintro e W6 ⟨r6, F6, ok6, rfl, hr6, hx6, hs6⟩
            have HR6 := Lib.hid hr6
            have HX6 := Lib.hid (HX5.out.thenB (Nat.le_refl _) hx6)
            have HZ6 := Lib.hid (blk_exc HZ5.out hx6 (blk_lt HZ5.out) (by omega))
            have HT6 := Lib.hid (blk_exc HT5.out hx6 (blk_lt HT5.out) (by omega))
            have HS6 := Lib.hid hs6
            clear hr6 hx6 hs6 HR5 HX5 HZ5 HT5
            generalize wantR [62] r5 = q at *
            obtain ⟨a', r6'⟩ | ⟨cc, pp⟩ := q
            · obtain ⟨rfl, _, rfl, rfl⟩ := HS6.out
              have HE7 := Lib.hid (HE6.out.trans (rfl : _ = closeR (n - (k + 1)) r6))
              go_wp2
              go_roundw
              case rel => exact ⟨k + 1, r6, by go_num, hkn, HR6.out, HT6.out, HZ6.out, HX6.out, HE7.out⟩
              case measure => simp [intOf]; omega
            · obtain ⟨rfl, rfl⟩ := HS6.out
              have HE7 := Lib.hid (HE2.out.trans (by rw [HE6.out]; rfl : _ = Res.no cc pp))
              obtain ⟨hz, z0, z1, z2, y0, y1, y2⟩ := blk3 HZ6.out
              go_wp2
              refine post_gen (End3 w R g c l r6 (cc, pp) 133 (.string ⟨#[]⟩) (.int .i64 0) (.int .i64 0)) (end3 HZ6.out HX6.out HR6.out hR hg _ _ _) ?_
              rintro Wf ⟨f1, f2, f3⟩
              obtain ⟨_, c0, c1, c2, _⟩ := blk3 f1
              exact bodyPost_ret (v := .tuple #[.agg #[.string ⟨#[]⟩, .int .i64 0, .int .i64 0], .bool false]) (by simp [results, Tryz.results165, go_sem, c0, c1, c2]) rfl ⟨noTy, r6, _, false, rfl, f3, f2, by rw [HE7.out]; exact ⟨rfl, rfl⟩⟩
          · obtain rfl : k = n := by omega
            have HE6 := Lib.hid (HE2.out.trans (by rw [HE5.out, Nat.sub_self]; rfl : _ = Res.ok ⟨a.text, k, (hd r).place⟩ r5))
            obtain ⟨hT5, t0, t1, t2, u0, u1, u2⟩ := blk3 HT5.out
            obtain ⟨hz, z0, z1, z2, y0, y1, y2⟩ := blk3 HZ5.out
            go_wp2
            refine post_gen (End3 w R g c l r5 (0, 0) 133 (.string (strOfNums a.text)) (.int .i64 k) (.int .i64 (hd r).place)) (end3 HZ5.out HX5.out HR5.out hR hg _ _ _) ?_
            rintro Wf ⟨f1, f2, f3⟩
            obtain ⟨_, c0, c1, c2, _⟩ := blk3 f1
            exact bodyPost_ret (v := .tuple #[.agg #[.string (strOfNums a.text), .int .i64 k, .int .i64 (hd r).place], .bool true]) (by simp [results, Tryz.results165, go_sem, c0, c1, c2]) rfl ⟨⟨a.text, k, (hd r).place⟩, r5, _, true, rfl, f3, f2, by rw [HE6.out]; exact ⟨rfl, rfl, rfl, rfl⟩⟩
      · obtain ⟨rfl, rfl⟩ := HS4.out
        have HE2 := Lib.hid (HE.out.trans (by unfold tyEnd; rw [HQ.out]; rfl : _ = .no cc pp))
        clear HS4 HQ HE
        obtain ⟨hz, z0, z1, z2, y0, y1, y2⟩ := blk3 HZ4.out
        go_wp2
        refine post_gen (End3 w R g c l r4 (cc, pp) 133 (.string ⟨#[]⟩) (.int .i64 0) (.int .i64 0)) (end3a (end3 HZ4.out HX4.out HR4.out hR hg _ _ _) _) ?_
        rintro Wf ⟨f1, f2, f3⟩
        obtain ⟨_, c0, c1, c2, _⟩ := blk3 f1
        exact bodyPost_ret (v := .tuple #[.agg #[.string ⟨#[]⟩, .int .i64 0, .int .i64 0], .bool false]) (by simp [results, Tryz.results165, go_sem, c0, c1, c2]) rfl ⟨noTy, r4, _, false, rfl, f3, f2, by rw [HE2.out]; exact ⟨rfl, rfl⟩⟩
    · have HK := Lib.hid (show (hd r1).kind ≠ 0 by rw [(isT_kind HI.out).1]; decide)
      by_cases h3 : n = 3
      · subst h3
        have HE := Lib.hid (HEQ.out.trans (by rw [lists_many HI.out]; rfl : _ = .no 16 (hd r1).place))
        obtain ⟨hT', t0, t1, t2, u0, u1, u2⟩ := blk3 HT3.out
        go_wp2_with fail
        refine (refuse_any _ R g c l r1 (0, 0) 16 HR3.out).mono ?_
        rintro e W4 ⟨rfl, hr4, hx4⟩
        have HR4 := Lib.hid hr4
        have HX4 := Lib.hid (HX3.out.thenB (Nat.le_refl _) hx4)
        have HZ4 := Lib.hid (blk_exc HZ3.out hx4 (blk_lt HZ3.out) (by omega))
        obtain ⟨hz, z0, z1, z2, y0, y1, y2⟩ := blk3 HZ4.out
        clear hr4 hx4 t0 t1 t2 u0 u1 u2
        go_wp2
        refine post_gen (End3 w R g c l r1 (16, (hd r1).place) 133 (.string ⟨#[]⟩) (.int .i64 0) (.int .i64 0)) (end3 HZ4.out HX4.out HR4.out hR hg _ _ _) ?_
        rintro Wf ⟨f1, f2, f3⟩
        obtain ⟨_, c0, c1, c2, _⟩ := blk3 f1
        exact bodyPost_ret (v := .tuple #[.agg #[.string ⟨#[]⟩, .int .i64 0, .int .i64 0], .bool false]) (by simp [results, Tryz.results165, go_sem, c0, c1, c2]) rfl ⟨noTy, r1, _, false, rfl, f3, f2, by rw [HE.out]; exact ⟨rfl, rfl⟩⟩
      · have t3 : ((n : Int) == 3) = false := by simp; omega
        have HE := Lib.hid (HEQ.out.trans (by rw [lists_step (by omega) HI.out]))
        clear HEQ
        obtain ⟨hT', t0, t1, t2, u0, u1, u2⟩ := blk3 HT3.out
        go_wp2_with fail
        refine (take_any _ R g c l r1 (0, 0) HR3.out HK.out).mono ?_
        rintro e W4 ⟨rfl, hr4, hx4⟩
        have HR4 := Lib.hid hr4
        have HX4 := Lib.hid (HX3.out.thenB (Nat.le_refl _) hx4)
        have HZ4 := Lib.hid (blk_exc HZ3.out hx4 (blk_lt HZ3.out) (by omega))
        have HT4 := Lib.hid (blk_exc HT3.out hx4 (blk_lt HT3.out) (by omega))
        clear hr4 hx4 t0 t1 t2 u0 u1 u2 HR3 HX3 HZ3 HT3
        go_wp2_with fail
        refine (want_any _ R g c l r1.tail ⟨#[60]⟩ [60] (by kernel_rfl) HR4.out).mono ?_
        rintro e W5 ⟨r5, F5, ok5, rfl, hr5, hx5, hs5⟩
        have HR5 := Lib.hid hr5
        have HX5 := Lib.hid (HX4.out.thenB (Nat.le_refl _) hx5)
        have HZ5 := Lib.hid (blk_exc HZ4.out hx5 (blk_lt HZ4.out) (by omega))
        have HT5 := Lib.hid (blk_exc HT4.out hx5 (blk_lt HT4.out) (by omega))
        have HS5 := Lib.hid hs5
        clear hr5 hx5 hs5 HR4 HX4 HZ4 HT4
        generalize hq : wantR [60] r1.tail = q at *
        have HQ := Lib.hid hq
        clear hq
        obtain ⟨a', r5'⟩ | ⟨cc, pp⟩ := q
        · obtain ⟨rfl, _, rfl, rfl⟩ := HS5.out
          have HE2 := Lib.hid (HE.out.trans (rfl : _ = (listsR (3 - (n + 1)) (n + 1) r5).bind (tyEnd (hd r).place)))
          obtain ⟨hT', t0, t1, t2, u0, u1, u2⟩ := blk3 HT5.out
          go_wp2
          go_roundw
          case rel => exact ⟨n + 1, r5, by omega, HR5.out.set1 (by omega) (by omega) _ _, (blk_set HT5.out 1 _).trans rfl, blk_set_ne HZ5.out (by simp only; omega) _, HX5.out.set1 (by omega) _ _, HE2.out⟩
          case measure => rw [blk_cell (blk_set HT5.out 1 _), blk_cell HTm.out]; simp [numOf]; omega
        · obtain ⟨rfl, rfl⟩ := HS5.out
          have HE2 := Lib.hid (HE.out.trans (rfl : _ = Res.no cc pp))
          obtain ⟨hz, z0, z1, z2, y0, y1, y2⟩ := blk3 HZ5.out
          go_wp2
          refine post_gen (End3 w R g c l r5 (cc, pp) 133 (.string ⟨#[]⟩) (.int .i64 0) (.int .i64 0)) (end3 HZ5.out HX5.out HR5.out hR hg _ _ _) ?_
          rintro Wf ⟨f1, f2, f3⟩
          obtain ⟨_, c0, c1, c2, _⟩ := blk3 f1
          exact bodyPost_ret (v := .tuple #[.agg #[.string ⟨#[]⟩, .int .i64 0, .int .i64 0], .bool false]) (by simp [results, Tryz.results165, go_sem, c0, c1, c2]) rfl ⟨noTy, r5, _, false, rfl, f3, f2, by rw [HE2.out]; exact ⟨rfl, rfl⟩⟩
end Go.Proofs.YtleclhnlojalbaaGreatDoor
namespace Go.Proofs.YtleclhnlojalbaaGreatDoor
open Go.ChangeShapes Go.WideShapes Go.ChangeAt Go.RowKit Go.Shelf

def fieldV (f : RField) : Value := .agg #[.string (strOfNums f.name), .int .i64 f.place, .string (strOfNums f.ty.name), .int .i64 f.ty.lists, .int .i64 f.ty.place, .int .i64 f.dflt.kind, .string (strOfNums f.dflt.text), .int .i64 f.dflt.place]
def field2 (t : Tok) (r : List Tok) : Res RField := (wantR [58] r).bind fun _ r2 => (tyR r2).bind fun ty r3 => (dfltR r3).bind fun d r4 => (wantR [59] r4).bind fun _ r5 => .ok ⟨t.text, t.place, ty, d⟩ r5
def field3 (t : Tok) (r : List Tok) : Res RField := (tyR r).bind fun ty r3 => (dfltR r3).bind fun d r4 => (wantR [59] r4).bind fun _ r5 => .ok ⟨t.text, t.place, ty, d⟩ r5
def field4 (t : Tok) (ty : RTy) (r : List Tok) : Res RField := (dfltR r).bind fun d r4 => (wantR [59] r4).bind fun _ r5 => .ok ⟨t.text, t.place, ty, d⟩ r5
def field5 (t : Tok) (ty : RTy) (d : Tok) (r : List Tok) : Res RField := (wantR [59] r).bind fun _ r5 => .ok ⟨t.text, t.place, ty, d⟩ r5
theorem exc_set567 (w : World) (g : Nat) (x y z : Value) : Exc g w.heap.size w (((w.setCell ⟨g, 5, none⟩ x).setCell ⟨g, 6, none⟩ y).setCell ⟨g, 7, none⟩ z) :=
  ((exc_set w g 5 x).setCell (p := ⟨g, 6, none⟩) (.inl rfl) y).setCell (p := ⟨g, 7, none⟩) (.inl rfl) z
theorem blk_set567 {w : World} {g : Nat} {a b c d e f g' h : Value} {t : TypeId} (hb : w.heap[g]? = some (.cells #[a, b, c, d, e, f, g', h] t (0, 0))) (x y z : Value) :
    (((w.setCell ⟨g, 5, none⟩ x).setCell ⟨g, 6, none⟩ y).setCell ⟨g, 7, none⟩ z).heap[g]? = some (.cells #[a, b, c, d, e, x, y, z] t (0, 0)) := by
  have k0 : (w.setCell ⟨g, 5, none⟩ x).heap[g]? = some (.cells #[a, b, c, d, e, x, g', h] t (0, 0)) := (blk_set hb 5 x).trans rfl
  have k1 : ((w.setCell ⟨g, 5, none⟩ x).setCell ⟨g, 6, none⟩ y).heap[g]? = some (.cells #[a, b, c, d, e, x, y, h] t (0, 0)) := (blk_set k0 6 y).trans rfl
  exact (blk_set k1 7 z).trans rfl
theorem field_end {w W : World} {R g c : Nat} {l r r9 : List Tok} {F : Int × Nat} {ok : Bool} {t d : Tok} {ty : RTy} {x : Res RField} (hx : x = field5 t ty d r) (hs : Says (wantR [59] r) () r9 F ok) (hr : Rd W R g c l r9 F) (he : Exc R w.heap.size w W) :
    PostR fieldV R g c l w x (.returned (.tuple #[fieldV ⟨t.text, t.place, ty, d⟩, .bool ok])) W := by
  refine ⟨⟨t.text, t.place, ty, d⟩, r9, F, ok, rfl, hr, he, ?_⟩
  rw [hx]
  unfold field5
  generalize wantR [59] r = q at *
  obtain ⟨a, r'⟩ | ⟨cc, pp⟩ := q
  · obtain ⟨h1, _, h3, h4⟩ := hs
    exact ⟨h1, rfl, h3, h4⟩
  · exact hs
set_option maxRecDepth 100000 in
set_option maxHeartbeats 4000000 in
theorem field_any (w : World) (R g c : Nat) (l r : List Tok) (h : Rd w R g c l r (0, 0)) :
    Calls Tryz.prog 149 #[.pointer (some ⟨R, 0, none⟩)] w (PostR fieldV R g c l w (fieldR r)) := by
  have hR := blk_lt h.blk
  have hg := h.glt
  have hbA : Below w.heap.size w (w.alloc (.cells #[.string ⟨#[]⟩, .int .i64 0, .string ⟨#[]⟩, .int .i64 0, .int .i64 0, .int .i64 0, .string ⟨#[]⟩, .int .i64 0] 135)) := (Below.refl _ _).alloc (Nat.le_refl _) _
  have HX0 := Lib.hid (Exc.of_below (R := R) hbA)
  have HZ0 := Lib.hid (heap_alloc_new w (.cells #[.string ⟨#[]⟩, .int .i64 0, .string ⟨#[]⟩, .int .i64 0, .int .i64 0, .int .i64 0, .string ⟨#[]⟩, .int .i64 0] 135))
  have HR0 := Lib.hid (h.keep hbA)
  have HE0 : Hid (fieldR r = (labelR r).bind field2) := Lib.hid rfl
  clear h hbA
  go_enter Tryz.func149, Tryz.ntmps149
  go_wp2_with fail
  refine (label_any _ R g c l r HR0.out).mono ?_
  rintro e W1 ⟨a1, r1, F1, ok1, rfl, hr1, hx1, hs1⟩
  have HR1 := Lib.hid hr1
  have HX1 := Lib.hid (HX0.out.thenB (Nat.le_refl _) hx1)
  have HZ1 := Lib.hid (blk_exc HZ0.out hx1 (blk_lt HZ0.out) (by first | omega | (have := HX0.out.size; omega)))
  have HS1 := Lib.hid hs1
  clear hr1 hx1 hs1 HR0 HX0 HZ0
  unfold tokV
  generalize labelR r = q at *
  obtain ⟨a', q'⟩ | ⟨cc, pp⟩ := q
  · obtain ⟨rfl, rfl, rfl, rfl⟩ := HS1.out
    have HE1 := Lib.hid (HE0.out.trans (rfl : _ = (wantR [58] r1).bind fun _ r2 => field3 a1 r2))
    clear HS1 HE0
    go_wp2_with fail
    have HR2 := Lib.hid (HR1.out.alloc (.cells #[.int .i64 a1.kind, .string (strOfNums a1.text), .int .i64 a1.place] 109))
    have HX2 := Lib.hid (HX1.out.alloc HX1.out.size (.cells #[.int .i64 a1.kind, .string (strOfNums a1.text), .int .i64 a1.place] 109))
    have HL2 := Lib.hid (heap_alloc_new W1 (.cells #[.int .i64 a1.kind, .string (strOfNums a1.text), .int .i64 a1.place] 109))
    have HZ2 := Lib.hid (blk_alloc HZ1.out (.cells #[.int .i64 a1.kind, .string (strOfNums a1.text), .int .i64 a1.place] 109))
    have hLlt : w.heap.size < W1.heap.size := blk_lt HZ1.out
    clear HR1 HX1 HZ1
    generalize hW2 : W1.alloc (.cells #[.int .i64 a1.kind, .string (strOfNums a1.text), .int .i64 a1.place] 109) = W2 at *
    clear hW2
    generalize hBL : W1.heap.size = BL at *
    clear hBL
    refine (want_any _ R g c l r1 ⟨#[58]⟩ [58] (by kernel_rfl) HR2.out).mono ?_
    rintro e W3 ⟨r3, F3, ok3, rfl, hr3, hx3, hs3⟩
    have HR3 := Lib.hid hr3
    have HX3 := Lib.hid (HX2.out.thenB (Nat.le_refl _) hx3)
    have HZ3 := Lib.hid (blk_exc HZ2.out hx3 (blk_lt HZ2.out) (by first | omega | (have := HX2.out.size; omega)))
    have HL3 := Lib.hid (blk_exc HL2.out hx3 (blk_lt HL2.out) (by first | omega | (have := HX2.out.size; omega)))
    have HS3 := Lib.hid hs3
    clear hr3 hx3 hs3 HR2 HX2 HZ2 HL2
    generalize wantR [58] r1 = q at *
    obtain ⟨a', q'⟩ | ⟨cc, pp⟩ := q
    · obtain ⟨rfl, rfl, rfl, rfl⟩ := HS3.out
      have HE3 := Lib.hid (HE1.out.trans (rfl : _ = (tyR r3).bind fun ty r4 => field4 a1 ty r4))
      clear HS3 HE1
      go_wp2_with fail
      refine (written_any _ R g c l r3 HR3.out).mono ?_
      rintro e W4 ⟨a4, r4, F4, ok4, rfl, hr4, hx4, hs4⟩
      have HR4 := Lib.hid hr4
      have HX4 := Lib.hid (HX3.out.thenB (Nat.le_refl _) hx4)
      have HZ4 := Lib.hid (blk_exc HZ3.out hx4 (blk_lt HZ3.out) (by first | omega | (have := HX3.out.size; omega)))
      have HL4 := Lib.hid (blk_exc HL3.out hx4 (blk_lt HL3.out) (by first | omega | (have := HX3.out.size; omega)))
      have HS4 := Lib.hid hs4
      clear hr4 hx4 hs4 HR3 HX3 HZ3 HL3
      unfold tyV
      generalize tyR r3 = q at *
      obtain ⟨a', q'⟩ | ⟨cc, pp⟩ := q
      · obtain ⟨rfl, rfl, rfl, rfl⟩ := HS4.out
        have HE4 := Lib.hid (HE3.out.trans (rfl : _ = (if isT 4 [61] r4 = true then valueR r4.tail else .ok noTok r4).bind fun d r5 => field5 a1 a4 d r5))
        clear HS4 HE3
        obtain ⟨hl4, l0, l1, l2, _⟩ := blk3 HL4.out
        go_wp2_with fail
        have HR6 := Lib.hid ((HR4.out.alloc (.cells #[.string (strOfNums a4.name), .int .i64 a4.lists, .int .i64 a4.place] 133)).alloc (.cells #[.string (strOfNums a1.text), .int .i64 a1.place, .string (strOfNums a4.name), .int .i64 a4.lists, .int .i64 a4.place, .int .i64 0, .string ⟨#[]⟩, .int .i64 0] 135))
        have HX6 := Lib.hid ((HX4.out.alloc HX4.out.size (.cells #[.string (strOfNums a4.name), .int .i64 a4.lists, .int .i64 a4.place] 133)).alloc (HX4.out.alloc HX4.out.size (.cells #[.string (strOfNums a4.name), .int .i64 a4.lists, .int .i64 a4.place] 133)).size (.cells #[.string (strOfNums a1.text), .int .i64 a1.place, .string (strOfNums a4.name), .int .i64 a4.lists, .int .i64 a4.place, .int .i64 0, .string ⟨#[]⟩, .int .i64 0] 135))
        have HF6 := Lib.hid (show ((W4.alloc (.cells #[.string (strOfNums a4.name), .int .i64 a4.lists, .int .i64 a4.place] 133)).alloc (.cells #[.string (strOfNums a1.text), .int .i64 a1.place, .string (strOfNums a4.name), .int .i64 a4.lists, .int .i64 a4.place, .int .i64 0, .string ⟨#[]⟩, .int .i64 0] 135)).heap[W4.heap.size + 1]? = some (.cells #[.string (strOfNums a1.text), .int .i64 a1.place, .string (strOfNums a4.name), .int .i64 a4.lists, .int .i64 a4.place, .int .i64 0, .string ⟨#[]⟩, .int .i64 0] 135) from by have := heap_alloc_new (W4.alloc (.cells #[.string (strOfNums a4.name), .int .i64 a4.lists, .int .i64 a4.place] 133)) (.cells #[.string (strOfNums a1.text), .int .i64 a1.place, .string (strOfNums a4.name), .int .i64 a4.lists, .int .i64 a4.place, .int .i64 0, .string ⟨#[]⟩, .int .i64 0] 135); rwa [World.size_alloc] at this)
        have HZ6 := Lib.hid (blk_alloc (blk_alloc HZ4.out (.cells #[.string (strOfNums a4.name), .int .i64 a4.lists, .int .i64 a4.place] 133)) (.cells #[.string (strOfNums a1.text), .int .i64 a1.place, .string (strOfNums a4.name), .int .i64 a4.lists, .int .i64 a4.place, .int .i64 0, .string ⟨#[]⟩, .int .i64 0] 135))
        have hFlt : w.heap.size < W4.heap.size + 1 := Nat.lt_succ_of_lt (blk_lt HZ4.out)
        clear HR4 HX4 HZ4 HL4 l0 l1 l2 hl4
        generalize hW6 : (W4.alloc (.cells #[.string (strOfNums a4.name), .int .i64 a4.lists, .int .i64 a4.place] 133)).alloc (.cells #[.string (strOfNums a1.text), .int .i64 a1.place, .string (strOfNums a4.name), .int .i64 a4.lists, .int .i64 a4.place, .int .i64 0, .string ⟨#[]⟩, .int .i64 0] 135) = W6 at *
        clear hW6
        generalize hBF : W4.heap.size + 1 = BF at *
        clear hBF
        generalize W4.heap.size = BT at *
        refine (sign_any _ R g c l r4 (0, 0) ⟨#[61]⟩ [61] (by kernel_rfl) HR6.out).mono ?_
        rintro e W7 ⟨rfl, hr7, hx7⟩
        have HX7 := Lib.hid (HX6.out.thenB (Nat.le_refl _) hx7)
        have HZ7 := Lib.hid (blk_exc HZ6.out hx7 (blk_lt HZ6.out) (by omega))
        have HF7 := Lib.hid (blk_exc HF6.out hx7 (blk_lt HF6.out) (by omega))
        have HR7 := Lib.hid hr7
        clear hr7 hx7 HR6 HX6 HZ6 HF6
        generalize isT 4 [61] r4 = b at *
        cases b
        · have HE7 := Lib.hid (HE4.out.trans (rfl : _ = field5 a1 a4 noTok r4))
          rw [if_neg (by decide)] at HR7
          clear HE4
          go_wp2_with fail
          have HRd := Lib.hid (HR7.out.keep ((Below.refl _ _).drew))
          have HXd := Lib.hid (Exc.drew HX7.out)
          have HZd := Lib.hid (show W7.drew.heap[w.heap.size]? = _ from HZ7.out)
          have HFd := Lib.hid (show W7.drew.heap[BF]? = _ from HF7.out)
          obtain ⟨hf7, ⟨f0, f1, f2, f3, f4, f5, f6, f7⟩, _⟩ := blk8 HFd.out
          clear HR7 HX7 HZ7 HF7
          go_region_with (go_at_call 129; refine (want_any _ R g c l r4 ⟨#[59]⟩ [59] (by kernel_rfl) HRd.out).mono ?_; rintro e WA ⟨rA, FA, okA, rfl, hrA, hxA, hsA⟩; have HRA := Lib.hid hrA; have HSA := Lib.hid hsA; have HXA := Lib.hid (HXd.out.thenB (Nat.le_refl _) hxA); have HZA := Lib.hid (blk_exc HZd.out hxA (blk_lt HZd.out) (by omega)); obtain ⟨hfA, ⟨k0, k1, k2, k3, k4, k5, k6, k7⟩, _⟩ := blk8 (blk_exc HFd.out hxA (blk_lt HFd.out) (by omega)); obtain ⟨hz, ⟨z0, z1, z2, z3, z4, z5, z6, z7⟩, y0, y1, y2, y3, y4, y5, y6, y7⟩ := blk8 HZA.out; clear hrA hxA hsA)
          all_goals
            go_wp2
            refine post_gen (End8 w R g c l rA FA 135 (.string (strOfNums a1.text)) (.int .i64 a1.place) (.string (strOfNums a4.name)) (.int .i64 a4.lists) (.int .i64 a4.place) (.int .i64 0) (.string ⟨#[]⟩) (.int .i64 0)) (end8 HZA.out HXA.out HRA.out hR hg _ _ _ _ _ _ _ _) ?_
            rintro Wf ⟨e1, e2, e3⟩
            obtain ⟨_, ⟨c0, c1, c2, c3, c4, c5, c6, c7⟩, _⟩ := blk8 e1
            exact bodyPost_ret (v := .tuple #[.agg #[.string (strOfNums a1.text), .int .i64 a1.place, .string (strOfNums a4.name), .int .i64 a4.lists, .int .i64 a4.place, .int .i64 0, .string ⟨#[]⟩, .int .i64 0], .bool okA]) (by simp [results, Tryz.results149, go_sem, c0, c1, c2, c3, c4, c5, c6, c7]) rfl (field_end (HE7.out) HSA.out e3 e2)
        · have HE7 := Lib.hid (HE4.out.trans (rfl : _ = (valueR r4.tail).bind fun d r5 => field5 a1 a4 d r5))
          rw [if_pos rfl] at HR7
          clear HE4
          go_wp2_with fail
          refine (value_any _ R g c l r4.tail HR7.out).mono ?_
          rintro e W8 ⟨a8, r8, F8, ok8, rfl, hr8, hx8, hs8⟩
          have HR8 := Lib.hid hr8
          have HX8 := Lib.hid (HX7.out.thenB (Nat.le_refl _) hx8)
          have HZ8 := Lib.hid (blk_exc HZ7.out hx8 (blk_lt HZ7.out) (by first | omega | (have := HX7.out.size; omega)))
          have HF8 := Lib.hid (blk_exc HF7.out hx8 (blk_lt HF7.out) (by first | omega | (have := HX7.out.size; omega)))
          have HS8 := Lib.hid hs8
          clear hr8 hx8 hs8 HR7 HX7 HZ7 HF7
          unfold tokV
          obtain ⟨hf8, ⟨f0, f1, f2, f3, f4, f5, f6, f7⟩, g0, g1, g2, g3, g4, g5, g6, g7⟩ := blk8 HF8.out
          generalize valueR r4.tail = q at *
          obtain ⟨a', q'⟩ | ⟨cc, pp⟩ := q
          · obtain ⟨rfl, rfl, rfl, rfl⟩ := HS8.out
            have HE8 := Lib.hid (HE7.out.trans (rfl : _ = field5 a1 a4 a8 r8))
            clear HS8 HE7
            skip
            go_wp2_with fail
            have HRf := Lib.hid (HR8.out.other (exc_set567 W8 BF (.int .i64 a8.kind) (.string (strOfNums a8.text)) (.int .i64 a8.place)) (by omega) (by omega))
            have HXf := Lib.hid (((HX8.out.set1 (Nat.le_of_lt hFlt) 5 (.int .i64 a8.kind)).set1 (Nat.le_of_lt hFlt) 6 (.string (strOfNums a8.text))).set1 (Nat.le_of_lt hFlt) 7 (.int .i64 a8.place))
            have HZf := Lib.hid (blk_exc HZ8.out (exc_set567 W8 BF (.int .i64 a8.kind) (.string (strOfNums a8.text)) (.int .i64 a8.place)) (blk_lt HZ8.out) (by omega))
            have HFf := Lib.hid (blk_set567 HF8.out (.int .i64 a8.kind) (.string (strOfNums a8.text)) (.int .i64 a8.place))
            clear HR8 HX8 HZ8 HF8 hf8 f0 f1 f2 f3 f4 f5 f6 f7 g0 g1 g2 g3 g4 g5 g6 g7
            generalize ((W8.setCell ⟨BF, 5, none⟩ (.int .i64 a8.kind)).setCell ⟨BF, 6, none⟩ (.string (strOfNums a8.text))).setCell ⟨BF, 7, none⟩ (.int .i64 a8.place) = W9 at *
            have HR9 := HRf
            have HX9 := HXf
            have HZ9 := HZf
            have HF9 := HFf
            clear HRf HXf HZf HFf
            have HE9 := Lib.hid HE8.out
            have HRd := Lib.hid (HR9.out.keep ((Below.refl _ _).drew))
            have HXd := Lib.hid (Exc.drew HX9.out)
            have HZd := Lib.hid (show W9.drew.heap[w.heap.size]? = _ from HZ9.out)
            have HFd := Lib.hid (show W9.drew.heap[BF]? = _ from HF9.out)
            obtain ⟨hf7, ⟨f0, f1, f2, f3, f4, f5, f6, f7⟩, _⟩ := blk8 HFd.out
            clear HR9 HX9 HZ9 HF9
            go_region_with (go_at_call 129; refine (want_any _ R g c l r8 ⟨#[59]⟩ [59] (by kernel_rfl) HRd.out).mono ?_; rintro e WA ⟨rA, FA, okA, rfl, hrA, hxA, hsA⟩; have HRA := Lib.hid hrA; have HSA := Lib.hid hsA; have HXA := Lib.hid (HXd.out.thenB (Nat.le_refl _) hxA); have HZA := Lib.hid (blk_exc HZd.out hxA (blk_lt HZd.out) (by omega)); obtain ⟨hfA, ⟨k0, k1, k2, k3, k4, k5, k6, k7⟩, _⟩ := blk8 (blk_exc HFd.out hxA (blk_lt HFd.out) (by omega)); obtain ⟨hz, ⟨z0, z1, z2, z3, z4, z5, z6, z7⟩, y0, y1, y2, y3, y4, y5, y6, y7⟩ := blk8 HZA.out; clear hrA hxA hsA)
            all_goals
              go_wp2
              refine post_gen (End8 w R g c l rA FA 135 (.string (strOfNums a1.text)) (.int .i64 a1.place) (.string (strOfNums a4.name)) (.int .i64 a4.lists) (.int .i64 a4.place) (.int .i64 a8.kind) (.string (strOfNums a8.text)) (.int .i64 a8.place)) (end8 HZA.out HXA.out HRA.out hR hg _ _ _ _ _ _ _ _) ?_
              rintro Wf ⟨e1, e2, e3⟩
              obtain ⟨_, ⟨c0, c1, c2, c3, c4, c5, c6, c7⟩, _⟩ := blk8 e1
              exact bodyPost_ret (v := .tuple #[.agg #[.string (strOfNums a1.text), .int .i64 a1.place, .string (strOfNums a4.name), .int .i64 a4.lists, .int .i64 a4.place, .int .i64 a8.kind, .string (strOfNums a8.text), .int .i64 a8.place], .bool okA]) (by simp [results, Tryz.results149, go_sem, c0, c1, c2, c3, c4, c5, c6, c7]) rfl (field_end (HE9.out) HSA.out e3 e2)
          · obtain ⟨rfl, rfl⟩ := HS8.out
            have HE := Lib.hid (HE7.out.trans (rfl : _ = Res.no cc pp))
            go_upto_region 11 with (fail)
            have HRf := Lib.hid (HR8.out.other (exc_set567 W8 BF (.int .i64 a8.kind) (.string (strOfNums a8.text)) (.int .i64 a8.place)) (by omega) (by omega))
            have HXf := Lib.hid (((HX8.out.set1 (Nat.le_of_lt hFlt) 5 (.int .i64 a8.kind)).set1 (Nat.le_of_lt hFlt) 6 (.string (strOfNums a8.text))).set1 (Nat.le_of_lt hFlt) 7 (.int .i64 a8.place))
            have HZf := Lib.hid (blk_exc HZ8.out (exc_set567 W8 BF (.int .i64 a8.kind) (.string (strOfNums a8.text)) (.int .i64 a8.place)) (blk_lt HZ8.out) (by omega))
            have HFf := Lib.hid (blk_set567 HF8.out (.int .i64 a8.kind) (.string (strOfNums a8.text)) (.int .i64 a8.place))
            clear HR8 HX8 HZ8 HF8 hf8 f0 f1 f2 f3 f4 f5 f6 f7 g0 g1 g2 g3 g4 g5 g6 g7
            generalize ((W8.setCell ⟨BF, 5, none⟩ (.int .i64 a8.kind)).setCell ⟨BF, 6, none⟩ (.string (strOfNums a8.text))).setCell ⟨BF, 7, none⟩ (.int .i64 a8.place) = W9 at *
            have HR8 := HRf
            have HX8 := HXf
            have HZ8 := HZf
            clear HRf HXf HZf HFf
            obtain ⟨hz, ⟨z0, z1, z2, z3, z4, z5, z6, z7⟩, y0, y1, y2, y3, y4, y5, y6, y7⟩ := blk8 HZ8.out
            go_wp2
            refine post_gen (End8 w R g c l r8 (cc, pp) 135 (.string ⟨#[]⟩) (.int .i64 0) (.string ⟨#[]⟩) (.int .i64 0) (.int .i64 0) (.int .i64 0) (.string ⟨#[]⟩) (.int .i64 0)) (end8 HZ8.out HX8.out HR8.out hR hg _ _ _ _ _ _ _ _) ?_
            rintro Wf ⟨f1, f2, f3⟩
            obtain ⟨_, ⟨c0, c1, c2, c3, c4, c5, c6, c7⟩, _⟩ := blk8 f1
            exact bodyPost_ret (v := .tuple #[.agg #[.string ⟨#[]⟩, .int .i64 0, .string ⟨#[]⟩, .int .i64 0, .int .i64 0, .int .i64 0, .string ⟨#[]⟩, .int .i64 0], .bool false]) (by simp [results, Tryz.results149, go_sem, c0, c1, c2, c3, c4, c5, c6, c7]) rfl ⟨noField, r8, _, false, rfl, f3, f2, by rw [HE.out]; exact ⟨rfl, rfl⟩⟩
      · obtain ⟨rfl, rfl⟩ := HS4.out
        have HE := Lib.hid (HE3.out.trans (rfl : _ = Res.no cc pp))
        go_upto_region 6 with (fail)
        have HRf := Lib.hid (HR4.out.alloc (.cells #[.string (strOfNums a4.name), .int .i64 a4.lists, .int .i64 a4.place] 133))
        have HXf := Lib.hid (HX4.out.alloc HX4.out.size (.cells #[.string (strOfNums a4.name), .int .i64 a4.lists, .int .i64 a4.place] 133))
        have HZf := Lib.hid (blk_alloc HZ4.out (.cells #[.string (strOfNums a4.name), .int .i64 a4.lists, .int .i64 a4.place] 133))
        clear HR4 HX4 HZ4
        generalize W4.alloc (.cells #[.string (strOfNums a4.name), .int .i64 a4.lists, .int .i64 a4.place] 133) = Wj at *
        have HR4 := HRf
        have HX4 := HXf
        have HZ4 := HZf
        obtain ⟨hz, ⟨z0, z1, z2, z3, z4, z5, z6, z7⟩, y0, y1, y2, y3, y4, y5, y6, y7⟩ := blk8 HZ4.out
        go_wp2
        refine post_gen (End8 w R g c l r4 (cc, pp) 135 (.string ⟨#[]⟩) (.int .i64 0) (.string ⟨#[]⟩) (.int .i64 0) (.int .i64 0) (.int .i64 0) (.string ⟨#[]⟩) (.int .i64 0)) (end8 HZ4.out HX4.out HR4.out hR hg _ _ _ _ _ _ _ _) ?_
        rintro Wf ⟨f1, f2, f3⟩
        obtain ⟨_, ⟨c0, c1, c2, c3, c4, c5, c6, c7⟩, _⟩ := blk8 f1
        exact bodyPost_ret (v := .tuple #[.agg #[.string ⟨#[]⟩, .int .i64 0, .string ⟨#[]⟩, .int .i64 0, .int .i64 0, .int .i64 0, .string ⟨#[]⟩, .int .i64 0], .bool false]) (by simp [results, Tryz.results149, go_sem, c0, c1, c2, c3, c4, c5, c6, c7]) rfl ⟨noField, r4, _, false, rfl, f3, f2, by rw [HE.out]; exact ⟨rfl, rfl⟩⟩
    · obtain ⟨rfl, rfl⟩ := HS3.out
      have HE := Lib.hid (HE1.out.trans (rfl : _ = Res.no cc pp))
      obtain ⟨hz, ⟨z0, z1, z2, z3, z4, z5, z6, z7⟩, y0, y1, y2, y3, y4, y5, y6, y7⟩ := blk8 HZ3.out
      go_wp2
      refine post_gen (End8 w R g c l r3 (cc, pp) 135 (.string ⟨#[]⟩) (.int .i64 0) (.string ⟨#[]⟩) (.int .i64 0) (.int .i64 0) (.int .i64 0) (.string ⟨#[]⟩) (.int .i64 0)) (end8 HZ3.out HX3.out HR3.out hR hg _ _ _ _ _ _ _ _) ?_
      rintro Wf ⟨f1, f2, f3⟩
      obtain ⟨_, ⟨c0, c1, c2, c3, c4, c5, c6, c7⟩, _⟩ := blk8 f1
      exact bodyPost_ret (v := .tuple #[.agg #[.string ⟨#[]⟩, .int .i64 0, .string ⟨#[]⟩, .int .i64 0, .int .i64 0, .int .i64 0, .string ⟨#[]⟩, .int .i64 0], .bool false]) (by simp [results, Tryz.results149, go_sem, c0, c1, c2, c3, c4, c5, c6, c7]) rfl ⟨noField, r3, _, false, rfl, f3, f2, by rw [HE.out]; exact ⟨rfl, rfl⟩⟩
  · obtain ⟨rfl, rfl⟩ := HS1.out
    have HE := Lib.hid (HE0.out.trans (rfl : _ = Res.no cc pp))
    go_upto_region 3 with (fail)
    have HRf := Lib.hid (HR1.out.alloc (.cells #[.int .i64 a1.kind, .string (strOfNums a1.text), .int .i64 a1.place] 109))
    have HXf := Lib.hid (HX1.out.alloc HX1.out.size (.cells #[.int .i64 a1.kind, .string (strOfNums a1.text), .int .i64 a1.place] 109))
    have HZf := Lib.hid (blk_alloc HZ1.out (.cells #[.int .i64 a1.kind, .string (strOfNums a1.text), .int .i64 a1.place] 109))
    clear HR1 HX1 HZ1
    generalize W1.alloc (.cells #[.int .i64 a1.kind, .string (strOfNums a1.text), .int .i64 a1.place] 109) = Wj at *
    have HR1 := HRf
    have HX1 := HXf
    have HZ1 := HZf
    obtain ⟨hz, ⟨z0, z1, z2, z3, z4, z5, z6, z7⟩, y0, y1, y2, y3, y4, y5, y6, y7⟩ := blk8 HZ1.out
    go_wp2
    refine post_gen (End8 w R g c l r1 (cc, pp) 135 (.string ⟨#[]⟩) (.int .i64 0) (.string ⟨#[]⟩) (.int .i64 0) (.int .i64 0) (.int .i64 0) (.string ⟨#[]⟩) (.int .i64 0)) (end8 HZ1.out HX1.out HR1.out hR hg _ _ _ _ _ _ _ _) ?_
    rintro Wf ⟨f1, f2, f3⟩
    obtain ⟨_, ⟨c0, c1, c2, c3, c4, c5, c6, c7⟩, _⟩ := blk8 f1
    exact bodyPost_ret (v := .tuple #[.agg #[.string ⟨#[]⟩, .int .i64 0, .string ⟨#[]⟩, .int .i64 0, .int .i64 0, .int .i64 0, .string ⟨#[]⟩, .int .i64 0], .bool false]) (by simp [results, Tryz.results149, go_sem, c0, c1, c2, c3, c4, c5, c6, c7]) rfl ⟨noField, r1, _, false, rfl, f3, f2, by rw [HE.out]; exact ⟨rfl, rfl⟩⟩
end Go.Proofs.YtleclhnlojalbaaGreatDoor
