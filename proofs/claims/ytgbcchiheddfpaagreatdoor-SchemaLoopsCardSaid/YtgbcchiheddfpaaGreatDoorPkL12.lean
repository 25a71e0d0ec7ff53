/-
  The reader of the package idl: a type as it is written. Conditions: those that each theorem names.
-/
import Derived.Test.YtgbcchiheddfpaaGreatDoorPkL9
namespace Go.Proofs.YtgbcchiheddfpaaGreatDoor
open Go.ChangeShapes Go.WideShapes Go.ChangeAt Go.RowKit Go.Shelf

def tyV (t : RTy) : Value := .agg #[.string (strOfNums t.name), .int .i64 t.lists, .int .i64 t.place]
def numOf : Option Value → Nat
  | some (.int _ n) => n.toNat
  | _ => 0
def tyEnd (p n : Nat) (r : List Tok) : Res RTy := (nameR r).bind fun t r2 => (closeR n r2).bind fun _ r3 => .ok ⟨t.text, n, p⟩ r3
def TyAt (R g c : Nat) (l r : List Tok) (w : World) (T : Nat) (wr : World) : Prop :=
  ∃ (n : Nat) (r1 : List Tok), n ≤ 3 ∧ Rd wr R g c l r1 (0, 0) ∧ wr.heap[T]? = some (.cells #[.string ByteArray.empty, .int .i64 n, .int .i64 (hd r).place] 301 (0, 0)) ∧
    wr.heap[w.heap.size]? = some (.cells #[.string ByteArray.empty, .int .i64 0, .int .i64 0] 301 (0, 0)) ∧ Exc R w.heap.size w wr ∧ tyR r = (listsR (3 - n) n r1).bind (tyEnd (hd r).place)
theorem lists_step {n : Nat} {r : List Tok} (hn : n < 3) (h : isT 1 wList r = true) : listsR (3 - n) n r = (wantR [60] r.tail).bind fun _ r' => listsR (3 - (n + 1)) (n + 1) r' := by
  rw [show 3 - n = (3 - (n + 1)) + 1 by omega]
  conv => lhs; unfold listsR
  rw [if_pos h]
theorem lists_stop {n f : Nat} {r : List Tok} (h : isT 1 wList r = false) : listsR f n r = .ok n r := by
  unfold listsR
  rw [if_neg (by rw [h]; decide)]
theorem lists_many {r : List Tok} (h : isT 1 wList r = true) : listsR (3 - 3) 3 r = .no 16 (hd r).place := by
  unfold listsR
  rw [if_pos h]
  rfl
theorem close_step {n k : Nat} {r : List Tok} (h : k < n) : closeR (n - k) r = (wantR [62] r).bind fun _ r' => closeR (n - (k + 1)) r' := by
  rw [show n - k = (n - (k + 1)) + 1 by omega]
  rfl
def CloseAt (R g c : Nat) (l : List Tok) (w : World) (T n : Nat) (x p : Value) (r0 : List Tok) (i : Value) (wr : World) : Prop :=
  ∃ (k : Nat) (r1 : List Tok), i = .int .i64 k ∧ k ≤ n ∧ Rd wr R g c l r1 (0, 0) ∧ wr.heap[T]? = some (.cells #[x, .int .i64 n, p] 301 (0, 0)) ∧
    wr.heap[w.heap.size]? = some (.cells #[.string ByteArray.empty, .int .i64 0, .int .i64 0] 301 (0, 0)) ∧ Exc R w.heap.size w wr ∧ closeR n r0 = closeR (n - k) r1
set_option maxRecDepth 100000 in
set_option maxHeartbeats 2000000 in
theorem written_any (w : World) (R g c : Nat) (l r : List Tok) (h : Rd w R g c l r (0, 0)) :
    Calls Tryz.prog 248 #[.pointer (some ⟨R, 0, none⟩)] w (PostR tyV R g c l w (tyR r)) := by
  have HB0 := Lib.hid (heap_alloc_new w (.cells #[.string ByteArray.empty, .int .i64 0, .int .i64 0] 301))
  have hbA : Below w.heap.size w (w.alloc (.cells #[.string ByteArray.empty, .int .i64 0, .int .i64 0] 301)) := (Below.refl _ _).alloc (Nat.le_refl _) _
  have HBA := Lib.hid hbA
  have HD := Lib.hid (h.keep hbA)
  have HH := Lib.hid (here_any _ R g c l r (0, 0) HD.out)
  have hR := blk_lt h.blk
  have hg := h.glt
  have hf := fld2
  clear h hbA
  unfold tokV at HH
  go_enter Tryz.func248, Tryz.ntmps248
  go_wp2_with fail
  refine HH.out.mono ?_
  rintro e W1 ⟨rfl, hb1⟩
  have HB1 := Lib.hid (HBA.out.trans (hb1.mono HBA.out.size))
  have HD1 := Lib.hid (HD.out.keep hb1)
  have HZ1 := Lib.hid (blk_below HB0.out hb1 (by simp))
  have hT : w.heap.size < W1.heap.size := blk_lt HZ1.out
  clear hb1
  go_wp2_with fail
  have hbT : Below W1.heap.size W1 (W1.alloc (.cells #[.string ⟨#[]⟩, .int .i64 0, .int .i64 (hd r).place] 301)) := (Below.refl _ _).alloc (Nat.le_refl _) _
  have HRD := Lib.hid (HD1.out.keep hbT)
  have HX := Lib.hid ((Exc.of_below (R := R) HB1.out).thenB (Nat.le_refl _) (.of_below hbT))
  have HZ := Lib.hid (blk_below HZ1.out hbT hT)
  have HT := Lib.hid (heap_alloc_new W1 (.cells #[.string ⟨#[]⟩, .int .i64 0, .int .i64 (hd r).place] 301))
  have HTY : Hid (tyR r = (listsR (3 - 0) 0 r).bind (tyEnd (hd r).place)) := Lib.hid rfl
  clear hbT hf HH HD HD1 HB0 HBA HB1 HZ1
  generalize (W1.alloc (.cells #[.string ⟨#[]⟩, .int .i64 0, .int .i64 (hd r).place] 301)) = W2 at *
  generalize W1.heap.size = T at *
  go_loopw [] (fun wr => TyAt R g c l r w T wr) (fun wr => 3 - numOf (wr.cell? ⟨T, 1, none⟩))
  case atStart => exact ⟨0, r, by decide, HRD.out, HT.out, HZ.out, HX.out, HTY.out⟩
  case round =>
    clear HRD HX HZ HT HTY
    obtain ⟨n, r1, hn, hrd, ht, hz, hx, heq⟩ := hrel
    have HRD := Lib.hid hrd
    have HT := Lib.hid ht
    have HTm := Lib.hid ht
    have HZ := Lib.hid hz
    have HX := Lib.hid hx
    have HEQ := Lib.hid heq
    clear hrd ht hz hx heq
    go_wp2_with fail
    refine (rdStands_any _ R g c l r1 (0, 0) 1 ⟨#[108, 105, 115, 116]⟩ wList (by kernel_rfl) HRD.out).mono ?_
    rintro e W3 ⟨rfl, hb3⟩
    have HR3 := Lib.hid (HRD.out.keep hb3)
    have HT3 := Lib.hid (blk_below HT.out hb3 (blk_lt HT.out))
    have HZ3 := Lib.hid (blk_below HZ.out hb3 (blk_lt HZ.out))
    have HX3 := Lib.hid (HX.out.bel (Nat.le_refl _) hb3)
    clear hb3 HRD HT HZ HX
    generalize hi : isT 1 wList r1 = b
    have HI := Lib.hid hi
    clear hi
    cases b
    · have HE := Lib.hid (HEQ.out.trans (by rw [lists_stop HI.out]; rfl : _ = tyEnd (hd r).place n r1))
      clear HEQ
      go_wp2_with fail
      refine (name_any _ R g c l r1 HR3.out).mono ?_
      rintro e W4 ⟨a, r4, F4, ok4, rfl, hr4, hx4, hs4⟩
      have HR4 := Lib.hid hr4
      have HX4 := Lib.hid (HX3.out.thenB (Nat.le_refl _) hx4)
      have HZ4 := Lib.hid (blk_exc HZ3.out hx4 (blk_lt HZ3.out) (by omega))
      have HT4 := Lib.hid (blk_exc HT3.out hx4 (blk_lt HT3.out) (by omega))
      have HS4 := Lib.hid hs4
      clear hr4 hx4 hs4 HR3 HX3 HZ3 HT3
      unfold tokV
      generalize hq : nameR r1 = q at *
      have HQ := Lib.hid hq
      clear hq
      obtain ⟨a', r4'⟩ | ⟨cc, pp⟩ := q
      · obtain ⟨rfl, rfl, rfl, rfl⟩ := HS4.out
        have HE2 := Lib.hid (HE.out.trans (by unfold tyEnd; rw [HQ.out]; rfl : _ = (closeR n r4).bind fun _ r3 => .ok ⟨a.text, n, (hd r).place⟩ r3))
        clear HS4 HQ HE
        obtain ⟨hT', t0, t1, t2, u0, u1, u2⟩ := blk3 HT4.out
        go_wp2_with fail
        go_loopw [42] (fun i wr => CloseAt R g c l w T n (.string (strOfNums a.text)) (.int .i64 (hd r).place) r4 i wr) (fun i _ => n - (intOf i).toNat)
        case atStart => exact ⟨0, r4, rfl, Nat.zero_le _, (HR4.out.set1 (by omega) (by omega) _ _).alloc _, blk_alloc ((blk_set HT4.out 0 _).trans rfl) _, blk_alloc (blk_set_ne HZ4.out (by simp only; omega) _) _, (HX4.out.set1 (by omega) _ _).alloc (by simp [World.setCell]; omega) _, rfl⟩
        case round =>
          clear t0 t1 t2 u0 u1 u2 HR4 HX4 HZ4 HT4
          obtain ⟨k, r5, rfl, hk, hr5, ht5, hz5, hx5, he5⟩ := hrel
          have HR5 := Lib.hid hr5
          have HT5 := Lib.hid ht5
          have HZ5 := Lib.hid hz5
          have HX5 := Lib.hid hx5
          have HE5 := Lib.hid he5
          clear hr5 ht5 hz5 hx5 he5
          by_cases hkn : k < n
          · have HE6 := Lib.hid (HE5.out.trans (close_step hkn))
            clear HE5
            go_wp2_with fail
            refine (want_any _ R g c l r5 ⟨#[62]⟩ [62] (by kernel_rfl) HR5.out).mono ?_
            rintro e W6 ⟨r6, F6, ok6, rfl, hr6, hx6, hs6⟩
            have HR6 := Lib.hid hr6
            have HX6 := Lib.hid (HX5.out.thenB (Nat.le_refl _) hx6)
            have HZ6 := Lib.hid (blk_exc HZ5.out hx6 (blk_lt HZ5.out) (by omega))
            have HT6 := Lib.hid (blk_exc HT5.out hx6 (blk_lt HT5.out) (by omega))
            have HS6 := Lib.hid hs6
            clear hr6 hx6 hs6 HR5 HX5 HZ5 HT5
            generalize wantR [62] r5 = q at *
            obtain ⟨a', r6'⟩ | ⟨cc, pp⟩ := q
            · obtain ⟨rfl, _, rfl, rfl⟩ := HS6.out
              have HE7 := Lib.hid (HE6.out.trans (rfl : _ = closeR (n - (k + 1)) r6))
              go_wp2
              go_roundw
              case rel => exact ⟨k + 1, r6, by go_num, hkn, HR6.out, HT6.out, HZ6.out, HX6.out, HE7.out⟩
              case measure => simp [intOf]; omega
            · obtain ⟨rfl, rfl⟩ := HS6.out
              have HE7 := Lib.hid (HE2.out.trans (by rw [HE6.out]; rfl : _ = Res.no cc pp))
              obtain ⟨hz, z0, z1, z2, y0, y1, y2⟩ := blk3 HZ6.out
              go_wp2
              refine post_gen (End3 w R g c l r6 (cc, pp) 301 (.string ⟨#[]⟩) (.int .i64 0) (.int .i64 0)) (end3 HZ6.out HX6.out HR6.out hR hg _ _ _) ?_
              rintro Wf ⟨f1, f2, f3⟩
              obtain ⟨_, c0, c1, c2, _⟩ := blk3 f1
              exact bodyPost_ret (v := .tuple #[.agg #[.string ⟨#[]⟩, .int .i64 0, .int .i64 0], .bool false]) (by simp [results, Tryz.results248, go_sem, c0, c1, c2]) rfl ⟨noTy, r6, _, false, rfl, f3, f2, by rw [HE7.out]; exact ⟨rfl, rfl⟩⟩
          · obtain rfl : k = n := by omega
            have HE6 := Lib.hid (HE2.out.trans (by rw [HE5.out, Nat.sub_self]; rfl : _ = Res.ok ⟨a.text, k, (hd r).place⟩ r5))
            obtain ⟨hT5, t0, t1, t2, u0, u1, u2⟩ := blk3 HT5.out
            obtain ⟨hz, z0, z1, z2, y0, y1, y2⟩ := blk3 HZ5.out
            go_wp2
            refine post_gen (End3 w R g c l r5 (0, 0) 301 (.string (strOfNums a.text)) (.int .i64 k) (.int .i64 (hd r).place)) (end3 HZ5.out HX5.out HR5.out hR hg _ _ _) ?_
            rintro Wf ⟨f1, f2, f3⟩
            obtain ⟨_, c0, c1, c2, _⟩ := blk3 f1
            exact bodyPost_ret (v := .tuple #[.agg #[.string (strOfNums a.text), .int .i64 k, .int .i64 (hd r).place], .bool true]) (by simp [results, Tryz.results248, go_sem, c0, c1, c2]) rfl ⟨⟨a.text, k, (hd r).place⟩, r5, _, true, rfl, f3, f2, by rw [HE6.out]; exact ⟨rfl, rfl, rfl, rfl⟩⟩
      · obtain ⟨rfl, rfl⟩ := HS4.out
        have HE2 := Lib.hid (HE.out.trans (by unfold tyEnd; rw [HQ.out]; rfl : _ = .no cc pp))
        clear HS4 HQ HE
        obtain ⟨hz, z0, z1, z2, y0, y1, y2⟩ := blk3 HZ4.out
        go_wp2
        refine post_gen (End3 w R g c l r4 (cc, pp) 301 (.string ⟨#[]⟩) (.int .i64 0) (.int .i64 0)) (end3a (end3 HZ4.out HX4.out HR4.out hR hg _ _ _) _) ?_
        rintro Wf ⟨f1, f2, f3⟩
        obtain ⟨_, c0, c1, c2, _⟩ := blk3 f1
        exact bodyPost_ret (v := .tuple #[.agg #[.string ⟨#[]⟩, .int .i64 0, .int .i64 0], .bool false]) (by simp [results, Tryz.results248, go_sem, c0, c1, c2]) rfl ⟨noTy, r4, _, false, rfl, f3, f2, by rw [HE2.out]; exact ⟨rfl, rfl⟩⟩
    · have HK := Lib.hid (show (hd r1).kind ≠ 0 by rw [(isT_kind HI.out).1]; decide)
      by_cases h3 : n = 3
      · subst h3
        have HE := Lib.hid (HEQ.out.trans (by rw [lists_many HI.out]; rfl : _ = .no 16 (hd r1).place))
        obtain ⟨hT', t0, t1, t2, u0, u1, u2⟩ := blk3 HT3.out
        go_wp2_with fail
        refine (refuse_any _ R g c l r1 (0, 0) 16 HR3.out).mono ?_
        rintro e W4 ⟨rfl, hr4, hx4⟩
        have HR4 := Lib.hid hr4
        have HX4 := Lib.hid (HX3.out.thenB (Nat.le_refl _) hx4)
        have HZ4 := Lib.hid (blk_exc HZ3.out hx4 (blk_lt HZ3.out) (by omega))
        obtain ⟨hz, z0, z1, z2, y0, y1, y2⟩ := blk3 HZ4.out
        clear hr4 hx4 t0 t1 t2 u0 u1 u2
        go_wp2
        refine post_gen (End3 w R g c l r1 (16, (hd r1).place) 301 (.string ⟨#[]⟩) (.int .i64 0) (.int .i64 0)) (end3 HZ4.out HX4.out HR4.out hR hg _ _ _) ?_
        rintro Wf ⟨f1, f2, f3⟩
        obtain ⟨_, c0, c1, c2, _⟩ := blk3 f1
        exact bodyPost_ret (v := .tuple #[.agg #[.string ⟨#[]⟩, .int .i64 0, .int .i64 0], .bool false]) (by simp [results, Tryz.results248, go_sem, c0, c1, c2]) rfl ⟨noTy, r1, _, false, rfl, f3, f2, by rw [HE.out]; exact ⟨rfl, rfl⟩⟩
      · have t3 : ((n : Int) == 3) = false := by simp; omega
        have HE := Lib.hid (HEQ.out.trans (by rw [lists_step (by omega) HI.out]))
        clear HEQ
        obtain ⟨hT', t0, t1, t2, u0, u1, u2⟩ := blk3 HT3.out
        go_wp2_with fail
        refine (take_any _ R g c l r1 (0, 0) HR3.out HK.out).mono ?_
        rintro e W4 ⟨rfl, hr4, hx4⟩
        have HR4 := Lib.hid hr4
        have HX4 := Lib.hid (HX3.out.thenB (Nat.le_refl _) hx4)
        have HZ4 := Lib.hid (blk_exc HZ3.out hx4 (blk_lt HZ3.out) (by omega))
        have HT4 := Lib.hid (blk_exc HT3.out hx4 (blk_lt HT3.out) (by omega))
        clear hr4 hx4 t0 t1 t2 u0 u1 u2 HR3 HX3 HZ3 HT3
        go_wp2_with fail
        refine (want_any _ R g c l r1.tail ⟨#[60]⟩ [60] (by kernel_rfl) HR4.out).mono ?_
        rintro e W5 ⟨r5, F5, ok5, rfl, hr5, hx5, hs5⟩
        have HR5 := Lib.hid hr5
        have HX5 := Lib.hid (HX4.out.thenB (Nat.le_refl _) hx5)
        have HZ5 := Lib.hid (blk_exc HZ4.out hx5 (blk_lt HZ4.out) (by omega))
        have HT5 := Lib.hid (blk_exc HT4.out hx5 (blk_lt HT4.out) (by omega))
        have HS5 := Lib.hid hs5
        clear hr5 hx5 hs5 HR4 HX4 HZ4 HT4
        generalize hq : wantR [60] r1.tail = q at *
        have HQ := Lib.hid hq
        clear hq
        obtain ⟨a', r5'⟩ | ⟨cc, pp⟩ := q
        · obtain ⟨rfl, _, rfl, rfl⟩ := HS5.out
          have HE2 := Lib.hid (HE.out.trans (rfl : _ = (listsR (3 - (n + 1)) (n + 1) r5).bind (tyEnd (hd r).place)))
          obtain ⟨hT', t0, t1, t2, u0, u1, u2⟩ := blk3 HT5.out
          go_wp2
          go_roundw
          case rel => exact ⟨n + 1, r5, by omega, HR5.out.set1 (by omega) (by omega) _ _, (blk_set HT5.out 1 _).trans rfl, blk_set_ne HZ5.out (by simp only; omega) _, HX5.out.set1 (by omega) _ _, HE2.out⟩
          case measure => rw [blk_cell (blk_set HT5.out 1 _), blk_cell HTm.out]; simp [numOf]; omega
        · obtain ⟨rfl, rfl⟩ := HS5.out
          have HE2 := Lib.hid (HE.out.trans (rfl : _ = Res.no cc pp))
          obtain ⟨hz, z0, z1, z2, y0, y1, y2⟩ := blk3 HZ5.out
          go_wp2
          refine post_gen (End3 w R g c l r5 (cc, pp) 301 (.string ⟨#[]⟩) (.int .i64 0) (.int .i64 0)) (end3 HZ5.out HX5.out HR5.out hR hg _ _ _) ?_
          rintro Wf ⟨f1, f2, f3⟩
          obtain ⟨_, c0, c1, c2, _⟩ := blk3 f1
          exact bodyPost_ret (v := .tuple #[.agg #[.string ⟨#[]⟩, .int .i64 0, .int .i64 0], .bool false]) (by simp [results, Tryz.results248, go_sem, c0, c1, c2]) rfl ⟨noTy, r5, _, false, rfl, f3, f2, by rw [HE2.out]; exact ⟨rfl, rfl⟩⟩
end Go.Proofs.YtgbcchiheddfpaaGreatDoor
