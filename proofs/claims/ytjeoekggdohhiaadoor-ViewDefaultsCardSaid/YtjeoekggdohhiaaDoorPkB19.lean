/-
  The document's Same: of two values in memory it says whether they are one. Conditions: those that each theorem names.
-/
import Derived.Test.YtjeoekggdohhiaaDoorPkB2
import Derived.Test.YtjeoekggdohhiaaDoorPkB6
import Derived.Test.YtjeoekggdohhiaaDoorPkB13
import Derived.Test.YtjeoekggdohhiaaDoorPkB17
import Derived.Deep.Cut
import Derived.BigQuiet
import Derived.OwnWalk
import Derived.Deep.RegionHeld3
namespace Go.Proofs.YtjeoekggdohhiaaDoor
open Go.ChangeShapes Go.WideShapes Go.ChangeAt Go.RowKit Go.Shelf

theorem samong_any (a b : Int) (c : Bool) (hc : decide (0 ≤ a ∧ a < b) = c) (w : World) : Calls Tryd.prog 51 #[.int .i64 a, .int .i64 b] w fun e w' => e = .returned (.bool c) ∧ w = w' := by
  by_cases h0 : 0 ≤ a
  · by_cases h1 : a < b
    · obtain rfl : c = true := by rw [← hc]; exact decide_eq_true ⟨h0, h1⟩
      clear hc
      go_enter Tryd.func51, Tryd.ntmps51
      go_wp2
      go_ret
      exact ⟨rfl, rfl⟩
    · obtain rfl : c = false := by rw [← hc]; exact decide_eq_false fun h => h1 h.2
      clear hc
      go_enter Tryd.func51, Tryd.ntmps51
      go_wp2
      go_ret
      exact ⟨rfl, rfl⟩
  · have hf : c = false := by rw [← hc]; exact decide_eq_false fun h => h0 h.1
    subst hf
    clear hc
    go_enter Tryd.func51, Tryd.ntmps51
    go_wp2
    go_ret
    exact ⟨rfl, rfl⟩
end Go.Proofs.YtjeoekggdohhiaaDoor
namespace Go.Proofs.YtjeoekggdohhiaaDoor
open Go.ChangeShapes Go.WideShapes Go.ChangeAt Go.RowKit Go.Shelf

theorem wsignedS_any (n s : Int) (w : World) :
    Calls Tryd.prog 53 #[.int .u64 n, .int .i64 s] w fun e w' => e = .returned (.int .u64 (sgnOf n s)) ∧ w = w' := by
  by_cases e1 : s = 1
  · subst e1
    have E : IntKind.u64.wrap (IntKind.i8.wrap n) = sgnOf n 1 := by
      rw [sgnOf_1]
      split <;> (simp only [IntKind.wrap, IntKind.bits, IntKind.signed]; simp; omega)
    have H := Lib.hid E
    clear E
    go_enter Tryd.func53, Tryd.ntmps53
    go_wp2
    go_ret
    exact ⟨ret_int H.out, rfl⟩
  by_cases e2 : s = 2
  · subst e2
    have E : IntKind.u64.wrap (IntKind.i16.wrap n) = sgnOf n 2 := by
      rw [sgnOf_2]
      split <;> (simp only [IntKind.wrap, IntKind.bits, IntKind.signed]; simp; omega)
    have H := Lib.hid E
    clear E
    go_enter Tryd.func53, Tryd.ntmps53
    go_wp2
    go_ret
    exact ⟨ret_int H.out, rfl⟩
  by_cases e4 : s = 4
  · subst e4
    have E : IntKind.u64.wrap (wrap32 n) = sgnOf n 4 := by
      rw [sgnOf_4, ← IntWalk.i32_left]
      split <;> (simp only [IntKind.wrap, IntKind.bits, IntKind.signed]; simp; omega)
    have H := Lib.hid E
    clear E
    go_enter Tryd.func53, Tryd.ntmps53
    go_wp2
    go_ret
    exact ⟨ret_int H.out, rfl⟩
  have H := Lib.hid (sgnOf_else n s e1 e2 e4)
  have hs1 : (s == 1) = false := by simp; omega
  have hs2 : (s == 2) = false := by simp; omega
  have hs4 : (s == 4) = false := by simp; omega
  clear e1 e2 e4
  rw [H.out]
  go_enter Tryd.func53, Tryd.ntmps53
  go_wp2
  go_ret
  exact ⟨rfl, rfl⟩
theorem snumber_any (k : Nat) (ref lists : Int) (w : World) :
    Calls Tryd.prog 50 #[.agg #[.int .u8 k, .int .i64 ref, .int .i64 lists]] w fun e w' => e = .returned (.bool (numTB k lists)) ∧ Below w.heap.size w w' := by
  have h0 := heap_alloc_new w (.cells #[.int .u8 k, .int .i64 ref, .int .i64 lists] 55)
  have HB := Lib.hid ((Below.refl w.heap.size w).alloc (Nat.le_refl _) (.cells #[.int .u8 k, .int .i64 ref, .int .i64 lists] 55))
  obtain ⟨_, x0, x1, x2, _⟩ := blk3 h0
  have HN : Hid (numTB k lists = (decide (lists = 0) && decide (0 < kSize k))) := Lib.hid rfl
  generalize numTB k lists = res at *
  clear h0
  by_cases hl : lists = 0
  · have HE := Lib.hid (show res = decide (0 < kSize k) by rw [HN.out, decide_eq_true hl, Bool.true_and])
    subst hl
    clear HN
    go_enter Tryd.func50, Tryd.ntmps50
    go_wp2_with fail
    refine (wsize_any _ _).mono ?_
    rintro e W1 ⟨rfl, rfl⟩
    generalize kSize (k : Int) = z at *
    by_cases hs : 0 < z
    · have HR := Lib.hid (show res = true by rw [HE.out]; exact decide_eq_true hs)
      clear HE
      go_wp2
      go_ret
      exact ⟨ret_bool HR.out.symm, HB.out⟩
    · have HR := Lib.hid (show decide (0 < z) = res from HE.out.symm)
      clear HE
      go_wp2
      go_ret
      exact ⟨ret_bool HR.out, HB.out⟩
  · have HE := Lib.hid (show res = false by rw [HN.out, decide_eq_false hl, Bool.false_and])
    have t1 : (lists == 0) = false := by simpa using hl
    clear HN hl
    go_enter Tryd.func50, Tryd.ntmps50
    go_wp2
    go_ret
    exact ⟨ret_bool HE.out.symm, HB.out⟩
theorem div_beq (n m : Nat) : (((n : Int) / (m : Int)) == 0) = decide (n / m = 0) := by
  rw [← Int.natCast_ediv, Bool.eq_iff_iff, beq_iff_eq, decide_eq_true_iff]
  omega
set_option maxRecDepth 100000 in
set_option maxHeartbeats 4000000 in
theorem sfits_any (w : World) {base : Nat} {ss : List (CRec × Value)} {es : List (SCho × Value)} {sv ev : Value} (root : Int) (h : CRows base w ss es sv ev) (k : Nat) (ref lists : Int) (n : Nat) (hk : k ≤ 255) (hn : n ≤ 18446744073709551615) :
    Calls Tryd.prog 40 #[.agg #[sv, ev, .int .i64 root], .agg #[.int .u8 k, .int .i64 ref, .int .i64 lists], .int .u64 n] w fun e w' => e = .returned (.bool (fitsT (es.map Prod.fst) k ref lists n)) ∧ Below w.heap.size w w' := by
  obtain ⟨hb, hq1, hq2⟩ := two_start w #[sv, ev, .int .i64 root] #[.int .u8 k, .int .i64 ref, .int .i64 lists] 30 55
  obtain ⟨sa, sc, ea, ec, rfl, rfl⟩ := h.forms
  have hf2 := row_few h.enums
  obtain ⟨res, hres⟩ : ∃ res, fitsT (es.map Prod.fst) k ref lists n = res := ⟨_, rfl⟩
  rw [hres]
  unfold fitsT at hres
  rw [List.length_map] at hres
  have HN := Lib.hid hres
  have HB := Lib.hid hb
  have HR := Lib.hid (h.below hb)
  have HQ1 := Lib.hid hq1
  have HQ2 := Lib.hid hq2
  obtain ⟨_, q0, q1, q2, _⟩ := blk3 hq2
  clear hq1 hq2 hb h hres
  go_enter Tryd.func40, Tryd.ntmps40
  go_upto_region 1 with (fail)
  generalize ((w.alloc (.cells #[.slice sa ss.length sc, .slice ea es.length ec, .int .i64 root] 30)).alloc (.cells #[.int .u8 k, .int .i64 ref, .int .i64 lists] 55)) = W0 at *
  go_wp2_with fail
  refine (wsize_any _ _).mono ?_
  rintro e W1 ⟨rfl, rfl⟩
  go_wp2_with fail
  refine (snumber_any k ref lists _).mono ?_
  rintro e W1 ⟨rfl, hb1⟩
  have HB1 := Lib.hid (HB.out.trans (hb1.mono HB.out.size))
  have HR1 := Lib.hid (HR.out.below hb1)
  obtain ⟨_, p0, p1, p2, _⟩ := blk3 (blk_below HQ1.out hb1 (blk_lt HQ1.out))
  obtain ⟨_, r0, r1, r2, _⟩ := blk3 (blk_below HQ2.out hb1 (blk_lt HQ2.out))
  clear hb1 q0 q1 q2 HB HR HQ1 HQ2
  cases hnt : numTB k lists
  · have HE := Lib.hid (show res = false by rw [← HN.out, if_pos hnt])
    clear HN hnt
    go_wp2
    go_ret
    exact ⟨ret_bool HE.out.symm, HB1.out⟩
  have HN2 := Lib.hid (HN.out.symm.trans (if_neg (by rw [hnt]; decide)))
  have HSZ := Lib.hid (show 0 < kSize k from by unfold numTB at hnt; rw [Bool.and_eq_true, decide_eq_true_iff, decide_eq_true_iff] at hnt; exact hnt.2)
  clear HN hnt
  by_cases h1 : k = 1
  · subst h1
    have HE := Lib.hid (HN2.out.trans (if_pos rfl))
    clear HN2
    by_cases hn1 : n ≤ 1
    · have HF := Lib.hid (show res = true by rw [HE.out]; exact decide_eq_true hn1)
      have g : (n : Int) ≤ 1 := by omega
      clear HE
      go_wp2
      go_ret
      exact ⟨ret_bool HF.out.symm, HB1.out⟩
    · have g : ¬ (n : Int) ≤ 1 := by omega
      have HF := Lib.hid (show decide ((n : Int) ≤ 1) = res by rw [HE.out, decide_eq_false g, decide_eq_false hn1])
      clear HE
      go_wp2
      go_ret
      exact ⟨ret_bool HF.out, HB1.out⟩
  have t1 : ((k : Int) == 1) = false := by simp; omega
  have HN3 := Lib.hid (HN2.out.trans (if_neg h1))
  clear HN2
  by_cases h10 : k = 10
  · subst h10
    have HE := Lib.hid (HN3.out.trans (if_pos rfl))
    clear HN3
    by_cases hr : 0 ≤ ref ∧ ref < (es.length : Int)
    · obtain ⟨j, rfl⟩ : ∃ j : Nat, ref = j := ⟨ref.toNat, by omega⟩
      have hj : j < es.length := by omega
      have HF := Lib.hid (show res = decide (n < es[j].1.names.length) by
        rw [HE.out, decide_eq_true hr, Bool.true_and, Int.toNat_natCast, List.getD_eq_getElem?_getD, List.getElem?_map, List.getElem?_eq_getElem hj]; rfl)
      obtain ⟨g, cc, hv, hcc, hg, hcell⟩ := row_el schoCells 2 (fun _ => rfl) HR1.out.enums j hj
      obtain ⟨rfl, rfl⟩ := slice_inj hv
      have hnm := HR1.out.names _ (List.getElem_mem hj)
      obtain ⟨na, nc, hnv⟩ := ownsRow_form hnm
      have hfn := row_few hnm
      have x1 : W1.cell? ⟨g, j * 2 + 1, none⟩ = some (.slice na es[j].1.names.length nc) := by rw [← hnv]; exact hcell 1 (by omega)
      generalize es[j].1.names.length = cnt at *
      have hw : IntKind.u64.wrap (cnt : Int) = cnt := IntWalk.u64_in _ (by omega)
      have hji : (j : Int) < es.length := by omega
      have hj0 : (0 : Int) ≤ (j : Int) := by omega
      have HA := Lib.hid (samong_any (j : Int) es.length true (decide_eq_true hr))
      clear HE hv hcell hnm hnv hr
      go_wp2_with fail
      refine (HA.out _).mono ?_
      rintro e W2 ⟨rfl, rfl⟩
      by_cases hnc : n < cnt
      · have HG := Lib.hid (show res = true by rw [HF.out]; exact decide_eq_true hnc)
        have gc : (n : Int) < (cnt : Int) := by omega
        clear HF
        go_wp2
        go_ret
        exact ⟨ret_bool HG.out.symm, HB1.out⟩
      · have HG := Lib.hid (show res = false by rw [HF.out]; exact decide_eq_false hnc)
        have gc : ¬ (n : Int) < (cnt : Int) := by omega
        clear HF
        go_wp2
        go_ret
        exact ⟨ret_bool HG.out.symm, HB1.out⟩
    · have HF := Lib.hid (show res = false by rw [HE.out, decide_eq_false hr, Bool.false_and])
      have HA := Lib.hid (samong_any ref es.length false (decide_eq_false hr))
      clear HE hr
      go_wp2_with fail
      refine (HA.out _).mono ?_
      rintro e W2 ⟨rfl, rfl⟩
      go_wp2
      go_ret
      exact ⟨ret_bool HF.out.symm, HB1.out⟩
  have t10 : ((k : Int) == 10) = false := by simp; omega
  have HN4 := Lib.hid (HN3.out.trans (if_neg h10))
  clear HN3
  go_wp2_with fail
  refine (wsign_any _ _).mono ?_
  rintro e W2 ⟨rfl, rfl⟩
  cases hsg : kSign (k : Int)
  · have HE := Lib.hid (HN4.out.trans (if_neg (by rw [hsg]; decide)))
    have hk4 : k = 6 ∨ k = 7 ∨ k = 8 ∨ k = 9 := by
      have hz := HSZ.out
      unfold kSign at hsg
      have hs2 := of_decide_eq_false hsg
      unfold kSize at hz
      rcases Nat.lt_or_ge k 11 with h | h
      · have : k = 0 ∨ k = 1 ∨ k = 2 ∨ k = 3 ∨ k = 4 ∨ k = 5 ∨ k = 6 ∨ k = 7 ∨ k = 8 ∨ k = 9 ∨ k = 10 := by omega
        rcases this with rfl | rfl | rfl | rfl | rfl | rfl | rfl | rfl | rfl | rfl | rfl <;> simp_all
      · rw [if_neg (by omega), if_neg (by omega), if_neg (by omega), if_neg (by omega)] at hz
        exact absurd hz (by decide)
    clear HN4 hsg
    rcases hk4 with rfl | rfl | rfl | rfl
    · have HE2 := Lib.hid (show res = decide (n / 256 = 0) from HE.out)
      have hks : kSize ((6 : Nat) : Int) = 1 := by decide
      rw [hks]
      clear HE hks
      go_wp2
      go_ret
      exact ⟨ret_bool (by rw [HE2.out]; exact div_beq n 256), HB1.out⟩
    · have HE2 := Lib.hid (show res = decide (n / 65536 = 0) from HE.out)
      have hks : kSize ((7 : Nat) : Int) = 2 := by decide
      rw [hks]
      clear HE hks
      go_wp2
      go_ret
      exact ⟨ret_bool (by rw [HE2.out]; exact div_beq n 65536), HB1.out⟩
    · have HE2 := Lib.hid (show res = decide (n / 4294967296 = 0) from HE.out)
      have hks : kSize ((8 : Nat) : Int) = 4 := by decide
      rw [hks]
      clear HE hks
      go_wp2
      go_ret
      exact ⟨ret_bool (by rw [HE2.out]; exact div_beq n 4294967296), HB1.out⟩
    · have HE2 := Lib.hid (show res = decide (n / 18446744073709551616 = 0) from HE.out)
      have hks : kSize ((9 : Nat) : Int) = 8 := by decide
      rw [hks]
      clear HE hks
      go_wp2
      go_ret
      exact ⟨ret_bool (by rw [HE2.out]; exact div_beq n 18446744073709551616), HB1.out⟩
  · have HE := Lib.hid (HN4.out.trans (if_pos hsg))
    clear HN4 hsg
    go_wp2_with fail
    refine (wsignedS_any _ _ _).mono ?_
    rintro e W2 ⟨rfl, rfl⟩
    by_cases hq : sgnOf n (kSize k) = n
    · have HF := Lib.hid (show res = true by rw [HE.out]; exact decide_eq_true hq)
      have t : (sgnOf n (kSize k) == (n : Int)) = true := beq_iff_eq.2 hq
      generalize sgnOf n (kSize k) = z at *
      clear HE hq
      go_wp2
      go_ret
      exact ⟨ret_bool HF.out.symm, HB1.out⟩
    · have HF := Lib.hid (show res = false by rw [HE.out]; exact decide_eq_false hq)
      have t : (sgnOf n (kSize k) == (n : Int)) = false := beq_eq_false_iff_ne.2 hq
      generalize sgnOf n (kSize k) = z at *
      clear HE hq
      go_wp2
      go_ret
      exact ⟨ret_bool HF.out.symm, HB1.out⟩
end Go.Proofs.YtjeoekggdohhiaaDoor
namespace Go.Proofs.YtjeoekggdohhiaaDoor
open Go.ChangeShapes Go.WideShapes Go.ChangeAt Go.RowKit Go.Shelf
def VFPost (ss : List (CRec × Value)) (rec : Int) (w : World) (e : Ending) (w' : World) : Prop :=
  Below w.heap.size w w' ∧ ((¬ (0 ≤ rec ∧ rec < ss.length) ∧ e = .returned (.tuple #[.slice none 0 0, .bool false])) ∨ (∃ (i : Nat) (hi : i < ss.length), rec = i ∧ e = .returned (.tuple #[(ss[i]'hi).2, .bool true])))
theorem vfields_any (w : World) {base : Nat} {ss : List (CRec × Value)} {es : List (SCho × Value)} {sv ev : Value} (root rec : Int) (h : CRows base w ss es sv ev) :
    Calls Tryd.prog 37 #[.agg #[sv, ev, .int .i64 root], .int .i64 rec] w (VFPost ss rec w) := by
  obtain ⟨sa, sc, ea, ec, rfl, rfl⟩ := h.forms
  have h0 := heap_alloc_new w (.cells #[.slice sa ss.length sc, .slice ea es.length ec, .int .i64 root] 30)
  have hb := (Below.refl w.heap.size w).alloc (Nat.le_refl _) (.cells #[.slice sa ss.length sc, .slice ea es.length ec, .int .i64 root] 30)
  have HB := Lib.hid hb
  have HC := Lib.hid (h.below hb)
  obtain ⟨_, x0, x1, x2, _⟩ := blk3 h0
  have hfew := row_few h.structs
  clear h0 hb h
  by_cases hlo : rec < 0
  · go_enter Tryd.func37, Tryd.ntmps37
    go_wp2
    exact bodyPost_ret (v := .tuple #[.slice none 0 0, .bool false]) (by simp [results, Tryd.results37, go_sem]) rfl (by unfold VFPost; exact ⟨HB.out, .inl ⟨by omega, rfl⟩⟩)
  obtain ⟨i, rfl⟩ := Int.eq_ofNat_of_zero_le (by omega : 0 ≤ rec)
  by_cases hhi : ss.length ≤ i
  · have t0 : (ss.length : Int) ≤ (i : Int) := by omega
    go_enter Tryd.func37, Tryd.ntmps37
    go_wp2
    exact bodyPost_ret (v := .tuple #[.slice none 0 0, .bool false]) (by simp [results, Tryd.results37, go_sem]) rfl (by unfold VFPost; exact ⟨HB.out, .inl ⟨by omega, rfl⟩⟩)
  · have hil : i < ss.length := by omega
    have t0 : ¬ (ss.length : Int) ≤ (i : Int) := by omega
    have hib : (i : Int) < ss.length := by omega
    have hib0 : (0 : Int) ≤ (i : Int) := by omega
    obtain ⟨g, cc, hv, hcc, hgl, hcell⟩ := row_el crecCells 2 (fun _ => rfl) HC.out.structs i hil
    obtain ⟨rfl, rfl⟩ := slice_inj hv
    have y1 : (w.alloc (.cells #[.slice (some ⟨g, 0, none⟩) ss.length sc, .slice ea es.length ec, .int .i64 root] 30)).cell? ⟨g, i * 2 + 1, none⟩ = some ss[i].2 := hcell 1 (by omega)
    have hsl := HC.out.fields _ (List.getElem_mem hil)
    obtain ⟨fa, fc, hf⟩ := ownsRow_form hsl
    have HF := Lib.hid hf
    rw [hf] at y1
    clear hcell hv hsl hf
    generalize ss[i].1.fields.length = fl at *
    go_enter Tryd.func37, Tryd.ntmps37
    go_wp2
    exact bodyPost_ret (v := .tuple #[.slice fa fl fc, .bool true]) (by simp [results, Tryd.results37, go_sem]) rfl (by unfold VFPost; exact ⟨HB.out, .inr ⟨i, hil, rfl, by rw [HF.out]⟩⟩)
def FldsOk (ss : List (CRec × Value)) : Prop := ∀ q ∈ ss, ∀ f ∈ q.1.fields, f.kind ≤ 255 ∧ -9223372036854775800 ≤ f.lists ∧ f.lists ≤ 9223372036854775807 ∧ f.dflt ≤ 18446744073709551615
def FitsAt (ss : List (CRec × Value)) (es : List (SCho × Value)) (room : Nat) : Prop :=
  ∀ (W : World) (base : Nat) (sv ev : Value) (root : Int) (k : Nat) (ref lists : Int) (v : PV) (val : Value), CRows base W ss es sv ev → Tabs W → k ≤ 255 → -9223372036854775800 ≤ lists → lists ≤ 9223372036854775807 → IsV W v val →
    Calls Tryd.prog 27 #[.agg #[sv, ev, .int .i64 root], .agg #[.int .u8 k, .int .i64 ref, .int .i64 lists], val, .int .i64 room] W fun e w' => e = .returned (.bool (fitsP (ss.map Prod.fst) (es.map Prod.fst) room k ref lists v)) ∧ Below W.heap.size W w'
theorem all_take' {α : Type} (p : α → Bool) (l : List α) (k : Nat) (hk : k < l.length) : (l.take (k + 1)).all p = ((l.take k).all p && p l[k]) := by
  rw [List.take_succ_eq_append_getElem hk, List.all_append]
  simp
theorem all_false' {α : Type} (p : α → Bool) (l : List α) (k : Nat) (hk : k < l.length) (h : p l[k] = false) : l.all p = false := by
  cases ha : l.all p
  · rfl
  · rw [List.all_eq_true] at ha
    rw [ha _ (List.getElem_mem hk)] at h
    cases h
def KidsAt (w : World) (ks : List PV) (ka : Option Addr) : Prop := ∀ i (hi : i < ks.length), ∃ (kb ko : Nat) (u0 u1 u2 u3 : Value), ka = some ⟨kb, ko, none⟩ ∧ w.cell? ⟨kb, ko + i * 4, none⟩ = some u0 ∧ w.cell? ⟨kb, ko + i * 4 + 1, none⟩ = some u1 ∧ w.cell? ⟨kb, ko + i * 4 + 2, none⟩ = some u2 ∧ w.cell? ⟨kb, ko + i * 4 + 3, none⟩ = some u3 ∧ IsV w (ks[i]'hi) (.agg #[u0, u1, u2, u3])
theorem KidsAt.later {w W : World} {ks : List PV} {ka : Option Addr} (h : KidsAt w ks ka) (hb : Below w.heap.size w W) : KidsAt W ks ka := fun i hi => by
  obtain ⟨kb, ko, u0, u1, u2, u3, h1, h2, h3, h4, h5, h6⟩ := h i hi
  exact ⟨kb, ko, u0, u1, u2, u3, h1, cell_stays hb h2, cell_stays hb h3, cell_stays hb h4, cell_stays hb h5, h6.later hb⟩
def kidOk (ss : List CRec) (es : List SCho) (room k : Nat) (ref lists : Int) (q : PV) : Bool := !decide (room = 0) && (!(decide (sortP k lists = 4) && !q.has) && fitsP ss es (room - 1) k ref lists q)
def LAt (W0 : World) (p : PV → Bool) (ks : List PV) (i : Value) (W : World) : Prop := ∃ j : Nat, j ≤ ks.length ∧ i = .int .i64 j ∧ Below W0.heap.size W0 W ∧ (ks.take j).all p = true
set_option maxRecDepth 100000 in
set_option maxHeartbeats 8000000 in
theorem vlist_any (w : World) {base : Nat} {ss : List (CRec × Value)} {es : List (SCho × Value)} {sv ev : Value} (root : Int) (h : CRows base w ss es sv ev) (hT : Tabs w) (room k : Nat) (ref lists : Int) (hk : k ≤ 255) (hl0 : -9223372036854775800 ≤ lists) (hl1 : lists ≤ 9223372036854775807) (hroom : room ≤ 100)
    (ks : List PV) (ka : Option Addr) (kc : Nat) (hks : KidsAt w ks ka) (_hkc : ks.length ≤ kc) (hkm : (ks.length : Int) ≤ 9223372036854775807) (hnext : ∀ r, room = r + 1 → FitsAt ss es r) :
    Calls Tryd.prog 42 #[.agg #[sv, ev, .int .i64 root], .agg #[.int .u8 k, .int .i64 ref, .int .i64 lists], .slice ka ks.length kc, .int .i64 room] w fun e w' => e = .returned (.bool (ks.all (kidOk (ss.map Prod.fst) (es.map Prod.fst) room k ref lists))) ∧ Below w.heap.size w w' := by
  obtain ⟨sa, sc, ea, ec, rfl, rfl⟩ := h.forms
  obtain ⟨hb, hq1, hq2⟩ := two_start w #[.slice sa ss.length sc, .slice ea es.length ec, .int .i64 root] #[.int .u8 k, .int .i64 ref, .int .i64 lists] 30 55
  have HB := Lib.hid hb
  have HQ1 := Lib.hid hq1
  have HQ2 := Lib.hid hq2
  have HC := Lib.hid (h.below hb)
  have HT := Lib.hid (hT.below (Nat.le_refl _) hb)
  have HKS := Lib.hid (hks.later hb)
  have HNX := Lib.hid hnext
  obtain ⟨P, hP⟩ : ∃ P, kidOk (ss.map Prod.fst) (es.map Prod.fst) room k ref lists = P := ⟨_, rfl⟩
  have HP := Lib.hid hP.symm
  rw [hP]
  clear hb hq1 hq2 h hT hks hnext hP
  go_enter Tryd.func42, Tryd.ntmps42
  go_upto_region 1 with (fail)
  generalize (w.alloc (.cells #[.slice sa ss.length sc, .slice ea es.length ec, .int .i64 root] 30)).alloc (.cells #[.int .u8 k, .int .i64 ref, .int .i64 lists] 55) = W0 at *
  go_wp2_with fail
  go_loopw [14] (fun i wr => LAt W0 P ks i wr) (fun i _ => ks.length - (intOf i).toNat)
  case atStart => exact ⟨0, Nat.zero_le _, rfl, Below.refl _ _, rfl⟩
  case round =>
    obtain ⟨j, hj, rfl, hb, hall⟩ := hrel
    have HALL := Lib.hid hall
    have HBW := Lib.hid hb
    clear hall hb
    by_cases hjl : j < ks.length
    · have hji : (j : Int) < ks.length := by omega
      have hji0 : (0 : Int) ≤ (j : Int) := by omega
      obtain ⟨kb, ko, u0, u1, u2, u3, rfl, c0, c1, c2, c3, hiv⟩ := HKS.out.later HBW.out j hjl
      have HIV := Lib.hid hiv
      have HAT := Lib.hid (all_take' P ks j hjl)
      have HAF := Lib.hid (all_false' P ks j hjl)
      obtain ⟨q, hq⟩ : ∃ q, ks[j] = q := ⟨_, rfl⟩
      rw [hq] at HIV HAT HAF
      obtain ⟨ba, qa, bc, qc, hval, _⟩ := HIV.out.form
      injection hval with hval
      have e0 := congrArg (fun x : Array Value => x[0]?) hval
      have e1 := congrArg (fun x : Array Value => x[1]?) hval
      have e2 := congrArg (fun x : Array Value => x[2]?) hval
      have e3 := congrArg (fun x : Array Value => x[3]?) hval
      simp at e0 e1 e2 e3
      subst e0 e1 e2 e3
      clear hiv hq hval
      go_upto_region 4 with (fail)
      have hba : Below wr.heap.size wr (wr.alloc (.cells #[.int .u64 q.num, .slice ba q.bytes.length bc, .slice qa q.kids.length qc, .bool q.has] 36)) := (Below.refl _ _).alloc (Nat.le_refl _) _
      have HF := Lib.hid (heap_alloc_new wr (.cells #[.int .u64 q.num, .slice ba q.bytes.length bc, .slice qa q.kids.length qc, .bool q.has] 36))
      have HB1 := Lib.hid (HBW.out.trans (hba.mono HBW.out.size))
      have HIV1 := Lib.hid (HIV.out.later hba)
      generalize wr.alloc (.cells #[.int .u64 q.num, .slice ba q.bytes.length bc, .slice qa q.kids.length qc, .bool q.has] 36) = W1 at *
      generalize wr.heap.size = F at *
      clear c0 c1 c2 c3 hba HIV
      have HS1 := Lib.hid (blk_below HQ1.out HB1.out (blk_lt HQ1.out))
      have HS2 := Lib.hid (blk_below HQ2.out HB1.out (blk_lt HQ2.out))
      obtain ⟨_, t0, t1, t2, _⟩ := blk3 HS2.out
      go_wp2_with fail
      refine (sorts_any k ref lists W1).mono ?_
      rintro e W2 ⟨rfl, hb2⟩
      have HB2 := Lib.hid (HB1.out.trans (hb2.mono HB1.out.size))
      have HF2 := Lib.hid (blk_below HF.out hb2 (blk_lt HF.out))
      have HIV2 := Lib.hid (HIV1.out.later hb2)
      have HS3 := Lib.hid (blk_below HS1.out hb2 (blk_lt HS1.out))
      have HS4 := Lib.hid (blk_below HS2.out hb2 (blk_lt HS2.out))
      clear hb2 t0 t1 t2
      obtain ⟨_, f0, f1, f2, f3⟩ := blk4p HF2.out
      obtain ⟨_, t0, t1, t2, _⟩ := blk3 HS4.out
      obtain ⟨_, s0, s1, s2, _⟩ := blk3 HS3.out
      have h4 : ((sortP k lists : Int) == 4) = decide (sortP k lists = 4) := by by_cases h : sortP k lists = 4 <;> simp [h]; omega
      have HPQ : Hid (P q = (!decide (room = 0) && (!(decide (sortP k lists = 4) && !q.has) && fitsP (ss.map Prod.fst) (es.map Prod.fst) (room - 1) k ref lists q))) := Lib.hid (by rw [HP.out]; rfl)
      generalize sortP k lists = o at *
      generalize decide (o = 4) = o4 at *
      obtain ⟨qh, hqh⟩ : ∃ x, q.has = x := ⟨_, rfl⟩
      rw [hqh] at HPQ HF2 f3 HIV2
      by_cases hr0 : room = 0
      · have HN := Lib.hid (HAF.out (by rw [HPQ.out, decide_eq_true hr0]; rfl))
        subst hr0
        cases o4 <;> cases qh <;> (go_wp2; go_ret; exact ⟨ret_bool HN.out.symm, HB.out.trans (HB2.out.mono HB.out.size)⟩)
      have hrn : ((room : Int) == 0) = false := by simp; omega
      have HPQ2 := Lib.hid (HPQ.out.trans (by rw [decide_eq_false hr0, Bool.not_false, Bool.true_and]))
      obtain ⟨r, hr⟩ : ∃ r, room = r + 1 := ⟨room - 1, by omega⟩
      have HFA := Lib.hid (HNX.out r hr W2 base _ _ root k ref lists q _ (HC.out.below HB2.out) (HT.out.below (Nat.le_refl _) HB2.out) hk hl0 hl1 HIV2.out)
      have hrw : (room : Int) - 1 = (r : Int) := by omega
      have hr1 : room - 1 = r := by omega
      rw [hr1] at HPQ2
      have HK2 := Lib.hid HAT.out
      have hpost : ∀ b, fitsP (ss.map Prod.fst) (es.map Prod.fst) r k ref lists q = b → ((P q = (!(o4 && !qh) && b))) := fun b hb => by rw [HPQ2.out, hb]
      have HPOST := Lib.hid hpost
      clear hpost hr hr1
      cases o4 with
      | false =>
        go_wp2_with fail
        refine HFA.out.mono ?_
        rintro e W3 ⟨rfl, hb3⟩
        have HB3 := Lib.hid (HB2.out.trans (hb3.mono HB2.out.size))
        clear hb3 f0 f1 f2 f3 t0 t1 t2 s0 s1 s2
        cases hfb : fitsP (ss.map Prod.fst) (es.map Prod.fst) r k ref lists q with
        | false =>
          have HN := Lib.hid (HAF.out (HPOST.out false hfb))
          go_wp2
          go_ret
          exact ⟨ret_bool HN.out.symm, HB.out.trans (HB3.out.mono HB.out.size)⟩
        | true =>
          have HY := Lib.hid (HPOST.out true hfb)
          go_wp2
          go_roundw
          case rel => exact ⟨j + 1, by omega, by go_num, HB3.out, by rw [HAT.out, HALL.out, HY.out]; rfl⟩
          case measure => simp [intOf]; omega
      | true =>
        cases qh with
        | false =>
          have HN := Lib.hid (HAF.out (by rw [HPQ2.out]; rfl))
          go_wp2
          go_ret
          exact ⟨ret_bool HN.out.symm, HB.out.trans (HB2.out.mono HB.out.size)⟩
        | true =>
          go_wp2_with fail
          refine HFA.out.mono ?_
          rintro e W3 ⟨rfl, hb3⟩
          have HB3 := Lib.hid (HB2.out.trans (hb3.mono HB2.out.size))
          clear hb3 f0 f1 f2 f3 t0 t1 t2 s0 s1 s2
          cases hfb : fitsP (ss.map Prod.fst) (es.map Prod.fst) r k ref lists q with
          | false =>
            have HN := Lib.hid (HAF.out (HPOST.out false hfb))
            go_wp2
            go_ret
            exact ⟨ret_bool HN.out.symm, HB.out.trans (HB3.out.mono HB.out.size)⟩
          | true =>
            have HY := Lib.hid (HPOST.out true hfb)
            go_wp2
            go_roundw
            case rel => exact ⟨j + 1, by omega, by go_num, HB3.out, by rw [HAT.out, HALL.out, HY.out]; rfl⟩
            case measure => simp [intOf]; omega
    · obtain rfl : j = ks.length := by omega
      have HR : Hid (ks.all P = true) := Lib.hid (by have h := HALL.out; rwa [List.take_length] at h)
      clear hjl
      go_wp2
      go_ret
      exact ⟨ret_bool HR.out.symm, HB.out.trans (HBW.out.mono HB.out.size)⟩
end Go.Proofs.YtjeoekggdohhiaaDoor
namespace Go.Proofs.YtjeoekggdohhiaaDoor
open Go.ChangeShapes Go.WideShapes Go.ChangeAt Go.RowKit Go.Shelf

theorem u8_nums {x y : Int} (hx : 0 ≤ x ∧ x ≤ 255) (hy : 0 ≤ y ∧ y ≤ 255) (h : UInt8.ofNat x.toNat = UInt8.ofNat y.toNat) : x = y := by
  have h1 := congrArg UInt8.toNat h
  simp only [UInt8.toNat_ofNat'] at h1
  omega
theorem nums_inj : ∀ (a b : List Int), (∀ z ∈ a, 0 ≤ z ∧ z ≤ 255) → (∀ z ∈ b, 0 ≤ z ∧ z ≤ 255) → (a.map fun n => UInt8.ofNat n.toNat) = (b.map fun n => UInt8.ofNat n.toNat) → a = b
  | [], [], _, _, _ => rfl
  | [], y :: b, _, _, h => by simp at h
  | x :: a, [], _, _, h => by simp at h
  | x :: a, y :: b, ha, hb, h => by
    rw [List.map_cons, List.map_cons, List.cons.injEq] at h
    rw [u8_nums (ha x (by simp)) (hb y (by simp)) h.1, nums_inj a b (fun z hz => ha z (by simp [hz])) (fun z hz => hb z (by simp [hz])) h.2]
theorem mem_range {a : List Int} (h : ∀ i, 0 ≤ a.getD i 0 ∧ a.getD i 0 ≤ 255) : ∀ z ∈ a, 0 ≤ z ∧ z ≤ 255 := fun z hz => by
  obtain ⟨i, hi, rfl⟩ := List.getElem_of_mem hz
  have := h i
  rwa [List.getD, List.getElem?_eq_getElem hi, Option.getD_some] at this
theorem strOf_inj {a b : List Int} (ha : ∀ i, 0 ≤ a.getD i 0 ∧ a.getD i 0 ≤ 255) (hb : ∀ i, 0 ≤ b.getD i 0 ∧ b.getD i 0 ≤ 255) (h : strOfNums a = strOfNums b) : a = b := by
  have h1 := congrArg (fun s : ByteArray => s.data.toList) h
  exact nums_inj a b (mem_range ha) (mem_range hb) h1
theorem conv_bytes {W : World} {p : Option Addr} {zs : List Int} (h : Bytes W p zs) (c : Nat) : (convert 22 9 (.slice p zs.length c)).run Tryd.prog W = .ok (.string (strOfNums zs)) W := by
  by_cases hz : zs = []
  · subst hz
    exact conv_zero W _ 5 _ Tryd.underlying22 Tryd.underlying5 Tryd.underlying9 p c
  · obtain ⟨b, off, rfl, _, hc⟩ := h.2 hz
    exact run_convert_bytes_arg W _ 5 Tryd.underlying22 Tryd.underlying5 b off zs.length c zs rfl hc _ Tryd.underlying9
theorem sb_yes {a b : ByteArray} (h : a = b) : (a.toList == b.toList) = true := by rw [h]; exact beq_self_eq_true _
theorem sb_no {a b : ByteArray} (h : a ≠ b) : (a.toList == b.toList) = false := by
  rw [beq_eq_false_iff_ne]
  intro e
  rw [ByteArray.toList_eq, ByteArray.toList_eq] at e
  apply h
  obtain ⟨⟨a⟩⟩ := a
  obtain ⟨⟨b⟩⟩ := b
  have e2 : a = b := e
  rw [e2]
def SamePost (a b : PV) (e : Ending) : Prop := ∃ r, e = .returned (.bool r) ∧ (r = true ↔ a = b)
def SameAt (a : PV) : Prop := ∀ (W : World) (b : PV) (va vb : Value), IsV W a va → IsV W b vb →
    Calls Tryd.prog 14 #[va, vb] W fun e w' => SamePost a b e ∧ Below W.heap.size W w'
def SmAt (W0 : World) (ks ls : List PV) (i : Value) (W : World) : Prop := ∃ j : Nat, j ≤ ks.length ∧ i = .int .i64 j ∧ Below W0.heap.size W0 W ∧ ks.take j = ls.take j
theorem ret_no {a b : PV} (h : a ≠ b) {W w : World} (hb : Below w.heap.size w W) : SamePost a b (.returned (.bool false)) ∧ Below w.heap.size w W := ⟨⟨false, rfl, by simp [h]⟩, hb⟩
set_option maxRecDepth 100000 in
set_option maxHeartbeats 16000000 in
theorem same_step (n : Nat) (bs : List Int) (ks : List PV) (hh : Bool) (hnext : ∀ q ∈ ks, SameAt q) : SameAt (.mk n bs ks hh) := by
  intro w b va vb ha hb'
  obtain ⟨m, cs, ls, gg⟩ := b
  obtain ⟨ba, ka, bc, kc, rfl, hn, hby, hbl, hbm, hkl, hkm, hks⟩ := ha.form
  obtain ⟨bb, kb2, bd, kd, rfl, hm, hcy, hcl, hcm, hll, hlm, hls⟩ := hb'.form
  simp only [PV.num, PV.bytes, PV.kids, PV.has] at hn hby hbl hbm hkl hkm hks hm hcy hcl hcm hll hlm hls ⊢
  obtain ⟨hb, hq1, hq2⟩ := two_start w #[.int .u64 n, .slice ba bs.length bc, .slice ka ks.length kc, .bool hh] #[.int .u64 m, .slice bb cs.length bd, .slice kb2 ls.length kd, .bool gg] 36 36
  have HB := Lib.hid hb
  have HQ1 := Lib.hid hq1
  have HQ2 := Lib.hid hq2
  have HKS := Lib.hid (KidsAt.later (w := w) (ks := ks) (ka := ka) hks hb)
  have HLS := Lib.hid (KidsAt.later (w := w) (ks := ls) (ka := kb2) hls hb)
  have HNX := Lib.hid hnext
  have HNB := Lib.hid (fun h : bs = cs => congrArg strOfNums h)
  have HINJ := Lib.hid (fun h : strOfNums bs = strOfNums cs => strOf_inj hby.1 hcy.1 h)
  have k1 := conv_bytes (hby.below (Nat.le_refl _) hb) bc
  have k2 := conv_bytes (hcy.below (Nat.le_refl _) hb) bd
  clear hb hq1 hq2 hks hls hnext ha hb' hby hcy hbl hbm hcl hcm hkl hll
  go_enter Tryd.func14, Tryd.ntmps14
  go_upto_region 1 with (fail)
  generalize (w.alloc (.cells #[.int .u64 n, .slice ba bs.length bc, .slice ka ks.length kc, .bool hh] 36)).alloc (.cells #[.int .u64 m, .slice bb cs.length bd, .slice kb2 ls.length kd, .bool gg] 36) = W0 at *
  generalize w.heap.size + 1 = V at *
  obtain ⟨_, s0, s1, s2, s3⟩ := blk4p HQ1.out
  obtain ⟨_, v0, v1, v2, v3⟩ := blk4p HQ2.out
  generalize strOfNums bs = S1 at *
  generalize strOfNums cs = S2 at *
  by_cases h1 : n = m
  case neg =>
    have t1 : ((n : Int) != (m : Int)) = true := by simp; omega
    have HN : Hid (PV.mk n bs ks hh ≠ .mk m cs ls gg) := Lib.hid (fun h => h1 (congrArg PV.num h))
    clear h1
    go_wp2
    go_ret
    exact ret_no HN.out HB.out
  case pos =>
  have t1 : ((n : Int) != (m : Int)) = false := by simp; omega
  by_cases h2 : S1 = S2
  case neg =>
    have t2 := sb_no h2
    have HN : Hid (PV.mk n bs ks hh ≠ .mk m cs ls gg) := Lib.hid (fun h => h2 (HNB.out (congrArg PV.bytes h)))
    clear h1 h2
    go_wp2
    go_ret
    exact ret_no HN.out HB.out
  case pos =>
  have t2 := sb_yes h2
  have HBS := Lib.hid (HINJ.out h2)
  have HNM := Lib.hid h1
  clear HINJ h1
  by_cases h3 : hh = gg
  case neg =>
    have t3 : (hh != gg) = true := bne_iff_ne.2 h3
    have HN : Hid (PV.mk n bs ks hh ≠ .mk m cs ls gg) := Lib.hid (fun h => h3 (congrArg PV.has h))
    clear h2 t3
    go_wp2
    go_ret
    exact ret_no HN.out HB.out
  case pos =>
  have t3 : (hh != gg) = false := by rw [h3]; simp
  have HHG := Lib.hid h3
  by_cases h4 : ks.length = ls.length
  case neg =>
    have t4 : ((ks.length : Int) != (ls.length : Int)) = true := by simp; omega
    have HN : Hid (PV.mk n bs ks hh ≠ .mk m cs ls gg) := Lib.hid (fun h => h4 (congrArg (fun v => (PV.kids v).length) h))
    clear h4 h3 h2
    go_wp2
    go_ret
    exact ret_no HN.out HB.out
  case pos =>
  have t4 : ((ks.length : Int) != (ls.length : Int)) = false := by simp; omega
  have HLEN := Lib.hid h4
  clear h4 h3 h2
  go_wp2_with fail
  go_loopw [5] (fun i wr => SmAt W0 ks ls i wr) (fun i _ => ks.length - (intOf i).toNat)
  case atStart => exact ⟨0, Nat.zero_le _, rfl, Below.refl _ _, rfl⟩
  case round =>
    obtain ⟨j, hj, rfl, hb, hall⟩ := hrel
    have HALL := Lib.hid hall
    have HBW := Lib.hid hb
    clear hall hb k1 k2 s0 s1 s2 s3 v0 v1 v2 v3 t1 t2 t3 t4
    obtain ⟨_, s0, s1, s2, s3⟩ := blk4p (blk_below HQ1.out HBW.out (blk_lt HQ1.out))
    obtain ⟨_, v0, v1, v2, v3⟩ := blk4p (blk_below HQ2.out HBW.out (blk_lt HQ2.out))
    clear s0 s1 s3 v0 v1 v3
    by_cases hjl : j < ks.length
    · have hji : (j : Int) < ks.length := by omega
      have hji0 : (0 : Int) ≤ (j : Int) := by omega
      have hjm : j < ls.length := by have := HLEN.out; omega
      have hjmi : (j : Int) < ls.length := by omega
      obtain ⟨kb, ko, u0, u1, u2, u3, rfl, c0, c1, c2, c3, hiv⟩ := HKS.out.later HBW.out j hjl
      obtain ⟨lb, lo, x0, x1, x2, x3, rfl, d0, d1, d2, d3, hjv⟩ := HLS.out.later HBW.out j hjm
      have HSM := Lib.hid (fun W (hb : Below wr.heap.size wr W) => HNX.out ks[j] (List.getElem_mem hjl) W ls[j] _ _ (hiv.later hb) (hjv.later hb))
      have HTK : Hid (ks.take (j + 1) = ls.take (j + 1) ↔ ks[j] = ls[j]) := Lib.hid (by
        rw [List.take_succ_eq_append_getElem hjl, List.take_succ_eq_append_getElem hjm, HALL.out]
        constructor
        · intro h
          have h2 := List.append_cancel_left h
          injection h2
        · intro h
          rw [h])
      have HNE : Hid (ks[j] ≠ ls[j] → PV.mk n bs ks hh ≠ .mk m cs ls gg) := Lib.hid (fun hne h => by
        have h1 : ks = ls := congrArg PV.kids h
        subst h1
        exact hne rfl)
      generalize ks[j] = q at *
      generalize ls[j] = p at *
      clear hiv hjv
      go_upto_region 6 with (fail)
      refine wp_region_noPanic ?_
      refine wp_region_held_drew (S := (fun w' => w'.cell? ⟨w.heap.size, 2, none⟩ = some (.slice (some ⟨kb, ko, none⟩) ks.length kc) ∧ w'.cell? ⟨V, 2, none⟩ = some (.slice (some ⟨lb, lo, none⟩) ls.length kd) ∧ w'.cell? ⟨kb, ko + j * 4, none⟩ = some u0 ∧ w'.cell? ⟨kb, ko + j * 4 + 1, none⟩ = some u1 ∧ w'.cell? ⟨kb, ko + j * 4 + 2, none⟩ = some u2 ∧ w'.cell? ⟨kb, ko + j * 4 + 3, none⟩ = some u3 ∧ w'.cell? ⟨lb, lo + j * 4, none⟩ = some x0 ∧ w'.cell? ⟨lb, lo + j * 4 + 1, none⟩ = some x1 ∧ w'.cell? ⟨lb, lo + j * 4 + 2, none⟩ = some x2 ∧ w'.cell? ⟨lb, lo + j * 4 + 3, none⟩ = some x3)) (by kernel_rfl) ⟨s2, v2, c0, c1, c2, c3, d0, d1, d2, d3⟩ ?_
      intro hS
      refine wpAnyH_take (i := 0) (v := .pointer (some ⟨w.heap.size, 2, none⟩)) rfl (by kernel_rfl) (by kernel_rfl) (by kernel_rfl) (fun _ _ _ h => h) (Or.inl ⟨by rfl, ?_⟩) hS ?_
      · intro w' hSw
        obtain ⟨s2, v2, c0, c1, c2, c3, d0, d1, d2, d3⟩ := hSw
        go_simp
      simp only [Act.put, List.getElem_toArray, List.getElem_cons_zero, List.setIfInBounds_toArray, List.set_cons_zero, List.set_cons_succ]
      refine wpAnyH_take (i := 1) (v := .slice (some ⟨kb, ko, none⟩) ks.length kc) rfl (by kernel_rfl) (by kernel_rfl) (by kernel_rfl) (fun _ _ _ h => h) (Or.inl ⟨by rfl, ?_⟩) hS ?_
      · intro w' hSw
        obtain ⟨s2, v2, c0, c1, c2, c3, d0, d1, d2, d3⟩ := hSw
        go_simp
      simp only [Act.put, List.getElem_toArray, List.getElem_cons_succ, List.getElem_cons_zero, List.setIfInBounds_toArray, List.set_cons_zero, List.set_cons_succ]
      refine wpAnyH_take (i := 2) (v := .int .i64 j) rfl (by kernel_rfl) (by kernel_rfl) (by kernel_rfl) (fun _ _ _ h => h) (Or.inl ⟨by rfl, ?_⟩) hS ?_
      · intro w' hSw
        obtain ⟨s2, v2, c0, c1, c2, c3, d0, d1, d2, d3⟩ := hSw
        go_simp
      simp only [Act.put, List.getElem_toArray, List.getElem_cons_succ, List.getElem_cons_zero, List.setIfInBounds_toArray, List.set_cons_zero, List.set_cons_succ]
      refine wpAnyH_take (i := 3) (v := .pointer (some ⟨kb, ko + j * 4, none⟩)) rfl (by kernel_rfl) (by kernel_rfl) (by kernel_rfl) (fun _ _ _ h => h) (Or.inl ⟨by rfl, ?_⟩) hS ?_
      · intro w' hSw
        obtain ⟨s2, v2, c0, c1, c2, c3, d0, d1, d2, d3⟩ := hSw
        go_simp
      simp only [Act.put, List.getElem_toArray, List.getElem_cons_succ, List.getElem_cons_zero, List.setIfInBounds_toArray, List.set_cons_zero, List.set_cons_succ]
      refine wpAnyH_take (i := 4) (v := .agg #[u0, u1, u2, u3]) rfl (by kernel_rfl) (by kernel_rfl) (by kernel_rfl) (fun _ _ _ h => h) (Or.inl ⟨by rfl, ?_⟩) hS ?_
      · intro w' hSw
        obtain ⟨s2, v2, c0, c1, c2, c3, d0, d1, d2, d3⟩ := hSw
        go_simp
      simp only [Act.put, List.getElem_toArray, List.getElem_cons_succ, List.getElem_cons_zero, List.setIfInBounds_toArray, List.set_cons_zero, List.set_cons_succ]
      refine wpAnyH_take (i := 5) (v := .pointer (some ⟨V, 2, none⟩)) rfl (by kernel_rfl) (by kernel_rfl) (by kernel_rfl) (fun _ _ _ h => h) (Or.inl ⟨by rfl, ?_⟩) hS ?_
      · intro w' hSw
        obtain ⟨s2, v2, c0, c1, c2, c3, d0, d1, d2, d3⟩ := hSw
        go_simp
      simp only [Act.put, List.getElem_toArray, List.getElem_cons_succ, List.getElem_cons_zero, List.setIfInBounds_toArray, List.set_cons_zero, List.set_cons_succ]
      refine wpAnyH_take (i := 6) (v := .slice (some ⟨lb, lo, none⟩) ls.length kd) rfl (by kernel_rfl) (by kernel_rfl) (by kernel_rfl) (fun _ _ _ h => h) (Or.inl ⟨by rfl, ?_⟩) hS ?_
      · intro w' hSw
        obtain ⟨s2, v2, c0, c1, c2, c3, d0, d1, d2, d3⟩ := hSw
        go_simp
      simp only [Act.put, List.getElem_toArray, List.getElem_cons_succ, List.getElem_cons_zero, List.setIfInBounds_toArray, List.set_cons_zero, List.set_cons_succ]
      refine wpAnyH_take (i := 7) (v := .int .i64 j) rfl (by kernel_rfl) (by kernel_rfl) (by kernel_rfl) (fun _ _ _ h => h) (Or.inl ⟨by rfl, ?_⟩) hS ?_
      · intro w' hSw
        obtain ⟨s2, v2, c0, c1, c2, c3, d0, d1, d2, d3⟩ := hSw
        go_simp
      simp only [Act.put, List.getElem_toArray, List.getElem_cons_succ, List.getElem_cons_zero, List.setIfInBounds_toArray, List.set_cons_zero, List.set_cons_succ]
      refine wpAnyH_take (i := 8) (v := .pointer (some ⟨lb, lo + j * 4, none⟩)) rfl (by kernel_rfl) (by kernel_rfl) (by kernel_rfl) (fun _ _ _ h => h) (Or.inl ⟨by rfl, ?_⟩) hS ?_
      · intro w' hSw
        obtain ⟨s2, v2, c0, c1, c2, c3, d0, d1, d2, d3⟩ := hSw
        go_simp
      simp only [Act.put, List.getElem_toArray, List.getElem_cons_succ, List.getElem_cons_zero, List.setIfInBounds_toArray, List.set_cons_zero, List.set_cons_succ]
      refine wpAnyH_take (i := 9) (v := .agg #[x0, x1, x2, x3]) rfl (by kernel_rfl) (by kernel_rfl) (by kernel_rfl) (fun _ _ _ h => h) (Or.inl ⟨by rfl, ?_⟩) hS ?_
      · intro w' hSw
        obtain ⟨s2, v2, c0, c1, c2, c3, d0, d1, d2, d3⟩ := hSw
        go_simp
      simp only [Act.put, List.getElem_toArray, List.getElem_cons_succ, List.getElem_cons_zero, List.setIfInBounds_toArray, List.set_cons_zero, List.set_cons_succ]
      refine wpAnyH_ready (rs := [10]) (by kernel_rfl) (by decide) (AllReadyH.cons rfl (fun K hK => ?_) AllReadyH.nil)
      rw [if_pos (by kernel_rfl)]
      go_simp
      refine (HSM.out _ (Below.refl _ wr).drew).mono ?_
      rintro e W3 ⟨⟨r, rfl, hiff⟩, hb3⟩
      have hx : Below wr.heap.size wr W3 := (Below.refl _ wr).drew.trans hb3
      have HB3 := Lib.hid (HBW.out.trans (hx.mono HBW.out.size))
      have zs2 := cell_stays hx s2
      have zv2 := cell_stays hx v2
      have zc0 := cell_stays hx c0
      have zc1 := cell_stays hx c1
      have zc2 := cell_stays hx c2
      have zc3 := cell_stays hx c3
      have zd0 := cell_stays hx d0
      have zd1 := cell_stays hx d1
      have zd2 := cell_stays hx d2
      have zd3 := cell_stays hx d3
      refine hK.out _ _ ⟨zs2, zv2, zc0, zc1, zc2, zc3, zd0, zd1, zd2, zd3⟩ (fun hS => ?_)
      cases r with
      | false =>
        have HNQ : Hid (q ≠ p) := Lib.hid (fun h => by have h2 := hiff.2 h; cases h2)
        clear hiff
        refine wpAnyH_take (i := 11) (v := .bool true) rfl (by kernel_rfl) (by kernel_rfl) (by kernel_rfl) (fun _ _ _ h => h) (Or.inl ⟨by rfl, ?_⟩) hS ?_
        · intro w' hSw
          obtain ⟨s2, v2, c0, c1, c2, c3, d0, d1, d2, d3⟩ := hSw
          go_simp
        simp only [Act.put, List.getElem_toArray, List.getElem_cons_succ, List.getElem_cons_zero, List.setIfInBounds_toArray, List.set_cons_zero, List.set_cons_succ]
        refine wpAnyH_done (by kernel_rfl) ?_ _
        refine NoPanic.normal ?_
        simp only [Exit.then]
        go_wp2
        go_ret
        exact ret_no (HNE.out HNQ.out) (HB.out.trans (HB3.out.mono HB.out.size))
      | true =>
        have HYQ := Lib.hid (hiff.1 rfl)
        clear hiff
        refine wpAnyH_take (i := 11) (v := .bool false) rfl (by kernel_rfl) (by kernel_rfl) (by kernel_rfl) (fun _ _ _ h => h) (Or.inl ⟨by rfl, ?_⟩) hS ?_
        · intro w' hSw
          obtain ⟨s2, v2, c0, c1, c2, c3, d0, d1, d2, d3⟩ := hSw
          go_simp
        simp only [Act.put, List.getElem_toArray, List.getElem_cons_succ, List.getElem_cons_zero, List.setIfInBounds_toArray, List.set_cons_zero, List.set_cons_succ]
        refine wpAnyH_done (by kernel_rfl) ?_ _
        refine NoPanic.normal ?_
        simp only [Exit.then]
        go_wp2
        go_roundw
        case rel => exact ⟨j + 1, by omega, by go_num, HB3.out, HTK.out.2 HYQ.out⟩
        case measure => simp [intOf]; omega
    · obtain rfl : j = ks.length := by omega
      have HEQ : Hid (PV.mk n bs ks hh = .mk m cs ls gg) := Lib.hid (by
        have h := HALL.out
        rw [List.take_length, HLEN.out, List.take_length] at h
        rw [HNM.out, HBS.out, h, HHG.out])
      have hlt : ¬ (ks.length : Int) < ks.length := Int.lt_irrefl _
      go_wp2
      go_ret
      exact ⟨⟨true, rfl, ⟨fun _ => by have h := HEQ.out; rw [HHG.out] at h; exact h, fun _ => rfl⟩⟩, HB.out.trans (HBW.out.mono HB.out.size)⟩
theorem same_any : (a : PV) → SameAt a
  | .mk n bs ks hh => same_step n bs ks hh (fun q _ => same_any q)
end Go.Proofs.YtjeoekggdohhiaaDoor
