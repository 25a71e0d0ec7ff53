/-
  The hand's number: of a number's type it makes one that fits. Conditions: those that each theorem names.
-/
import Derived.Test.YtiknhkkeifemcaaGreatDoorPkM6
import Derived.Test.YtiknhkkeifemcaaGreatDoorPkM14
import Derived.Test.YtiknhkkeifemcaaGreatDoorPkM20
import Derived.Test.YtiknhkkeifemcaaGreatDoorPkM21
import Derived.Deep.Cut
import Derived.Deep.RegionHeld3
namespace Go.Proofs.YtiknhkkeifemcaaGreatDoor
open Go.ChangeShapes Go.WideShapes Go.ChangeAt Go.RowKit Go.Shelf

theorem hnum_any (kind ref n : Nat) {b : Nat} {ss : List (SRec × Value)} {es : List (SCho × Value)} {sv ev : Value} (root : Int) (w : World) (h : SchRows b w ss es sv ev) (ht : NumTy (es.map Prod.fst) kind ref) (hn : (n : Int) ≤ 18446744073709551615) :
    Calls Tryz.prog 31 #[.agg #[sv, ev, .int .i64 root], .agg #[.int .u8 kind, .int .i64 ref, .int .i64 0], .int .u64 n] w fun e w' => (∃ z : Nat, e = .returned (.int .u64 z) ∧ (z : Int) ≤ 18446744073709551615 ∧ fitsT (es.map Prod.fst) kind ref 0 z = true) ∧ Below w.heap.size w w' := by
  have hf := num_fits ht (n := n) (by omega)
  obtain ⟨h1, h2, h3⟩ := ht
  by_cases hk : kind = 10
  · subst hk
    obtain ⟨h4, h5⟩ := h3 rfl
    rw [List.length_map] at h4
    have hc : cntE (es.map Prod.fst) ref = es[ref].1.names.length := by
      unfold cntE
      rw [List.getD, List.getElem?_eq_getElem (by rw [List.length_map]; exact h4), Option.getD_some, List.getElem_map]
    rw [hc] at hf h5
    exact (numberE_any ref 0 n root w h h4 h5 hn).mono fun e W ⟨he, hb⟩ => ⟨⟨_, he, numP_max _ _ _ hn, hf⟩, hb⟩
  · exact (hnumber_any kind ref 0 n (cntE (es.map Prod.fst) ref) sv ev root w hn h1 (by omega)).mono fun e W ⟨he, hb⟩ => ⟨⟨_, he, numP_max _ _ _ hn, hf⟩, hb⟩
theorem u64_mod (n : Int) : IntKind.u64.wrap n = n % 18446744073709551616 := by simp [IntKind.wrap, IntKind.bits, IntKind.signed]
theorem u64_nat (n : Int) : ∃ z : Nat, IntKind.u64.wrap n = z ∧ (z : Int) ≤ 18446744073709551615 := by
  rw [u64_mod]
  exact ⟨(n % 18446744073709551616).toNat, by omega, by omega⟩
theorem u64_or (x y : Int) : ∃ z : Nat, bits BinOp.or .u64 x y = z ∧ (z : Int) ≤ 18446744073709551615 := u64_nat _
def NumPost (g : Nat) (a : Option Addr) (bs : List Int) (bc i : Nat) (w : World) (es : List SCho) (kind ref : Nat) (e : Ending) (w' : World) : Prop :=
  ∃ z i' : Nat, e = .returned (.int .u64 z) ∧ (z : Int) ≤ 18446744073709551615 ∧ fitsT es kind ref 0 z = true ∧ i ≤ i' ∧ Src g a bs bc w' i' ∧ Exc g w.heap.size w w'
def NumAt (g : Nat) (a : Option Addr) (bs : List Int) (bc i : Nat) (W0 : World) (x n : Value) (W : World) : Prop :=
  ∃ j z i2 : Nat, j ≤ 8 ∧ x = .int .i64 j ∧ n = .int .u64 z ∧ (z : Int) ≤ 18446744073709551615 ∧ i ≤ i2 ∧ Src g a bs bc W i2 ∧ Exc g W0.heap.size W0 W
set_option maxRecDepth 100000 in
set_option maxHeartbeats 4000000 in
theorem hnumb_any (kind ref c d fk : Nat) (fr fl : Int) (nm : ByteArray) {b g i bc : Nat} {a : Option Addr} {bs : List Int} {ss : List (SRec × Value)} {es : List (SCho × Value)} {sv ev : Value} (root : Int) (w : World) (ht : NumTy (es.map Prod.fst) kind ref) (hs : Src g a bs bc w i) (hg : ∀ W, Exc g w.heap.size w W → SchRows b W ss es sv ev) (hc : c ≤ 255) (hd : (d : Int) ≤ 18446744073709551615) (hdf : fitsT (es.map Prod.fst) kind ref 0 d = true) :
    Calls Tryz.prog 81 #[.agg #[sv, ev, .int .i64 root], .agg #[.int .u8 kind, .int .i64 ref, .int .i64 0], .pointer (some ⟨g, 0, none⟩), .int .i64 c, .agg #[.string nm, .int .u8 fk, .int .i64 fr, .int .i64 fl, .int .u64 d]] w (NumPost g a bs bc i w (es.map Prod.fst) kind ref) := by
  obtain ⟨hb, hq1, hq2, hq3⟩ := three_start w #[sv, ev, .int .i64 root] #[.int .u8 kind, .int .i64 ref, .int .i64 0] #[.string nm, .int .u8 fk, .int .i64 fr, .int .i64 fl, .int .u64 d] 30 47 60
  have HS := Lib.hid (hs.below hb)
  have HGL := Lib.hid (blk_lt hs.blk)
  have HB := Lib.hid hb
  have HG := Lib.hid hg
  have HT := Lib.hid ht
  have HDF := Lib.hid hdf
  have HQ1 := Lib.hid hq1
  have HQ2 := Lib.hid hq2
  have HQ3 := Lib.hid hq3
  clear hb hs hg ht hdf hq1 hq2 hq3
  have hmod : (c : Int).tmod 5 = (c % 5 : Nat) := by rw [Int.tmod_eq_emod_of_nonneg (by omega)]; omega
  have hcases : c % 5 = 0 ∨ c % 5 = 1 ∨ c % 5 = 2 ∨ c % 5 = 3 ∨ c % 5 = 4 := by omega
  rcases hcases with h5 | h5 | h5 | h5 | h5
  all_goals rw [h5] at hmod
  · obtain ⟨_, f0, f1, f2, f3, f4⟩ := blk5 HQ3.out
    go_enter Tryz.func81, Tryz.ntmps81
    go_upto_region 1 with (fail)
    generalize ((w.alloc (.cells #[sv, ev, .int .i64 root] 30)).alloc (.cells #[.int .u8 kind, .int .i64 ref, .int .i64 0] 47)).alloc (.cells #[.string nm, .int .u8 fk, .int .i64 fr, .int .i64 fl, .int .u64 d] 60) = W0 at *
    go_wp2
    go_ret
    exact ⟨d, i, rfl, hd, HDF.out, Nat.le_refl _, HS.out, Exc.of_below HB.out⟩
  · go_enter Tryz.func81, Tryz.ntmps81
    go_upto_region 1 with (fail)
    generalize ((w.alloc (.cells #[sv, ev, .int .i64 root] 30)).alloc (.cells #[.int .u8 kind, .int .i64 ref, .int .i64 0] 47)).alloc (.cells #[.string nm, .int .u8 fk, .int .i64 fr, .int .i64 fl, .int .u64 d] 60) = W0 at *
    obtain ⟨_, s0, s1, s2, _⟩ := blk3 HQ1.out
    obtain ⟨_, t0, t1, t2, _⟩ := blk3 HQ2.out
    go_wp2_with fail
    refine (hnum_any kind ref 18446744073709551615 root W0 (HG.out W0 (Exc.of_below HB.out)) HT.out (by decide)).mono ?_
    rintro e W1 ⟨⟨z, rfl, hz, hfz⟩, hb1⟩
    have HFZ := Lib.hid hfz
    have HB1 := Lib.hid (HB.out.trans (hb1.mono HB.out.size))
    have HS1 := Lib.hid (HS.out.below hb1)
    clear hb1 hfz s0 s1 s2 t0 t1 t2
    go_wp2
    go_ret
    exact ⟨z, i, rfl, hz, HFZ.out, Nat.le_refl _, HS1.out, Exc.of_below HB1.out⟩
  · go_enter Tryz.func81, Tryz.ntmps81
    go_upto_region 1 with (fail)
    generalize ((w.alloc (.cells #[sv, ev, .int .i64 root] 30)).alloc (.cells #[.int .u8 kind, .int .i64 ref, .int .i64 0] 47)).alloc (.cells #[.string nm, .int .u8 fk, .int .i64 fr, .int .i64 fl, .int .u64 d] 60) = W0 at *
    obtain ⟨_, s0, s1, s2, _⟩ := blk3 HQ1.out
    obtain ⟨_, t0, t1, t2, _⟩ := blk3 HQ2.out
    go_upto_region 7 with (fail)
    obtain ⟨q1, q2, q3, q4, q5, q6, q7, q8, q9, q10⟩ := kSize_vals
    have hk4 : kSize kind = 1 ∨ kSize kind = 2 ∨ kSize kind = 4 ∨ kSize kind = 8 := by
      have h1 := HT.out.lo
      have h2 := HT.out.hi
      have hk : kind = 1 ∨ kind = 2 ∨ kind = 3 ∨ kind = 4 ∨ kind = 5 ∨ kind = 6 ∨ kind = 7 ∨ kind = 8 ∨ kind = 9 ∨ kind = 10 := by omega
      rcases hk with rfl | rfl | rfl | rfl | rfl | rfl | rfl | rfl | rfl | rfl <;> decide
    clear q1 q2 q3 q4 q5 q6 q7 q8 q9 q10
    have hkw : IntKind.i64.wrap (kind : Int) = kind := IntWalk.i64_in _ (by have h2 := HT.out.hi; omega)
    rcases hk4 with hsz | hsz | hsz | hsz
    · have HN : Hid (∀ W, Below W0.heap.size W0 W → Calls Tryz.prog 31 #[.agg #[sv, ev, .int .i64 root], .agg #[.int .u8 kind, .int .i64 ref, .int .i64 0], .int .u64 128] W fun e w' => (∃ z : Nat, e = .returned (.int .u64 z) ∧ (z : Int) ≤ 18446744073709551615 ∧ fitsT (es.map Prod.fst) kind ref 0 z = true) ∧ Below W.heap.size W w') := Lib.hid (fun W hb => hnum_any kind ref 128 root W (HG.out W (Exc.of_below (HB.out.trans (hb.mono HB.out.size)))) HT.out (by decide))
      have hw1 : IntKind.i64.wrap 8 = 8 := by decide
      have hw2 : IntKind.i64.wrap 7 = 7 := by decide
      have hw3 : IntKind.u64.wrap 128 = 128 := by decide
      have HSZ : Hid (∀ W, Calls Tryz.prog 56 #[.int .i64 kind] W fun e w' => e = .returned (.int .i64 1) ∧ W = w') := Lib.hid (fun W => by have h := rsize_any kind W; rw [hsz] at h; exact h)
      go_region_held3 (fun w' => w'.cell? ⟨w.heap.size, 0, none⟩ = some sv ∧ w'.cell? ⟨w.heap.size, 1, none⟩ = some ev ∧ w'.cell? ⟨w.heap.size, 2, none⟩ = some (.int .i64 root) ∧ w'.cell? ⟨w.heap.size + 1, 0, none⟩ = some (.int .u8 kind) ∧ w'.cell? ⟨w.heap.size + 1, 1, none⟩ = some (.int .i64 ref) ∧ w'.cell? ⟨w.heap.size + 1, 2, none⟩ = some (.int .i64 0)) (first | assumption | (with_reducible exact ⟨k0, k1, k2, k3, k4, k5⟩) | go_keep) (first | (go_at_call 56; (first | (with_reducible refine (HSZ.out W0).mono ?_) | (with_reducible refine (HSZ.out W0.drew).mono ?_)); rintro e W5 ⟨rfl, rfl⟩) | (go_at_call 31; (first | (with_reducible refine (HN.out W0 (Below.refl _ _)).mono ?_) | (with_reducible refine (HN.out W0.drew (Below.refl _ _).drew).mono ?_)); rintro e W6 ⟨⟨z, rfl, hz, hfz⟩, hb6⟩; have hx6 : Below W0.heap.size W0 W6 := (by first | exact (Below.refl _ W0).drew.trans hb6 | exact hb6); clear hb6; have k0 := cell_stays hx6 s0; have k1 := cell_stays hx6 s1; have k2 := cell_stays hx6 s2; have k3 := cell_stays hx6 t0; have k4 := cell_stays hx6 t1; have k5 := cell_stays hx6 t2))
      all_goals
        have HFZ := Lib.hid hfz
        have HB1 := Lib.hid (HB.out.trans (hx6.mono HB.out.size))
        have HS1 := Lib.hid (HS.out.below hx6)
        clear hx6 hfz s0 s1 s2 t0 t1 t2 k0 k1 k2 k3 k4 k5
        simp only [Exit.then]
        go_wp2
        go_ret
        exact ⟨z, i, rfl, hz, HFZ.out, Nat.le_refl _, HS1.out, Exc.of_below HB1.out⟩
    · have HN : Hid (∀ W, Below W0.heap.size W0 W → Calls Tryz.prog 31 #[.agg #[sv, ev, .int .i64 root], .agg #[.int .u8 kind, .int .i64 ref, .int .i64 0], .int .u64 32768] W fun e w' => (∃ z : Nat, e = .returned (.int .u64 z) ∧ (z : Int) ≤ 18446744073709551615 ∧ fitsT (es.map Prod.fst) kind ref 0 z = true) ∧ Below W.heap.size W w') := Lib.hid (fun W hb => hnum_any kind ref 32768 root W (HG.out W (Exc.of_below (HB.out.trans (hb.mono HB.out.size)))) HT.out (by decide))
      have hw1 : IntKind.i64.wrap 16 = 16 := by decide
      have hw2 : IntKind.i64.wrap 15 = 15 := by decide
      have hw3 : IntKind.u64.wrap 32768 = 32768 := by decide
      have HSZ : Hid (∀ W, Calls Tryz.prog 56 #[.int .i64 kind] W fun e w' => e = .returned (.int .i64 2) ∧ W = w') := Lib.hid (fun W => by have h := rsize_any kind W; rw [hsz] at h; exact h)
      go_region_held3 (fun w' => w'.cell? ⟨w.heap.size, 0, none⟩ = some sv ∧ w'.cell? ⟨w.heap.size, 1, none⟩ = some ev ∧ w'.cell? ⟨w.heap.size, 2, none⟩ = some (.int .i64 root) ∧ w'.cell? ⟨w.heap.size + 1, 0, none⟩ = some (.int .u8 kind) ∧ w'.cell? ⟨w.heap.size + 1, 1, none⟩ = some (.int .i64 ref) ∧ w'.cell? ⟨w.heap.size + 1, 2, none⟩ = some (.int .i64 0)) (first | assumption | (with_reducible exact ⟨k0, k1, k2, k3, k4, k5⟩) | go_keep) (first | (go_at_call 56; (first | (with_reducible refine (HSZ.out W0).mono ?_) | (with_reducible refine (HSZ.out W0.drew).mono ?_)); rintro e W5 ⟨rfl, rfl⟩) | (go_at_call 31; (first | (with_reducible refine (HN.out W0 (Below.refl _ _)).mono ?_) | (with_reducible refine (HN.out W0.drew (Below.refl _ _).drew).mono ?_)); rintro e W6 ⟨⟨z, rfl, hz, hfz⟩, hb6⟩; have hx6 : Below W0.heap.size W0 W6 := (by first | exact (Below.refl _ W0).drew.trans hb6 | exact hb6); clear hb6; have k0 := cell_stays hx6 s0; have k1 := cell_stays hx6 s1; have k2 := cell_stays hx6 s2; have k3 := cell_stays hx6 t0; have k4 := cell_stays hx6 t1; have k5 := cell_stays hx6 t2))
      all_goals
        have HFZ := Lib.hid hfz
        have HB1 := Lib.hid (HB.out.trans (hx6.mono HB.out.size))
        have HS1 := Lib.hid (HS.out.below hx6)
        clear hx6 hfz s0 s1 s2 t0 t1 t2 k0 k1 k2 k3 k4 k5
        simp only [Exit.then]
        go_wp2
        go_ret
        exact ⟨z, i, rfl, hz, HFZ.out, Nat.le_refl _, HS1.out, Exc.of_below HB1.out⟩
    · have HN : Hid (∀ W, Below W0.heap.size W0 W → Calls Tryz.prog 31 #[.agg #[sv, ev, .int .i64 root], .agg #[.int .u8 kind, .int .i64 ref, .int .i64 0], .int .u64 2147483648] W fun e w' => (∃ z : Nat, e = .returned (.int .u64 z) ∧ (z : Int) ≤ 18446744073709551615 ∧ fitsT (es.map Prod.fst) kind ref 0 z = true) ∧ Below W.heap.size W w') := Lib.hid (fun W hb => hnum_any kind ref 2147483648 root W (HG.out W (Exc.of_below (HB.out.trans (hb.mono HB.out.size)))) HT.out (by decide))
      have hw1 : IntKind.i64.wrap 32 = 32 := by decide
      have hw2 : IntKind.i64.wrap 31 = 31 := by decide
      have hw3 : IntKind.u64.wrap 2147483648 = 2147483648 := by decide
      have HSZ : Hid (∀ W, Calls Tryz.prog 56 #[.int .i64 kind] W fun e w' => e = .returned (.int .i64 4) ∧ W = w') := Lib.hid (fun W => by have h := rsize_any kind W; rw [hsz] at h; exact h)
      go_region_held3 (fun w' => w'.cell? ⟨w.heap.size, 0, none⟩ = some sv ∧ w'.cell? ⟨w.heap.size, 1, none⟩ = some ev ∧ w'.cell? ⟨w.heap.size, 2, none⟩ = some (.int .i64 root) ∧ w'.cell? ⟨w.heap.size + 1, 0, none⟩ = some (.int .u8 kind) ∧ w'.cell? ⟨w.heap.size + 1, 1, none⟩ = some (.int .i64 ref) ∧ w'.cell? ⟨w.heap.size + 1, 2, none⟩ = some (.int .i64 0)) (first | assumption | (with_reducible exact ⟨k0, k1, k2, k3, k4, k5⟩) | go_keep) (first | (go_at_call 56; (first | (with_reducible refine (HSZ.out W0).mono ?_) | (with_reducible refine (HSZ.out W0.drew).mono ?_)); rintro e W5 ⟨rfl, rfl⟩) | (go_at_call 31; (first | (with_reducible refine (HN.out W0 (Below.refl _ _)).mono ?_) | (with_reducible refine (HN.out W0.drew (Below.refl _ _).drew).mono ?_)); rintro e W6 ⟨⟨z, rfl, hz, hfz⟩, hb6⟩; have hx6 : Below W0.heap.size W0 W6 := (by first | exact (Below.refl _ W0).drew.trans hb6 | exact hb6); clear hb6; have k0 := cell_stays hx6 s0; have k1 := cell_stays hx6 s1; have k2 := cell_stays hx6 s2; have k3 := cell_stays hx6 t0; have k4 := cell_stays hx6 t1; have k5 := cell_stays hx6 t2))
      all_goals
        have HFZ := Lib.hid hfz
        have HB1 := Lib.hid (HB.out.trans (hx6.mono HB.out.size))
        have HS1 := Lib.hid (HS.out.below hx6)
        clear hx6 hfz s0 s1 s2 t0 t1 t2 k0 k1 k2 k3 k4 k5
        simp only [Exit.then]
        go_wp2
        go_ret
        exact ⟨z, i, rfl, hz, HFZ.out, Nat.le_refl _, HS1.out, Exc.of_below HB1.out⟩
    · have HN : Hid (∀ W, Below W0.heap.size W0 W → Calls Tryz.prog 31 #[.agg #[sv, ev, .int .i64 root], .agg #[.int .u8 kind, .int .i64 ref, .int .i64 0], .int .u64 9223372036854775808] W fun e w' => (∃ z : Nat, e = .returned (.int .u64 z) ∧ (z : Int) ≤ 18446744073709551615 ∧ fitsT (es.map Prod.fst) kind ref 0 z = true) ∧ Below W.heap.size W w') := Lib.hid (fun W hb => hnum_any kind ref 9223372036854775808 root W (HG.out W (Exc.of_below (HB.out.trans (hb.mono HB.out.size)))) HT.out (by decide))
      have hw1 : IntKind.i64.wrap 64 = 64 := by decide
      have hw2 : IntKind.i64.wrap 63 = 63 := by decide
      have hw3 : IntKind.u64.wrap 9223372036854775808 = 9223372036854775808 := by decide
      have HSZ : Hid (∀ W, Calls Tryz.prog 56 #[.int .i64 kind] W fun e w' => e = .returned (.int .i64 8) ∧ W = w') := Lib.hid (fun W => by have h := rsize_any kind W; rw [hsz] at h; exact h)
      go_region_held3 (fun w' => w'.cell? ⟨w.heap.size, 0, none⟩ = some sv ∧ w'.cell? ⟨w.heap.size, 1, none⟩ = some ev ∧ w'.cell? ⟨w.heap.size, 2, none⟩ = some (.int .i64 root) ∧ w'.cell? ⟨w.heap.size + 1, 0, none⟩ = some (.int .u8 kind) ∧ w'.cell? ⟨w.heap.size + 1, 1, none⟩ = some (.int .i64 ref) ∧ w'.cell? ⟨w.heap.size + 1, 2, none⟩ = some (.int .i64 0)) (first | assumption | (with_reducible exact ⟨k0, k1, k2, k3, k4, k5⟩) | go_keep) (first | (go_at_call 56; (first | (with_reducible refine (HSZ.out W0).mono ?_) | (with_reducible refine (HSZ.out W0.drew).mono ?_)); rintro e W5 ⟨rfl, rfl⟩) | (go_at_call 31; (first | (with_reducible refine (HN.out W0 (Below.refl _ _)).mono ?_) | (with_reducible refine (HN.out W0.drew (Below.refl _ _).drew).mono ?_)); rintro e W6 ⟨⟨z, rfl, hz, hfz⟩, hb6⟩; have hx6 : Below W0.heap.size W0 W6 := (by first | exact (Below.refl _ W0).drew.trans hb6 | exact hb6); clear hb6; have k0 := cell_stays hx6 s0; have k1 := cell_stays hx6 s1; have k2 := cell_stays hx6 s2; have k3 := cell_stays hx6 t0; have k4 := cell_stays hx6 t1; have k5 := cell_stays hx6 t2))
      all_goals
        have HFZ := Lib.hid hfz
        have HB1 := Lib.hid (HB.out.trans (hx6.mono HB.out.size))
        have HS1 := Lib.hid (HS.out.below hx6)
        clear hx6 hfz s0 s1 s2 t0 t1 t2 k0 k1 k2 k3 k4 k5
        simp only [Exit.then]
        go_wp2
        go_ret
        exact ⟨z, i, rfl, hz, HFZ.out, Nat.le_refl _, HS1.out, Exc.of_below HB1.out⟩
  · go_enter Tryz.func81, Tryz.ntmps81
    go_upto_region 1 with (fail)
    generalize ((w.alloc (.cells #[sv, ev, .int .i64 root] 30)).alloc (.cells #[.int .u8 kind, .int .i64 ref, .int .i64 0] 47)).alloc (.cells #[.string nm, .int .u8 fk, .int .i64 fr, .int .i64 fl, .int .u64 d] 60) = W0 at *
    obtain ⟨_, s0, s1, s2, _⟩ := blk3 HQ1.out
    obtain ⟨_, t0, t1, t2, _⟩ := blk3 HQ2.out
    go_upto_region 9 with (fail)
    have hne0 : w.heap.size ≠ g := by have := HGL.out; omega
    have hne1 : w.heap.size + 1 ≠ g := by have := HGL.out; omega
    have HNX : Hid (∀ W, Below W0.heap.size W0 W → Calls Tryz.prog 80 #[.pointer (some ⟨g, 0, none⟩)] W fun e w' => ∃ c i' : Nat, e = .returned (.int .i64 c) ∧ c ≤ 255 ∧ i ≤ i' ∧ Src g a bs bc w' i' ∧ Exc g W.heap.size W w') := Lib.hid (fun W hb => next_any g a bs bc i W (HS.out.below hb))
    have HN : Hid (∀ (c2 : Nat) W, c2 ≤ 255 → Exc g W0.heap.size W0 W → Calls Tryz.prog 31 #[.agg #[sv, ev, .int .i64 root], .agg #[.int .u8 kind, .int .i64 ref, .int .i64 0], .int .u64 c2] W fun e w' => (∃ z : Nat, e = .returned (.int .u64 z) ∧ (z : Int) ≤ 18446744073709551615 ∧ fitsT (es.map Prod.fst) kind ref 0 z = true) ∧ Below W.heap.size W w') := Lib.hid (fun c2 W h2 hb => hnum_any kind ref c2 root W (HG.out W (((Exc.of_below HB.out).trans (hb.mono HB.out.size)))) HT.out (by omega))
    go_region_held3 (fun w' => w'.cell? ⟨w.heap.size, 0, none⟩ = some sv ∧ w'.cell? ⟨w.heap.size, 1, none⟩ = some ev ∧ w'.cell? ⟨w.heap.size, 2, none⟩ = some (.int .i64 root) ∧ w'.cell? ⟨w.heap.size + 1, 0, none⟩ = some (.int .u8 kind) ∧ w'.cell? ⟨w.heap.size + 1, 1, none⟩ = some (.int .i64 ref) ∧ w'.cell? ⟨w.heap.size + 1, 2, none⟩ = some (.int .i64 0)) (first | assumption | (with_reducible exact ⟨j0, j1, j2, j3, j4, j5⟩) | (with_reducible exact ⟨k0, k1, k2, k3, k4, k5⟩) | go_keep) (first | (go_at_call 80; (first | (with_reducible refine (HNX.out W0 (Below.refl _ _)).mono ?_) | (with_reducible refine (HNX.out W0.drew (Below.refl _ _).drew).mono ?_)); rintro e W5 ⟨c2, i2, rfl, hc2, hi2, hs5, hx5'⟩; have hx5 : Exc g W0.heap.size W0 W5 := (by first | exact (Exc.refl g _ W0).drew.trans hx5' | exact hx5'); clear hx5'; have hcw : IntKind.u64.wrap (c2 : Int) = c2 := IntWalk.u64_in _ (by omega); have j0 := (hx5.cell (p := ⟨w.heap.size, 0, none⟩) (blk_lt HQ1.out) hne0).trans s0; have j1 := (hx5.cell (p := ⟨w.heap.size, 1, none⟩) (blk_lt HQ1.out) hne0).trans s1; have j2 := (hx5.cell (p := ⟨w.heap.size, 2, none⟩) (blk_lt HQ1.out) hne0).trans s2; have j3 := (hx5.cell (p := ⟨w.heap.size + 1, 0, none⟩) (blk_lt HQ2.out) hne1).trans t0; have j4 := (hx5.cell (p := ⟨w.heap.size + 1, 1, none⟩) (blk_lt HQ2.out) hne1).trans t1; have j5 := (hx5.cell (p := ⟨w.heap.size + 1, 2, none⟩) (blk_lt HQ2.out) hne1).trans t2) | (go_at_call 31; (first | (with_reducible refine (HN.out c2 W5 hc2 hx5).mono ?_) | (with_reducible refine (HN.out c2 W5.drew hc2 hx5.drew).mono ?_)); rintro e W6 ⟨⟨z, rfl, hz, hfz⟩, hb6⟩; have hx6 : Below W5.heap.size W5 W6 := (by first | exact (Below.refl _ W5).drew.trans hb6 | exact hb6); clear hb6; have k0 := cell_stays hx6 j0; have k1 := cell_stays hx6 j1; have k2 := cell_stays hx6 j2; have k3 := cell_stays hx6 j3; have k4 := cell_stays hx6 j4; have k5 := cell_stays hx6 j5))
    all_goals
      have HFZ := Lib.hid hfz
      have HB1 := Lib.hid (((Exc.of_below HB.out).thenB (Nat.le_refl _) hx5).bel (Nat.le_refl _) hx6)
      have HS1 := Lib.hid (hs5.below hx6)
      clear hx6 hx5 hs5 hfz s0 s1 s2 t0 t1 t2 k0 k1 k2 k3 k4 k5 j0 j1 j2 j3 j4 j5
      simp only [Exit.then]
      go_wp2
      go_ret
      exact ⟨z, i2, rfl, hz, HFZ.out, hi2, HS1.out, HB1.out⟩
  · go_enter Tryz.func81, Tryz.ntmps81
    go_upto_region 1 with (fail)
    generalize ((w.alloc (.cells #[sv, ev, .int .i64 root] 30)).alloc (.cells #[.int .u8 kind, .int .i64 ref, .int .i64 0] 47)).alloc (.cells #[.string nm, .int .u8 fk, .int .i64 fr, .int .i64 fl, .int .u64 d] 60) = W0 at *
    obtain ⟨_, s0, s1, s2, _⟩ := blk3 HQ1.out
    obtain ⟨_, t0, t1, t2, _⟩ := blk3 HQ2.out
    go_upto_region 12 with (fail)
    have hgl := HGL.out
    have hne0 : w.heap.size ≠ g := by omega
    have hne1 : w.heap.size + 1 ≠ g := by omega
    have HN : Hid (∀ (z : Nat) W, (z : Int) ≤ 18446744073709551615 → Exc g W0.heap.size W0 W → Calls Tryz.prog 31 #[.agg #[sv, ev, .int .i64 root], .agg #[.int .u8 kind, .int .i64 ref, .int .i64 0], .int .u64 z] W fun e w' => (∃ z : Nat, e = .returned (.int .u64 z) ∧ (z : Int) ≤ 18446744073709551615 ∧ fitsT (es.map Prod.fst) kind ref 0 z = true) ∧ Below W.heap.size W w') := Lib.hid (fun z W h2 hb => hnum_any kind ref z root W (HG.out W (((Exc.of_below HB.out).trans (hb.mono HB.out.size)))) HT.out h2)
    have HE := Lib.hid (Exc.refl g W0.heap.size W0)
    clear s0 s1 s2 t0 t1 t2
    go_loopw [12, 11] (fun x n wr => NumAt g a bs bc i W0 x n wr) (fun x _ _ => 8 - (intOf x).toNat)
    case atStart => exact ⟨0, 0, i, by decide, rfl, rfl, by decide, Nat.le_refl _, HS.out, HE.out⟩
    case round =>
      obtain ⟨j, z, i2, hj, rfl, rfl, hz, hi2, hs, hb⟩ := hrel
      have HSW := Lib.hid hs
      have HBW := Lib.hid hb
      clear hs hb
      by_cases hjl : j < 8
      · have hji : (j : Int) < 8 := by omega
        go_wp2_with fail
        refine (next_any g a bs bc i2 wr HSW.out).mono ?_
        rintro e W5 ⟨c2, i3, rfl, hc2, hi3, hs5, hx5⟩
        have HS5 := Lib.hid hs5
        have HB5 := Lib.hid (HBW.out.thenB (Nat.le_refl _) hx5)
        clear hs5 hx5
        go_wp2
        go_roundw
        case rel =>
          obtain ⟨z2, hz2, hm2⟩ := u64_or (IntKind.u64.wrap (z * 256)) c2
          exact ⟨j + 1, z2, i3, by omega, by go_num, by rw [hz2], hm2, by omega, HS5.out, HB5.out⟩
        case measure => simp [intOf]; omega
      · obtain rfl : j = 8 := by omega
        obtain ⟨_, s0, s1, s2, _⟩ := blk3 (blk_exc HQ1.out HBW.out (blk_lt HQ1.out) hne0)
        obtain ⟨_, t0, t1, t2, _⟩ := blk3 (blk_exc HQ2.out HBW.out (blk_lt HQ2.out) hne1)
        go_wp2_with fail
        refine (HN.out z wr hz HBW.out).mono ?_
        rintro e W6 ⟨⟨z2, rfl, hz2, hfz⟩, hb6⟩
        have HFZ := Lib.hid hfz
        have HB6 := Lib.hid (((Exc.of_below HB.out).thenB (Nat.le_refl _) HBW.out).bel (Nat.le_refl _) hb6)
        have HS6 := Lib.hid (HSW.out.below hb6)
        clear hb6 hfz s0 s1 s2 t0 t1 t2
        go_wp2
        go_ret
        exact ⟨z2, i2, rfl, hz2, HFZ.out, hi2, HS6.out, HB6.out⟩
end Go.Proofs.YtiknhkkeifemcaaGreatDoor
