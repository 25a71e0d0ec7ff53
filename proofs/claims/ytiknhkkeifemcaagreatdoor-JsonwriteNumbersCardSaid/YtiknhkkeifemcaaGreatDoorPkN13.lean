/-
  A struct in words, plain: where its numbers and pointers stand. No run of the program stands in this text. Conditions: those that each theorem names.
-/
import Derived.Test.YtiknhkkeifemcaaGreatDoorPkN5
import Derived.Test.YtiknhkkeifemcaaGreatDoorPkN8
import Derived.Test.YtiknhkkeifemcaaGreatDoorPkN10
namespace Go.Proofs.YtiknhkkeifemcaaGreatDoor
open Go.ChangeShapes Go.WideShapes Go.ChangeAt Go.RowKit Go.Shelf

set_option maxRecDepth 100000 in
theorem isnum_any (kind ref lists : Nat) (w : World) (hk : kind ≤ 255) :
    Calls Tryz.prog 30 #[.agg #[.int .u8 kind, .int .i64 ref, .int .i64 lists]] w fun e w' => e = .returned (.bool (isNumP kind lists)) ∧ Below w.heap.size w w' := by
  have h0 := heap_alloc_new w (.cells #[.int .u8 kind, .int .i64 ref, .int .i64 lists] 47)
  have HB := Lib.hid ((Below.refl w.heap.size w).alloc (Nat.le_refl _) (.cells #[.int .u8 kind, .int .i64 ref, .int .i64 lists] 47))
  obtain ⟨_, x0, x1, x2, _⟩ := blk3 h0
  clear h0
  have hb1 : (kind : Int) ≤ 255 := by omega
  by_cases hl : lists = 0
  · have HS : Hid (isNumP kind lists = decide (0 < kSize kind)) := Lib.hid (by unfold isNumP; rw [decide_eq_true hl, Bool.true_and])
    subst hl
    go_enter Tryz.func30, Tryz.ntmps30
    go_wp2_with fail
    refine (rsize_any _ _).mono ?_
    rintro e W1 ⟨rfl, rfl⟩
    generalize kSize (kind : Int) = z at *
    by_cases hs : 0 < z
    · go_wp2
      go_ret
      exact ⟨ret_bool (HS.out.trans (decide_eq_true hs)).symm, HB.out⟩
    · go_wp2
      go_ret
      exact ⟨ret_bool HS.out.symm, HB.out⟩
  · have HS : Hid (isNumP kind lists = false) := Lib.hid (by unfold isNumP; rw [decide_eq_false hl, Bool.false_and])
    have hl1 : ((lists : Int) == 0) = false := by simp; omega
    clear hl
    go_enter Tryz.func30, Tryz.ntmps30
    go_wp2
    go_ret
    exact ⟨ret_bool HS.out.symm, HB.out⟩
theorem kSize_vals : kSize 1 = 1 ∧ kSize 2 = 1 ∧ kSize 3 = 2 ∧ kSize 4 = 4 ∧ kSize 5 = 8 ∧ kSize 6 = 1 ∧ kSize 7 = 2 ∧ kSize 8 = 4 ∧ kSize 9 = 8 ∧ kSize 10 = 1 := by decide
theorem numP_low (cnt kind n s : Nat) (h1 : kind ≠ 1) (h10 : kind ≠ 10) (hs : kSize kind = s) (h8 : (s : Int) < 8) : numP cnt kind n = if kSign kind = true then (sgnOf ((n % 2 ^ (8 * s) : Nat) : Int) s).toNat else n % 2 ^ (8 * s) := by
  unfold numP
  rw [if_neg h1, if_neg h10]
  simp only [hs]
  rw [if_pos h8, Int.toNat_natCast]
theorem numP_high (cnt kind n : Nat) (h1 : kind ≠ 1) (h10 : kind ≠ 10) (hs : kSize kind = 8) : numP cnt kind n = if kSign kind = true then (sgnOf (n : Int) 8).toNat else n := by
  unfold numP
  rw [if_neg h1, if_neg h10]
  simp only [hs, Int.lt_irrefl, if_false]
theorem number_plain (cnt n : Nat) : numP cnt 2 n = (sgnOf ((n % 256 : Nat) : Int) 1).toNat ∧ numP cnt 3 n = (sgnOf ((n % 65536 : Nat) : Int) 2).toNat ∧ numP cnt 4 n = (sgnOf ((n % 4294967296 : Nat) : Int) 4).toNat ∧ numP cnt 5 n = (sgnOf (n : Int) 8).toNat ∧
    numP cnt 6 n = n % 256 ∧ numP cnt 7 n = n % 65536 ∧ numP cnt 8 n = n % 4294967296 ∧ numP cnt 9 n = n := by
  have e1 : (2 : Nat) ^ (8 * 1) = 256 := by decide
  have e2 : (2 : Nat) ^ (8 * 2) = 65536 := by decide
  have e4 : (2 : Nat) ^ (8 * 4) = 4294967296 := by decide
  have a2 := numP_low cnt 2 n 1 (by decide) (by decide) rfl (by decide)
  have a3 := numP_low cnt 3 n 2 (by decide) (by decide) rfl (by decide)
  have a4 := numP_low cnt 4 n 4 (by decide) (by decide) rfl (by decide)
  have a6 := numP_low cnt 6 n 1 (by decide) (by decide) rfl (by decide)
  have a7 := numP_low cnt 7 n 2 (by decide) (by decide) rfl (by decide)
  have a8 := numP_low cnt 8 n 4 (by decide) (by decide) rfl (by decide)
  have a5 := numP_high cnt 5 n (by decide) (by decide) rfl
  have a9 := numP_high cnt 9 n (by decide) (by decide) rfl
  rw [e1] at a2 a6
  rw [e2] at a3 a7
  rw [e4] at a4 a8
  refine ⟨a2.trans (if_pos rfl), a3.trans (if_pos rfl), a4.trans (if_pos rfl), a5.trans (if_pos rfl), a6.trans (if_neg (by decide)), a7.trans (if_neg (by decide)), a8.trans (if_neg (by decide)), a9.trans (if_neg (by decide))⟩
theorem sgn_pos (m n : Int) (h1 : 0 < m) (h2 : m ≤ 2147483648) : 0 ≤ sgn m n := by
  unfold sgn
  have := Int.emod_nonneg n (show (2 * m) ≠ 0 by omega)
  split <;> omega
theorem sgnOf_pos (n s : Int) (h : 0 ≤ n) : 0 ≤ sgnOf n s := by
  unfold sgnOf
  split
  · exact sgn_pos _ _ (by decide) (by decide)
  · split
    · exact sgn_pos _ _ (by decide) (by decide)
    · split
      · exact sgn_pos _ _ (by decide) (by decide)
      · exact h
theorem two_start (w : World) (a b : Array Value) (s t : TypeId) : Below w.heap.size w ((w.alloc (.cells a s)).alloc (.cells b t)) ∧ ((w.alloc (.cells a s)).alloc (.cells b t)).heap[w.heap.size]? = some (.cells a s (0, 0)) ∧ ((w.alloc (.cells a s)).alloc (.cells b t)).heap[w.heap.size + 1]? = some (.cells b t (0, 0)) := by
  refine ⟨((Below.refl _ _).alloc (Nat.le_refl _) _).alloc (by simp) _, blk_alloc (heap_alloc_new w _) _, ?_⟩
  have := heap_alloc_new (w.alloc (.cells a s)) (.cells b t)
  rwa [World.size_alloc] at this
set_option maxRecDepth 100000 in
theorem hnumber_any (kind ref lists n cnt : Nat) (sv ev : Value) (root : Int) (w : World) (hn : (n : Int) ≤ 18446744073709551615) (hk1 : 1 ≤ kind) (hk2 : kind ≤ 9) :
    Calls Tryz.prog 31 #[.agg #[sv, ev, .int .i64 root], .agg #[.int .u8 kind, .int .i64 ref, .int .i64 lists], .int .u64 n] w fun e w' => e = .returned (.int .u64 (numP cnt kind n : Nat)) ∧ Below w.heap.size w w' := by
  obtain ⟨hb, hz1, hz2⟩ := two_start w #[sv, ev, .int .i64 root] #[.int .u8 kind, .int .i64 ref, .int .i64 lists] 30 47
  obtain ⟨_, y0, y1, y2, _⟩ := blk3 hz2
  have HB := Lib.hid hb
  have HN := Lib.hid hn
  obtain ⟨p2, p3, p4, p5, p6, p7, p8, p9⟩ := number_plain cnt n
  have P2 := Lib.hid p2
  have P3 := Lib.hid p3
  have P4 := Lib.hid p4
  have P5 := Lib.hid p5
  have P6 := Lib.hid p6
  have P7 := Lib.hid p7
  have P8 := Lib.hid p8
  have P9 := Lib.hid p9
  have KS := Lib.hid kSize_vals
  clear hb hz1 hz2 p2 p3 p4 p5 p6 p7 p8 p9
  have h' : kind = 1 ∨ kind = 2 ∨ kind = 3 ∨ kind = 4 ∨ kind = 5 ∨ kind = 6 ∨ kind = 7 ∨ kind = 8 ∨ kind = 9 := by omega
  clear hk1 hk2
  rcases h' with rfl | rfl | rfl | rfl | rfl | rfl | rfl | rfl | rfl
  · go_enter Tryz.func31, Tryz.ntmps31
    go_wp2_with fail
    refine (rsize_any _ _).mono ?_
    rintro e W1 ⟨rfl, rfl⟩
    rw [show kSize 1 = 1 from rfl]
    go_wp2
    go_ret
    exact ⟨ret_int (show (n : Int) % 2 = ((n % 2 : Nat) : Int) by omega), HB.out⟩
  · go_enter Tryz.func31, Tryz.ntmps31
    go_wp2_with fail
    refine (rsize_any _ _).mono ?_
    rintro e W1 ⟨rfl, rfl⟩
    rw [show kSize 2 = 1 from rfl]
    go_wp2_with fail
    refine (rsign_any _ _).mono ?_
    rintro e W1 ⟨rfl, rfl⟩
    rw [show kSign 2 = true from rfl]
    have hv0 : 0 ≤ (n : Int) % 256 := by omega
    have hv1 : (n : Int) % 256 ≤ 18446744073709551615 := by have := HN.out; omega
    go_wp2_with fail
    refine (rsigned_any ((n : Int) % 256) 1 _ hv0 hv1).mono ?_
    rintro e W1 ⟨rfl, rfl⟩
    go_wp2
    go_ret
    exact ⟨ret_int (by rw [P2.out, Int.toNat_of_nonneg (sgnOf_pos _ _ (by omega))]; congr 1), HB.out⟩
  · go_enter Tryz.func31, Tryz.ntmps31
    go_wp2_with fail
    refine (rsize_any _ _).mono ?_
    rintro e W1 ⟨rfl, rfl⟩
    rw [show kSize 3 = 2 from rfl]
    go_wp2_with fail
    refine (rsign_any _ _).mono ?_
    rintro e W1 ⟨rfl, rfl⟩
    rw [show kSign 3 = true from rfl]
    have hv0 : 0 ≤ (n : Int) % 65536 := by omega
    have hv1 : (n : Int) % 65536 ≤ 18446744073709551615 := by have := HN.out; omega
    go_wp2_with fail
    refine (rsigned_any ((n : Int) % 65536) 2 _ hv0 hv1).mono ?_
    rintro e W1 ⟨rfl, rfl⟩
    go_wp2
    go_ret
    exact ⟨ret_int (by rw [P3.out, Int.toNat_of_nonneg (sgnOf_pos _ _ (by omega))]; congr 1), HB.out⟩
  · go_enter Tryz.func31, Tryz.ntmps31
    go_wp2_with fail
    refine (rsize_any _ _).mono ?_
    rintro e W1 ⟨rfl, rfl⟩
    rw [show kSize 4 = 4 from rfl]
    go_wp2_with fail
    refine (rsign_any _ _).mono ?_
    rintro e W1 ⟨rfl, rfl⟩
    rw [show kSign 4 = true from rfl]
    have hv0 : 0 ≤ (n : Int) % 4294967296 := by omega
    have hv1 : (n : Int) % 4294967296 ≤ 18446744073709551615 := by have := HN.out; omega
    go_wp2_with fail
    refine (rsigned_any ((n : Int) % 4294967296) 4 _ hv0 hv1).mono ?_
    rintro e W1 ⟨rfl, rfl⟩
    go_wp2
    go_ret
    exact ⟨ret_int (by rw [P4.out, Int.toNat_of_nonneg (sgnOf_pos _ _ (by omega))]; congr 1), HB.out⟩
  · go_enter Tryz.func31, Tryz.ntmps31
    go_wp2_with fail
    refine (rsize_any _ _).mono ?_
    rintro e W1 ⟨rfl, rfl⟩
    rw [show kSize 5 = 8 from rfl]
    go_wp2_with fail
    refine (rsign_any _ _).mono ?_
    rintro e W1 ⟨rfl, rfl⟩
    rw [show kSign 5 = true from rfl]
    have hv0 : 0 ≤ (n : Int) := by omega
    have hv1 : (n : Int) ≤ 18446744073709551615 := by have := HN.out; omega
    go_wp2_with fail
    refine (rsigned_any ((n : Int)) 8 _ hv0 hv1).mono ?_
    rintro e W1 ⟨rfl, rfl⟩
    go_wp2
    go_ret
    exact ⟨ret_int (by rw [P5.out, Int.toNat_of_nonneg (sgnOf_pos _ _ (by omega))]), HB.out⟩
  · go_enter Tryz.func31, Tryz.ntmps31
    go_wp2_with fail
    refine (rsize_any _ _).mono ?_
    rintro e W1 ⟨rfl, rfl⟩
    rw [show kSize 6 = 1 from rfl]
    go_wp2_with fail
    refine (rsign_any _ _).mono ?_
    rintro e W1 ⟨rfl, rfl⟩
    rw [show kSign 6 = false from rfl]
    go_wp2
    go_ret
    exact ⟨ret_int (by rw [P6.out]; omega), HB.out⟩
  · go_enter Tryz.func31, Tryz.ntmps31
    go_wp2_with fail
    refine (rsize_any _ _).mono ?_
    rintro e W1 ⟨rfl, rfl⟩
    rw [show kSize 7 = 2 from rfl]
    go_wp2_with fail
    refine (rsign_any _ _).mono ?_
    rintro e W1 ⟨rfl, rfl⟩
    rw [show kSign 7 = false from rfl]
    go_wp2
    go_ret
    exact ⟨ret_int (by rw [P7.out]; omega), HB.out⟩
  · go_enter Tryz.func31, Tryz.ntmps31
    go_wp2_with fail
    refine (rsize_any _ _).mono ?_
    rintro e W1 ⟨rfl, rfl⟩
    rw [show kSize 8 = 4 from rfl]
    go_wp2_with fail
    refine (rsign_any _ _).mono ?_
    rintro e W1 ⟨rfl, rfl⟩
    rw [show kSign 8 = false from rfl]
    go_wp2
    go_ret
    exact ⟨ret_int (by rw [P8.out]; omega), HB.out⟩
  · go_enter Tryz.func31, Tryz.ntmps31
    go_wp2_with fail
    refine (rsize_any _ _).mono ?_
    rintro e W1 ⟨rfl, rfl⟩
    rw [show kSize 9 = 8 from rfl]
    go_wp2_with fail
    refine (rsign_any _ _).mono ?_
    rintro e W1 ⟨rfl, rfl⟩
    rw [show kSign 9 = false from rfl]
    go_wp2
    go_ret
    exact ⟨ret_int (by rw [P9.out]), HB.out⟩
set_option maxRecDepth 100000 in
theorem numberE_any (ref lists n : Nat) {b : Nat} {ss : List (SRec × Value)} {es : List (SCho × Value)} {sv ev : Value} (root : Int) (w : World) (h : SchRows b w ss es sv ev) (hr : ref < es.length) (hc : 1 ≤ es[ref].1.names.length) (hn : (n : Int) ≤ 18446744073709551615) :
    Calls Tryz.prog 31 #[.agg #[sv, ev, .int .i64 root], .agg #[.int .u8 10, .int .i64 ref, .int .i64 lists], .int .u64 n] w fun e w' => e = .returned (.int .u64 (numP es[ref].1.names.length 10 n : Nat)) ∧ Below w.heap.size w w' := by
  obtain ⟨hb, hz1, hz2⟩ := two_start w #[sv, ev, .int .i64 root] #[.int .u8 10, .int .i64 ref, .int .i64 lists] 30 47
  obtain ⟨_, y0, y1, y2, _⟩ := blk3 hz2
  obtain ⟨_, z0, z1, z2, _⟩ := blk3 hz1
  have hf1 := row_few h.enums
  have hf2 := row_few (h.names _ (List.getElem_mem hr))
  obtain ⟨g, c, a, m, rfl, hc1, hg, x0, x1, _⟩ := (h.below hb).enum ref hr
  have HB := Lib.hid hb
  have HN := Lib.hid hn
  have HP : Hid (numP es[ref].1.names.length 10 n = n % es[ref].1.names.length) := Lib.hid rfl
  clear hb hz1 hz2 h y2 z0 z2 x0
  generalize es[ref].1.names.length = cnt at *
  have hw : IntKind.u64.wrap (cnt : Int) = cnt := IntWalk.u64_in _ (by omega)
  have hq : (cnt : Int) ≠ 0 := by omega
  have hq2 : (0 : Int) < cnt := by omega
  go_enter Tryz.func31, Tryz.ntmps31
  go_wp2_with fail
  refine (rsize_any _ _).mono ?_
  rintro e W1 ⟨rfl, rfl⟩
  rw [show kSize 10 = 1 from rfl]
  go_wp2
  go_ret
  exact ⟨ret_int (by rw [HP.out]; omega), HB.out⟩
end Go.Proofs.YtiknhkkeifemcaaGreatDoor
namespace Go.Proofs.YtiknhkkeifemcaaGreatDoor
open Go.ChangeShapes Go.WideShapes Go.ChangeAt Go.RowKit Go.Shelf

def noSF : SFld := ⟨⟨#[]⟩, 0, 0, 0, 0⟩
theorem i64_zeros (n : Nat) : (i64Cells (List.replicate n 0)) = List.replicate n (.int .i64 0) := by rw [i64Cells_map]; simp
end Go.Proofs.YtiknhkkeifemcaaGreatDoor
