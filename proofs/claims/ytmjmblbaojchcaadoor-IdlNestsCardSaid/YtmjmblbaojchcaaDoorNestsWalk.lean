/-
  The law IdlNests returns true at every number: a walk over the callees' contracts. Condition: the library's tables hold what the row lists.
-/
import Derived.Test.YtmjmblbaojchcaaDoorIAwake
namespace Go.Proofs.YtmjmblbaojchcaaDoor
open Go.ChangeShapes Go.WideShapes Go.ChangeAt Go.RowKit Go.Shelf

/-- The text, behind so many rounds of the first loop, and of the second. -/
def nestA : Nat → ByteArray
  | 0 => ⟨#[115, 116, 114, 117, 99, 116, 32, 83, 32, 123, 32, 120, 58, 32]⟩
  | i + 1 => nestA i ++ ⟨#[108, 105, 115, 116, 60]⟩
def nestB (k : Nat) : Nat → ByteArray
  | 0 => nestA k ++ ⟨#[117, 56]⟩
  | j + 1 => nestB k j ++ ⟨#[62]⟩
def nestT (k : Nat) : ByteArray := nestB k k ++ ⟨#[59, 32, 125]⟩
theorem nestA_size : ∀ i, (nestA i).size = 14 + 5 * i
  | 0 => rfl
  | i + 1 => by
    show (nestA i ++ _).size = _
    rw [ByteArray.size_append, nestA_size i]
    show 14 + 5 * i + 5 = _
    omega
theorem nestB_size (k : Nat) : ∀ j, (nestB k j).size = 16 + 5 * k + j
  | 0 => by
    show (nestA k ++ _).size = _
    rw [ByteArray.size_append, nestA_size k]
    show 14 + 5 * k + 2 = _
    omega
  | j + 1 => by
    show (nestB k j ++ _).size = _
    rw [ByteArray.size_append, nestB_size k j]
    rfl
def nestF (k : Nat) : RField := ⟨[120], 11, ⟨[117, 56], k, 14⟩, noTok⟩
theorem nest_raw : ∀ k, k < 7 → rawT (nestT k) = if k ≤ 3 then (⟨[⟨[83], 7, [nestF k]⟩], [], []⟩, 0, 0) else (noRaw, 16, 29)
  | 0, _ => by kernel_rfl
  | 1, _ => by kernel_rfl
  | 2, _ => by kernel_rfl
  | 3, _ => by kernel_rfl
  | 4, _ => by kernel_rfl
  | 5, _ => by kernel_rfl
  | 6, _ => by kernel_rfl
  | k + 7, h => by omega
theorem idlNests_walk (n : Int) (w : World) (h : (Lit.int .u8 n).wf = true) (hT : Tabs w) :
    Calls Tryd.prog 6 #[.int .u8 n] w fun e w' => e = .returned (.bool true) ∧ Below w.heap.size w w' := by
  obtain ⟨h0, h1⟩ := bounds_u8 h
  obtain ⟨m, rfl⟩ : ∃ m : Nat, n = m := ⟨n.toNat, by omega⟩
  have HT := Lib.hid hT
  clear hT h
  go_enter Tryd.func6, Tryd.ntmps6
  go_wp2_with fail
  refine (iawake_any w HT.out).mono ?_
  rintro e W1 ⟨rfl, hb1⟩
  have HB1 := Lib.hid hb1
  clear hb1
  go_upto_region 6 with (fail)
  obtain ⟨k, hk⟩ : ∃ k : Nat, (m : Int) % 7 = k := ⟨m % 7, by omega⟩
  have hk7 : k < 7 := by omega
  rw [hk]
  clear hk h0 h1
  go_loopw [4, 13] (fun t i wr => Below w.heap.size w wr ∧ ∃ j : Nat, j ≤ k ∧ i = .int .i64 j ∧ t = .string (nestA j)) (fun _ i _ => k - (intOf i).toNat)
  case atStart => exact ⟨HB1.out, 0, Nat.zero_le _, rfl, rfl⟩
  case round =>
    obtain ⟨hb, j, hj, rfl, rfl⟩ := hrel
    have HB := Lib.hid hb
    have hsz : ¬ 9223372036854775807 < (nestA j).size + 5 := by rw [nestA_size]; omega
    have hsz2 : ¬ 9223372036854775807 < (nestA j).size + 2 := by rw [nestA_size]; omega
    clear hb HB1
    by_cases hjk : j < k
    · go_wp2
      go_roundw
      case rel => exact ⟨HB.out, j + 1, hjk, by go_num, rfl⟩
      case measure => simp [intOf]; omega
    · obtain rfl : j = k := by omega
      clear hjk
      go_wp2
      go_loopw [4, 21] (fun t i wr => Below w.heap.size w wr ∧ ∃ i' : Nat, i' ≤ j ∧ i = .int .i64 i' ∧ t = .string (nestB j i')) (fun _ i _ => j - (intOf i).toNat)
      case atStart => exact ⟨HB.out, 0, Nat.zero_le _, rfl, rfl⟩
      case round =>
        clear HB hsz hsz2
        obtain ⟨hb, i, hi, rfl, rfl⟩ := hrel
        have HB := Lib.hid hb
        have hsz : ¬ 9223372036854775807 < (nestB j i).size + 1 := by rw [nestB_size]; omega
        have hsz2 : ¬ 9223372036854775807 < (nestB j i).size + 3 := by rw [nestB_size]; omega
        clear hb
        by_cases hij : i < j
        · go_wp2
          go_roundw
          case rel => exact ⟨HB.out, i + 1, hij, by go_num, rfl⟩
          case measure => simp [intOf]; omega
        · obtain rfl : i = j := by omega
          clear hij
          have HN := Lib.hid (nest_raw i hk7)
          have hss : (nestT i).size ≤ 9223372036854775807 := by
            show (nestB i i ++ _).size ≤ _
            rw [ByteArray.size_append, nestB_size]
            show 16 + 5 * i + i + 3 ≤ _
            omega
          have HSS := Lib.hid hss
          clear hss
          by_cases h3 : i ≤ 3
          · have HP := Lib.hid (fun W hT => parse_one (nestT i) W hT HSS.out _ (nestF i) [] (by rw [HN.out, if_pos h3]) (by rw [HN.out, if_pos h3]) rfl)
            go_wp2_with fail
            refine (HP.out _ (HT.out.below (Nat.le_refl _) HB.out)).mono ?_
            rintro e W2 ⟨gs, cs, ea, en, ec, ra, rn, rc, gf, cf, rfl, hcs, hgs, c1, hcf, hgf, c2, c3, hb2⟩
            have HB2 := Lib.hid (HB.out.trans (hb2.mono HB.out.size))
            clear hb2
            go_upto_region 15 with (fail)
            have hbb : Below W2.heap.size W2 ((W2.alloc (.cells #[.slice (some ⟨gs, 0, none⟩) 1 cs, .slice ea en ec, .slice ra rn rc] 43)).alloc (.cells #[.int .i64 0, .int .i64 0] 46)) := ((Below.refl _ _).alloc (Nat.le_refl _) _).alloc (by simp) _
            have HB3 := Lib.hid (HB2.out.trans (hbb.mono HB2.out.size))
            obtain ⟨hq1, hq2⟩ := two_new W2 #[.slice (some ⟨gs, 0, none⟩) 1 cs, .slice ea en ec, .slice ra rn rc] #[.int .i64 0, .int .i64 0] 43 46
            have d1 := (hbb.cell (p := ⟨gs, 2, none⟩) hgs).trans c1
            have d2 : ((W2.alloc (.cells #[.slice (some ⟨gs, 0, none⟩) 1 cs, .slice ea en ec, .slice ra rn rc] 43)).alloc (.cells #[.int .i64 0, .int .i64 0] 46)).cell? ⟨gf, 2, none⟩ = some (.string (strOfNums [117, 56])) := (hbb.cell (p := ⟨gf, 2, none⟩) hgf).trans c2
            have d3 : ((W2.alloc (.cells #[.slice (some ⟨gs, 0, none⟩) 1 cs, .slice ea en ec, .slice ra rn rc] 43)).alloc (.cells #[.int .i64 0, .int .i64 0] 46)).cell? ⟨gf, 3, none⟩ = some (.int .i64 (i : Nat)) := (hbb.cell (p := ⟨gf, 3, none⟩) hgf).trans c3
            have HSE := Lib.hid (show ((strOfNums [117, 56]).toList == [117, 56]) = true by rw [ByteArray.toList_eq, strOfNums_data]; rfl)
            clear hbb c1 c2 c3
            generalize (W2.alloc (.cells #[.slice (some ⟨gs, 0, none⟩) 1 cs, .slice ea en ec, .slice ra rn rc] 43)).alloc (.cells #[.int .i64 0, .int .i64 0] 46) = W3 at *
            obtain ⟨_, r0, r1, r2, _⟩ := blk3 hq1
            obtain ⟨_, f0, f1, _⟩ := blk2 hq2
            clear hq1 hq2
            go_wp2
            go_ret
            exact ⟨ret_bool HSE.out, HB3.out⟩
          · have HP := Lib.hid (fun W hT => parse_told (nestT i) W hT HSS.out 16 29 (by rw [HN.out, if_neg h3]))
            go_wp2_with fail
            refine (HP.out _ (HT.out.below (Nat.le_refl _) HB.out)).mono ?_
            rintro e W2 ⟨sa, sn, sc, ea, en, ec, ra, rn, rc, rfl, hb2⟩
            have HB2 := Lib.hid (HB.out.trans (hb2.mono HB.out.size))
            clear hb2
            go_wp2
            go_ret
            exact ⟨rfl, (HB2.out.alloc HB2.out.size _).alloc (by simp; have := HB2.out.size; omega) _⟩
end Go.Proofs.YtmjmblbaojchcaaDoor
