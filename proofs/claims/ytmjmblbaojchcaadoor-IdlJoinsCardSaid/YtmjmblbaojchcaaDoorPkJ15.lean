/-
  The law IdlJoins returns true at all texts where one of them has a fault, or both together have too many tokens: walks over the callees' contracts. Condition: the library's tables hold what the row lists.
  The law IdlJoins returns true at all texts without a fault: a walk over the callees' contracts. Condition: the library's tables hold what the row lists.
  The law IdlJoins returns true at all texts. Condition: the library's tables hold what the row lists.
  What the frames of this seat's proofs share: the program's own facts, and what a walk is told of a slice of integers that came in. No conditions.
-/
import Derived.Test.YtmjmblbaojchcaaDoorPkJ14
import Derived.Test.YtmjmblbaojchcaaDoorRows
import Derived.WalkKit
import Derived.ProofKit
import Derived.OpenShut
import Derived.ShutString
import Derived.ChangeOld
import Derived.Below
import Derived.Deep.DeepHandedRow
namespace Go.Proofs.YtmjmblbaojchcaaDoor
open Go.ChangeShapes Go.WideShapes Go.ChangeAt Go.RowKit Go.Shelf

set_option maxRecDepth 100000 in
set_option maxHeartbeats 4000000 in
theorem joins_long (one other : ByteArray) (w : World) (hT : Tabs w) (h3 : one.size + other.size ≤ 9223372036854775807) (h : 8191 < one.size + other.size) :
    Calls Tryd.prog 5 #[.string one, .string other] w fun e w' => e = .returned (.bool true) ∧ Below w.heap.size w w' := by
  have HT := Lib.hid hT
  clear hT
  go_enter Tryd.func5, Tryd.ntmps5
  go_wp2_with fail
  refine (iawake_any w HT.out).mono ?_
  rintro e W0 ⟨rfl, hb0⟩
  have HB0 := Lib.hid hb0
  clear hb0
  go_wp2
  go_ret
  exact ⟨rfl, HB0.out⟩
set_option maxRecDepth 100000 in
set_option maxHeartbeats 4000000 in
theorem joins_one (one other : ByteArray) (w : World) (hT : Tabs w) (h : one.size + other.size ≤ 8191) (c1 : Int) (p1 : Nat) (hc1 : (rawT one).2 = (c1, p1)) (hn : c1 ≠ 0) (c2 : Int) (p2 : Nat) (hc2 : (rawT other).2 = (c2, p2)) :
    Calls Tryd.prog 5 #[.string one, .string other] w fun e w' => e = .returned (.bool true) ∧ Below w.heap.size w w' := by
  have HC1 := Lib.hid hc1
  have HC2 := Lib.hid hc2
  have t1 : (c1 != 0) = true := bne_iff_ne.2 hn
  clear hc1 hc2 hn
  have HT := Lib.hid hT
  clear hT
  go_enter Tryd.func5, Tryd.ntmps5
  go_wp2_with fail
  refine (iawake_any w HT.out).mono ?_
  rintro e W0 ⟨rfl, hb0⟩
  have HB0 := Lib.hid hb0
  clear hb0
  go_wp2_with fail
  refine (parse_told one _ (HT.out.below (Nat.le_refl _) HB0.out) (by omega) c1 p1 HC1.out).mono ?_
  rintro e V1 ⟨sa1, sn1, sc1, ea1, en1, ec1, ra1, rn1, rc1, rfl, hb1⟩
  have HV1 := Lib.hid (HB0.out.trans (hb1.mono HB0.out.size))
  clear hb1
  go_upto_region 6 with (fail)
  have hbb : Below V1.heap.size V1 ((V1.alloc (.cells #[.slice sa1 sn1 sc1, .slice ea1 en1 ec1, .slice ra1 rn1 rc1] 43)).alloc (.cells #[.int .i64 c1, .int .i64 (p1 : Nat)] 46)) := ((Below.refl _ _).alloc (Nat.le_refl _) _).alloc (by simp) _
  have HB1 := Lib.hid (HV1.out.trans (hbb.mono HV1.out.size))
  have HQ1_1 := Lib.hid (two_new V1 #[.slice sa1 sn1 sc1, .slice ea1 en1 ec1, .slice ra1 rn1 rc1] #[.int .i64 c1, .int .i64 (p1 : Nat)] 43 46).2
  clear hbb
  generalize (V1.alloc (.cells #[.slice sa1 sn1 sc1, .slice ea1 en1 ec1, .slice ra1 rn1 rc1] 43)).alloc (.cells #[.int .i64 c1, .int .i64 (p1 : Nat)] 46) = W1 at *
  generalize V1.heap.size = B1 at *
  go_wp2_with fail
  refine (parse_told other _ (HT.out.below (Nat.le_refl _) HB1.out) (by omega) c2 p2 HC2.out).mono ?_
  rintro e V2 ⟨sa2, sn2, sc2, ea2, en2, ec2, ra2, rn2, rc2, rfl, hb2⟩
  have HV2 := Lib.hid (HB1.out.trans (hb2.mono HB1.out.size))
  have HQ1_2 := Lib.hid (blk_below HQ1_1.out hb2 (blk_lt HQ1_1.out))
  clear hb2
  go_upto_region 7 with (fail)
  have hbb : Below V2.heap.size V2 ((V2.alloc (.cells #[.slice sa2 sn2 sc2, .slice ea2 en2 ec2, .slice ra2 rn2 rc2] 43)).alloc (.cells #[.int .i64 c2, .int .i64 (p2 : Nat)] 46)) := ((Below.refl _ _).alloc (Nat.le_refl _) _).alloc (by simp) _
  have HB2 := Lib.hid (HV2.out.trans (hbb.mono HV2.out.size))
  have HQ2_2 := Lib.hid (two_new V2 #[.slice sa2 sn2 sc2, .slice ea2 en2 ec2, .slice ra2 rn2 rc2] #[.int .i64 c2, .int .i64 (p2 : Nat)] 43 46).2
  have HR1_2 := Lib.hid (blk_below HQ1_2.out hbb (blk_lt HQ1_2.out))
  clear hbb
  clear HQ1_2
  have HQ1_2 := HR1_2
  generalize (V2.alloc (.cells #[.slice sa2 sn2 sc2, .slice ea2 en2 ec2, .slice ra2 rn2 rc2] 43)).alloc (.cells #[.int .i64 c2, .int .i64 (p2 : Nat)] 46) = W2 at *
  generalize V2.heap.size = B2 at *
  obtain ⟨_, f10, f11, _⟩ := blk2 HQ1_2.out
  obtain ⟨_, f20, f21, _⟩ := blk2 HQ2_2.out
  go_upto_region 8 with (fail)
  go_wp2
  go_ret
  exact ⟨rfl, HB2.out⟩
set_option maxRecDepth 100000 in
set_option maxHeartbeats 4000000 in
theorem joins_other (one other : ByteArray) (w : World) (hT : Tabs w) (h : one.size + other.size ≤ 8191) (p1 : Nat) (hc1 : (rawT one).2 = (0, p1)) (c2 : Int) (p2 : Nat) (hc2 : (rawT other).2 = (c2, p2)) (hn : c2 ≠ 0) :
    Calls Tryd.prog 5 #[.string one, .string other] w fun e w' => e = .returned (.bool true) ∧ Below w.heap.size w w' := by
  have HC1 := Lib.hid hc1
  have HC2 := Lib.hid hc2
  have t1 : (c2 != 0) = true := bne_iff_ne.2 hn
  clear hc1 hc2 hn
  have HT := Lib.hid hT
  clear hT
  go_enter Tryd.func5, Tryd.ntmps5
  go_wp2_with fail
  refine (iawake_any w HT.out).mono ?_
  rintro e W0 ⟨rfl, hb0⟩
  have HB0 := Lib.hid hb0
  clear hb0
  go_wp2_with fail
  refine (parse_told one _ (HT.out.below (Nat.le_refl _) HB0.out) (by omega) 0 p1 HC1.out).mono ?_
  rintro e V1 ⟨sa1, sn1, sc1, ea1, en1, ec1, ra1, rn1, rc1, rfl, hb1⟩
  have HV1 := Lib.hid (HB0.out.trans (hb1.mono HB0.out.size))
  clear hb1
  go_upto_region 6 with (fail)
  have hbb : Below V1.heap.size V1 ((V1.alloc (.cells #[.slice sa1 sn1 sc1, .slice ea1 en1 ec1, .slice ra1 rn1 rc1] 43)).alloc (.cells #[.int .i64 0, .int .i64 (p1 : Nat)] 46)) := ((Below.refl _ _).alloc (Nat.le_refl _) _).alloc (by simp) _
  have HB1 := Lib.hid (HV1.out.trans (hbb.mono HV1.out.size))
  have HQ1_1 := Lib.hid (two_new V1 #[.slice sa1 sn1 sc1, .slice ea1 en1 ec1, .slice ra1 rn1 rc1] #[.int .i64 0, .int .i64 (p1 : Nat)] 43 46).2
  clear hbb
  generalize (V1.alloc (.cells #[.slice sa1 sn1 sc1, .slice ea1 en1 ec1, .slice ra1 rn1 rc1] 43)).alloc (.cells #[.int .i64 0, .int .i64 (p1 : Nat)] 46) = W1 at *
  generalize V1.heap.size = B1 at *
  go_wp2_with fail
  refine (parse_told other _ (HT.out.below (Nat.le_refl _) HB1.out) (by omega) c2 p2 HC2.out).mono ?_
  rintro e V2 ⟨sa2, sn2, sc2, ea2, en2, ec2, ra2, rn2, rc2, rfl, hb2⟩
  have HV2 := Lib.hid (HB1.out.trans (hb2.mono HB1.out.size))
  have HQ1_2 := Lib.hid (blk_below HQ1_1.out hb2 (blk_lt HQ1_1.out))
  clear hb2
  go_upto_region 7 with (fail)
  have hbb : Below V2.heap.size V2 ((V2.alloc (.cells #[.slice sa2 sn2 sc2, .slice ea2 en2 ec2, .slice ra2 rn2 rc2] 43)).alloc (.cells #[.int .i64 c2, .int .i64 (p2 : Nat)] 46)) := ((Below.refl _ _).alloc (Nat.le_refl _) _).alloc (by simp) _
  have HB2 := Lib.hid (HV2.out.trans (hbb.mono HV2.out.size))
  have HQ2_2 := Lib.hid (two_new V2 #[.slice sa2 sn2 sc2, .slice ea2 en2 ec2, .slice ra2 rn2 rc2] #[.int .i64 c2, .int .i64 (p2 : Nat)] 43 46).2
  have HR1_2 := Lib.hid (blk_below HQ1_2.out hbb (blk_lt HQ1_2.out))
  clear hbb
  clear HQ1_2
  have HQ1_2 := HR1_2
  generalize (V2.alloc (.cells #[.slice sa2 sn2 sc2, .slice ea2 en2 ec2, .slice ra2 rn2 rc2] 43)).alloc (.cells #[.int .i64 c2, .int .i64 (p2 : Nat)] 46) = W2 at *
  generalize V2.heap.size = B2 at *
  obtain ⟨_, f10, f11, _⟩ := blk2 HQ1_2.out
  obtain ⟨_, f20, f21, _⟩ := blk2 HQ2_2.out
  go_upto_region 8 with (fail)
  go_wp2
  go_ret
  exact ⟨rfl, HB2.out⟩
set_option maxRecDepth 100000 in
set_option maxHeartbeats 4000000 in
theorem joins_wrap1 (one other : ByteArray) (w : World) (hT : Tabs w) (hs1 : one.size ≤ 9223372036854775807) (hs2 : other.size ≤ 9223372036854775807) (hlow : 9223372036854775807 < one.size + other.size) (c1 : Int) (p1 : Nat) (hc1 : (rawT one).2 = (c1, p1)) (hn : c1 ≠ 0) (c2 : Int) (p2 : Nat) (hc2 : (rawT other).2 = (c2, p2)) :
    Calls Tryd.prog 5 #[.string one, .string other] w fun e w' => e = .returned (.bool true) ∧ Below w.heap.size w w' := by
  have HC1 := Lib.hid hc1
  have HC2 := Lib.hid hc2
  have t1 : (c1 != 0) = true := bne_iff_ne.2 hn
  clear hc1 hc2 hn
  have HS1 := Lib.hid hs1
  have HS2 := Lib.hid hs2
  have hw : decide ((8191 : Int) < wrap64 ((one.size : Int) + (other.size : Int))) = false := decide_eq_false (by unfold wrap64; omega)
  clear hs1 hs2 hlow
  have HT := Lib.hid hT
  clear hT
  go_enter Tryd.func5, Tryd.ntmps5
  go_wp2_with fail
  refine (iawake_any w HT.out).mono ?_
  rintro e W0 ⟨rfl, hb0⟩
  have HB0 := Lib.hid hb0
  clear hb0
  go_wp2_with fail
  refine (parse_told one _ (HT.out.below (Nat.le_refl _) HB0.out) HS1.out c1 p1 HC1.out).mono ?_
  rintro e V1 ⟨sa1, sn1, sc1, ea1, en1, ec1, ra1, rn1, rc1, rfl, hb1⟩
  have HV1 := Lib.hid (HB0.out.trans (hb1.mono HB0.out.size))
  clear hb1
  go_upto_region 6 with (fail)
  have hbb : Below V1.heap.size V1 ((V1.alloc (.cells #[.slice sa1 sn1 sc1, .slice ea1 en1 ec1, .slice ra1 rn1 rc1] 43)).alloc (.cells #[.int .i64 c1, .int .i64 (p1 : Nat)] 46)) := ((Below.refl _ _).alloc (Nat.le_refl _) _).alloc (by simp) _
  have HB1 := Lib.hid (HV1.out.trans (hbb.mono HV1.out.size))
  have HQ1_1 := Lib.hid (two_new V1 #[.slice sa1 sn1 sc1, .slice ea1 en1 ec1, .slice ra1 rn1 rc1] #[.int .i64 c1, .int .i64 (p1 : Nat)] 43 46).2
  clear hbb
  generalize (V1.alloc (.cells #[.slice sa1 sn1 sc1, .slice ea1 en1 ec1, .slice ra1 rn1 rc1] 43)).alloc (.cells #[.int .i64 c1, .int .i64 (p1 : Nat)] 46) = W1 at *
  generalize V1.heap.size = B1 at *
  go_wp2_with fail
  refine (parse_told other _ (HT.out.below (Nat.le_refl _) HB1.out) HS2.out c2 p2 HC2.out).mono ?_
  rintro e V2 ⟨sa2, sn2, sc2, ea2, en2, ec2, ra2, rn2, rc2, rfl, hb2⟩
  have HV2 := Lib.hid (HB1.out.trans (hb2.mono HB1.out.size))
  have HQ1_2 := Lib.hid (blk_below HQ1_1.out hb2 (blk_lt HQ1_1.out))
  clear hb2
  go_upto_region 7 with (fail)
  have hbb : Below V2.heap.size V2 ((V2.alloc (.cells #[.slice sa2 sn2 sc2, .slice ea2 en2 ec2, .slice ra2 rn2 rc2] 43)).alloc (.cells #[.int .i64 c2, .int .i64 (p2 : Nat)] 46)) := ((Below.refl _ _).alloc (Nat.le_refl _) _).alloc (by simp) _
  have HB2 := Lib.hid (HV2.out.trans (hbb.mono HV2.out.size))
  have HQ2_2 := Lib.hid (two_new V2 #[.slice sa2 sn2 sc2, .slice ea2 en2 ec2, .slice ra2 rn2 rc2] #[.int .i64 c2, .int .i64 (p2 : Nat)] 43 46).2
  have HR1_2 := Lib.hid (blk_below HQ1_2.out hbb (blk_lt HQ1_2.out))
  clear hbb
  clear HQ1_2
  have HQ1_2 := HR1_2
  generalize (V2.alloc (.cells #[.slice sa2 sn2 sc2, .slice ea2 en2 ec2, .slice ra2 rn2 rc2] 43)).alloc (.cells #[.int .i64 c2, .int .i64 (p2 : Nat)] 46) = W2 at *
  generalize V2.heap.size = B2 at *
  obtain ⟨_, f10, f11, _⟩ := blk2 HQ1_2.out
  obtain ⟨_, f20, f21, _⟩ := blk2 HQ2_2.out
  go_upto_region 8 with (fail)
  go_wp2
  go_ret
  exact ⟨rfl, HB2.out⟩
set_option maxRecDepth 100000 in
set_option maxHeartbeats 4000000 in
theorem joins_wrap2 (one other : ByteArray) (w : World) (hT : Tabs w) (hs1 : one.size ≤ 9223372036854775807) (hs2 : other.size ≤ 9223372036854775807) (hlow : 9223372036854775807 < one.size + other.size) (p1 : Nat) (hc1 : (rawT one).2 = (0, p1)) (c2 : Int) (p2 : Nat) (hc2 : (rawT other).2 = (c2, p2)) (hn : c2 ≠ 0) :
    Calls Tryd.prog 5 #[.string one, .string other] w fun e w' => e = .returned (.bool true) ∧ Below w.heap.size w w' := by
  have HC1 := Lib.hid hc1
  have HC2 := Lib.hid hc2
  have t1 : (c2 != 0) = true := bne_iff_ne.2 hn
  clear hc1 hc2 hn
  have HS1 := Lib.hid hs1
  have HS2 := Lib.hid hs2
  have hw : decide ((8191 : Int) < wrap64 ((one.size : Int) + (other.size : Int))) = false := decide_eq_false (by unfold wrap64; omega)
  clear hs1 hs2 hlow
  have HT := Lib.hid hT
  clear hT
  go_enter Tryd.func5, Tryd.ntmps5
  go_wp2_with fail
  refine (iawake_any w HT.out).mono ?_
  rintro e W0 ⟨rfl, hb0⟩
  have HB0 := Lib.hid hb0
  clear hb0
  go_wp2_with fail
  refine (parse_told one _ (HT.out.below (Nat.le_refl _) HB0.out) HS1.out 0 p1 HC1.out).mono ?_
  rintro e V1 ⟨sa1, sn1, sc1, ea1, en1, ec1, ra1, rn1, rc1, rfl, hb1⟩
  have HV1 := Lib.hid (HB0.out.trans (hb1.mono HB0.out.size))
  clear hb1
  go_upto_region 6 with (fail)
  have hbb : Below V1.heap.size V1 ((V1.alloc (.cells #[.slice sa1 sn1 sc1, .slice ea1 en1 ec1, .slice ra1 rn1 rc1] 43)).alloc (.cells #[.int .i64 0, .int .i64 (p1 : Nat)] 46)) := ((Below.refl _ _).alloc (Nat.le_refl _) _).alloc (by simp) _
  have HB1 := Lib.hid (HV1.out.trans (hbb.mono HV1.out.size))
  have HQ1_1 := Lib.hid (two_new V1 #[.slice sa1 sn1 sc1, .slice ea1 en1 ec1, .slice ra1 rn1 rc1] #[.int .i64 0, .int .i64 (p1 : Nat)] 43 46).2
  clear hbb
  generalize (V1.alloc (.cells #[.slice sa1 sn1 sc1, .slice ea1 en1 ec1, .slice ra1 rn1 rc1] 43)).alloc (.cells #[.int .i64 0, .int .i64 (p1 : Nat)] 46) = W1 at *
  generalize V1.heap.size = B1 at *
  go_wp2_with fail
  refine (parse_told other _ (HT.out.below (Nat.le_refl _) HB1.out) HS2.out c2 p2 HC2.out).mono ?_
  rintro e V2 ⟨sa2, sn2, sc2, ea2, en2, ec2, ra2, rn2, rc2, rfl, hb2⟩
  have HV2 := Lib.hid (HB1.out.trans (hb2.mono HB1.out.size))
  have HQ1_2 := Lib.hid (blk_below HQ1_1.out hb2 (blk_lt HQ1_1.out))
  clear hb2
  go_upto_region 7 with (fail)
  have hbb : Below V2.heap.size V2 ((V2.alloc (.cells #[.slice sa2 sn2 sc2, .slice ea2 en2 ec2, .slice ra2 rn2 rc2] 43)).alloc (.cells #[.int .i64 c2, .int .i64 (p2 : Nat)] 46)) := ((Below.refl _ _).alloc (Nat.le_refl _) _).alloc (by simp) _
  have HB2 := Lib.hid (HV2.out.trans (hbb.mono HV2.out.size))
  have HQ2_2 := Lib.hid (two_new V2 #[.slice sa2 sn2 sc2, .slice ea2 en2 ec2, .slice ra2 rn2 rc2] #[.int .i64 c2, .int .i64 (p2 : Nat)] 43 46).2
  have HR1_2 := Lib.hid (blk_below HQ1_2.out hbb (blk_lt HQ1_2.out))
  clear hbb
  clear HQ1_2
  have HQ1_2 := HR1_2
  generalize (V2.alloc (.cells #[.slice sa2 sn2 sc2, .slice ea2 en2 ec2, .slice ra2 rn2 rc2] 43)).alloc (.cells #[.int .i64 c2, .int .i64 (p2 : Nat)] 46) = W2 at *
  generalize V2.heap.size = B2 at *
  obtain ⟨_, f10, f11, _⟩ := blk2 HQ1_2.out
  obtain ⟨_, f20, f21, _⟩ := blk2 HQ2_2.out
  go_upto_region 8 with (fail)
  go_wp2
  go_ret
  exact ⟨rfl, HB2.out⟩
set_option maxRecDepth 100000 in
set_option maxHeartbeats 4000000 in
theorem joins_many (one other : ByteArray) (w : World) (hT : Tabs w) (h : one.size + other.size ≤ 8191) (p1 : Nat) (hc1 : (rawT one).2 = (0, p1)) (p2 : Nat) (hc2 : (rawT other).2 = (0, p2)) (p3 : Nat) (j : ByteArray) (hj : one ++ ⟨#[10]⟩ ++ other = j) (hc3 : (rawT j).2 = (16, p3)) :
    Calls Tryd.prog 5 #[.string one, .string other] w fun e w' => e = .returned (.bool true) ∧ Below w.heap.size w w' := by
  have HC1 := Lib.hid hc1
  have HC2 := Lib.hid hc2
  have HC3 := Lib.hid hc3
  have q1 : ¬ 9223372036854775807 < one.size + 1 := by omega
  have q2 : ¬ 9223372036854775807 < one.size + 1 + other.size := by omega
  have q3 : j.size ≤ 9223372036854775807 := by
    rw [← hj, ByteArray.size_append, ByteArray.size_append]
    show one.size + 1 + other.size ≤ _
    omega
  have HJ := Lib.hid hj
  have Q3 := Lib.hid q3
  clear hc1 hc2 hc3 q3 hj
  have HT := Lib.hid hT
  clear hT
  go_enter Tryd.func5, Tryd.ntmps5
  go_wp2_with fail
  refine (iawake_any w HT.out).mono ?_
  rintro e W0 ⟨rfl, hb0⟩
  have HB0 := Lib.hid hb0
  clear hb0
  go_wp2_with fail
  refine (parse_told one _ (HT.out.below (Nat.le_refl _) HB0.out) (by omega) 0 p1 HC1.out).mono ?_
  rintro e V1 ⟨sa1, sn1, sc1, ea1, en1, ec1, ra1, rn1, rc1, rfl, hb1⟩
  have HV1 := Lib.hid (HB0.out.trans (hb1.mono HB0.out.size))
  clear hb1
  go_upto_region 6 with (fail)
  have hbb : Below V1.heap.size V1 ((V1.alloc (.cells #[.slice sa1 sn1 sc1, .slice ea1 en1 ec1, .slice ra1 rn1 rc1] 43)).alloc (.cells #[.int .i64 0, .int .i64 (p1 : Nat)] 46)) := ((Below.refl _ _).alloc (Nat.le_refl _) _).alloc (by simp) _
  have HB1 := Lib.hid (HV1.out.trans (hbb.mono HV1.out.size))
  have HQ1_1 := Lib.hid (two_new V1 #[.slice sa1 sn1 sc1, .slice ea1 en1 ec1, .slice ra1 rn1 rc1] #[.int .i64 0, .int .i64 (p1 : Nat)] 43 46).2
  clear hbb
  generalize (V1.alloc (.cells #[.slice sa1 sn1 sc1, .slice ea1 en1 ec1, .slice ra1 rn1 rc1] 43)).alloc (.cells #[.int .i64 0, .int .i64 (p1 : Nat)] 46) = W1 at *
  generalize V1.heap.size = B1 at *
  go_wp2_with fail
  refine (parse_told other _ (HT.out.below (Nat.le_refl _) HB1.out) (by omega) 0 p2 HC2.out).mono ?_
  rintro e V2 ⟨sa2, sn2, sc2, ea2, en2, ec2, ra2, rn2, rc2, rfl, hb2⟩
  have HV2 := Lib.hid (HB1.out.trans (hb2.mono HB1.out.size))
  have HQ1_2 := Lib.hid (blk_below HQ1_1.out hb2 (blk_lt HQ1_1.out))
  clear hb2
  go_upto_region 7 with (fail)
  have hbb : Below V2.heap.size V2 ((V2.alloc (.cells #[.slice sa2 sn2 sc2, .slice ea2 en2 ec2, .slice ra2 rn2 rc2] 43)).alloc (.cells #[.int .i64 0, .int .i64 (p2 : Nat)] 46)) := ((Below.refl _ _).alloc (Nat.le_refl _) _).alloc (by simp) _
  have HB2 := Lib.hid (HV2.out.trans (hbb.mono HV2.out.size))
  have HQ2_2 := Lib.hid (two_new V2 #[.slice sa2 sn2 sc2, .slice ea2 en2 ec2, .slice ra2 rn2 rc2] #[.int .i64 0, .int .i64 (p2 : Nat)] 43 46).2
  have HR1_2 := Lib.hid (blk_below HQ1_2.out hbb (blk_lt HQ1_2.out))
  clear hbb
  clear HQ1_2
  have HQ1_2 := HR1_2
  generalize (V2.alloc (.cells #[.slice sa2 sn2 sc2, .slice ea2 en2 ec2, .slice ra2 rn2 rc2] 43)).alloc (.cells #[.int .i64 0, .int .i64 (p2 : Nat)] 46) = W2 at *
  generalize V2.heap.size = B2 at *
  obtain ⟨_, f10, f11, _⟩ := blk2 HQ1_2.out
  obtain ⟨_, f20, f21, _⟩ := blk2 HQ2_2.out
  go_wp2_with fail
  rw [HJ.out]
  refine (parse_told j _ (HT.out.below (Nat.le_refl _) HB2.out) Q3.out 16 p3 HC3.out).mono ?_
  rintro e V3 ⟨sa3, sn3, sc3, ea3, en3, ec3, ra3, rn3, rc3, rfl, hb3⟩
  have HV3 := Lib.hid (HB2.out.trans (hb3.mono HB2.out.size))
  have HQ1_3 := Lib.hid (blk_below HQ1_2.out hb3 (blk_lt HQ1_2.out))
  have HQ2_3 := Lib.hid (blk_below HQ2_2.out hb3 (blk_lt HQ2_2.out))
  clear hb3
  go_upto_region 10 with (fail)
  have hbb : Below V3.heap.size V3 ((V3.alloc (.cells #[.slice sa3 sn3 sc3, .slice ea3 en3 ec3, .slice ra3 rn3 rc3] 43)).alloc (.cells #[.int .i64 16, .int .i64 (p3 : Nat)] 46)) := ((Below.refl _ _).alloc (Nat.le_refl _) _).alloc (by simp) _
  have HB3 := Lib.hid (HV3.out.trans (hbb.mono HV3.out.size))
  have HQ3_3 := Lib.hid (two_new V3 #[.slice sa3 sn3 sc3, .slice ea3 en3 ec3, .slice ra3 rn3 rc3] #[.int .i64 16, .int .i64 (p3 : Nat)] 43 46).2
  have HR1_3 := Lib.hid (blk_below HQ1_3.out hbb (blk_lt HQ1_3.out))
  have HR2_3 := Lib.hid (blk_below HQ2_3.out hbb (blk_lt HQ2_3.out))
  clear hbb
  clear HQ1_3
  have HQ1_3 := HR1_3
  clear HQ2_3
  have HQ2_3 := HR2_3
  generalize (V3.alloc (.cells #[.slice sa3 sn3 sc3, .slice ea3 en3 ec3, .slice ra3 rn3 rc3] 43)).alloc (.cells #[.int .i64 16, .int .i64 (p3 : Nat)] 46) = W3 at *
  generalize V3.heap.size = B3 at *
  obtain ⟨_, f30, f31, _⟩ := blk2 HQ3_3.out
  go_upto_region 11 with (fail)
  go_wp2
  go_ret
  exact ⟨rfl, HB3.out⟩
end Go.Proofs.YtmjmblbaojchcaaDoor
namespace Go.Proofs.YtmjmblbaojchcaaDoor
open Go.ChangeShapes Go.WideShapes Go.ChangeAt Go.RowKit Go.Shelf

theorem below_set3 {B : Nat} {a w : World} (h : Below B a w) {g : Nat} (hg : B ≤ g) (x y z : Value) : Below B a (((w.setCell ⟨g, 0, none⟩ x).setCell ⟨g, 1, none⟩ y).setCell ⟨g, 2, none⟩ z) :=
  ((h.setCell (p := ⟨g, 0, none⟩) hg x).setCell (p := ⟨g, 1, none⟩) hg y).setCell (p := ⟨g, 2, none⟩) hg z
theorem parse_full (s : ByteArray) (w : World) (hT : Tabs w) (hs : s.size ≤ 9223372036854775807) {a : RRaw} {c : Int} {p : Nat} (h : rawT s = (a, c, p)) :
    Calls Tryd.prog 11 #[.string s] w fun e w' => ∃ ss es ts sa sc ea ec ra rc, e = .returned (.tuple #[.agg #[.slice sa ss.length sc, .slice ea es.length ec, .slice ra ts.length rc], .agg #[.int .i64 c, .int .i64 (p : Nat)]]) ∧ a = rawOf ss es ts ∧
      RawRows w.heap.size w' ss es ts (.slice sa ss.length sc) (.slice ea es.length ec) (.slice ra ts.length rc) ∧ Below w.heap.size w w' := by
  refine (parse_any s w hT hs).mono ?_
  rintro e w' ⟨ss, es, ts, sv, ev, rv, rfl, hx, hr, hb⟩
  obtain ⟨sa, sc, ea, ec, ra, rc, rfl, rfl, rfl⟩ := hr.forms
  rw [h] at hx ⊢
  exact ⟨ss, es, ts, sa, sc, ea, ec, ra, rc, rfl, hx, hr, hb⟩
theorem row_max {w : World} {base : Nat} {e : TypeId} {size : Nat} {v : Value} {n : Nat} {xs : List Value} (h : w.ownsRow base e size v n xs) : n ≤ 9223372036854775807 := by
  rcases h.2 with ⟨_, h0⟩ | ⟨g, cap, cur, rfl, hb, hg, hnc, hm, hs, ht⟩
  · omega
  · unfold maxLen at hm; omega
/-- A struct's cells in its row. -/
theorem rec_cell : ∀ (l : List (RRec × Value)) (k : Nat) (p : RRec × Value), l[k]? = some p → (recsCells l)[k * 3]? = some (.string (strOfNums p.1.name)) ∧ (recsCells l)[k * 3 + 1]? = some (.int .i64 p.1.place) ∧ (recsCells l)[k * 3 + 2]? = some p.2
  | [], _, _, h => by simp at h
  | q :: r, 0, p, h => by
    simp at h
    subst h
    exact ⟨rfl, rfl, rfl⟩
  | q :: r, k + 1, p, h => by
    have ih := rec_cell r k p (by simpa using h)
    have e : recsCells (q :: r) = recCells q ++ recsCells r := rfl
    have l3 : (recCells q).length = 3 := rfl
    rw [e, List.getElem?_append_right (by rw [l3]; omega), List.getElem?_append_right (by rw [l3]; omega), List.getElem?_append_right (by rw [l3]; omega), l3,
      show (k + 1) * 3 - 3 = k * 3 by omega, show (k + 1) * 3 + 1 - 3 = k * 3 + 1 by omega, show (k + 1) * 3 + 2 - 3 = k * 3 + 2 by omega]
    exact ih
/-- The k-th of some structs: its row's address, its cells, its fields' slice. -/
theorem recs_at {w W : World} {base : Nat} {l : List (RRec × Value)} {es : List (RCho × Value)} {ts : List Tok} {sv ev rv : Value} (h : RawRows base w l es ts sv ev rv) (hb : Below w.heap.size w W) {k : Nat} (hk : k < l.length) :
    ∃ (d : RRec) (g c : Nat) (fa : Option Addr) (fc : Nat), (l.map Prod.fst)[k]? = some d ∧ sv = .slice (some ⟨g, 0, none⟩) l.length c ∧ l.length ≤ c ∧ g < W.heap.size ∧ W.cell? ⟨g, k * 3, none⟩ = some (.string (strOfNums d.name)) ∧ W.cell? ⟨g, k * 3 + 1, none⟩ = some (.int .i64 d.place) ∧ W.cell? ⟨g, k * 3 + 2, none⟩ = some (.slice fa d.fields.length fc) := by
  obtain ⟨g, c, rfl, hc, _, hg, hcell⟩ := row_at h.structs (by omega)
  have hp : l[k]? = some l[k] := List.getElem?_eq_getElem hk
  obtain ⟨fa, fc, hf⟩ := ownsRow_form (h.fields l[k] (List.getElem_mem hk))
  obtain ⟨x0, x1, x2⟩ := rec_cell l k _ hp
  rw [hf] at x2
  refine ⟨l[k].1, g, c, fa, fc, by rw [List.getElem?_map, hp]; rfl, rfl, hc, Nat.lt_of_lt_of_le hg hb.size, ?_, ?_, ?_⟩
  · rw [hb.cell (p := ⟨g, k * 3, none⟩) hg, hcell _ (by omega)]; exact x0
  · rw [hb.cell (p := ⟨g, k * 3 + 1, none⟩) hg, hcell _ (by omega)]; exact x1
  · rw [hb.cell (p := ⟨g, k * 3 + 2, none⟩) hg, hcell _ (by omega)]; exact x2
/-- The k-th struct of both: one of the first's, or alike one of the other's. -/
theorem both_low {ss1 ss3 : List (RRec × Value)} {es1 es3 : List (RCho × Value)} {ts1 ts3 : List Tok} {a b' : RRaw} (h1 : a = rawOf ss1 es1 ts1) (h3 : raw2 a b' = rawOf ss3 es3 ts3) {k : Nat} {d1 d3 : RRec} (e1 : (ss1.map Prod.fst)[k]? = some d1) (e3 : (ss3.map Prod.fst)[k]? = some d3) : d3 = d1 := by
  have h := congrArg RRaw.structs h3
  rw [h1] at h
  simp only [raw2, rawOf] at h
  rw [← h, List.getElem?_append_left (List.getElem?_eq_some_iff.1 e1).1, e1] at e3
  injection e3 with e3
  exact e3.symm
theorem both_high {ss1 ss2 ss3 : List (RRec × Value)} {es1 es2 es3 : List (RCho × Value)} {ts1 ts2 ts3 : List Tok} {a b b' : RRaw} (h1 : a = rawOf ss1 es1 ts1) (h2 : b = rawOf ss2 es2 ts2) (h3 : raw2 a b' = rawOf ss3 es3 ts3) (he : eRaw b' = eRaw b) {i : Nat} {d2 d3 : RRec} (e2 : (ss2.map Prod.fst)[i]? = some d2) (e3 : (ss3.map Prod.fst)[ss1.length + i]? = some d3) : d3.name = d2.name ∧ d3.fields.length = d2.fields.length := by
  have h := congrArg RRaw.structs h3
  rw [h1] at h
  simp only [raw2, rawOf] at h
  rw [← h, List.getElem?_append_right (by simp), List.length_map, Nat.add_sub_cancel_left] at e3
  have g := congrArg RRaw.structs he
  rw [h2] at g
  simp only [eRaw, rawOf] at g
  have g1 := congrArg (fun l => l[i]?) g
  simp only [List.getElem?_map] at g1
  rw [e3] at g1
  rw [List.getElem?_map] at e2
  rw [e2] at g1
  injection g1 with g1
  have g2 := congrArg RRec.name g1
  have g3 := congrArg (fun x : RRec => x.fields.length) g1
  simp [eR] at g2 g3
  exact ⟨g2, g3⟩
set_option maxRecDepth 100000 in
set_option maxHeartbeats 8000000 in
theorem joins_good (one other : ByteArray) (w : World) (hT : Tabs w) (h : one.size + other.size ≤ 8191) (a b b' : RRaw) (p1 p2 p3 : Nat) (hc1 : rawT one = (a, 0, p1)) (hc2 : rawT other = (b, 0, p2)) (j : ByteArray) (hj : one ++ ⟨#[10]⟩ ++ other = j) (hc3 : rawT j = (raw2 a b', 0, p3)) (he : eRaw b' = eRaw b) :
    Calls Tryd.prog 5 #[.string one, .string other] w fun e w' => e = .returned (.bool true) ∧ Below w.heap.size w w' := by
  have HC1 := Lib.hid hc1
  have HC2 := Lib.hid hc2
  have HC3 := Lib.hid hc3
  have HE := Lib.hid he
  have q1 : ¬ 9223372036854775807 < one.size + 1 := by omega
  have q2 : ¬ 9223372036854775807 < one.size + 1 + other.size := by omega
  have q3 : j.size ≤ 9223372036854775807 := by
    rw [← hj, ByteArray.size_append, ByteArray.size_append]
    show one.size + 1 + other.size ≤ _
    omega
  have HJ := Lib.hid hj
  have Q3 := Lib.hid q3
  clear hc1 hc2 hc3 q3 hj he
  have HT := Lib.hid hT
  clear hT
  go_enter Tryd.func5, Tryd.ntmps5
  go_wp2_with fail
  refine (iawake_any w HT.out).mono ?_
  rintro e W0 ⟨rfl, hb0⟩
  have HB0 := Lib.hid hb0
  clear hb0
  go_wp2_with fail
  refine (parse_full one _ (HT.out.below (Nat.le_refl _) HB0.out) (by omega) HC1.out).mono ?_
  rintro e V1 ⟨ss1, es1, ts1, sa1, sc1, ea1, ec1, ra1, rc1, rfl, hx1, hr1, hb1⟩
  have HX1 := Lib.hid hx1
  have HV1 := Lib.hid (HB0.out.trans (hb1.mono HB0.out.size))
  clear hb1 hx1
  go_upto_region 6 with (fail)
  have hbb : Below V1.heap.size V1 ((V1.alloc (.cells #[.slice sa1 ss1.length sc1, .slice ea1 es1.length ec1, .slice ra1 ts1.length rc1] 43)).alloc (.cells #[.int .i64 0, .int .i64 (p1 : Nat)] 46)) := ((Below.refl _ _).alloc (Nat.le_refl _) _).alloc (by simp) _
  have HB1 := Lib.hid (HV1.out.trans (hbb.mono HV1.out.size))
  have HQ1_1 := Lib.hid (two_new V1 #[.slice sa1 ss1.length sc1, .slice ea1 es1.length ec1, .slice ra1 ts1.length rc1] #[.int .i64 0, .int .i64 (p1 : Nat)] 43 46).2
  have HP1_1 := Lib.hid (two_new V1 #[.slice sa1 ss1.length sc1, .slice ea1 es1.length ec1, .slice ra1 ts1.length rc1] #[.int .i64 0, .int .i64 (p1 : Nat)] 43 46).1
  have HR1_1 := Lib.hid (hr1.below hbb)
  clear hbb hr1 HV1
  generalize (V1.alloc (.cells #[.slice sa1 ss1.length sc1, .slice ea1 es1.length ec1, .slice ra1 ts1.length rc1] 43)).alloc (.cells #[.int .i64 0, .int .i64 (p1 : Nat)] 46) = W1 at *
  generalize V1.heap.size = B1 at *
  go_wp2_with fail
  refine (parse_full other _ (HT.out.below (Nat.le_refl _) HB1.out) (by omega) HC2.out).mono ?_
  rintro e V2 ⟨ss2, es2, ts2, sa2, sc2, ea2, ec2, ra2, rc2, rfl, hx2, hr2, hb2⟩
  have HX2 := Lib.hid hx2
  have HV2 := Lib.hid (HB1.out.trans (hb2.mono HB1.out.size))
  have HQ1_2 := Lib.hid (blk_below HQ1_1.out hb2 (blk_lt HQ1_1.out))
  have HP1_2 := Lib.hid (blk_below HP1_1.out hb2 (blk_lt HP1_1.out))
  have HR1_2 := Lib.hid (HR1_1.out.below hb2)
  clear HQ1_1 HP1_1 HR1_1
  clear hb2 hx2
  go_upto_region 7 with (fail)
  have hbb : Below V2.heap.size V2 ((V2.alloc (.cells #[.slice sa2 ss2.length sc2, .slice ea2 es2.length ec2, .slice ra2 ts2.length rc2] 43)).alloc (.cells #[.int .i64 0, .int .i64 (p2 : Nat)] 46)) := ((Below.refl _ _).alloc (Nat.le_refl _) _).alloc (by simp) _
  have HB2 := Lib.hid (HV2.out.trans (hbb.mono HV2.out.size))
  have HQ2_2 := Lib.hid (two_new V2 #[.slice sa2 ss2.length sc2, .slice ea2 es2.length ec2, .slice ra2 ts2.length rc2] #[.int .i64 0, .int .i64 (p2 : Nat)] 43 46).2
  have HP2_2 := Lib.hid (two_new V2 #[.slice sa2 ss2.length sc2, .slice ea2 es2.length ec2, .slice ra2 ts2.length rc2] #[.int .i64 0, .int .i64 (p2 : Nat)] 43 46).1
  have HR2_2 := Lib.hid (hr2.below hbb)
  have HQ1' := Lib.hid (blk_below HQ1_2.out hbb (blk_lt HQ1_2.out))
  have HP1' := Lib.hid (blk_below HP1_2.out hbb (blk_lt HP1_2.out))
  have HR1' := Lib.hid (HR1_2.out.below hbb)
  clear HQ1_2 HP1_2 HR1_2
  have HQ1_2 := HQ1'
  have HP1_2 := HP1'
  have HR1_2 := HR1'
  clear HQ1' HP1' HR1'
  clear hbb hr2 HV2
  generalize (V2.alloc (.cells #[.slice sa2 ss2.length sc2, .slice ea2 es2.length ec2, .slice ra2 ts2.length rc2] 43)).alloc (.cells #[.int .i64 0, .int .i64 (p2 : Nat)] 46) = W2 at *
  generalize V2.heap.size = B2 at *
  obtain ⟨_, f10, f11, _⟩ := blk2 HQ1_2.out
  obtain ⟨_, f20, f21, _⟩ := blk2 HQ2_2.out
  go_wp2_with fail
  rw [HJ.out]
  refine (parse_full j _ (HT.out.below (Nat.le_refl _) HB2.out) Q3.out HC3.out).mono ?_
  rintro e V3 ⟨ss3, es3, ts3, sa3, sc3, ea3, ec3, ra3, rc3, rfl, hx3, hr3, hb3⟩
  have HX3 := Lib.hid hx3
  have HV3 := Lib.hid (HB2.out.trans (hb3.mono HB2.out.size))
  have HQ1_3 := Lib.hid (blk_below HQ1_2.out hb3 (blk_lt HQ1_2.out))
  have HP1_3 := Lib.hid (blk_below HP1_2.out hb3 (blk_lt HP1_2.out))
  have HR1_3 := Lib.hid (HR1_2.out.below hb3)
  clear HQ1_2 HP1_2 HR1_2
  have HQ2_3 := Lib.hid (blk_below HQ2_2.out hb3 (blk_lt HQ2_2.out))
  have HP2_3 := Lib.hid (blk_below HP2_2.out hb3 (blk_lt HP2_2.out))
  have HR2_3 := Lib.hid (HR2_2.out.below hb3)
  clear HQ2_2 HP2_2 HR2_2
  clear hb3 hx3
  go_upto_region 10 with (fail)
  have hbb : Below V3.heap.size V3 ((V3.alloc (.cells #[.slice sa3 ss3.length sc3, .slice ea3 es3.length ec3, .slice ra3 ts3.length rc3] 43)).alloc (.cells #[.int .i64 0, .int .i64 (p3 : Nat)] 46)) := ((Below.refl _ _).alloc (Nat.le_refl _) _).alloc (by simp) _
  have HB3 := Lib.hid (HV3.out.trans (hbb.mono HV3.out.size))
  have HQ3_3 := Lib.hid (two_new V3 #[.slice sa3 ss3.length sc3, .slice ea3 es3.length ec3, .slice ra3 ts3.length rc3] #[.int .i64 0, .int .i64 (p3 : Nat)] 43 46).2
  have HP3_3 := Lib.hid (two_new V3 #[.slice sa3 ss3.length sc3, .slice ea3 es3.length ec3, .slice ra3 ts3.length rc3] #[.int .i64 0, .int .i64 (p3 : Nat)] 43 46).1
  have HR3_3 := Lib.hid (hr3.below hbb)
  have HQ1' := Lib.hid (blk_below HQ1_3.out hbb (blk_lt HQ1_3.out))
  have HP1' := Lib.hid (blk_below HP1_3.out hbb (blk_lt HP1_3.out))
  have HR1' := Lib.hid (HR1_3.out.below hbb)
  clear HQ1_3 HP1_3 HR1_3
  have HQ1_3 := HQ1'
  have HP1_3 := HP1'
  have HR1_3 := HR1'
  clear HQ1' HP1' HR1'
  have HQ2' := Lib.hid (blk_below HQ2_3.out hbb (blk_lt HQ2_3.out))
  have HP2' := Lib.hid (blk_below HP2_3.out hbb (blk_lt HP2_3.out))
  have HR2' := Lib.hid (HR2_3.out.below hbb)
  clear HQ2_3 HP2_3 HR2_3
  have HQ2_3 := HQ2'
  have HP2_3 := HP2'
  have HR2_3 := HR2'
  clear HQ2' HP2' HR2'
  clear hbb hr3 HV3
  generalize (V3.alloc (.cells #[.slice sa3 ss3.length sc3, .slice ea3 es3.length ec3, .slice ra3 ts3.length rc3] 43)).alloc (.cells #[.int .i64 0, .int .i64 (p3 : Nat)] 46) = W3 at *
  generalize V3.heap.size = B3 at *
  obtain ⟨_, g30, g31, _⟩ := blk2 HQ3_3.out
  obtain ⟨lt1, u0, u1, u2, _⟩ := blk3 HP1_3.out
  obtain ⟨lt2, v0, v1, v2, _⟩ := blk3 HP2_3.out
  obtain ⟨lt3, x0, x1, x2, _⟩ := blk3 HP3_3.out
  clear f10 f11 f20 f21
  have hlen : ss3.length = ss1.length + ss2.length ∧ es3.length = es1.length + es2.length ∧ ts3.length = ts1.length + ts2.length := by
    have h1 := HX1.out
    have h2 := HX2.out
    have h3 := HX3.out
    have h4 := HE.out
    rw [h1] at h3
    rw [h2] at h4
    have s1 := congrArg (fun x : RRaw => x.structs.length) h3
    have s2 := congrArg (fun x : RRaw => x.enums.length) h3
    have s3 := congrArg (fun x : RRaw => x.roots.length) h3
    have s4 := congrArg (fun x : RRaw => x.structs.length) h4
    have s5 := congrArg (fun x : RRaw => x.enums.length) h4
    have s6 := congrArg (fun x : RRaw => x.roots.length) h4
    simp [raw2, rawOf, eRaw] at s1 s2 s3 s4 s5 s6
    omega
  obtain ⟨n1, n2, n3⟩ := hlen
  have m1 := row_max HR3_3.out.structs
  have m2 := row_max HR3_3.out.enums
  have m3 := row_max HR3_3.out.roots
  have t1 : ((ss3.length : Int) != (ss1.length : Int) + (ss2.length : Int)) = false := by simp; omega
  have t2 : ((es3.length : Int) != (es1.length : Int) + (es2.length : Int)) = false := by simp; omega
  have t3 : ((ts3.length : Int) != (ts1.length : Int) + (ts2.length : Int)) = false := by simp; omega
  have b1 : ss1.length + ss2.length ≤ 9223372036854775807 := by omega
  have b2 : es1.length + es2.length ≤ 9223372036854775807 := by omega
  have b3 : ts1.length + ts2.length ≤ 9223372036854775807 := by omega
  have N1 := Lib.hid n1
  clear n1 n2 n3
  go_upto_region 15 with (fail)
  have U0 := Lib.hid u0
  have V0 := Lib.hid v0
  clear u0 u1 u2 v0 v1 v2 x0 x1 x2 g30 g31 t1 t2 t3 q1 q2
  go_loopw [96] (fun i wr => Below W3.heap.size W3 wr ∧ ∃ k : Nat, k ≤ ss3.length ∧ i = .int .i64 k) (fun i _ => ss3.length - (intOf i).toNat)
  case atStart => exact ⟨Below.refl _ _, 0, Nat.zero_le _, rfl⟩
  case round =>
    obtain ⟨hb, k, hk, rfl⟩ := hrel
    have HB := Lib.hid hb
    have HBW := Lib.hid (HB3.out.trans (hb.mono HB3.out.size))
    have u0 := (hb.cell (p := ⟨B1, 0, none⟩) lt1).trans U0.out
    have v0 := (hb.cell (p := ⟨B2, 0, none⟩) lt2).trans V0.out
    have hs := hb.size
    clear hb
    by_cases hk3 : k < ss3.length
    · obtain ⟨d3, g3, c3, fa3, fc3, e3, hv3, hc3, hg3, y0, y1, y2⟩ := recs_at HR3_3.out HB.out hk3
      injection hv3 with i3 _ i4
      subst i3 i4
      have Y0 := Lib.hid y0
      have Y2 := Lib.hid y2
      by_cases hk1 : k < ss1.length
      · obtain ⟨d1, g1, c1, fa1, fc1, e1, hv1, hc1, hg1, z0, z1, z2⟩ := recs_at HR1_3.out HB.out hk1
        injection hv1 with i1 _ i2
        subst i1 i2
        have hd := both_low HX1.out HX3.out e1 e3
        subst hd
        clear e1 e3
        go_upto_region 18 with (fail)
        have hbb : Below wr.heap.size wr ((wr.alloc (.cells #[.string (strOfNums d3.name), .int .i64 d3.place, .slice fa3 d3.fields.length fc3] 51)).alloc (.cells #[.string ⟨#[]⟩, .int .i64 0, .slice none 0 0] 51)) := ((Below.refl _ _).alloc (Nat.le_refl _) _).alloc (by simp) _
        have HBB := Lib.hid hbb
        obtain ⟨hd3, hd0⟩ := two_new wr #[.string (strOfNums d3.name), .int .i64 d3.place, .slice fa3 d3.fields.length fc3] #[.string ⟨#[]⟩, .int .i64 0, .slice none 0 0] 51 51
        have HD0 := Lib.hid hd0
        have u0' := (hbb.cell (p := ⟨B1, 0, none⟩) (by show B1 < _; omega)).trans u0
        have v0' := (hbb.cell (p := ⟨B2, 0, none⟩) (by show B2 < _; omega)).trans v0
        have z0' := (hbb.cell (p := ⟨g1, k * 3, none⟩) hg1).trans z0
        have z1' := (hbb.cell (p := ⟨g1, k * 3 + 1, none⟩) hg1).trans z1
        have z2' := (hbb.cell (p := ⟨g1, k * 3 + 2, none⟩) hg1).trans z2
        have hltw : g1 < wr.heap.size := hg1
        have hltb : B1 < wr.heap.size ∧ B2 < wr.heap.size := by omega
        clear hbb u0 v0 z0 z1 z2 y0 y1 y2
        generalize (wr.alloc (.cells #[.string (strOfNums d3.name), .int .i64 d3.place, .slice fa3 d3.fields.length fc3] 51)).alloc (.cells #[.string ⟨#[]⟩, .int .i64 0, .slice none 0 0] 51) = W' at *
        obtain ⟨hw3, o0, o1, o2, _⟩ := blk3 hd3
        obtain ⟨hw0, r0, r1, r2, s0, s1, s2⟩ := blk3 hd0
        clear hd3 hd0
        go_wp2
        go_roundw
        case rel => exact ⟨HB.out.trans ((below_set3 HBB.out (Nat.le_succ _) _ _ _).mono HB.out.size), k + 1, hk3, by go_num⟩
        case measure => simp [intOf]; omega
      · obtain ⟨i, rfl⟩ : ∃ i, k = ss1.length + i := ⟨k - ss1.length, by omega⟩
        have hi2 : i < ss2.length := by have := N1.out; omega
        obtain ⟨d2, g2, c2, fa2, fc2, e2, hv2, hc2, hg2, z0, z1, z2⟩ := recs_at HR2_3.out HB.out hi2
        injection hv2 with i1 _ i2
        subst i1 i2
        obtain ⟨hn, hf⟩ := both_high HX1.out HX2.out HX3.out HE.out e2 e3
        rw [hn] at y0
        rw [hf] at y2
        have hsub : ((ss1.length + i : Nat) : Int) - (ss1.length : Int) = (i : Int) := by omega
        clear e2 e3 hn hf
        go_upto_region 18 with (fail)
        have hbb : Below wr.heap.size wr ((wr.alloc (.cells #[.string (strOfNums d2.name), .int .i64 d3.place, .slice fa3 d2.fields.length fc3] 51)).alloc (.cells #[.string ⟨#[]⟩, .int .i64 0, .slice none 0 0] 51)) := ((Below.refl _ _).alloc (Nat.le_refl _) _).alloc (by simp) _
        have HBB := Lib.hid hbb
        obtain ⟨hd3, hd0⟩ := two_new wr #[.string (strOfNums d2.name), .int .i64 d3.place, .slice fa3 d2.fields.length fc3] #[.string ⟨#[]⟩, .int .i64 0, .slice none 0 0] 51 51
        have HD0 := Lib.hid hd0
        have u0' := (hbb.cell (p := ⟨B1, 0, none⟩) (by show B1 < _; omega)).trans u0
        have v0' := (hbb.cell (p := ⟨B2, 0, none⟩) (by show B2 < _; omega)).trans v0
        have z0' := (hbb.cell (p := ⟨g2, i * 3, none⟩) hg2).trans z0
        have z1' := (hbb.cell (p := ⟨g2, i * 3 + 1, none⟩) hg2).trans z1
        have z2' := (hbb.cell (p := ⟨g2, i * 3 + 2, none⟩) hg2).trans z2
        have hltw : g2 < wr.heap.size := hg2
        have hltb : B1 < wr.heap.size ∧ B2 < wr.heap.size := by omega
        clear hbb u0 v0 z0 z1 z2 y0 y1 y2
        generalize (wr.alloc (.cells #[.string (strOfNums d2.name), .int .i64 d3.place, .slice fa3 d2.fields.length fc3] 51)).alloc (.cells #[.string ⟨#[]⟩, .int .i64 0, .slice none 0 0] 51) = W' at *
        obtain ⟨hw3, o0, o1, o2, _⟩ := blk3 hd3
        obtain ⟨hw0, r0, r1, r2, s0, s1, s2⟩ := blk3 hd0
        clear hd3 hd0
        go_wp2
        go_roundw
        case rel => exact ⟨HB.out.trans ((below_set3 HBB.out (Nat.le_succ _) _ _ _).mono HB.out.size), ss1.length + i + 1, hk3, by go_num⟩
        case measure => simp [intOf]; omega
    · go_wp2
      go_ret
      exact ⟨rfl, HBW.out⟩
end Go.Proofs.YtmjmblbaojchcaaDoor
namespace Go.Proofs.YtmjmblbaojchcaaDoor
open Go.ChangeShapes Go.WideShapes Go.ChangeAt Go.RowKit Go.Shelf

theorem raw_big {s : ByteArray} (h : 8192 < s.size) : rawT s = (noRaw, 16, 8192) := by
  unfold rawT toks
  rw [if_pos (by rw [bts_length]; exact h)]
  rfl
theorem idlJoins_walk (one other : ByteArray) (w : World) (hs1 : one.size ≤ 9223372036854775807) (hs2 : other.size ≤ 9223372036854775807) (hT : Tabs w) :
    Calls Tryd.prog 5 #[.string one, .string other] w fun e w' => e = .returned (.bool true) ∧ Below w.heap.size w w' := by
  obtain ⟨x1, h1⟩ : ∃ x, rawT one = x := ⟨_, rfl⟩
  obtain ⟨a, c1, p1⟩ := x1
  obtain ⟨x2, h2⟩ : ∃ x, rawT other = x := ⟨_, rfl⟩
  obtain ⟨b, c2, p2⟩ := x2
  have g1 : (rawT one).2 = (c1, p1) := by rw [h1]
  have g2 : (rawT other).2 = (c2, p2) := by rw [h2]
  by_cases hsm : one.size + other.size ≤ 8191
  · by_cases hc1 : c1 = 0
    · subst hc1
      by_cases hc2 : c2 = 0
      · subst hc2
        have hj : bts (one ++ ⟨#[10]⟩ ++ other) = bts one ++ 10 :: bts other := by
          rw [bts_append, bts_append]
          show bts one ++ [10] ++ bts other = _
          simp
        have hz : (one ++ ⟨#[10]⟩ ++ other).size ≤ 8192 := by
          rw [ByteArray.size_append, ByteArray.size_append]
          show one.size + 1 + other.size ≤ 8192
          omega
        obtain ⟨x3, h3⟩ : ∃ x, rawT (one ++ ⟨#[10]⟩ ++ other) = x := ⟨_, rfl⟩
        obtain ⟨c, c3, p3⟩ := x3
        rcases raw_join h1 h2 hj hz with h16 | ⟨b', hr, he⟩
        · rw [h3] at h16
          simp only at h16
          subst h16
          exact joins_many one other w hT hsm p1 g1 p2 g2 p3 _ rfl (by rw [h3])
        · exact joins_good one other w hT hsm a b b' p1 p2 0 h1 h2 _ rfl hr he
      · exact joins_other one other w hT hsm p1 g1 c2 p2 g2 hc2
    · exact joins_one one other w hT hsm c1 p1 g1 hc1 c2 p2 g2
  · by_cases hw : one.size + other.size ≤ 9223372036854775807
    · exact joins_long one other w hT hw (by omega)
    · by_cases hc1 : c1 = 0
      · subst hc1
        by_cases hb : 8192 < one.size
        · rw [raw_big hb] at h1
          cases h1
        · rw [raw_big (by omega : 8192 < other.size)] at g2
          injection g2 with g3 g4
          subst g3 g4
          exact joins_wrap2 one other w hT hs1 hs2 (by omega) p1 g1 16 8192 (by rw [raw_big (by omega)]) (by decide)
      · exact joins_wrap1 one other w hT hs1 hs2 (by omega) c1 p1 g1 hc1 c2 p2 g2
end Go.Proofs.YtmjmblbaojchcaaDoor
namespace Go.Proofs.YtmjmblbaojchcaaDoor
open Go.ChangeShapes Go.WideShapes Go.ChangeAt Go.RowKit

theorem own : ownKnob Tryd.prog.godebug = none := by kernel_rfl
theorem laidOut : laidOutB Tryd.prog = true := by kernel_rfl
/-- A slice of integers that came in: its numbers up to the capacity. -/
def IsRow (k : IntKind) (w : World) (a : Option Addr) (len cap : Nat) (zs : List Int) : Prop :=
  len ≤ cap ∧ cap ≤ maxLen ∧ zs.length = cap ∧ (∀ n ∈ zs, (Lit.int k n).wf = true) ∧
  (zs ≠ [] → ∃ b off, a = some ⟨b, off, none⟩ ∧ b < w.heap.size ∧ ∀ j, j < zs.length → w.cell? ⟨b, off + j, none⟩ = some (.int k (zs.getD j 0)))
theorem isRow_nil (k : IntKind) (w : World) (a : Option Addr) : IsRow k w a 0 0 [] :=
  ⟨Nat.le_refl _, Nat.zero_le _, rfl, (fun n h => by simp at h), (fun h => absurd rfl h)⟩
theorem isRow_of {k : IntKind} {w : World} {x : Addr} {len cap : Nat} {zs : List Int} (hl : len ≤ cap) (hm : cap ≤ maxLen) (hz : zs.length = cap)
    (hc : ∀ i, i < zs.length → w.cell? (x.add i) = some (.int k (zs.getD i 0))) (hw : ∀ n ∈ zs, (Lit.int k n).wf = true) : IsRow k w (some x) len cap zs := by
  refine ⟨hl, hm, hz, hw, fun hne => ?_⟩
  have h0 : 0 < zs.length := List.length_pos_iff.2 hne
  obtain ⟨b, off, rfl, hc'⟩ := ints_at hc h0
  exact ⟨b, off, rfl, World.block_lt_of_cell? _ _ (hc' 0 h0), hc'⟩
end Go.Proofs.YtmjmblbaojchcaaDoor
