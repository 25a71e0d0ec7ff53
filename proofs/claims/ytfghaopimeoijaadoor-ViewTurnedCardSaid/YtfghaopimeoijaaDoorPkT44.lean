/-
  The law's turn, where it turns the value itself: way 4. Conditions: those that each theorem names.
-/
import Derived.Test.YtfghaopimeoijaaDoorPkT39
namespace Go.Proofs.YtfghaopimeoijaaDoor
open Go.ChangeShapes Go.WideShapes Go.ChangeAt Go.RowKit Go.Shelf

set_option maxRecDepth 100000 in
set_option maxHeartbeats 8000000 in
theorem vturn_4 (d what : Nat) (n : Nat) (hw : what % 6 = 4) (hwb : what ≤ 255) (_hn : (n : Int) ≤ 18446744073709551615) (_hd : d ≤ 1000) (S : Nat → Bool) (w : World) (v : PV) (val : Value) (a : Option Addr) (ys : List Int) (cap : Nat) (hv : VH S w v val) (hS : ∀ k, w.heap.size ≤ k → S k = false) (hsm : SmallV v) (_hyl : (ys.length : Int) ≤ 9223372036854775807) (hgo : decide (0 < ys.length) = false ∨ (decide (0 < ys.length) = true ∧ decide (0 < v.kids.length) = false) ∨ (decide (0 < ys.length) = true ∧ decide (0 < v.kids.length) = true ∧ decide (0 < d) = false)) :
    Calls Tryd.prog 17 #[val, .slice a ys.length cap, .int .u8 what, .int .u64 n, .int .i64 d] w (TurnPost S w) := by
  obtain ⟨ba, ka, bc, kc, rfl, hnum, hbb, hbl, hbm, hkl, hkm, hks⟩ := IsV.form hv
  obtain ⟨hb, hq1, hq2⟩ := two_start w #[.int .u64 v.num, .slice ba v.bytes.length bc, .slice ka v.kids.length kc, .bool v.has] #[.int .u64 0, .slice none 0 0, .slice none 0 0, .bool false] 36 36
  have HV := Lib.hid hv
  have HVB := Lib.hid (hv.below hb)
  have HS := Lib.hid hS
  have HSM := Lib.hid hsm
  have HBB := Lib.hid hbb
  have HBB0 := Lib.hid (IsV.form hv.out)
  have HB := Lib.hid hb
  have Q1 := Lib.hid hq1
  have Q2 := Lib.hid hq2
  have hmod : (what : Int).tmod 6 = (4 : Int) := by rw [Int.tmod_eq_emod_of_nonneg (by omega)]; omega
  have hwr : IntKind.u8.wrap (4 : Int) = (4 : Int) := by decide
  have hbl100 : v.bytes.length ≤ 100 := by cases hsm; assumption
  have hkl100 : v.kids.length ≤ 100 := by cases hsm; assumption
  clear hv hS hsm hbb hb hq1 hq2 hks hnum
  obtain ⟨_, v0, v1, v2, v3⟩ := blk4p Q1.out
  go_enter Tryd.func17, Tryd.ntmps17
  go_upto_region 1 with (fail)
  generalize (w.alloc (.cells #[.int .u64 v.num, .slice ba v.bytes.length bc, .slice ka v.kids.length kc, .bool v.has] 36)).alloc (.cells #[.int .u64 0, .slice none 0 0, .slice none 0 0, .bool false] 36) = W0 at *
  rcases hgo with h1 | ⟨h1, h2⟩ | ⟨h1, h2, h3⟩
  all_goals go_upto_region 6 with (fail)
  all_goals
    obtain ⟨_, u0, u1, u2, u3⟩ := blk4p Q2.out
    have p0 := blk_frozen Q2.out 0
    have p1 := blk_frozen Q2.out 1
    have p2 := blk_frozen Q2.out 2
    have p3 := blk_frozen Q2.out 3
    have q0 := blk_frozen Q1.out 0
    have q1 := blk_frozen Q1.out 1
    have q2 := blk_frozen Q1.out 2
    have q3 := blk_frozen Q1.out 3
    go_wp2
    refine post_gen (fun Wf => Wf.heap[w.heap.size + 1]? = some (.cells #[.int .u64 v.num, .slice ba v.bytes.length bc, .slice none 0 0, .bool v.has] 36 (0, 0)) ∧ Below w.heap.size w Wf ∧ VH S Wf (.mk v.num v.bytes [] v.has) (.agg #[.int .u64 v.num, .slice ba v.bytes.length bc, .slice none 0 0, .bool v.has])) ⟨?_, ?_, ?_⟩ ?_
    · exact blk_set4 (blk_set_ne Q2.out (p := ⟨w.heap.size, 2, none⟩) (by simp) _) _ _ _ _
    · exact below_set4 (HB.out.setCell (p := ⟨w.heap.size, 2, none⟩) (Nat.le_refl _) _) (Nat.le_succ _) _ _ _ _
    · exact (fun hbel => have h := HV.out.below hbel; vh_mix h h (vh_nil S _) h) (below_set4 (HB.out.setCell (p := ⟨w.heap.size, 2, none⟩) (Nat.le_refl _) _) (Nat.le_succ _) _ _ _ _)
    · rintro Wf ⟨e1, e2, e3⟩
      obtain ⟨_, d0, d1, d2, d3⟩ := blk4p e1
      exact bodyPost_ret (v := .agg #[.int .u64 v.num, .slice ba v.bytes.length bc, .slice none 0 0, .bool v.has]) (by simp [results, Tryd.results17, go_sem, d0, d1, d2, d3]) rfl ⟨⟨_, _, rfl, e3⟩, e2⟩
end Go.Proofs.YtfghaopimeoijaaDoor
