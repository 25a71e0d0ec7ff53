/-
  The law's turn, where it turns the value itself: way 5. Conditions: those that each theorem names.
-/
import Derived.Test.YtfghaopimeoijaaDoorPkT39
namespace Go.Proofs.YtfghaopimeoijaaDoor
open Go.ChangeShapes Go.WideShapes Go.ChangeAt Go.RowKit Go.Shelf

set_option maxRecDepth 100000 in
set_option maxHeartbeats 8000000 in
theorem vturn_5 (d what : Nat) (n : Nat) (hw : what % 6 = 5) (hwb : what ≤ 255) (_hn : (n : Int) ≤ 18446744073709551615) (_hd : d ≤ 1000) (S : Nat → Bool) (w : World) (v : PV) (val : Value) (a : Option Addr) (ys : List Int) (cap : Nat) (hv : VH S w v val) (hS : ∀ k, w.heap.size ≤ k → S k = false) (hsm : SmallV v) (_hyl : (ys.length : Int) ≤ 9223372036854775807) (hgo : decide (0 < ys.length) = false ∨ (decide (0 < ys.length) = true ∧ decide (0 < v.kids.length) = false) ∨ (decide (0 < ys.length) = true ∧ decide (0 < v.kids.length) = true ∧ decide (0 < d) = false)) :
    Calls Tryd.prog 17 #[val, .slice a ys.length cap, .int .u8 what, .int .u64 n, .int .i64 d] w (TurnPost S w) := by
  obtain ⟨ba, ka, bc, kc, rfl, hnum, hbb, hbl, hbm, hkl, hkm, hks⟩ := IsV.form hv
  obtain ⟨hb, hq1, hq2⟩ := two_start w #[.int .u64 v.num, .slice ba v.bytes.length bc, .slice ka v.kids.length kc, .bool v.has] #[.int .u64 0, .slice none 0 0, .slice none 0 0, .bool false] 36 36
  have HV := Lib.hid hv
  have HVB := Lib.hid (hv.below hb)
  have HS := Lib.hid hS
  have HSM := Lib.hid hsm
  have HBB := Lib.hid hbb
  have HBB0 := Lib.hid (IsV.form hv.out)
  have HB := Lib.hid hb
  have Q1 := Lib.hid hq1
  have Q2 := Lib.hid hq2
  have hmod : (what : Int).tmod 6 = (5 : Int) := by rw [Int.tmod_eq_emod_of_nonneg (by omega)]; omega
  have hwr : IntKind.u8.wrap (5 : Int) = (5 : Int) := by decide
  have hbl100 : v.bytes.length ≤ 100 := by cases hsm; assumption
  have hkl100 : v.kids.length ≤ 100 := by cases hsm; assumption
  clear hv hS hsm hbb hb hq1 hq2 hks hnum
  obtain ⟨_, v0, v1, v2, v3⟩ := blk4p Q1.out
  go_enter Tryd.func17, Tryd.ntmps17
  go_upto_region 1 with (fail)
  generalize (w.alloc (.cells #[.int .u64 v.num, .slice ba v.bytes.length bc, .slice ka v.kids.length kc, .bool v.has] 36)).alloc (.cells #[.int .u64 0, .slice none 0 0, .slice none 0 0, .bool false] 36) = W0 at *
  rcases hgo with h1 | ⟨h1, h2⟩ | ⟨h1, h2, h3⟩
  all_goals go_upto_region 6 with (fail)
  all_goals
    obtain ⟨_, u0, u1, u2, u3⟩ := blk4p Q2.out
    have p0 := blk_frozen Q2.out 0
    have p1 := blk_frozen Q2.out 1
    have p2 := blk_frozen Q2.out 2
    have p3 := blk_frozen Q2.out 3
    have q0 := blk_frozen Q1.out 0
    have q1 := blk_frozen Q1.out 1
    have q2 := blk_frozen Q1.out 2
    have q3 := blk_frozen Q1.out 3
    obtain ⟨m, hm, hm2⟩ : ∃ m : Nat, IntKind.u8.wrap (n : Int) = m ∧ m ≤ 255 := ⟨n % 256, by rw [u8_mod]; omega, by omega⟩
    have hz0 := blk_lt Q1.out
    have hz1 := blk_lt Q2.out
    have hz2 : w.heap.size ≠ W0.heap.size := by omega
    have hz3 : w.heap.size + 1 ≠ W0.heap.size := by omega
    go_upto_region 18 with (fail)
    have c1 := blk_alloc (o' := .cells #[.int .u8 195, .int .u8 m] 5) ((blk_set Q1.out 1 (.slice (some ⟨W0.heap.size, 0, none⟩) 2 2)).trans rfl)
    have c2 := blk_alloc (blk_set_ne Q2.out (p := ⟨w.heap.size, 1, none⟩) (by simp) (.slice (some ⟨W0.heap.size, 0, none⟩) 2 2)) (.cells #[.int .u8 195, .int .u8 m] 5)
    have c3 := heap_alloc_new (W0.setCell ⟨w.heap.size, 1, none⟩ (.slice (some ⟨W0.heap.size, 0, none⟩) 2 2)) (.cells #[.int .u8 195, .int .u8 m] 5)
    rw [show (W0.setCell ⟨w.heap.size, 1, none⟩ (.slice (some ⟨W0.heap.size, 0, none⟩) 2 2)).heap.size = W0.heap.size by simp [World.setCell]] at c3
    have c4 := (HB.out.setCell (p := ⟨w.heap.size, 1, none⟩) (Nat.le_refl _) (.slice (some ⟨W0.heap.size, 0, none⟩) 2 2)).alloc (by simp [World.setCell]; omega) (.cells #[.int .u8 195, .int .u8 m] 5)
    have C2 := Lib.hid c2
    have C3 := Lib.hid (own_blk (base := w.heap.size + 2) (n := 2) (size := 1) c3 (by omega) (by decide) rfl)
    have C4 := Lib.hid c4
    clear v0 v1 v2 v3 u0 u1 u2 u3 p0 p1 p2 p3 q0 q1 q2 q3 c3 c4 hz0 hz1 hz2 hz3 hm
    generalize (W0.setCell ⟨w.heap.size, 1, none⟩ (.slice (some ⟨W0.heap.size, 0, none⟩) 2 2)).alloc (.cells #[.int .u8 195, .int .u8 m] 5) = W1 at *
    generalize W0.heap.size = X0 at *
    obtain ⟨_, v0, v1, v2, v3⟩ := blk4p c1
    obtain ⟨_, u0, u1, u2, u3⟩ := blk4p c2
    have p0 := blk_frozen c2 0
    have p1 := blk_frozen c2 1
    have p2 := blk_frozen c2 2
    have p3 := blk_frozen c2 3
    clear c1 c2
    go_wp2
    refine post_gen (fun Wf => Wf.heap[w.heap.size + 1]? = some (.cells #[.int .u64 v.num, .slice (some ⟨X0, 0, none⟩) 2 2, .slice ka v.kids.length kc, .bool v.has] 36 (0, 0)) ∧ Below w.heap.size w Wf ∧ VH S Wf (.mk v.num [195, (m : Int)] v.kids v.has) (.agg #[.int .u64 v.num, .slice (some ⟨X0, 0, none⟩) 2 2, .slice ka v.kids.length kc, .bool v.has])) ⟨?_, ?_, ?_⟩ ?_
    · exact blk_set4 C2.out _ _ _ _
    · exact below_set4 C4.out (Nat.le_succ _) _ _ _ _
    · exact turn_bytes HV.out C3.out (fun z hz => by simp at hz; omega) (fun k hk => HS.out k (by omega)) (by omega) _ _ _ _ (below_set4 C4.out (Nat.le_succ _) _ _ _ _)
    · rintro Wf ⟨e1, e2, e3⟩
      obtain ⟨_, d0, d1, d2, d3⟩ := blk4p e1
      exact bodyPost_ret (v := .agg #[.int .u64 v.num, .slice (some ⟨X0, 0, none⟩) 2 2, .slice ka v.kids.length kc, .bool v.has]) (by simp [results, Tryd.results17, go_sem, d0, d1, d2, d3]) rfl ⟨⟨_, _, rfl, e3⟩, e2⟩
end Go.Proofs.YtfghaopimeoijaaDoor
