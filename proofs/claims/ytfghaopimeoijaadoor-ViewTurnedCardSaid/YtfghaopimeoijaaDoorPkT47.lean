/-
  The law's turn, where it turns the value itself: way 1. Conditions: those that each theorem names.
-/
import Derived.Test.YtfghaopimeoijaaDoorPkT39
namespace Go.Proofs.YtfghaopimeoijaaDoor
open Go.ChangeShapes Go.WideShapes Go.ChangeAt Go.RowKit Go.Shelf

set_option maxRecDepth 100000 in
set_option maxHeartbeats 8000000 in
theorem vturn_1 (d what : Nat) (n : Nat) (hw : what % 6 = 1) (hwb : what ≤ 255) (_hn : (n : Int) ≤ 18446744073709551615) (_hd : d ≤ 1000) (S : Nat → Bool) (w : World) (v : PV) (val : Value) (a : Option Addr) (ys : List Int) (cap : Nat) (hv : VH S w v val) (hS : ∀ k, w.heap.size ≤ k → S k = false) (hsm : SmallV v) (_hyl : (ys.length : Int) ≤ 9223372036854775807) (hgo : decide (0 < ys.length) = false ∨ (decide (0 < ys.length) = true ∧ decide (0 < v.kids.length) = false) ∨ (decide (0 < ys.length) = true ∧ decide (0 < v.kids.length) = true ∧ decide (0 < d) = false)) :
    Calls Tryd.prog 17 #[val, .slice a ys.length cap, .int .u8 what, .int .u64 n, .int .i64 d] w (TurnPost S w) := by
  obtain ⟨ba, ka, bc, kc, rfl, hnum, hbb, hbl, hbm, hkl, hkm, hks⟩ := IsV.form hv
  obtain ⟨hb, hq1, hq2⟩ := two_start w #[.int .u64 v.num, .slice ba v.bytes.length bc, .slice ka v.kids.length kc, .bool v.has] #[.int .u64 0, .slice none 0 0, .slice none 0 0, .bool false] 36 36
  have HV := Lib.hid hv
  have HVB := Lib.hid (hv.below hb)
  have HS := Lib.hid hS
  have HSM := Lib.hid hsm
  have HBB := Lib.hid hbb
  have HBB0 := Lib.hid (IsV.form hv.out)
  have HB := Lib.hid hb
  have Q1 := Lib.hid hq1
  have Q2 := Lib.hid hq2
  have hmod : (what : Int).tmod 6 = (1 : Int) := by rw [Int.tmod_eq_emod_of_nonneg (by omega)]; omega
  have hwr : IntKind.u8.wrap (1 : Int) = (1 : Int) := by decide
  have hbl100 : v.bytes.length ≤ 100 := by cases hsm; assumption
  have hkl100 : v.kids.length ≤ 100 := by cases hsm; assumption
  clear hv hS hsm hbb hb hq1 hq2 hks hnum
  obtain ⟨_, v0, v1, v2, v3⟩ := blk4p Q1.out
  go_enter Tryd.func17, Tryd.ntmps17
  go_upto_region 1 with (fail)
  generalize (w.alloc (.cells #[.int .u64 v.num, .slice ba v.bytes.length bc, .slice ka v.kids.length kc, .bool v.has] 36)).alloc (.cells #[.int .u64 0, .slice none 0 0, .slice none 0 0, .bool false] 36) = W0 at *
  rcases hgo with h1 | ⟨h1, h2⟩ | ⟨h1, h2, h3⟩
  all_goals go_upto_region 6 with (fail)
  all_goals
    obtain ⟨_, u0, u1, u2, u3⟩ := blk4p Q2.out
    have p0 := blk_frozen Q2.out 0
    have p1 := blk_frozen Q2.out 1
    have p2 := blk_frozen Q2.out 2
    have p3 := blk_frozen Q2.out 3
    have q0 := blk_frozen Q1.out 0
    have q1 := blk_frozen Q1.out 1
    have q2 := blk_frozen Q1.out 2
    have q3 := blk_frozen Q1.out 3
    obtain ⟨m, hm, hm2⟩ : ∃ m : Nat, IntKind.u8.wrap (n : Int) = m ∧ m ≤ 255 := ⟨n % 256, by rw [u8_mod]; omega, by omega⟩
    have hz1 := blk_lt Q2.out
    have HOWN0 := Lib.hid (own_blk (base := w.heap.size + 2) (n := 0) (size := 1) (heap_alloc_new W0 (.cells #[] 5)) (by omega) (by decide) rfl)
    have HA0 := Lib.hid (((Below.refl W0.heap.size W0).alloc (Nat.le_refl _) (.cells #[] 5)).mono (show w.heap.size + 2 ≤ W0.heap.size by omega))
    have HWA := Lib.hid (HB.out.alloc HB.out.size (.cells #[] 5))
    have HSRC := Lib.hid (src_bytes HBB.out (fun p x hp => (HWA.out.cell (World.block_lt_of_cell? _ _ (hide_some hp).2)).trans (hide_some hp).2) bc)
    obtain ⟨i0, hi0, hzz0, hzz1, hzz2⟩ := info_parts u8_info4
    have I1 := Lib.hid hi0
    have I2 := Lib.hid hzz0
    have I3 := Lib.hid hzz1
    have I4 := Lib.hid hzz2
    clear hi0 hzz0 hzz1 hzz2 u0 u1 u2 u3 p0 p1 p2 p3 q0 q1 q2 q3
    go_upto_region 18 with (first
      | (at_builtin; refine wpList_append_first _ rfl (.tmp 67) (.tmp 69) 22 22 rfl (w.heap.size + 2) 5 i0 _ 1 Tryd.underlying22 I1.out I2.out I3.out rfl _ rfl HOWN0.out _ v.bytes.length (u8Cells v.bytes) rfl HSRC.out (by unfold maxLen; omega) (by rw [I4.out]; omega) (by simp; omega) ?_; intro v4 W4 hown4 hg4 hat4; clear hat4; obtain ⟨a4, m4, rfl⟩ := ownsRow_form hown4; have HB4 := Lib.hid (HA0.out.grown hg4 (by simp; omega) (fun k hk => (ownsRow_lt HOWN0.out k hk).1)); have HO4 := Lib.hid hown4; have HBN := Lib.hid (heap_alloc_new W4 (.cells #[.int .u8 m] 5)); have HBA := Lib.hid ((Below.refl W4.heap.size W4).alloc (Nat.le_refl _) (.cells #[.int .u8 m] 5)); have hz4 := HB4.out.size; clear hown4 hg4)
      | (at_builtin; refine wpList_append_own _ rfl (.tmp 70) (.tmp 73) 22 rfl (w.heap.size + 2) 5 i0 _ 1 1 Tryd.underlying22 I1.out I2.out I3.out I4.out rfl (by decide) _ v.bytes.length (u8Cells v.bytes) rfl (row_keep HBA.out HO4.out) _ 1 1 [.int .u8 m] rfl rfl (World.news_of_block HBN.out) (by intro u hu; rw [List.mem_singleton.1 hu]; rfl) (by unfold maxLen; omega) (by omega) (by simp; omega) ?_; intro v8 W8 hown8 hg8 hx; clear hx; obtain ⟨a8, m8, rfl⟩ := ownsRow_form hown8; have hB8 := (HB4.out.trans (HBA.out.mono (by omega))).grown hg8 (by simp; omega) (fun k hk => (ownsRow_lt HO4.out k hk).1); obtain ⟨_, d0, d1, d2, d3⟩ := blk4p (blk_below Q1.out hB8 (by omega)); have e1 := blk_frozen (blk_below Q1.out hB8 (by omega)) 1; have HB8 := Lib.hid hB8; have HO8 := Lib.hid hown8; clear hown8 hg8 hB8))
    have c1 := (blk_set (blk_below Q1.out HB8.out (by omega)) 1 (.slice a8 (v.bytes.length + 1) m8)).trans rfl
    have c2 := blk_set_ne (blk_below Q2.out HB8.out (by omega)) (p := ⟨w.heap.size, 1, none⟩) (by simp) (.slice a8 (v.bytes.length + 1) m8)
    have c3 := ownsRow_setCell_below (a := ⟨w.heap.size, 1, none⟩) HO8.out (by show w.heap.size < w.heap.size + 2; omega) (.slice a8 (v.bytes.length + 1) m8)
    have c4 := (HB.out.trans (HB8.out.mono (show w.heap.size ≤ w.heap.size + 2 by omega))).setCell (p := ⟨w.heap.size, 1, none⟩) (Nat.le_refl _) (.slice a8 (v.bytes.length + 1) m8)
    have C2 := Lib.hid c2
    have C3 := Lib.hid c3
    have C4 := Lib.hid c4
    clear v0 v1 v2 v3 c3 c4 d0 d1 d2 d3 e1
    generalize W8.setCell ⟨w.heap.size, 1, none⟩ (.slice a8 (v.bytes.length + 1) m8) = W1 at *
    obtain ⟨_, v0, v1, v2, v3⟩ := blk4p c1
    obtain ⟨_, u0, u1, u2, u3⟩ := blk4p c2
    have p0 := blk_frozen c2 0
    have p1 := blk_frozen c2 1
    have p2 := blk_frozen c2 2
    have p3 := blk_frozen c2 3
    clear c1 c2
    go_wp2
    refine post_gen (fun Wf => Wf.heap[w.heap.size + 1]? = some (.cells #[.int .u64 v.num, .slice a8 (v.bytes.length + 1) m8, .slice ka v.kids.length kc, .bool v.has] 36 (0, 0)) ∧ Below w.heap.size w Wf ∧ VH S Wf (.mk v.num (v.bytes ++ [(m : Int)]) v.kids v.has) (.agg #[.int .u64 v.num, .slice a8 (v.bytes.length + 1) m8, .slice ka v.kids.length kc, .bool v.has])) ⟨?_, ?_, ?_⟩ ?_
    · exact blk_set4 C2.out _ _ _ _
    · exact below_set4 C4.out (Nat.le_succ _) _ _ _ _
    · exact turn_bytes HV.out (by rw [u8Cells_snoc]; exact C3.out) (fun z hz => by (rcases List.mem_append.1 hz with h | h; exact bytes_all HBB.out z h; rw [List.mem_singleton.1 h]; omega)) (fun k hk => HS.out k (by omega)) (by omega) _ _ _ _ (below_set4 C4.out (Nat.le_succ _) _ _ _ _)
    · rintro Wf ⟨e1, e2, e3⟩
      obtain ⟨_, d0, d1, d2, d3⟩ := blk4p e1
      exact bodyPost_ret (v := .agg #[.int .u64 v.num, .slice a8 (v.bytes.length + 1) m8, .slice ka v.kids.length kc, .bool v.has]) (by simp [results, Tryd.results17, go_sem, d0, d1, d2, d3]) rfl ⟨⟨_, _, rfl, e3⟩, e2⟩
end Go.Proofs.YtfghaopimeoijaaDoor
