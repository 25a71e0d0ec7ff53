/-
  The law's turn, where it turns the value itself: way 3. Conditions: those that each theorem names.
-/
import Derived.Test.YtfghaopimeoijaaDoorPkT39
namespace Go.Proofs.YtfghaopimeoijaaDoor
open Go.ChangeShapes Go.WideShapes Go.ChangeAt Go.RowKit Go.Shelf

set_option maxRecDepth 100000 in
set_option maxHeartbeats 8000000 in
theorem vturn_3 (d what : Nat) (n : Nat) (hw : what % 6 = 3) (hwb : what ≤ 255) (hn : (n : Int) ≤ 18446744073709551615) (_hd : d ≤ 1000) (S : Nat → Bool) (w : World) (v : PV) (val : Value) (a : Option Addr) (ys : List Int) (cap : Nat) (hv : VH S w v val) (hS : ∀ k, w.heap.size ≤ k → S k = false) (hsm : SmallV v) (_hyl : (ys.length : Int) ≤ 9223372036854775807) (hgo : decide (0 < ys.length) = false ∨ (decide (0 < ys.length) = true ∧ decide (0 < v.kids.length) = false) ∨ (decide (0 < ys.length) = true ∧ decide (0 < v.kids.length) = true ∧ decide (0 < d) = false)) :
    Calls Tryd.prog 17 #[val, .slice a ys.length cap, .int .u8 what, .int .u64 n, .int .i64 d] w (TurnPost S w) := by
  obtain ⟨ba, ka, bc, kc, rfl, hnum, hbb, hbl, hbm, hkl, hkm, hks⟩ := IsV.form hv
  obtain ⟨hb, hq1, hq2⟩ := two_start w #[.int .u64 v.num, .slice ba v.bytes.length bc, .slice ka v.kids.length kc, .bool v.has] #[.int .u64 0, .slice none 0 0, .slice none 0 0, .bool false] 36 36
  have HV := Lib.hid hv
  have HVB := Lib.hid (hv.below hb)
  have HS := Lib.hid hS
  have HSM := Lib.hid hsm
  have HBB := Lib.hid hbb
  have HBB0 := Lib.hid (IsV.form hv.out)
  have HB := Lib.hid hb
  have Q1 := Lib.hid hq1
  have Q2 := Lib.hid hq2
  have hmod : (what : Int).tmod 6 = (3 : Int) := by rw [Int.tmod_eq_emod_of_nonneg (by omega)]; omega
  have hwr : IntKind.u8.wrap (3 : Int) = (3 : Int) := by decide
  have hbl100 : v.bytes.length ≤ 100 := by cases hsm; assumption
  have hkl100 : v.kids.length ≤ 100 := by cases hsm; assumption
  clear hv hS hsm hbb hb hq1 hq2 hks hnum
  obtain ⟨_, v0, v1, v2, v3⟩ := blk4p Q1.out
  go_enter Tryd.func17, Tryd.ntmps17
  go_upto_region 1 with (fail)
  generalize (w.alloc (.cells #[.int .u64 v.num, .slice ba v.bytes.length bc, .slice ka v.kids.length kc, .bool v.has] 36)).alloc (.cells #[.int .u64 0, .slice none 0 0, .slice none 0 0, .bool false] 36) = W0 at *
  rcases hgo with h1 | ⟨h1, h2⟩ | ⟨h1, h2, h3⟩
  all_goals go_upto_region 6 with (fail)
  all_goals
    obtain ⟨_, u0, u1, u2, u3⟩ := blk4p Q2.out
    have p0 := blk_frozen Q2.out 0
    have p1 := blk_frozen Q2.out 1
    have p2 := blk_frozen Q2.out 2
    have p3 := blk_frozen Q2.out 3
    have q0 := blk_frozen Q1.out 0
    have q1 := blk_frozen Q1.out 1
    have q2 := blk_frozen Q1.out 2
    have q3 := blk_frozen Q1.out 3
    obtain ⟨m, hm, hm2⟩ : ∃ m : Nat, (n : Int).tmod 3 = m ∧ m ≤ 2 := ⟨n % 3, by rw [Int.tmod_eq_emod_of_nonneg (by omega)]; omega, by omega⟩
    have hz1 := blk_lt Q2.out
    obtain ⟨ka', kc', l, hkv, _, hlv, hki, hcl⟩ := kids_kv HV.out
    obtain ⟨rfl, rfl⟩ := slice_inj hkv
    have hll : l.length = v.kids.length := by rw [← hlv, List.length_map]
    have HLV := Lib.hid hlv
    have HLL := Lib.hid hll
    have HKI := Lib.hid hki
    have HOWN0 := Lib.hid (own_blk (base := w.heap.size + 2) (n := 0) (size := 4) (heap_alloc_new W0 (.cells #[] 36)) (by omega) (by decide) rfl)
    have HA0 := Lib.hid (((Below.refl W0.heap.size W0).alloc (Nat.le_refl _) (.cells #[] 36)).mono (show w.heap.size + 2 ≤ W0.heap.size by omega))
    have HWA := Lib.hid (HB.out.alloc HB.out.size (.cells #[] 36))
    have HSRC := Lib.hid (src_kids (kc := kc) hll hki hcl (fun p x hp => (HWA.out.cell (World.block_lt_of_cell? _ _ hp)).trans hp))
    obtain ⟨i0, hi0, hzz0, hzz1, hzz2⟩ := info_parts val_info4
    have I1 := Lib.hid hi0
    have I2 := Lib.hid hzz0
    have I3 := Lib.hid hzz1
    have I4 := Lib.hid hzz2
    clear hi0 hzz0 hzz1 hzz2 u0 u1 u2 u3 p0 p1 p2 p3 q0 q1 q2 q3 hkv hlv hki hcl hll
    go_upto_region 18 with (first
      | (at_builtin; refine wpList_append_first _ rfl (.tmp 84) (.tmp 86) 34 34 rfl (w.heap.size + 2) 36 i0 _ 4 Tryd.underlying34 I1.out I2.out I3.out rfl _ rfl HOWN0.out _ v.kids.length (kvsCells l) rfl HSRC.out (by unfold maxLen; omega) (by rw [I4.out]; omega) (by simp; omega) ?_; intro v4 W4 hown4 hg4 hat4; clear hat4; obtain ⟨a4, m4, rfl⟩ := ownsRow_form hown4; have HB4 := Lib.hid (HA0.out.grown hg4 (by simp; omega) (fun k hk => (ownsRow_lt HOWN0.out k hk).1)); have HO4 := Lib.hid hown4; have HBN := Lib.hid (heap_alloc_new W4 (.cells #[.int .u64 m, .slice none 0 0, .slice none 0 0, .bool false] 36)); have HBA := Lib.hid ((Below.refl W4.heap.size W4).alloc (Nat.le_refl _) (.cells #[.int .u64 m, .slice none 0 0, .slice none 0 0, .bool false] 36)); have hz4 := HB4.out.size; clear hown4 hg4)
      | (at_builtin; refine wpList_append_own _ rfl (.tmp 87) (.tmp 91) 34 rfl (w.heap.size + 2) 36 i0 _ 4 64 Tryd.underlying34 I1.out I2.out I3.out I4.out rfl (by decide) _ v.kids.length (kvsCells l) rfl (row_keep HBA.out HO4.out) _ 1 1 [.int .u64 m, .slice none 0 0, .slice none 0 0, .bool false] rfl rfl (World.news_of_block HBN.out) (by intro u hu; simp at hu; rcases hu with rfl | rfl | rfl <;> rfl) (by unfold maxLen; omega) (by omega) (by simp; omega) ?_; intro v8 W8 hown8 hg8 hx; clear hx; obtain ⟨a8, m8, rfl⟩ := ownsRow_form hown8; have hB8 := (HB4.out.trans (HBA.out.mono (by omega))).grown hg8 (by simp; omega) (fun k hk => (ownsRow_lt HO4.out k hk).1); obtain ⟨_, d0, d1, d2, d3⟩ := blk4p (blk_below Q1.out hB8 (by omega)); have e1 := blk_frozen (blk_below Q1.out hB8 (by omega)) 2; have HB8 := Lib.hid hB8; have HO8 := Lib.hid hown8; clear hown8 hg8 hB8))
    have c1 := (blk_set (blk_below Q1.out HB8.out (by omega)) 2 (.slice a8 (v.kids.length + 1) m8)).trans rfl
    have c2 := blk_set_ne (blk_below Q2.out HB8.out (by omega)) (p := ⟨w.heap.size, 2, none⟩) (by simp) (.slice a8 (v.kids.length + 1) m8)
    have c3 := ownsRow_setCell_below (a := ⟨w.heap.size, 2, none⟩) HO8.out (by show w.heap.size < w.heap.size + 2; omega) (.slice a8 (v.kids.length + 1) m8)
    have c4 := (HB.out.trans (HB8.out.mono (show w.heap.size ≤ w.heap.size + 2 by omega))).setCell (p := ⟨w.heap.size, 2, none⟩) (Nat.le_refl _) (.slice a8 (v.kids.length + 1) m8)
    have C2 := Lib.hid c2
    have C3 := Lib.hid c3
    have C4 := Lib.hid c4
    clear v0 v1 v2 v3 c3 c4 d0 d1 d2 d3 e1
    generalize W8.setCell ⟨w.heap.size, 2, none⟩ (.slice a8 (v.kids.length + 1) m8) = W1 at *
    obtain ⟨_, v0, v1, v2, v3⟩ := blk4p c1
    obtain ⟨_, u0, u1, u2, u3⟩ := blk4p c2
    have p0 := blk_frozen c2 0
    have p1 := blk_frozen c2 1
    have p2 := blk_frozen c2 2
    have p3 := blk_frozen c2 3
    clear c1 c2
    go_wp2
    refine post_gen (fun Wf => Wf.heap[w.heap.size + 1]? = some (.cells #[.int .u64 v.num, .slice ba v.bytes.length bc, .slice a8 (v.kids.length + 1) m8, .bool v.has] 36 (0, 0)) ∧ Below w.heap.size w Wf ∧ VH S Wf (.mk v.num v.bytes ((l ++ [(⟨numV m, .int .u64 m, .slice none 0 0, .slice none 0 0, .bool false⟩ : KV)]).map KV.v) v.has) (.agg #[.int .u64 v.num, .slice ba v.bytes.length bc, .slice a8 (v.kids.length + 1) m8, .bool v.has])) ⟨?_, ?_, ?_⟩ ?_
    · exact blk_set4 C2.out _ _ _ _
    · exact below_set4 C4.out (Nat.le_succ _) _ _ _ _
    · exact turn_kids (S' := oldS S w.heap.size W1.heap.size) HV.out (by rw [kvsCells_snoc]; exact C3.out) (fun q hq => by (rcases List.mem_append.1 hq with h | h; exact (HKI.out.old C4.out W1.heap.size) q h; rw [List.mem_singleton.1 h]; exact vh_num _ _ m (by omega))) (fun k hk => (oldS_no.1 hk).1) (fun k hk => HS.out k (by omega)) (by omega) _ _ _ _ (by unfold oldS; rw [decide_eq_true ⟨by omega, blk_lt C2.out⟩, Bool.or_true]) (below_set4 C4.out (Nat.le_succ _) _ _ _ _)
    · rintro Wf ⟨e1, e2, e3⟩
      obtain ⟨_, d0, d1, d2, d3⟩ := blk4p e1
      exact bodyPost_ret (v := .agg #[.int .u64 v.num, .slice ba v.bytes.length bc, .slice a8 (v.kids.length + 1) m8, .bool v.has]) (by simp [results, Tryd.results17, go_sem, d0, d1, d2, d3]) rfl ⟨⟨_, _, rfl, e3⟩, e2⟩
end Go.Proofs.YtfghaopimeoijaaDoor
