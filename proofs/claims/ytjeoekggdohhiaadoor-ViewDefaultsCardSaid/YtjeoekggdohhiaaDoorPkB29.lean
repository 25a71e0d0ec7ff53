/-
  A plan's numbers, and those that are made of them, are numbers of their sizes; labels are short. No run of the program stands in this text. Conditions: those that each theorem names.
-/
import Derived.Test.YtjeoekggdohhiaaDoorPkB28
namespace Go.Proofs.YtjeoekggdohhiaaDoor
open Go.ChangeShapes Go.WideShapes Go.ChangeAt Go.RowKit Go.Shelf

set_option maxRecDepth 100000 in
set_option maxHeartbeats 4000000 in
theorem made_any (p : Plan) (w : World) {a0 a1 : Option Addr} {n0 e0 n1 c1 : Nat} (hp : IsPlan w p a0 n0 e0 a1 n1 c1) :
    Calls Tryd.prog 9 #[.agg #[.slice a0 n0 e0, .slice a1 n1 c1, .int .u8 p.root, .bool p.tree]] w (MadePost p w) := by
  obtain ⟨hb, hz1, hz2⟩ := two_start w #[.slice a0 n0 e0, .slice a1 n1 c1, .int .u8 p.root, .bool p.tree] #[.slice none 0 0, .slice none 0 0, .int .i64 0] 25 30
  have HP := Lib.hid hp
  have HB := Lib.hid hb
  have HZ1 := Lib.hid hz1
  have HZ2 := Lib.hid hz2
  have hrt := hp.rt
  have hcaps : n0 ≤ 9223372036854775807 ∧ n1 ≤ 9223372036854775807 := by
    have h1 := hp.e_cap
    have h2 := hp.s_cap
    unfold maxLen at h1 h2
    omega
  obtain ⟨hn0, hn1⟩ := hcaps
  have y0 := (blk_cell hz1 0).trans rfl
  have y1 := (blk_cell hz1 1).trans rfl
  have y2 := (blk_cell hz1 2).trans rfl
  obtain ⟨_, _, _, _, s0, s1, s2⟩ := blk3 hz2
  clear hp hb hz1 hz2
  by_cases hg : 1 ≤ n1 ∧ n1 ≤ 16 ∧ n0 ≤ 8
  · obtain ⟨g1, g2, g3⟩ := hg
    have hmod : (p.root : Int) % (n1 : Int) = ((p.root % n1 : Nat) : Int) := (Int.natCast_emod _ _).symm
    have hz0 : (n1 : Int) ≠ 0 := by omega
    have HRT : Hid (p.root % n1 = p.root % p.structs.length) := Lib.hid (by rw [HP.out.s_len])
    generalize p.root % n1 = rt at *
    have hsz : ((w.alloc (.cells #[.slice a0 n0 e0, .slice a1 n1 c1, .int .u8 p.root, .bool p.tree] 25)).alloc (.cells #[.slice none 0 0, .slice none 0 0, .int .i64 0] 30)).heap.size = w.heap.size + 2 := by simp
    have HSZ := Lib.hid hsz
    clear hsz
    go_enter Tryd.func9, Tryd.ntmps9
    go_upto_region 4 with (fail)
    generalize (w.alloc (.cells #[.slice a0 n0 e0, .slice a1 n1 c1, .int .u8 p.root, .bool p.tree] 25)).alloc (.cells #[.slice none 0 0, .slice none 0 0, .int .i64 0] 30) = W0 at *
    have hba : Below W0.heap.size W0 (W0.alloc (.cells #[.slice none 0 0, .slice none 0 0, .int .i64 rt] 30)) := (Below.refl _ _).alloc (Nat.le_refl _) _
    have hba2 := hba
    rw [HSZ.out] at hba2
    have HK1 : Hid (MKeeps w w.heap.size (.slice a0 n0 e0) (.slice a1 n1 c1) p.root p.tree (W0.alloc (.cells #[.slice none 0 0, .slice none 0 0, .int .i64 rt] 30))) := Lib.hid ⟨rfl, blk_below HZ1.out hba (blk_lt HZ1.out), blk_below HZ2.out hba (blk_lt HZ2.out), HB.out.trans (hba.mono HB.out.size)⟩
    have hnew := heap_alloc_new W0 (.cells #[.slice none 0 0, .slice none 0 0, .int .i64 rt] 30)
    rw [HSZ.out] at hnew
    have HS1 : Hid (SchAt (w.heap.size + 2) (W0.alloc (.cells #[.slice none 0 0, .slice none 0 0, .int .i64 rt] 30)) [] [] (.slice none 0 0) (.slice none 0 0) rt) := Lib.hid ⟨hnew, World.ownsRow_nil _ _ _ _, World.ownsRow_nil _ _ _ _, (fun q hq => by cases hq), (fun q hq => by cases hq)⟩
    clear hba hba2 hnew y0 y1 y2 s0 s1 s2
    generalize W0.alloc (.cells #[.slice none 0 0, .slice none 0 0, .int .i64 rt] 30) = W1 at *
    go_wp2_with fail
    refine enums_wp HP.out g3 ⟨rfl, rfl, rfl, rfl, rfl, rfl, rfl⟩ HK1.out HS1.out ?_
    intro c2 w2 es ev hf hk hs hes
    have HK2 := Lib.hid hk
    have HS2 := Lib.hid hs
    have HES := Lib.hid hes
    obtain ⟨u, rfl⟩ := fra_lit hf
    clear hf hk hs hes
    simp only [Exit.inBlock, Exit.then]
    apply_assumption
    go_wp2_with fail
    refine recs_wp HP.out g3 g2 ⟨rfl, rfl, rfl, rfl, rfl, rfl, rfl⟩ HK2.out HS2.out HES.out ?_ ?_
    · intro c3 w3 ss sv hf hk hs hss hlen
      have HK3 := Lib.hid hk
      have HS3 := Lib.hid hs
      have HOK : Hid (planOk p) := Lib.hid (lens_ok (by rw [HP.out.s_len]; exact g1) (by rw [HP.out.s_len]; exact g2) (by rw [HP.out.e_len]; exact g3) (by rw [HP.out.s_len]; exact hlen))
      have HSS := Lib.hid hss
      obtain ⟨_, o0, o1, o2, _⟩ := blk3 hs.blk
      obtain ⟨_, r0, r1, r2, q0, q1, q2⟩ := blk3 hk.res
      obtain ⟨u3, rfl⟩ := frc_lit hf
      obtain ⟨sva, svc, eva, evc, rfl, rfl⟩ := hs.rows.forms
      clear hf hk hs hss hlen
      simp only [Exit.inBlock, Exit.then]
      apply_assumption
      go_wp2
      refine post_gen (fun Wf => Wf.heap[w.heap.size + 1]? = some (.cells #[.slice sva ss.length svc, .slice eva es.length evc, .int .i64 rt] 30 (0, 0)) ∧ Below w.heap.size w Wf ∧ SchRows w.heap.size Wf ss es (.slice sva ss.length svc) (.slice eva es.length evc)) ⟨?_, ?_, ?_⟩ ?_
      · exact blk_set3 HK3.out.res _ _ _
      · exact ((HK3.out.bel.setCell (p := ⟨w.heap.size + 1, 0, none⟩) (Nat.le_succ _) _).setCell (p := ⟨w.heap.size + 1, 1, none⟩) (Nat.le_succ _) _).setCell (p := ⟨w.heap.size + 1, 2, none⟩) (Nat.le_succ _) _
      · have hr := HS3.out.rows
        have key : ∀ {e : TypeId} {s : Nat} {v : Value} {n : Nat} {xs : List Value}, w3.ownsRow (w.heap.size + 2 + 1) e s v n xs → World.ownsRow (((w3.setCell ⟨w.heap.size + 1, 0, none⟩ (.slice sva ss.length svc)).setCell ⟨w.heap.size + 1, 1, none⟩ (.slice eva es.length evc)).setCell ⟨w.heap.size + 1, 2, none⟩ (.int .i64 rt)) w.heap.size e s v n xs := fun ho =>
          ownsRow_base (ownsRow_setCell_below (ownsRow_setCell_below (ownsRow_setCell_below ho (by show w.heap.size + 1 < _; omega) _) (by show w.heap.size + 1 < _; omega) _) (by show w.heap.size + 1 < _; omega) _) (by omega)
        exact ⟨key hr.structs, key hr.enums, fun q hq => key (hr.fields q hq), fun q hq => key (hr.names q hq)⟩
      · rintro Wf ⟨e1, e2, e3⟩
        obtain ⟨_, d0, d1, d2, _⟩ := blk3 e1
        refine bodyPost_ret (v := .tuple #[.agg #[.slice sva ss.length svc, .slice eva es.length evc, .int .i64 rt], .bool true]) (by simp [results, Tryd.results9, go_sem, d0, d1, d2]) rfl ⟨e2, .inl ⟨HOK.out, ss, es, _, _, ?_, ?_, ?_, e3⟩⟩
        · rw [HRT.out]
        · rw [HP.out.s_len]; exact HSS.out
        · rw [HP.out.e_len]; exact HES.out
    · intro c3 w3 j hf hres hbel hj hbad
      have HNO : Hid (¬ planOk p) := Lib.hid (lens_bad (by rw [HP.out.s_len]; exact hj) hbad)
      have HRE := Lib.hid hres
      have HBE := Lib.hid hbel
      obtain ⟨u3, rfl⟩ := frc_lit hf
      clear hf hres hbel hj hbad
      simp only [Exit.inBlock, Exit.then]
      refine post_gen (fun Wf => Wf.heap[w.heap.size + 1]? = some (.cells #[.slice none 0 0, .slice none 0 0, .int .i64 0] 30 (0, 0)) ∧ Below w.heap.size w Wf) ⟨HRE.out, HBE.out⟩ ?_
      rintro Wf ⟨e1, e2⟩
      obtain ⟨_, d0, d1, d2, _⟩ := blk3 e1
      exact bodyPost_ret (v := .tuple #[.agg #[.slice none 0 0, .slice none 0 0, .int .i64 0], .bool false]) (by simp [results, Tryd.results9, go_sem, d0, d1, d2]) rfl (made_no HNO.out e2)
  · exact made_bad p w HP.out hg
end Go.Proofs.YtjeoekggdohhiaaDoor
namespace Go.Proofs.YtjeoekggdohhiaaDoor
open Go.ChangeShapes Go.WideShapes Go.ChangeAt Go.RowKit Go.Shelf

def PlanNums (p : Plan) : Prop := ∀ i, i < p.structs.length → ∀ k, k < (p.structs.getD i []).length → (((p.structs.getD i []).getD k noPF).dflt : Int) ≤ 18446744073709551615
theorem plan_nums {w : World} {p : Plan} {a0 a1 : Option Addr} {n0 e0 n1 c1 : Nat} (hp : IsPlan w p a0 n0 e0 a1 n1 c1) : PlanNums p := by
  intro i hi k hk
  obtain ⟨_, _, _, n, _, _, _, _, hn, _, _, hfl⟩ := hp.s_at i (by rw [← hp.s_len]; exact hi)
  obtain ⟨_, _, f, hf, _, _, _, _, _, _, _, _, _, _, _, h⟩ := hfl k (by rw [← hn]; exact hk)
  rw [hf]
  exact h
theorem sgn_max (m n : Int) (h1 : 0 < m) (h2 : m ≤ 2147483648) : sgn m n ≤ 18446744073709551615 := by
  unfold sgn
  have := Int.emod_lt_of_pos n (show 0 < 2 * m by omega)
  split <;> omega
theorem sgnOf_max (n s : Int) (h : n ≤ 18446744073709551615) : sgnOf n s ≤ 18446744073709551615 := by
  unfold sgnOf
  split
  · exact sgn_max _ _ (by decide) (by decide)
  · split
    · exact sgn_max _ _ (by decide) (by decide)
    · split
      · exact sgn_max _ _ (by decide) (by decide)
      · exact h
theorem numP_max (cnt kind n : Nat) (hn : (n : Int) ≤ 18446744073709551615) : (numP cnt kind n : Int) ≤ 18446744073709551615 := by
  unfold numP
  split
  · omega
  · split
    · have := Nat.mod_le n cnt
      omega
    · have hm : ((if kSize kind < 8 then n % 2 ^ (8 * (kSize kind).toNat) else n : Nat) : Int) ≤ 18446744073709551615 := by
        split
        · have := Nat.mod_le n (2 ^ (8 * (kSize kind).toNat))
          omega
        · exact hn
      simp only
      generalize (if kSize kind < 8 then n % 2 ^ (8 * (kSize kind).toNat) else n : Nat) = m at *
      split
      · have := sgnOf_max m (kSize kind) hm
        omega
      · exact hm
theorem refP_struct {p : Plan} {f : PF} {i : Nat} (hi : i < p.structs.length) (h : kindP p i f = 13) : refP p i f < p.structs.length := by
  by_cases h10 : f.kind % 13 + 1 = 10
  · by_cases h0 : p.enums.length = 0
    · have := (kp_a (i := i) h10 h0).1
      omega
    · have := (kp_b (i := i) h10 h0).1
      omega
  · by_cases h13 : f.kind % 13 + 1 = 13
    · cases ht : p.tree with
      | true =>
        by_cases hl : i + 1 = p.structs.length
        · have := (kp_c h13 ht hl).1
          omega
        · rw [(kp_d h13 ht hl).2]
          have := Nat.mod_lt f.ref (show 0 < p.structs.length - i - 1 by omega)
          omega
      | false =>
        rw [(kp_e (i := i) h13 ht).2]
        exact Nat.mod_lt _ (by omega)
    · have := (kp_f (p := p) (i := i) h10 h13).1
      omega
end Go.Proofs.YtjeoekggdohhiaaDoor
