/-
  Views of values in memory: a kid, its number. Conditions: those that each theorem names.
-/
import Derived.Test.YtfghaopimeoijaaDoorPV
import Derived.Deep.Cut
namespace Go.Proofs.YtfghaopimeoijaaDoor
open Go.ChangeShapes Go.WideShapes Go.ChangeAt Go.RowKit Go.Shelf

/-- The kid at a place; nothing, where there is none. -/
def kidP (x : PV) (i : Int) : PV := if 0 ≤ i ∧ i < (x.kids.length : Int) then x.kids.getD i.toNat nilV else nilV
theorem kidP_no (x : PV) (i : Int) (h : ¬ (0 ≤ i ∧ i < (x.kids.length : Int))) : kidP x i = nilV := by unfold kidP; rw [if_neg h]
theorem kidP_at (x : PV) (i : Nat) (h : i < x.kids.length) : kidP x i = x.kids[i] := by
  unfold kidP
  rw [if_pos (by omega), List.getD, List.getElem?_eq_getElem (by simpa using h), Option.getD_some]
  rfl
theorem agg4_inj {a b c d a' b' c' d' : Value} (h : Value.agg #[a, b, c, d] = .agg #[a', b', c', d']) : a = a' ∧ b = b' ∧ c = c' ∧ d = d' := by
  injection h with h
  have e0 := congrArg (fun x : Array Value => x[0]?) h
  have e1 := congrArg (fun x : Array Value => x[1]?) h
  have e2 := congrArg (fun x : Array Value => x[2]?) h
  have e3 := congrArg (fun x : Array Value => x[3]?) h
  simp at e0 e1 e2 e3
  exact ⟨e0, e1, e2, e3⟩
theorem blk_set4 {w : World} {g : Nat} {x y z u : Value} {t : TypeId} (h : w.heap[g]? = some (.cells #[x, y, z, u] t (0, 0))) (x' y' z' u' : Value) :
    ((((w.setCell ⟨g, 0, none⟩ x').setCell ⟨g, 1, none⟩ y').setCell ⟨g, 2, none⟩ z').setCell ⟨g, 3, none⟩ u').heap[g]? = some (.cells #[x', y', z', u'] t (0, 0)) :=
  (blk_set (blk_set (blk_set (blk_set h 0 x') 1 y') 2 z') 3 u').trans rfl
theorem below_set4 {B : Nat} {a w : World} (h : Below B a w) {g : Nat} (hg : B ≤ g) (x y z u : Value) : Below B a ((((w.setCell ⟨g, 0, none⟩ x).setCell ⟨g, 1, none⟩ y).setCell ⟨g, 2, none⟩ z).setCell ⟨g, 3, none⟩ u) :=
  (((h.setCell (p := ⟨g, 0, none⟩) hg x).setCell (p := ⟨g, 1, none⟩) hg y).setCell (p := ⟨g, 2, none⟩) hg z).setCell (p := ⟨g, 3, none⟩) hg u
set_option maxHeartbeats 4000000 in
theorem kid_any (w : World) (x : PV) (val : Value) (hx : IsV w x val) (i : Int) :
    Calls Tryd.prog 76 #[val, .int .i64 i] w fun e w' => (∃ kv, e = .returned kv ∧ IsV w' (kidP x i) kv) ∧ Below w.heap.size w w' := by
  have HX := Lib.hid hx
  obtain ⟨ba, ka, bc, kc, rfl, hn, hby, hbl, hbm, hkl, hkm, hks⟩ := hx.form
  obtain ⟨hb, hq1, hq2⟩ := two_start w #[.int .u64 x.num, .slice ba x.bytes.length bc, .slice ka x.kids.length kc, .bool x.has] #[.int .u64 0, .slice none 0 0, .slice none 0 0, .bool false] 76 76
  have HB := Lib.hid hb
  have HQ2 := Lib.hid hq2
  obtain ⟨_, s0, s1, s2, s3⟩ := blk4p hq1
  obtain ⟨_, z0, z1, z2, z3⟩ := blk4p hq2
  have z4 := blk_frozen hq2 0
  have z5 := blk_frozen hq2 1
  have z6 := blk_frozen hq2 2
  have z7 := blk_frozen hq2 3
  clear hq1 hq2 hby hn hbl hbm hx
  by_cases h0 : i < 0
  · have HK := Lib.hid (kidP_no x i (by omega))
    clear hks hb
    go_enter Tryd.func76, Tryd.ntmps76
    go_upto_region 1 with (fail)
    generalize (w.alloc (.cells #[.int .u64 x.num, .slice ba x.bytes.length bc, .slice ka x.kids.length kc, .bool x.has] 76)).alloc (.cells #[.int .u64 0, .slice none 0 0, .slice none 0 0, .bool false] 76) = W0 at *
    go_wp2
    refine post_gen (fun Wf => Wf.heap[w.heap.size + 1]? = some (.cells #[.int .u64 0, .slice none 0 0, .slice none 0 0, .bool false] 76 (0, 0)) ∧ Below w.heap.size w Wf) ⟨?_, ?_⟩ ?_
    · exact blk_set4 HQ2.out _ _ _ _
    · exact below_set4 HB.out (Nat.le_succ _) _ _ _ _
    · rintro Wf ⟨e1, e2⟩
      obtain ⟨_, d0, d1, d2, d3⟩ := blk4p e1
      exact bodyPost_ret (v := .agg #[.int .u64 0, .slice none 0 0, .slice none 0 0, .bool false]) (by simp [results, Tryd.results76, go_sem, d0, d1, d2, d3]) rfl ⟨⟨_, rfl, by rw [HK.out]; exact isV_nil _⟩, e2⟩
  · obtain ⟨j, rfl⟩ := Int.eq_ofNat_of_zero_le (by omega : 0 ≤ i)
    by_cases h1 : x.kids.length ≤ j
    · have t1 : (x.kids.length : Int) ≤ (j : Int) := by omega
      have HK := Lib.hid (kidP_no x j (by omega))
      clear hks hb
      go_enter Tryd.func76, Tryd.ntmps76
      go_upto_region 1 with (fail)
      generalize (w.alloc (.cells #[.int .u64 x.num, .slice ba x.bytes.length bc, .slice ka x.kids.length kc, .bool x.has] 76)).alloc (.cells #[.int .u64 0, .slice none 0 0, .slice none 0 0, .bool false] 76) = W0 at *
      go_wp2
      refine post_gen (fun Wf => Wf.heap[w.heap.size + 1]? = some (.cells #[.int .u64 0, .slice none 0 0, .slice none 0 0, .bool false] 76 (0, 0)) ∧ Below w.heap.size w Wf) ⟨?_, ?_⟩ ?_
      · exact blk_set4 HQ2.out _ _ _ _
      · exact below_set4 HB.out (Nat.le_succ _) _ _ _ _
      · rintro Wf ⟨e1, e2⟩
        obtain ⟨_, d0, d1, d2, d3⟩ := blk4p e1
        exact bodyPost_ret (v := .agg #[.int .u64 0, .slice none 0 0, .slice none 0 0, .bool false]) (by simp [results, Tryd.results76, go_sem, d0, d1, d2, d3]) rfl ⟨⟨_, rfl, by rw [HK.out]; exact isV_nil _⟩, e2⟩
    · have t1 : ¬ (x.kids.length : Int) ≤ (j : Int) := by omega
      have hjl : j < x.kids.length := by omega
      have hji : (j : Int) < x.kids.length := by omega
      have hji0 : (0 : Int) ≤ (j : Int) := by omega
      have HK := Lib.hid (kidP_at x j hjl)
      obtain ⟨kb, ko, u0, u1, u2, u3, rfl, c0, c1, c2, c3, hiv⟩ := hks j hjl
      have HIV := Lib.hid hiv
      obtain ⟨q, hq⟩ : ∃ q, x.kids[j] = q := ⟨_, rfl⟩
      rw [hq] at HIV HK
      obtain ⟨ba', qa, bc', qc, hval, _⟩ := HIV.out.form
      obtain ⟨rfl, rfl, rfl, rfl⟩ := agg4_inj hval
      have g0 := cell_stays hb c0
      have g1 := cell_stays hb c1
      have g2 := cell_stays hb c2
      have g3 := cell_stays hb c3
      clear hks c0 c1 c2 c3 hiv hb hq hval
      go_enter Tryd.func76, Tryd.ntmps76
      go_upto_region 1 with (fail)
      generalize (w.alloc (.cells #[.int .u64 x.num, .slice ba x.bytes.length bc, .slice (some ⟨kb, ko, none⟩) x.kids.length kc, .bool x.has] 76)).alloc (.cells #[.int .u64 0, .slice none 0 0, .slice none 0 0, .bool false] 76) = W0 at *
      go_wp2
      refine post_gen (fun Wf => Wf.heap[w.heap.size + 1]? = some (.cells #[.int .u64 q.num, .slice ba' q.bytes.length bc', .slice qa q.kids.length qc, .bool q.has] 76 (0, 0)) ∧ Below w.heap.size w Wf) ⟨?_, ?_⟩ ?_
      · exact blk_set4 HQ2.out _ _ _ _
      · exact below_set4 HB.out (Nat.le_succ _) _ _ _ _
      · rintro Wf ⟨e1, e2⟩
        obtain ⟨_, d0, d1, d2, d3⟩ := blk4p e1
        exact bodyPost_ret (v := .agg #[.int .u64 q.num, .slice ba' q.bytes.length bc', .slice qa q.kids.length qc, .bool q.has]) (by simp [results, Tryd.results76, go_sem, d0, d1, d2, d3]) rfl ⟨⟨_, rfl, by rw [HK.out]; exact HIV.out.later e2⟩, e2⟩
end Go.Proofs.YtfghaopimeoijaaDoor
