/-
  The package view's Tree: of a value in memory that fits it hands back the same value, of new blocks alone. Conditions: those that each theorem names.
-/
import Derived.Test.YtjeoekggdohhiaaDoorPkB42
import Derived.Test.YtjeoekggdohhiaaDoorPkB43
import Derived.Test.YtjeoekggdohhiaaDoorPkB44
namespace Go.Proofs.YtjeoekggdohhiaaDoor
open Go.ChangeShapes Go.WideShapes Go.ChangeAt Go.RowKit Go.Shelf

theorem kid_all {ss : List (CRec × Value)} {es : List (SCho × Value)} (hF : FldsOk ss) : ∀ room, room ≤ 12 → KidAt ss es room
  | 0, h => vkidtree 0 (vstructtree hF 0 h (fun r e => by omega)) (vlisttree 0 h (fun r e => by omega))
  | n + 1, h =>
    have hn : ∀ r, n + 1 = r + 1 → KidAt ss es r := fun r e => by
      obtain rfl : n = r := by omega
      exact kid_all hF n (by omega)
    vkidtree (n + 1) (vstructtree hF (n + 1) h hn) (vlisttree (n + 1) h hn)
theorem struct_all {ss : List (CRec × Value)} {es : List (SCho × Value)} (hF : FldsOk ss) : StructAt ss es 12 :=
  vstructtree hF 12 (Nat.le_refl _) (fun r e => kid_all hF r (by omega))
set_option maxRecDepth 100000 in
set_option maxHeartbeats 4000000 in
theorem tree_any (w : World) {base : Nat} {ss : List (CRec × Value)} {es : List (SCho × Value)} {sv ev : Value} (root rec : Int) (h : CRows base w ss es sv ev) (hF : FldsOk ss) (v : PV) (val : Value) (hv : IsV w v val) (hsm : SmallV v) (hh : v.has = true) (hf : fitsP (ss.map Prod.fst) (es.map Prod.fst) 12 13 rec 0 v = true) :
    Calls Tryd.prog 12 #[.agg #[sv, ev, .int .i64 root], .int .i64 rec, viewI val] w fun e w' => (∃ val', e = .returned val' ∧ VH (newS w.heap.size) w' v val') ∧ Below w.heap.size w w' := by
  obtain ⟨h0, h1, h2⟩ := two_start w #[sv, ev, .int .i64 root] #[.int .u64 0, .slice none 0 0, .slice none 0 0, .bool false] 30 36
  have hst : v.num = 0 ∧ v.bytes = [] ∧ structP (ss.map Prod.fst) (es.map Prod.fst) 12 rec v.kids = true := by
    have h13 : sortP 13 0 = 4 := rfl
    rcases fits_sort hf with ⟨hs, _⟩ | ⟨hs, _⟩ | ⟨hs, _⟩ | ⟨hs, h4⟩
    · rw [h13] at hs; cases hs
    · rw [h13] at hs; cases hs
    · rw [h13] at hs; cases hs
    · rcases h4 with ⟨h5, _⟩ | ⟨_, h6, h7, h8⟩
      · rw [hh] at h5; cases h5
      · exact ⟨h6, h7, h8⟩
  have HCALL := Lib.hid (struct_all hF _ base sv ev root rec v val (h.below h0) (hv.later h0) hsm hst.1 hst.2.1 hh hst.2.2)
  have HB := Lib.hid h0
  have Q2 := Lib.hid h2
  obtain ⟨_, s0, s1, s2, _⟩ := blk3 h1
  clear h0 h1 h2 h hv hsm hh hf hst hF
  unfold viewI at *
  go_enter Tryd.func12, Tryd.ntmps12
  go_upto_region 1 with (fail)
  generalize (w.alloc (.cells #[sv, ev, .int .i64 root] 30)).alloc (.cells #[.int .u64 0, .slice none 0 0, .slice none 0 0, .bool false] 36) = W0 at *
  have HW0 : Hid (w.heap.size + 1 < W0.heap.size) := Lib.hid (blk_lt Q2.out)
  go_wp2_with fail
  refine HCALL.out.mono ?_
  rintro e W1 ⟨⟨val1, rfl, hvh⟩, hb1⟩
  obtain ⟨ba, ka, bc, kc, rfl, _⟩ := IsV.form hvh
  have HB1 := Lib.hid (HB.out.trans (hb1.mono HB.out.size))
  have P2 := Lib.hid (blk_below Q2.out hb1 (blk_lt Q2.out))
  have HVH := Lib.hid hvh
  clear hb1 hvh s0 s1 s2 HCALL HB Q2
  go_upto_region 2 with (fail)
  have hba : Below W1.heap.size W1 (W1.alloc (.cells #[.int .u64 v.num, .slice ba v.bytes.length bc, .slice ka v.kids.length kc, .bool v.has] 36)) := (Below.refl _ _).alloc (Nat.le_refl _) _
  have hn := heap_alloc_new W1 (.cells #[.int .u64 v.num, .slice ba v.bytes.length bc, .slice ka v.kids.length kc, .bool v.has] 36)
  have HB2 := Lib.hid (HB1.out.trans (hba.mono HB1.out.size))
  have P3 := Lib.hid (blk_below P2.out hba (blk_lt P2.out))
  have HVH2 := Lib.hid (HVH.out.below hba)
  clear hba
  generalize W1.alloc (.cells #[.int .u64 v.num, .slice ba v.bytes.length bc, .slice ka v.kids.length kc, .bool v.has] 36) = W2 at *
  obtain ⟨_, y0, y1, y2, y3⟩ := blk4p hn
  obtain ⟨_, u0, u1, u2, u3⟩ := blk4p P3.out
  have p0 := blk_frozen P3.out 0
  have p1 := blk_frozen P3.out 1
  have p2 := blk_frozen P3.out 2
  have p3 := blk_frozen P3.out 3
  clear hn
  go_wp2
  refine post_gen (fun Wf => Wf.heap[w.heap.size + 1]? = some (.cells #[.int .u64 v.num, .slice ba v.bytes.length bc, .slice ka v.kids.length kc, .bool v.has] 36 (0, 0)) ∧ VH (newS w.heap.size) Wf v (.agg #[.int .u64 v.num, .slice ba v.bytes.length bc, .slice ka v.kids.length kc, .bool v.has]) ∧ Below w.heap.size w Wf) ⟨?_, ?_⟩ ?_
  · exact blk_set4 (w := W2) P3.out _ _ _ _
  · exact tree_end HB2.out (by omega) HW0.out HVH2.out _ _ _ _
  · rintro Wf ⟨e1, e2, e3⟩
    obtain ⟨_, d0, d1, d2, d3⟩ := blk4p e1
    exact bodyPost_ret (v := .agg #[.int .u64 v.num, .slice ba v.bytes.length bc, .slice ka v.kids.length kc, .bool v.has]) (by simp [results, Tryd.results12, go_sem, d0, d1, d2, d3]) rfl ⟨⟨_, rfl, e2⟩, e3⟩
end Go.Proofs.YtjeoekggdohhiaaDoor
