/-
  Structs in one another (the law ViewDeep), plain: which of them fit; how they lie in memory. Conditions: those that each theorem names.
-/
import Derived.Test.YtjeoekggdohhiaaDoorPkB17
import Derived.Test.YtjeoekggdohhiaaDoorPkB20
import Derived.Test.YtjeoekggdohhiaaDoorPkB23
namespace Go.Proofs.YtjeoekggdohhiaaDoor
open Go.ChangeShapes Go.WideShapes Go.ChangeAt Go.RowKit Go.Shelf

def awF : List CFld := [⟨⟨#[120]⟩, 6, 0, 0, 5⟩, ⟨⟨#[116]⟩, 11, 0, 0, 0⟩]
theorem own_blk {w : World} {base g n size : Nat} {e : TypeId} {cs : Array Value} (hg : w.heap[g]? = some (.cells cs e (0, 0))) (hb : base ≤ g) (hm : n ≤ maxLen) (hs : cs.size = n * size) : w.ownsRow base e size (.slice (some ⟨g, 0, none⟩) n n) n cs.toList :=
  ⟨by simpa using hs, .inr ⟨g, n, cs, rfl, hb, hg, Nat.le_refl _, hm, hs, List.take_of_length_le (by rw [Array.length_toList, hs]; exact Nat.le_refl _)⟩⟩
theorem four_blk (w : World) (a b c d : Array Value) (r s t u : TypeId) : Below w.heap.size w ((((w.alloc (.cells a r)).alloc (.cells b s)).alloc (.cells c t)).alloc (.cells d u)) ∧
    ((((w.alloc (.cells a r)).alloc (.cells b s)).alloc (.cells c t)).alloc (.cells d u)).heap[w.heap.size]? = some (.cells a r (0, 0)) ∧
    ((((w.alloc (.cells a r)).alloc (.cells b s)).alloc (.cells c t)).alloc (.cells d u)).heap[w.heap.size + 1]? = some (.cells b s (0, 0)) ∧
    ((((w.alloc (.cells a r)).alloc (.cells b s)).alloc (.cells c t)).alloc (.cells d u)).heap[w.heap.size + 2]? = some (.cells c t (0, 0)) ∧
    ((((w.alloc (.cells a r)).alloc (.cells b s)).alloc (.cells c t)).alloc (.cells d u)).heap[w.heap.size + 3]? = some (.cells d u (0, 0)) := by
  obtain ⟨h1, h2, h3⟩ := two_start w a b r s
  obtain ⟨h4, h5, h6⟩ := two_start ((w.alloc (.cells a r)).alloc (.cells b s)) c d t u
  have e : ((w.alloc (.cells a r)).alloc (.cells b s)).heap.size = w.heap.size + 2 := by simp
  rw [e] at h5 h6
  exact ⟨h1.trans (h4.mono h1.size), blk_below h2 h4 (blk_lt h2), blk_below h3 h4 (blk_lt h3), h5, h6⟩
theorem aw_def : defV awF = structV [5, 0] := by kernel_rfl
theorem aw_fits : (structV [5, 0]).has && fitsP [⟨⟨#[83]⟩, awF⟩] [] 12 13 0 0 (structV [5, 0]) = true := by kernel_rfl
theorem aw_not : (nilV.has && fitsP [⟨⟨#[83]⟩, awF⟩] [] 12 13 0 0 nilV) = false := by kernel_rfl
theorem aw_ok {v : Value} : FldsOk [(⟨⟨#[83]⟩, awF⟩, v)] := fun q hq f hf => by
  rw [List.mem_singleton] at hq
  subst hq
  have h : f = ⟨⟨#[120]⟩, 6, 0, 0, 5⟩ ∨ f = ⟨⟨#[116]⟩, 11, 0, 0, 0⟩ := by simpa [awF] using hf
  rcases h with rfl | rfl <;> decide
theorem aw_num : (kidP (structV [5, 0]) 0).num = 5 := by kernel_rfl
set_option maxRecDepth 100000 in
set_option maxHeartbeats 4000000 in
theorem awake7_any (w : World) (hT : Tabs w) : Calls Tryd.prog 8 #[] w fun e w' => e = .returned (.bool true) ∧ Below w.heap.size w w' := by
  obtain ⟨hb, hq0, hq1, hq2, hq3⟩ := four_blk w (cfldsCells awF).toArray #[.string ⟨#[83]⟩, .slice (some ⟨w.heap.size, 0, none⟩) 2 2] #[.string ⟨#[83]⟩, .slice (some ⟨w.heap.size, 0, none⟩) 2 2] #[.slice (some ⟨w.heap.size + 2, 0, none⟩) 1 1, .slice none 0 0, .int .i64 0] 57 51 51 30
  have HROW := Lib.hid (own_blk (base := w.heap.size) (n := 2) (size := 5) hq0 (Nat.le_refl _) (by decide) rfl)
  have HCR : Hid (CRows w.heap.size ((((w.alloc (.cells (cfldsCells awF).toArray 57)).alloc (.cells #[.string ⟨#[83]⟩, .slice (some ⟨w.heap.size, 0, none⟩) 2 2] 51)).alloc (.cells #[.string ⟨#[83]⟩, .slice (some ⟨w.heap.size, 0, none⟩) 2 2] 51)).alloc (.cells #[.slice (some ⟨w.heap.size + 2, 0, none⟩) 1 1, .slice none 0 0, .int .i64 0] 30)) [(⟨⟨#[83]⟩, awF⟩, .slice (some ⟨w.heap.size, 0, none⟩) 2 2)] [] (.slice (some ⟨w.heap.size + 2, 0, none⟩) 1 1) (.slice none 0 0)) := Lib.hid {
    structs := own_blk hq2 (by omega) (by decide) rfl
    enums := World.ownsRow_nil _ _ _ _
    fields := fun q hq => by rw [List.mem_singleton] at hq; subst hq; exact HROW.out
    names := fun q hq => by cases hq }
  have HQ1 := Lib.hid hq1
  have HQ3 : Hid (((((w.alloc (.cells (cfldsCells awF).toArray 57)).alloc (.cells #[.string ⟨#[83]⟩, .slice (some ⟨w.heap.size, 0, none⟩) 2 2] 51)).alloc (.cells #[.string ⟨#[83]⟩, .slice (some ⟨w.heap.size, 0, none⟩) 2 2] 51)).alloc (.cells #[.slice (some ⟨w.heap.size + 2, 0, none⟩) 1 1, .slice none 0 0, .int .i64 0] 30)).heap[w.heap.size + 1 + 1 + 1]? = some (.cells #[.slice (some ⟨w.heap.size + 2, 0, none⟩) 1 1, .slice none 0 0, .int .i64 0] 30 (0, 0))) := Lib.hid hq3
  have HB := Lib.hid hb
  have HT := Lib.hid (hT.below (Nat.le_refl _) hb)
  clear hT hb hq0 hq1 hq2 hq3
  go_enter Tryd.func8, Tryd.ntmps8
  go_upto_region 3 with (fail)
  change Code.wp _ _ _ _ ((((w.alloc (.cells (cfldsCells awF).toArray 57)).alloc (.cells #[.string ⟨#[83]⟩, .slice (some ⟨w.heap.size, 0, none⟩) 2 2] 51)).alloc (.cells #[.string ⟨#[83]⟩, .slice (some ⟨w.heap.size, 0, none⟩) 2 2] 51)).alloc (.cells #[.slice (some ⟨w.heap.size + 2, 0, none⟩) 1 1, .slice none 0 0, .int .i64 0] 30))
  generalize (((w.alloc (.cells (cfldsCells awF).toArray 57)).alloc (.cells #[.string ⟨#[83]⟩, .slice (some ⟨w.heap.size, 0, none⟩) 2 2] 51)).alloc (.cells #[.string ⟨#[83]⟩, .slice (some ⟨w.heap.size, 0, none⟩) 2 2] 51)).alloc (.cells #[.slice (some ⟨w.heap.size + 2, 0, none⟩) 1 1, .slice none 0 0, .int .i64 0] 30) = W0 at *
  obtain ⟨_, r0, r1, _⟩ := blk2 HQ1.out
  go_wp2_with fail
  refine (default_any W0 ⟨#[83]⟩ awF _ HROW.out (by decide) (by decide)).mono ?_
  rintro e W1 ⟨⟨val, rfl, hiv⟩, hb1⟩
  rw [aw_def] at hiv
  obtain ⟨ba, ka, bc, kc, hval, hn, hby, hbl, hbm, hkl, hkm, hks⟩ := hiv.form
  obtain rfl : val = .agg #[.int .u64 0, .slice ba 0 bc, .slice ka 2 kc, .bool true] := hval
  obtain ⟨kb, ko, u0, u1, u2, u3, rfl, c0, c1, c2, c3, hk0⟩ := hks 0 (by decide)
  obtain ⟨_, _, _, _, hval0, _⟩ := hk0.form
  obtain ⟨rfl, _, _, _⟩ := agg4_inj hval0
  rw [Nat.zero_mul, Nat.add_zero] at c0
  have c0' : W1.cell? ⟨kb, ko, none⟩ = some (.int .u64 5) := c0
  have hkc : 2 ≤ kc := hkl
  have hba : Below W1.heap.size W1 (W1.alloc (.cells #[.int .u64 0, .slice ba 0 bc, .slice (some ⟨kb, ko, none⟩) 2 kc, .bool true] 36)) := (Below.refl _ _).alloc (Nat.le_refl _) _
  have HB2 := Lib.hid (HB.out.trans ((hb1.trans (hba.mono hb1.size)).mono HB.out.size))
  have HB02 := Lib.hid (hb1.trans (hba.mono hb1.size))
  have HIV := Lib.hid (hiv.later hba)
  have HQV := Lib.hid (heap_alloc_new W1 (.cells #[.int .u64 0, .slice ba 0 bc, .slice (some ⟨kb, ko, none⟩) 2 kc, .bool true] 36))
  have k0 := cell_stays hba c0'
  clear hby hn hbl hbm hkl hkm hks r0 r1 hiv hb1 hval0 hk0 c0 c0' c1 c2 c3 hba
  go_upto_region 4 with (fail)
  generalize W1.alloc (.cells #[.int .u64 0, .slice ba 0 bc, .slice (some ⟨kb, ko, none⟩) 2 kc, .bool true] 36) = W2 at *
  generalize W1.heap.size = F at *
  have HQ32 := Lib.hid (blk_below HQ3.out HB02.out (blk_lt HQ3.out))
  obtain ⟨_, s0, s1, s2, _⟩ := blk3 HQ32.out
  obtain ⟨_, v0, v1, v2, v3⟩ := blk4p HQV.out
  go_wp2_with fail
  refine (ftop_any W2 0 0 (HCR.out.below HB02.out) (HT.out.below (Nat.le_refl _) HB02.out) aw_ok _ _ HIV.out).mono ?_
  rintro e W3 ⟨rfl, hb3⟩
  have e1 : ((structV [5, 0]).has && fitsP (List.map Prod.fst [((⟨⟨#[83]⟩, awF⟩ : CRec), Value.slice (some ⟨w.heap.size, 0, none⟩) 2 2)]) (List.map Prod.fst ([] : List (SCho × Value))) 12 13 0 0 (structV [5, 0])) = true := aw_fits
  rw [e1]
  have HB3 := Lib.hid (HB2.out.trans (hb3.mono HB2.out.size))
  have HB03 := Lib.hid (HB02.out.trans (hb3.mono HB02.out.size))
  have HIV3 := Lib.hid (HIV.out.later hb3)
  have HQV3 := Lib.hid (blk_below HQV.out hb3 (blk_lt HQV.out))
  have HQ33 := Lib.hid (blk_below HQ32.out hb3 (blk_lt HQ32.out))
  clear hb3 e1 s0 s1 s2 v0 v1 v2 v3 HB02 HB2 HIV HQV k0 HQ32
  obtain ⟨_, s0, s1, s2, _⟩ := blk3 HQ33.out
  obtain ⟨_, v0, v1, v2, v3⟩ := blk4p HQV3.out
  go_wp2_with fail
  refine (ftop_any W3 0 0 (HCR.out.below HB03.out) (HT.out.below (Nat.le_refl _) HB03.out) aw_ok nilV _ (isV_nil _)).mono ?_
  rintro e W4 ⟨rfl, hb4⟩
  have e1 : (nilV.has && fitsP (List.map Prod.fst [((⟨⟨#[83]⟩, awF⟩ : CRec), Value.slice (some ⟨w.heap.size, 0, none⟩) 2 2)]) (List.map Prod.fst ([] : List (SCho × Value))) 12 13 0 0 nilV) = false := aw_not
  rw [e1]
  have HB4 := Lib.hid (HB3.out.trans (hb4.mono HB3.out.size))
  have HIV4 := Lib.hid (HIV3.out.later hb4)
  have HQV4 := Lib.hid (blk_below HQV3.out hb4 (blk_lt HQV3.out))
  clear hb4 e1 s0 s1 s2 v0 v1 v2 v3 HB03 HB3 HIV3 HQV3
  obtain ⟨_, v0, v1, v2, v3⟩ := blk4p HQV4.out
  go_wp2_with fail
  refine (of_any W4 _ _ HIV4.out).mono ?_
  rintro e W5 ⟨rfl, hb5⟩
  have HB5 := Lib.hid (HB4.out.trans (hb5.mono HB4.out.size))
  have HIV5 := Lib.hid (HIV4.out.later hb5)
  clear hb5 v0 v1 v2 v3 HB4 HIV4
  unfold viewI
  go_wp2_with fail
  rw [recv_val]
  refine (num_any W5 _ _ HIV5.out 0).mono ?_
  rintro e W6 ⟨rfl, hb6⟩
  rw [aw_num]
  have HB6 := Lib.hid (HB5.out.trans (hb6.mono HB5.out.size))
  clear hb6 HB5 HIV5
  go_wp2
  go_ret
  exact ⟨rfl, HB6.out⟩
end Go.Proofs.YtjeoekggdohhiaaDoor
namespace Go.Proofs.YtjeoekggdohhiaaDoor
open Go.ChangeShapes Go.WideShapes Go.ChangeAt Go.RowKit Go.Shelf
theorem five_blk (w : World) (a b c d e : Array Value) (r s t u x : TypeId) : Below w.heap.size w (((((w.alloc (.cells a r)).alloc (.cells b s)).alloc (.cells c t)).alloc (.cells d u)).alloc (.cells e x)) ∧
    (((((w.alloc (.cells a r)).alloc (.cells b s)).alloc (.cells c t)).alloc (.cells d u)).alloc (.cells e x)).heap[w.heap.size]? = some (.cells a r (0, 0)) ∧
    (((((w.alloc (.cells a r)).alloc (.cells b s)).alloc (.cells c t)).alloc (.cells d u)).alloc (.cells e x)).heap[w.heap.size + 1]? = some (.cells b s (0, 0)) ∧
    (((((w.alloc (.cells a r)).alloc (.cells b s)).alloc (.cells c t)).alloc (.cells d u)).alloc (.cells e x)).heap[w.heap.size + 1 + 1]? = some (.cells c t (0, 0)) ∧
    (((((w.alloc (.cells a r)).alloc (.cells b s)).alloc (.cells c t)).alloc (.cells d u)).alloc (.cells e x)).heap[w.heap.size + 1 + 1 + 1]? = some (.cells d u (0, 0)) ∧
    (((((w.alloc (.cells a r)).alloc (.cells b s)).alloc (.cells c t)).alloc (.cells d u)).alloc (.cells e x)).heap[w.heap.size + 1 + 1 + 1 + 1]? = some (.cells e x (0, 0)) ∧
    w.heap.size + 1 + 1 + 1 + 1 + 1 = (((((w.alloc (.cells a r)).alloc (.cells b s)).alloc (.cells c t)).alloc (.cells d u)).alloc (.cells e x)).heap.size := by
  obtain ⟨h0, h1, h2, h3, h4⟩ := four_blk w a b c d r s t u
  have hs : ((((w.alloc (.cells a r)).alloc (.cells b s)).alloc (.cells c t)).alloc (.cells d u)).heap.size = w.heap.size + 1 + 1 + 1 + 1 := by simp
  have h5 := heap_alloc_new ((((w.alloc (.cells a r)).alloc (.cells b s)).alloc (.cells c t)).alloc (.cells d u)) (.cells e x)
  rw [hs] at h5
  exact ⟨h0.alloc h0.size _, blk_alloc h1 _, blk_alloc h2 _, blk_alloc h3 _, blk_alloc h4 _, h5, by simp⟩
def set4 (w : World) (g : Nat) (x y z u : Value) : World := (((w.setCell ⟨g, 0, none⟩ x).setCell ⟨g, 1, none⟩ y).setCell ⟨g, 2, none⟩ z).setCell ⟨g, 3, none⟩ u
theorem set4_size (w : World) (g : Nat) (x y z u : Value) : (set4 w g x y z u).heap.size = w.heap.size := by simp [set4, World.setCell]
end Go.Proofs.YtjeoekggdohhiaaDoor
