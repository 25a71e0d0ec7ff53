/-
  The hand's value: of a number's type. Conditions: those that each theorem names.
-/
import Derived.Test.YtiknhkkeifemcaaGreatDoorPkM17
import Derived.Test.YtiknhkkeifemcaaGreatDoorPkM20
import Derived.Test.YtiknhkkeifemcaaGreatDoorPkM23
namespace Go.Proofs.YtiknhkkeifemcaaGreatDoor
open Go.ChangeShapes Go.WideShapes Go.ChangeAt Go.RowKit Go.Shelf

theorem VH.formH {S : Nat → Bool} {w : World} {v : PV} {val : Value} (h : VH S w v val) : ∃ (ba ka : Option Addr) (bc kc : Nat), val = .agg #[.int .u64 v.num, .slice ba v.bytes.length bc, .slice ka v.kids.length kc, .bool v.has] ∧ v.num ≤ 18446744073709551615 ∧ Bytes w ba v.bytes ∧ v.bytes.length ≤ bc ∧ (v.bytes.length : Int) ≤ 9223372036854775807 ∧ v.kids.length ≤ kc ∧ (v.kids.length : Int) ≤ 9223372036854775807 ∧
    ∀ i (hi : i < v.kids.length), ∃ (kb ko : Nat) (u0 u1 u2 u3 : Value), ka = some ⟨kb, ko, none⟩ ∧ w.cell? ⟨kb, ko + i * 4, none⟩ = some u0 ∧ w.cell? ⟨kb, ko + i * 4 + 1, none⟩ = some u1 ∧ w.cell? ⟨kb, ko + i * 4 + 2, none⟩ = some u2 ∧ w.cell? ⟨kb, ko + i * 4 + 3, none⟩ = some u3 ∧ VH S w (v.kids[i]'hi) (.agg #[u0, u1, u2, u3]) := by
  obtain ⟨ba, ka, bc, kc, h1, h2, h3, h4, h5, h6, h7, h8⟩ := IsV.form h
  refine ⟨ba, ka, bc, kc, h1, h2, h3.mono (Nat.le_of_eq (hide_size S w)) (fun _ _ h => (hide_some h).2), h4, h5, h6, h7, fun i hi => ?_⟩
  obtain ⟨kb, ko, u0, u1, u2, u3, e0, e1, e2, e3, e4, e5⟩ := h8 i hi
  exact ⟨kb, ko, u0, u1, u2, u3, e0, (hide_some e1).2, (hide_some e2).2, (hide_some e3).2, (hide_some e4).2, e5⟩
set_option maxHeartbeats 4000000 in
theorem kid_vh {S : Nat → Bool} (w : World) (x : PV) (val : Value) (hx : VH S w x val) (i : Int) :
    Calls Tryz.prog 263 #[val, .int .i64 i] w fun e w' => (∃ kv, e = .returned kv ∧ VH S w' (kidP x i) kv) ∧ Below w.heap.size w w' := by
  have HX := Lib.hid hx
  obtain ⟨ba, ka, bc, kc, rfl, hn, hby, hbl, hbm, hkl, hkm, hks⟩ := hx.formH
  obtain ⟨hb, hq1, hq2⟩ := two_start w #[.int .u64 x.num, .slice ba x.bytes.length bc, .slice ka x.kids.length kc, .bool x.has] #[.int .u64 0, .slice none 0 0, .slice none 0 0, .bool false] 116 116
  have HB := Lib.hid hb
  have HQ2 := Lib.hid hq2
  obtain ⟨_, s0, s1, s2, s3⟩ := blk4p hq1
  obtain ⟨_, z0, z1, z2, z3⟩ := blk4p hq2
  have z4 := blk_frozen hq2 0
  have z5 := blk_frozen hq2 1
  have z6 := blk_frozen hq2 2
  have z7 := blk_frozen hq2 3
  clear hq1 hq2 hby hn hbl hbm hx
  by_cases h0 : i < 0
  · have HK := Lib.hid (kidP_no x i (by omega))
    clear hks hb
    go_enter Tryz.func263, Tryz.ntmps263
    go_upto_region 1 with (fail)
    generalize (w.alloc (.cells #[.int .u64 x.num, .slice ba x.bytes.length bc, .slice ka x.kids.length kc, .bool x.has] 116)).alloc (.cells #[.int .u64 0, .slice none 0 0, .slice none 0 0, .bool false] 116) = W0 at *
    go_wp2
    refine post_gen (fun Wf => Wf.heap[w.heap.size + 1]? = some (.cells #[.int .u64 0, .slice none 0 0, .slice none 0 0, .bool false] 116 (0, 0)) ∧ Below w.heap.size w Wf) ⟨?_, ?_⟩ ?_
    · exact blk_set4 HQ2.out _ _ _ _
    · exact below_set4 HB.out (Nat.le_succ _) _ _ _ _
    · rintro Wf ⟨e1, e2⟩
      obtain ⟨_, d0, d1, d2, d3⟩ := blk4p e1
      exact bodyPost_ret (v := .agg #[.int .u64 0, .slice none 0 0, .slice none 0 0, .bool false]) (by simp [results, Tryz.results263, go_sem, d0, d1, d2, d3]) rfl ⟨⟨_, rfl, by rw [HK.out]; exact vh_nil S _⟩, e2⟩
  · obtain ⟨j, rfl⟩ := Int.eq_ofNat_of_zero_le (by omega : 0 ≤ i)
    by_cases h1 : x.kids.length ≤ j
    · have t1 : (x.kids.length : Int) ≤ (j : Int) := by omega
      have HK := Lib.hid (kidP_no x j (by omega))
      clear hks hb
      go_enter Tryz.func263, Tryz.ntmps263
      go_upto_region 1 with (fail)
      generalize (w.alloc (.cells #[.int .u64 x.num, .slice ba x.bytes.length bc, .slice ka x.kids.length kc, .bool x.has] 116)).alloc (.cells #[.int .u64 0, .slice none 0 0, .slice none 0 0, .bool false] 116) = W0 at *
      go_wp2
      refine post_gen (fun Wf => Wf.heap[w.heap.size + 1]? = some (.cells #[.int .u64 0, .slice none 0 0, .slice none 0 0, .bool false] 116 (0, 0)) ∧ Below w.heap.size w Wf) ⟨?_, ?_⟩ ?_
      · exact blk_set4 HQ2.out _ _ _ _
      · exact below_set4 HB.out (Nat.le_succ _) _ _ _ _
      · rintro Wf ⟨e1, e2⟩
        obtain ⟨_, d0, d1, d2, d3⟩ := blk4p e1
        exact bodyPost_ret (v := .agg #[.int .u64 0, .slice none 0 0, .slice none 0 0, .bool false]) (by simp [results, Tryz.results263, go_sem, d0, d1, d2, d3]) rfl ⟨⟨_, rfl, by rw [HK.out]; exact vh_nil S _⟩, e2⟩
    · have t1 : ¬ (x.kids.length : Int) ≤ (j : Int) := by omega
      have hjl : j < x.kids.length := by omega
      have hji : (j : Int) < x.kids.length := by omega
      have hji0 : (0 : Int) ≤ (j : Int) := by omega
      have HK := Lib.hid (kidP_at x j hjl)
      obtain ⟨kb, ko, u0, u1, u2, u3, rfl, c0, c1, c2, c3, hiv⟩ := hks j hjl
      have HIV := Lib.hid hiv
      obtain ⟨q, hq⟩ : ∃ q, x.kids[j] = q := ⟨_, rfl⟩
      rw [hq] at HIV HK
      obtain ⟨ba', qa, bc', qc, hval, _⟩ := HIV.out.formH
      obtain ⟨rfl, rfl, rfl, rfl⟩ := agg4_inj hval
      have g0 := cell_stays hb c0
      have g1 := cell_stays hb c1
      have g2 := cell_stays hb c2
      have g3 := cell_stays hb c3
      clear hks c0 c1 c2 c3 hiv hb hq hval
      go_enter Tryz.func263, Tryz.ntmps263
      go_upto_region 1 with (fail)
      generalize (w.alloc (.cells #[.int .u64 x.num, .slice ba x.bytes.length bc, .slice (some ⟨kb, ko, none⟩) x.kids.length kc, .bool x.has] 116)).alloc (.cells #[.int .u64 0, .slice none 0 0, .slice none 0 0, .bool false] 116) = W0 at *
      go_wp2
      refine post_gen (fun Wf => Wf.heap[w.heap.size + 1]? = some (.cells #[.int .u64 q.num, .slice ba' q.bytes.length bc', .slice qa q.kids.length qc, .bool q.has] 116 (0, 0)) ∧ Below w.heap.size w Wf) ⟨?_, ?_⟩ ?_
      · exact blk_set4 HQ2.out _ _ _ _
      · exact below_set4 HB.out (Nat.le_succ _) _ _ _ _
      · rintro Wf ⟨e1, e2⟩
        obtain ⟨_, d0, d1, d2, d3⟩ := blk4p e1
        exact bodyPost_ret (v := .agg #[.int .u64 q.num, .slice ba' q.bytes.length bc', .slice qa q.kids.length qc, .bool q.has]) (by simp [results, Tryz.results263, go_sem, d0, d1, d2, d3]) rfl ⟨⟨_, rfl, by rw [HK.out]; exact HIV.out.below e2⟩, e2⟩
set_option maxRecDepth 100000 in
set_option maxHeartbeats 4000000 in
theorem vlistof_vh {S : Nat → Bool} (w : World) (x : PV) (val : Value) (hx : VH S w x val) (i : Int) :
    Calls Tryz.prog 261 #[val, .int .i64 i] w fun e w' => (∃ kv, e = .returned (itemsI kv) ∧ VH S w' (kidP x i) kv) ∧ Below w.heap.size w w' := by
  have HX := Lib.hid hx
  obtain ⟨ba, ka, bc, kc, rfl, hn, hby, hbl, hbm, hkl, hkm, hks⟩ := hx.formH
  have hb := (Below.refl w.heap.size w).alloc (Nat.le_refl _) (.cells #[.int .u64 x.num, .slice ba x.bytes.length bc, .slice ka x.kids.length kc, .bool x.has] 116)
  have HB := Lib.hid hb
  obtain ⟨_, s0, s1, s2, s3⟩ := blk4p (heap_alloc_new w (.cells #[.int .u64 x.num, .slice ba x.bytes.length bc, .slice ka x.kids.length kc, .bool x.has] 116))
  have HK := Lib.hid (kid_vh _ x _ (hx.below hb) i)
  clear hb hby hks hx HX hn hbl hbm hkl hkm
  generalize kidP x i = q at *
  go_enter Tryz.func261, Tryz.ntmps261
  go_upto_region 1 with (fail)
  generalize w.alloc (.cells #[.int .u64 x.num, .slice ba x.bytes.length bc, .slice ka x.kids.length kc, .bool x.has] 116) = W0 at *
  go_wp2_with fail
  refine HK.out.mono ?_
  rintro e W1 ⟨⟨kv, rfl, hkv⟩, hb1⟩
  have HB1 := Lib.hid (HB.out.trans (hb1.mono HB.out.size))
  have HKV := Lib.hid hkv
  obtain ⟨ba', ka', bc', kc', rfl, _⟩ := hkv.formH
  clear hb1 s0 s1 s2 s3 HK
  go_wp2
  go_ret
  exact ⟨⟨_, rfl, HKV.out⟩, HB1.out⟩
set_option maxRecDepth 100000 in
set_option maxHeartbeats 4000000 in
theorem velem_vh {S : Nat → Bool} (w : World) (x : PV) (val : Value) (hx : VH S w x val) (i : Int) :
    Calls Tryz.prog 282 #[val, .int .i64 i] w fun e w' => (∃ kv, e = .returned (viewI kv) ∧ VH S w' (kidP x i) kv) ∧ Below w.heap.size w w' := by
  have HX := Lib.hid hx
  obtain ⟨ba, ka, bc, kc, rfl, hn, hby, hbl, hbm, hkl, hkm, hks⟩ := hx.formH
  have hb := (Below.refl w.heap.size w).alloc (Nat.le_refl _) (.cells #[.int .u64 x.num, .slice ba x.bytes.length bc, .slice ka x.kids.length kc, .bool x.has] 326)
  have HB := Lib.hid hb
  obtain ⟨_, s0, s1, s2, s3⟩ := blk4p (heap_alloc_new w (.cells #[.int .u64 x.num, .slice ba x.bytes.length bc, .slice ka x.kids.length kc, .bool x.has] 326))
  have HK := Lib.hid (kid_vh _ x _ (hx.below hb) i)
  clear hb hby hks hx HX hn hbl hbm hkl hkm
  generalize kidP x i = q at *
  go_enter Tryz.func282, Tryz.ntmps282
  go_upto_region 1 with (fail)
  generalize w.alloc (.cells #[.int .u64 x.num, .slice ba x.bytes.length bc, .slice ka x.kids.length kc, .bool x.has] 326) = W0 at *
  go_wp2_with fail
  refine HK.out.mono ?_
  rintro e W1 ⟨⟨kv, rfl, hkv⟩, hb1⟩
  have HB1 := Lib.hid (HB.out.trans (hb1.mono HB.out.size))
  have HKV := Lib.hid hkv
  obtain ⟨ba', ka', bc', kc', rfl, _⟩ := hkv.formH
  clear hb1 s0 s1 s2 s3 HK
  go_wp2
  go_ret
  exact ⟨⟨_, rfl, HKV.out⟩, HB1.out⟩
set_option maxRecDepth 100000 in
set_option maxHeartbeats 4000000 in
theorem vsub_vh {S : Nat → Bool} (w : World) (x : PV) (val : Value) (hx : VH S w x val) (i : Int) :
    Calls Tryz.prog 264 #[val, .int .i64 i] w fun e w' => ((∃ kv, e = .returned (.tuple #[viewI kv, .bool true]) ∧ (kidP x i).has = true ∧ VH S w' (kidP x i) kv) ∨ (e = .returned (.tuple #[.nilIface, .bool false]) ∧ (kidP x i).has = false)) ∧ Below w.heap.size w w' := by
  have HX := Lib.hid hx
  obtain ⟨ba, ka, bc, kc, rfl, hn, hby, hbl, hbm, hkl, hkm, hks⟩ := hx.formH
  have hb := (Below.refl w.heap.size w).alloc (Nat.le_refl _) (.cells #[.int .u64 x.num, .slice ba x.bytes.length bc, .slice ka x.kids.length kc, .bool x.has] 118)
  have HB := Lib.hid hb
  obtain ⟨_, s0, s1, s2, s3⟩ := blk4p (heap_alloc_new w (.cells #[.int .u64 x.num, .slice ba x.bytes.length bc, .slice ka x.kids.length kc, .bool x.has] 118))
  have HK := Lib.hid (kid_vh _ x _ (hx.below hb) i)
  clear hb hby hks hx HX hn hbl hbm hkl hkm
  generalize kidP x i = q at *
  go_enter Tryz.func264, Tryz.ntmps264
  go_upto_region 1 with (fail)
  generalize w.alloc (.cells #[.int .u64 x.num, .slice ba x.bytes.length bc, .slice ka x.kids.length kc, .bool x.has] 118) = W0 at *
  go_wp2_with fail
  refine HK.out.mono ?_
  rintro e W1 ⟨⟨kv, rfl, hkv⟩, hb1⟩
  have HB1 := Lib.hid (HB.out.trans (hb1.mono HB.out.size))
  have HKV := Lib.hid hkv
  obtain ⟨ba', ka', bc', kc', rfl, _⟩ := hkv.formH
  clear hb1 hkv s0 s1 s2 s3 HK
  go_upto_region 2 with (fail)
  have hba := (Below.refl W1.heap.size W1).alloc (Nat.le_refl _) (.cells #[.int .u64 q.num, .slice ba' q.bytes.length bc', .slice ka' q.kids.length kc', .bool q.has] 116)
  have HB2 := Lib.hid (HB1.out.trans (hba.mono HB1.out.size))
  obtain ⟨_, y0, y1, y2, y3⟩ := blk4p (heap_alloc_new W1 (.cells #[.int .u64 q.num, .slice ba' q.bytes.length bc', .slice ka' q.kids.length kc', .bool q.has] 116))
  have HKV2 := Lib.hid (HKV.out.below hba)
  clear hba HKV
  generalize W1.alloc (.cells #[.int .u64 q.num, .slice ba' q.bytes.length bc', .slice ka' q.kids.length kc', .bool q.has] 116) = W2 at *
  obtain ⟨qh, hqh⟩ : ∃ h, q.has = h := ⟨_, rfl⟩
  rw [hqh] at y3
  cases qh with
  | false =>
    go_wp2
    go_ret2
    exact ⟨.inr ⟨rfl, hqh⟩, HB2.out⟩
  | true =>
    go_wp2
    go_ret2
    exact ⟨.inl ⟨_, rfl, hqh, by have h := HKV2.out; rwa [hqh] at h⟩, HB2.out⟩
end Go.Proofs.YtiknhkkeifemcaaGreatDoor
namespace Go.Proofs.YtiknhkkeifemcaaGreatDoor
open Go.ChangeShapes Go.WideShapes Go.ChangeAt Go.RowKit Go.Shelf

theorem bare_num {q : PV} (h : bareP 1 q = true) : q = .mk q.num [] [] false := by
  cases q with
  | mk n bs ks hs =>
    simp [bareP, PV.num, PV.bytes, PV.kids, PV.has] at h
    obtain ⟨h1, h2, h3⟩ := h
    subst h3
    simp at h2
    subst h1 h2
    rfl
theorem bare_bytes {q : PV} (h : bareP 2 q = true) : q = .mk 0 q.bytes [] false := by
  cases q with
  | mk n bs ks hs =>
    simp [bareP, PV.num, PV.bytes, PV.kids, PV.has] at h
    obtain ⟨h1, h2, h3⟩ := h
    replace h1 := of_decide_eq_true h1
    subst h3
    simp at h2
    subst h1 h2
    rfl
theorem bare_list {q : PV} (h : bareP 3 q = true) : q.num = 0 ∧ q.bytes = [] ∧ q.has = false := by
  cases q with
  | mk n bs ks hs =>
    simp [bareP, PV.num, PV.bytes, PV.kids, PV.has] at h
    exact ⟨of_decide_eq_true h.1, h.2.1, h.2.2⟩
theorem bare_struct {q : PV} (h : bareP 4 q = true) : q.num = 0 ∧ q.bytes = [] ∧ (q.has = false → q = nilV) := by
  cases q with
  | mk n bs ks hs =>
    simp [bareP, PV.num, PV.bytes, PV.kids, PV.has] at h
    obtain ⟨h1, h2, h3⟩ := h
    replace h1 := of_decide_eq_true h1
    refine ⟨h1, h2, fun h4 => ?_⟩
    have h5 : hs = false := h4
    subst h5
    simp at h3
    subst h1 h2 h3
    rfl
theorem fits_sort {ss : List CRec} {es : List SCho} {room k : Nat} {ref lists : Int} {q : PV} (h : fitsP ss es room k ref lists q = true) :
    (sortP k lists = 1 ∧ q = .mk q.num [] [] false) ∨ (sortP k lists = 2 ∧ q = .mk 0 q.bytes [] false) ∨ (sortP k lists = 3 ∧ (q.num = 0 ∧ q.bytes = [] ∧ q.has = false) ∧ q.kids.all (kidOk ss es room k ref (lists - 1)) = true) ∨
    (sortP k lists = 4 ∧ ((q.has = false ∧ q = nilV) ∨ (q.has = true ∧ q.num = 0 ∧ q.bytes = [] ∧ structP ss es room ref q.kids = true))) := by
  rw [fitsP_eq, Bool.and_eq_true] at h
  obtain ⟨h1, h2⟩ := h
  by_cases s1 : sortP k lists = 1
  · rw [s1] at h1
    exact .inl ⟨s1, bare_num h1⟩
  rw [if_neg s1] at h2
  by_cases s2 : sortP k lists = 2
  · rw [s2] at h1
    exact .inr (.inl ⟨s2, bare_bytes h1⟩)
  rw [if_neg s2] at h2
  by_cases s3 : sortP k lists = 3
  · rw [s3] at h1
    rw [if_pos s3] at h2
    exact .inr (.inr (.inl ⟨s3, bare_list h1, h2⟩))
  rw [if_neg s3] at h2
  by_cases s4 : sortP k lists = 4
  · rw [s4] at h1
    rw [if_pos s4] at h2
    obtain ⟨a, b, c⟩ := bare_struct h1
    refine .inr (.inr (.inr ⟨s4, ?_⟩))
    cases hh : q.has with
    | false => exact .inl ⟨rfl, c hh⟩
    | true => rw [hh] at h2; exact .inr ⟨rfl, a, b, by simpa using h2⟩
  rw [if_neg s4] at h2
  cases h2
theorem kidOk_parts {ss : List CRec} {es : List SCho} {room k : Nat} {ref lists : Int} {q : PV} (h : kidOk ss es room k ref lists q = true) : ∃ r, room = r + 1 ∧ (sortP k lists = 4 → q.has = true) ∧ fitsP ss es r k ref lists q = true := by
  unfold kidOk at h
  simp only [Bool.and_eq_true, Bool.not_eq_true', decide_eq_false_iff_not, Bool.and_eq_false_iff] at h
  obtain ⟨h1, h2, h3⟩ := h
  obtain ⟨r, rfl⟩ : ∃ r, room = r + 1 := ⟨room - 1, by omega⟩
  refine ⟨r, rfl, fun h4 => ?_, h3⟩
  rcases h2 with h2 | h2
  · exact absurd h4 h2
  · simpa using h2
end Go.Proofs.YtiknhkkeifemcaaGreatDoor
namespace Go.Proofs.YtiknhkkeifemcaaGreatDoor
open Go.ChangeShapes Go.WideShapes Go.ChangeAt Go.RowKit Go.Shelf

theorem SmallV.kids {x : PV} (h : SmallV x) : x.bytes.length ≤ 100 ∧ x.kids.length ≤ 100 ∧ ∀ q ∈ x.kids, SmallV q := by
  cases h with
  | mk n bs ks h hb hk hs => exact ⟨hb, hk, hs⟩
theorem SmallV.kid {x : PV} (h : SmallV x) (i : Int) : SmallV (kidP x i) := by
  by_cases h0 : 0 ≤ i ∧ i < (x.kids.length : Int)
  · obtain ⟨j, rfl⟩ := Int.eq_ofNat_of_zero_le h0.1
    rw [kidP_at x j (by omega)]
    exact h.kids.2.2 _ (List.getElem_mem _)
  · rw [kidP_no x i h0]
    exact smallV_nil
end Go.Proofs.YtiknhkkeifemcaaGreatDoor
namespace Go.Proofs.YtiknhkkeifemcaaGreatDoor
open Go.ChangeShapes Go.WideShapes Go.ChangeAt Go.RowKit Go.Shelf

theorem made_schM {p : Plan} (hok : planOk p) (hn : PlanNums p) {ss : List (SRec × Value)} {es : List (SCho × Value)} (hss : ss.map Prod.fst = recsP p p.structs.length) (hes : es.map Prod.fst = chosP p p.enums.length) : SchM ss (es.map Prod.fst) := by
  have hl : ss.length = p.structs.length := by
    have := congrArg List.length hss
    rwa [List.length_map, recsP_length] at this
  have hel : (es.map Prod.fst).length = p.enums.length := by rw [hes, chosP_length]
  refine ⟨by rw [hl]; exact hok.2.1, fun x hx => ?_⟩
  have h1 : x.1 ∈ recsP p p.structs.length := by rw [← hss]; exact List.mem_map.2 ⟨x, hx, rfl⟩
  obtain ⟨i, hi, h2⟩ := List.mem_map.1 h1
  have hi' : i < p.structs.length := List.mem_range.1 hi
  have hgl : p.structs.getD i [] = p.structs[i] := by rw [List.getD, List.getElem?_eq_getElem hi', Option.getD_some]
  have hlen : x.1.fields.length = (p.structs.getD i []).length := by
    rw [← h2]
    exact fldsP_length _ _ _ _
  refine ⟨by rw [hlen, hgl]; exact (hok.2.2.2 _ (List.getElem_mem hi')).2, fun f hf => ?_⟩
  rw [← h2] at hf
  obtain ⟨k, hk, rfl⟩ := List.mem_map.1 (show f ∈ (List.range _).map _ from hf)
  have hk' := List.mem_range.1 hk
  generalize hq : (p.structs.getD i []).getD k noPF = q
  have hqd : (q.dflt : Int) ≤ 18446744073709551615 := by rw [← hq]; exact hn i hi' k hk'
  have hkl := kindP_le p i q
  have hen : kindP p i q = 10 → refP p i q < (es.map Prod.fst).length ∧ 1 ≤ cntE (es.map Prod.fst) (refP p i q) ∧ cntE (es.map Prod.fst) (refP p i q) = cntOf p (refP p i q) := fun h => by
    obtain ⟨h0, hr⟩ := kind_enum h
    have hlt : refP p i q < p.enums.length := by rw [hr]; exact Nat.mod_lt _ (by omega)
    have hc : cntE (es.map Prod.fst) (refP p i q) = cntOf p (refP p i q) := by
      unfold cntE
      rw [hes, List.getD]
      unfold chosP
      rw [List.getElem?_map, List.getElem?_range hlt]
      simp [choP]
    exact ⟨by rw [hel]; exact hlt, by rw [hc]; unfold cntOf; omega, hc⟩
  have hty : TyM ss.length (es.map Prod.fst) (kindP p i q) (refP p i q) (q.lists % 4) := ⟨hkl.1, hkl.2, by omega, fun h => ⟨(hen h).1, (hen h).2.1⟩, fun h => by rw [hl]; exact refP_struct hi' h⟩
  refine ⟨hty, ?_, fun h0 h10 => ?_⟩
  · show ((if _ then numP _ _ _ else 0 : Nat) : Int) ≤ _
    split
    · exact numP_max _ _ _ hqd
    · decide
  · have h0' : q.lists % 4 = 0 := h0
    have hin : isNumP (kindP p i q) (q.lists % 4) = true := by
      unfold isNumP
      rw [h0', decide_eq_true (k_size hkl.1 h10)]
      rfl
    show fitsT (es.map Prod.fst) (kindP p i q) (refP p i q) 0 (if isNumP (kindP p i q) (q.lists % 4) = true then numP (cntOf p (refP p i q)) (kindP p i q) q.dflt else 0) = true
    rw [if_pos hin]
    have hnt : NumTy (es.map Prod.fst) (kindP p i q) (refP p i q) := ⟨hkl.1, h10, fun h => ⟨(hen h).1, (hen h).2.1⟩⟩
    have hf := num_fits hnt (n := q.dflt) (by omega)
    by_cases hk10 : kindP p i q = 10
    · rwa [(hen hk10).2.2] at hf
    · have he : numP (cntOf p (refP p i q)) (kindP p i q) q.dflt = numP (cntE (es.map Prod.fst) (refP p i q)) (kindP p i q) q.dflt := by
        unfold numP
        rw [if_neg hk10, if_neg hk10]
      rw [he]
      exact hf
end Go.Proofs.YtiknhkkeifemcaaGreatDoor
namespace Go.Proofs.YtiknhkkeifemcaaGreatDoor
open Go.ChangeShapes Go.WideShapes Go.ChangeAt Go.RowKit Go.Shelf

set_option maxRecDepth 100000 in
set_option maxHeartbeats 8000000 in
theorem hval_num (k r left : Nat) {d fk : Nat} {fr fl : Int} {nm : ByteArray} {sure : Bool} {b g i bc : Nat} {a : Option Addr} {bs : List Int} {ss : List (SRec × Value)} {es : List (SCho × Value)} {sv ev : Value} {root : Int} {w : World} (ht : NumTy (es.map Prod.fst) k r) (hd : (d : Int) ≤ 18446744073709551615) (hdf : fitsT (es.map Prod.fst) k r 0 d = true) (hs : Src g a bs bc w i) (hg : ∀ W, Exc g w.heap.size w W → SchRows b W ss es sv ev) :
    Calls Tryz.prog 44 #[.agg #[sv, ev, .int .i64 root], .agg #[.int .u8 k, .int .i64 r, .int .i64 0], .pointer (some ⟨g, 0, none⟩), .int .i64 left, .agg #[.string nm, .int .u8 fk, .int .i64 fr, .int .i64 fl, .int .u64 d], .bool sure] w (ValPost g a bs bc i w ((crow ss).map Prod.fst) (es.map Prod.fst) left k r 0 sure) := by
  have hlo := ht.lo
  have hhi := ht.hi
  have HT := Lib.hid ht
  have HD := Lib.hid hd
  have HDF := Lib.hid hdf
  clear ht hd hdf
  obtain ⟨h0, h1, h2, h3, h4, h5, h6⟩ := five_blk w #[sv, ev, .int .i64 root] #[.int .u8 k, .int .i64 r, .int .i64 0] #[.string nm, .int .u8 fk, .int .i64 fr, .int .i64 fl, .int .u64 d] #[.int .u64 0, .slice none 0 0, .slice none 0 0, .bool false] #[.int .u64 0, .slice none 0 0, .slice none 0 0, .bool false] 30 47 60 40 40
  have HGL := Lib.hid (blk_lt hs.blk)
  have HS0 := Lib.hid hs
  have HS := Lib.hid (hs.below h0)
  have HG := Lib.hid hg
  have HB := Lib.hid h0
  have Q1 := Lib.hid h1
  have Q2 := Lib.hid h2
  have Q3 := Lib.hid h3
  have Q4 := Lib.hid h4
  have Q5 := Lib.hid h5
  have HSZ := Lib.hid h6
  clear h0 h1 h2 h3 h4 h5 h6 hs hg
  go_enter Tryz.func44, Tryz.ntmps44
  go_upto_region 2 with (fail)
  generalize (((((w.alloc (.cells #[sv, ev, .int .i64 root] 30)).alloc (.cells #[.int .u8 k, .int .i64 r, .int .i64 0] 47)).alloc (.cells #[.string nm, .int .u8 fk, .int .i64 fr, .int .i64 fl, .int .u64 d] 60)).alloc (.cells #[.int .u64 0, .slice none 0 0, .slice none 0 0, .bool false] 40)).alloc (.cells #[.int .u64 0, .slice none 0 0, .slice none 0 0, .bool false] 40)) = W0 at *
  go_wp2_with fail
  refine (next_any g a bs bc i W0 HS.out).mono ?_
  rintro e W1 ⟨c, i1, rfl, hc, hi1, hs1, hx1⟩
  have hgl := HGL.out
  have HS1 := Lib.hid hs1
  have HX1 := Lib.hid ((Exc.of_below HB.out).thenB (Nat.le_refl _) hx1)
  have HB1 := Lib.hid (Nat.le_trans (Nat.le_of_eq HSZ.out) hx1.size)
  have R1 := Lib.hid (blk_exc Q1.out hx1 (blk_lt Q1.out) (by omega))
  have R2 := Lib.hid (blk_exc Q2.out hx1 (blk_lt Q2.out) (by omega))
  have R3 := Lib.hid (blk_exc Q3.out hx1 (blk_lt Q3.out) (by omega))
  have R4 := Lib.hid (blk_exc Q4.out hx1 (blk_lt Q4.out) (by omega))
  have R5 := Lib.hid (blk_exc Q5.out hx1 (blk_lt Q5.out) (by omega))
  clear hs1 hx1 HS Q1 Q2 Q3 Q4 Q5 HSZ HB hgl
  have hk13 : ((k : Int) == 13) = false := by simp; omega
  obtain ⟨_, s0, s1, s2, _⟩ := blk3 R1.out
  obtain ⟨_, t0, t1, t2, _⟩ := blk3 R2.out
  obtain ⟨_, f0, f1, f2, f3, f4⟩ := blk5 R3.out
  have hin : isNumP k 0 = true := by
    have hk : k = 1 ∨ k = 2 ∨ k = 3 ∨ k = 4 ∨ k = 5 ∨ k = 6 ∨ k = 7 ∨ k = 8 ∨ k = 9 ∨ k = 10 := by omega
    rcases hk with rfl | rfl | rfl | rfl | rfl | rfl | rfl | rfl | rfl | rfl <;> decide
  go_wp2_with fail
  refine (isnum_any k r 0 W1 (by omega)).mono ?_
  rintro e W2 ⟨rfl, hb2⟩
  rw [hin]
  have HS2 := Lib.hid (HS1.out.below hb2)
  have HX2 := Lib.hid (HX1.out.bel (Nat.le_refl _) hb2)
  have R12 := Lib.hid (blk_below R1.out hb2 (blk_lt R1.out))
  have R22 := Lib.hid (blk_below R2.out hb2 (blk_lt R2.out))
  have R32 := Lib.hid (blk_below R3.out hb2 (blk_lt R3.out))
  have R42 := Lib.hid (blk_below R4.out hb2 (blk_lt R4.out))
  have R52 := Lib.hid (blk_below R5.out hb2 (blk_lt R5.out))
  clear hb2 hin s0 s1 s2 t0 t1 t2 f0 f1 f2 f3 f4 R1 R2 R3 R4 R5 HS1 HX1
  obtain ⟨_, s0, s1, s2, _⟩ := blk3 R12.out
  obtain ⟨_, t0, t1, t2, _⟩ := blk3 R22.out
  obtain ⟨_, f0, f1, f2, f3, f4⟩ := blk5 R32.out
  go_wp2_with fail
  refine (hnumb_any k r c d fk fr fl nm root W2 HT.out HS2.out (fun W hW => HG.out W (HX2.out.thenB (Nat.le_refl _) hW)) hc HD.out HDF.out).mono ?_
  rintro e W3 ⟨z, i3, rfl, hz, hfz, hi3, hs3, hx3⟩
  have hgl := HGL.out
  have HS3 := Lib.hid hs3
  have HFZ := Lib.hid hfz
  have HX3 := Lib.hid (HX2.out.thenB (Nat.le_refl _) hx3)
  have R43 := Lib.hid (blk_exc R42.out hx3 (blk_lt R42.out) (by omega))
  have R53 := Lib.hid (blk_exc R52.out hx3 (blk_lt R52.out) (by omega))
  clear s0 s1 s2 t0 t1 t2 f0 f1 f2 f3 f4 hs3 hx3 R12 R22 R32 R42 R52 hfz hgl
  obtain ⟨_, u0, u1, u2, u3⟩ := blk4p R43.out
  obtain ⟨_, v0, v1, v2, v3⟩ := blk4p R53.out
  have p0 := blk_frozen R43.out 0
  have p1 := blk_frozen R43.out 1
  have p2 := blk_frozen R43.out 2
  have p3 := blk_frozen R43.out 3
  have q0 := blk_frozen R53.out 0
  go_wp2
  refine post_gen (fun Wf => Wf.heap[w.heap.size + 1 + 1 + 1]? = some (.cells #[.int .u64 z, .slice none 0 0, .slice none 0 0, .bool false] 40 (0, 0)) ∧ Exc g w.heap.size w Wf ∧ Src g a bs bc Wf i3) ⟨?_, ?_, ?_⟩ ?_
  · exact blk_set4 (blk_set_ne R43.out (by simp) _) _ _ _ _
  · exact exc_puts HX3.out (Nat.le_succ_of_le (Nat.le_succ_of_le (Nat.le_succ _))) (by omega) _ _ _ _ _ _
  · have hgl := HGL.out
    exact HS0.out.at (exc_puts HX3.out (Nat.le_succ_of_le (Nat.le_succ_of_le (Nat.le_succ _))) (by omega) _ _ _ _ _ _) HS3.out (puts_blk _ (by omega) (by omega) _ _ _ _ _ _)
  · rintro Wf ⟨e1, e2, e3⟩
    obtain ⟨_, d0, d1, d2, d3⟩ := blk4p e1
    exact bodyPost_ret (v := .agg #[.int .u64 z, .slice none 0 0, .slice none 0 0, .bool false]) (by simp [results, Tryz.results44, go_sem, d0, d1, d2, d3]) rfl ⟨numV z, _, i3, rfl, vh_num _ _ z hz, ⟨fits_num (k_size hlo hhi) HFZ.out, sw_num z⟩, fun h => by omega, by omega, e3, e2⟩
end Go.Proofs.YtiknhkkeifemcaaGreatDoor
