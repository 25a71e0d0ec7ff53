/-
  The library's Clone of bytes; a view's bytes. Conditions: those that each theorem names.
-/
import Derived.Test.YtiknhkkeifemcaaGreatDoorPkN14
import Derived.Test.YtiknhkkeifemcaaGreatDoorPkN19
import Derived.Test.YtiknhkkeifemcaaGreatDoorPkN27
namespace Go.Proofs.YtiknhkkeifemcaaGreatDoor
open Go.ChangeShapes Go.WideShapes Go.ChangeAt Go.RowKit Go.Shelf

theorem VH.formH {S : Nat → Bool} {w : World} {v : PV} {val : Value} (h : VH S w v val) : ∃ (ba ka : Option Addr) (bc kc : Nat), val = .agg #[.int .u64 v.num, .slice ba v.bytes.length bc, .slice ka v.kids.length kc, .bool v.has] ∧ v.num ≤ 18446744073709551615 ∧ Bytes w ba v.bytes ∧ v.bytes.length ≤ bc ∧ (v.bytes.length : Int) ≤ 9223372036854775807 ∧ v.kids.length ≤ kc ∧ (v.kids.length : Int) ≤ 9223372036854775807 ∧
    ∀ i (hi : i < v.kids.length), ∃ (kb ko : Nat) (u0 u1 u2 u3 : Value), ka = some ⟨kb, ko, none⟩ ∧ w.cell? ⟨kb, ko + i * 4, none⟩ = some u0 ∧ w.cell? ⟨kb, ko + i * 4 + 1, none⟩ = some u1 ∧ w.cell? ⟨kb, ko + i * 4 + 2, none⟩ = some u2 ∧ w.cell? ⟨kb, ko + i * 4 + 3, none⟩ = some u3 ∧ VH S w (v.kids[i]'hi) (.agg #[u0, u1, u2, u3]) := by
  obtain ⟨ba, ka, bc, kc, h1, h2, h3, h4, h5, h6, h7, h8⟩ := IsV.form h
  refine ⟨ba, ka, bc, kc, h1, h2, h3.mono (Nat.le_of_eq (hide_size S w)) (fun _ _ h => (hide_some h).2), h4, h5, h6, h7, fun i hi => ?_⟩
  obtain ⟨kb, ko, u0, u1, u2, u3, e0, e1, e2, e3, e4, e5⟩ := h8 i hi
  exact ⟨kb, ko, u0, u1, u2, u3, e0, (hide_some e1).2, (hide_some e2).2, (hide_some e3).2, (hide_some e4).2, e5⟩
set_option maxHeartbeats 4000000 in
theorem kid_vh {S : Nat → Bool} (w : World) (x : PV) (val : Value) (hx : VH S w x val) (i : Int) :
    Calls Tryz.prog 263 #[val, .int .i64 i] w fun e w' => (∃ kv, e = .returned kv ∧ VH S w' (kidP x i) kv) ∧ Below w.heap.size w w' := by
  have HX := Lib.hid hx
  obtain ⟨ba, ka, bc, kc, rfl, hn, hby, hbl, hbm, hkl, hkm, hks⟩ := hx.formH
  obtain ⟨hb, hq1, hq2⟩ := two_start w #[.int .u64 x.num, .slice ba x.bytes.length bc, .slice ka x.kids.length kc, .bool x.has] #[.int .u64 0, .slice none 0 0, .slice none 0 0, .bool false] 116 116
  have HB := Lib.hid hb
  have HQ2 := Lib.hid hq2
  obtain ⟨_, s0, s1, s2, s3⟩ := blk4p hq1
  obtain ⟨_, z0, z1, z2, z3⟩ := blk4p hq2
  have z4 := blk_frozen hq2 0
  have z5 := blk_frozen hq2 1
  have z6 := blk_frozen hq2 2
  have z7 := blk_frozen hq2 3
  clear hq1 hq2 hby hn hbl hbm hx
  by_cases h0 : i < 0
  · have HK := Lib.hid (kidP_no x i (by omega))
    clear hks hb
    go_enter Tryz.func263, Tryz.ntmps263
    go_upto_region 1 with (fail)
    generalize (w.alloc (.cells #[.int .u64 x.num, .slice ba x.bytes.length bc, .slice ka x.kids.length kc, .bool x.has] 116)).alloc (.cells #[.int .u64 0, .slice none 0 0, .slice none 0 0, .bool false] 116) = W0 at *
    go_wp2
    refine post_gen (fun Wf => Wf.heap[w.heap.size + 1]? = some (.cells #[.int .u64 0, .slice none 0 0, .slice none 0 0, .bool false] 116 (0, 0)) ∧ Below w.heap.size w Wf) ⟨?_, ?_⟩ ?_
    · exact blk_set4 HQ2.out _ _ _ _
    · exact below_set4 HB.out (Nat.le_succ _) _ _ _ _
    · rintro Wf ⟨e1, e2⟩
      obtain ⟨_, d0, d1, d2, d3⟩ := blk4p e1
      exact bodyPost_ret (v := .agg #[.int .u64 0, .slice none 0 0, .slice none 0 0, .bool false]) (by simp [results, Tryz.results263, go_sem, d0, d1, d2, d3]) rfl ⟨⟨_, rfl, by rw [HK.out]; exact vh_nil S _⟩, e2⟩
  · obtain ⟨j, rfl⟩ := Int.eq_ofNat_of_zero_le (by omega : 0 ≤ i)
    by_cases h1 : x.kids.length ≤ j
    · have t1 : (x.kids.length : Int) ≤ (j : Int) := by omega
      have HK := Lib.hid (kidP_no x j (by omega))
      clear hks hb
      go_enter Tryz.func263, Tryz.ntmps263
      go_upto_region 1 with (fail)
      generalize (w.alloc (.cells #[.int .u64 x.num, .slice ba x.bytes.length bc, .slice ka x.kids.length kc, .bool x.has] 116)).alloc (.cells #[.int .u64 0, .slice none 0 0, .slice none 0 0, .bool false] 116) = W0 at *
      go_wp2
      refine post_gen (fun Wf => Wf.heap[w.heap.size + 1]? = some (.cells #[.int .u64 0, .slice none 0 0, .slice none 0 0, .bool false] 116 (0, 0)) ∧ Below w.heap.size w Wf) ⟨?_, ?_⟩ ?_
      · exact blk_set4 HQ2.out _ _ _ _
      · exact below_set4 HB.out (Nat.le_succ _) _ _ _ _
      · rintro Wf ⟨e1, e2⟩
        obtain ⟨_, d0, d1, d2, d3⟩ := blk4p e1
        exact bodyPost_ret (v := .agg #[.int .u64 0, .slice none 0 0, .slice none 0 0, .bool false]) (by simp [results, Tryz.results263, go_sem, d0, d1, d2, d3]) rfl ⟨⟨_, rfl, by rw [HK.out]; exact vh_nil S _⟩, e2⟩
    · have t1 : ¬ (x.kids.length : Int) ≤ (j : Int) := by omega
      have hjl : j < x.kids.length := by omega
      have hji : (j : Int) < x.kids.length := by omega
      have hji0 : (0 : Int) ≤ (j : Int) := by omega
      have HK := Lib.hid (kidP_at x j hjl)
      obtain ⟨kb, ko, u0, u1, u2, u3, rfl, c0, c1, c2, c3, hiv⟩ := hks j hjl
      have HIV := Lib.hid hiv
      obtain ⟨q, hq⟩ : ∃ q, x.kids[j] = q := ⟨_, rfl⟩
      rw [hq] at HIV HK
      obtain ⟨ba', qa, bc', qc, hval, _⟩ := HIV.out.formH
      obtain ⟨rfl, rfl, rfl, rfl⟩ := agg4_inj hval
      have g0 := cell_stays hb c0
      have g1 := cell_stays hb c1
      have g2 := cell_stays hb c2
      have g3 := cell_stays hb c3
      clear hks c0 c1 c2 c3 hiv hb hq hval
      go_enter Tryz.func263, Tryz.ntmps263
      go_upto_region 1 with (fail)
      generalize (w.alloc (.cells #[.int .u64 x.num, .slice ba x.bytes.length bc, .slice (some ⟨kb, ko, none⟩) x.kids.length kc, .bool x.has] 116)).alloc (.cells #[.int .u64 0, .slice none 0 0, .slice none 0 0, .bool false] 116) = W0 at *
      go_wp2
      refine post_gen (fun Wf => Wf.heap[w.heap.size + 1]? = some (.cells #[.int .u64 q.num, .slice ba' q.bytes.length bc', .slice qa q.kids.length qc, .bool q.has] 116 (0, 0)) ∧ Below w.heap.size w Wf) ⟨?_, ?_⟩ ?_
      · exact blk_set4 HQ2.out _ _ _ _
      · exact below_set4 HB.out (Nat.le_succ _) _ _ _ _
      · rintro Wf ⟨e1, e2⟩
        obtain ⟨_, d0, d1, d2, d3⟩ := blk4p e1
        exact bodyPost_ret (v := .agg #[.int .u64 q.num, .slice ba' q.bytes.length bc', .slice qa q.kids.length qc, .bool q.has]) (by simp [results, Tryz.results263, go_sem, d0, d1, d2, d3]) rfl ⟨⟨_, rfl, by rw [HK.out]; exact HIV.out.below e2⟩, e2⟩
set_option maxRecDepth 100000 in
set_option maxHeartbeats 4000000 in
theorem vlistof_vh {S : Nat → Bool} (w : World) (x : PV) (val : Value) (hx : VH S w x val) (i : Int) :
    Calls Tryz.prog 261 #[val, .int .i64 i] w fun e w' => (∃ kv, e = .returned (itemsI kv) ∧ VH S w' (kidP x i) kv) ∧ Below w.heap.size w w' := by
  have HX := Lib.hid hx
  obtain ⟨ba, ka, bc, kc, rfl, hn, hby, hbl, hbm, hkl, hkm, hks⟩ := hx.formH
  have hb := (Below.refl w.heap.size w).alloc (Nat.le_refl _) (.cells #[.int .u64 x.num, .slice ba x.bytes.length bc, .slice ka x.kids.length kc, .bool x.has] 116)
  have HB := Lib.hid hb
  obtain ⟨_, s0, s1, s2, s3⟩ := blk4p (heap_alloc_new w (.cells #[.int .u64 x.num, .slice ba x.bytes.length bc, .slice ka x.kids.length kc, .bool x.has] 116))
  have HK := Lib.hid (kid_vh _ x _ (hx.below hb) i)
  clear hb hby hks hx HX hn hbl hbm hkl hkm
  generalize kidP x i = q at *
  go_enter Tryz.func261, Tryz.ntmps261
  go_upto_region 1 with (fail)
  generalize w.alloc (.cells #[.int .u64 x.num, .slice ba x.bytes.length bc, .slice ka x.kids.length kc, .bool x.has] 116) = W0 at *
  go_wp2_with fail
  refine HK.out.mono ?_
  rintro e W1 ⟨⟨kv, rfl, hkv⟩, hb1⟩
  have HB1 := Lib.hid (HB.out.trans (hb1.mono HB.out.size))
  have HKV := Lib.hid hkv
  obtain ⟨ba', ka', bc', kc', rfl, _⟩ := hkv.formH
  clear hb1 s0 s1 s2 s3 HK
  go_wp2
  go_ret
  exact ⟨⟨_, rfl, HKV.out⟩, HB1.out⟩
set_option maxRecDepth 100000 in
set_option maxHeartbeats 4000000 in
theorem velem_vh {S : Nat → Bool} (w : World) (x : PV) (val : Value) (hx : VH S w x val) (i : Int) :
    Calls Tryz.prog 282 #[val, .int .i64 i] w fun e w' => (∃ kv, e = .returned (viewI kv) ∧ VH S w' (kidP x i) kv) ∧ Below w.heap.size w w' := by
  have HX := Lib.hid hx
  obtain ⟨ba, ka, bc, kc, rfl, hn, hby, hbl, hbm, hkl, hkm, hks⟩ := hx.formH
  have hb := (Below.refl w.heap.size w).alloc (Nat.le_refl _) (.cells #[.int .u64 x.num, .slice ba x.bytes.length bc, .slice ka x.kids.length kc, .bool x.has] 326)
  have HB := Lib.hid hb
  obtain ⟨_, s0, s1, s2, s3⟩ := blk4p (heap_alloc_new w (.cells #[.int .u64 x.num, .slice ba x.bytes.length bc, .slice ka x.kids.length kc, .bool x.has] 326))
  have HK := Lib.hid (kid_vh _ x _ (hx.below hb) i)
  clear hb hby hks hx HX hn hbl hbm hkl hkm
  generalize kidP x i = q at *
  go_enter Tryz.func282, Tryz.ntmps282
  go_upto_region 1 with (fail)
  generalize w.alloc (.cells #[.int .u64 x.num, .slice ba x.bytes.length bc, .slice ka x.kids.length kc, .bool x.has] 326) = W0 at *
  go_wp2_with fail
  refine HK.out.mono ?_
  rintro e W1 ⟨⟨kv, rfl, hkv⟩, hb1⟩
  have HB1 := Lib.hid (HB.out.trans (hb1.mono HB.out.size))
  have HKV := Lib.hid hkv
  obtain ⟨ba', ka', bc', kc', rfl, _⟩ := hkv.formH
  clear hb1 s0 s1 s2 s3 HK
  go_wp2
  go_ret
  exact ⟨⟨_, rfl, HKV.out⟩, HB1.out⟩
set_option maxRecDepth 100000 in
set_option maxHeartbeats 4000000 in
theorem vsub_vh {S : Nat → Bool} (w : World) (x : PV) (val : Value) (hx : VH S w x val) (i : Int) :
    Calls Tryz.prog 264 #[val, .int .i64 i] w fun e w' => ((∃ kv, e = .returned (.tuple #[viewI kv, .bool true]) ∧ (kidP x i).has = true ∧ VH S w' (kidP x i) kv) ∨ (e = .returned (.tuple #[.nilIface, .bool false]) ∧ (kidP x i).has = false)) ∧ Below w.heap.size w w' := by
  have HX := Lib.hid hx
  obtain ⟨ba, ka, bc, kc, rfl, hn, hby, hbl, hbm, hkl, hkm, hks⟩ := hx.formH
  have hb := (Below.refl w.heap.size w).alloc (Nat.le_refl _) (.cells #[.int .u64 x.num, .slice ba x.bytes.length bc, .slice ka x.kids.length kc, .bool x.has] 118)
  have HB := Lib.hid hb
  obtain ⟨_, s0, s1, s2, s3⟩ := blk4p (heap_alloc_new w (.cells #[.int .u64 x.num, .slice ba x.bytes.length bc, .slice ka x.kids.length kc, .bool x.has] 118))
  have HK := Lib.hid (kid_vh _ x _ (hx.below hb) i)
  clear hb hby hks hx HX hn hbl hbm hkl hkm
  generalize kidP x i = q at *
  go_enter Tryz.func264, Tryz.ntmps264
  go_upto_region 1 with (fail)
  generalize w.alloc (.cells #[.int .u64 x.num, .slice ba x.bytes.length bc, .slice ka x.kids.length kc, .bool x.has] 118) = W0 at *
  go_wp2_with fail
  refine HK.out.mono ?_
  rintro e W1 ⟨⟨kv, rfl, hkv⟩, hb1⟩
  have HB1 := Lib.hid (HB.out.trans (hb1.mono HB.out.size))
  have HKV := Lib.hid hkv
  obtain ⟨ba', ka', bc', kc', rfl, _⟩ := hkv.formH
  clear hb1 hkv s0 s1 s2 s3 HK
  go_upto_region 2 with (fail)
  have hba := (Below.refl W1.heap.size W1).alloc (Nat.le_refl _) (.cells #[.int .u64 q.num, .slice ba' q.bytes.length bc', .slice ka' q.kids.length kc', .bool q.has] 116)
  have HB2 := Lib.hid (HB1.out.trans (hba.mono HB1.out.size))
  obtain ⟨_, y0, y1, y2, y3⟩ := blk4p (heap_alloc_new W1 (.cells #[.int .u64 q.num, .slice ba' q.bytes.length bc', .slice ka' q.kids.length kc', .bool q.has] 116))
  have HKV2 := Lib.hid (HKV.out.below hba)
  clear hba HKV
  generalize W1.alloc (.cells #[.int .u64 q.num, .slice ba' q.bytes.length bc', .slice ka' q.kids.length kc', .bool q.has] 116) = W2 at *
  obtain ⟨qh, hqh⟩ : ∃ h, q.has = h := ⟨_, rfl⟩
  rw [hqh] at y3
  cases qh with
  | false =>
    go_wp2
    go_ret2
    exact ⟨.inr ⟨rfl, hqh⟩, HB2.out⟩
  | true =>
    go_wp2
    go_ret2
    exact ⟨.inl ⟨_, rfl, hqh, by have h := HKV2.out; rwa [hqh] at h⟩, HB2.out⟩
end Go.Proofs.YtiknhkkeifemcaaGreatDoor
namespace Go.Proofs.YtiknhkkeifemcaaGreatDoor
open Go.ChangeShapes Go.WideShapes Go.ChangeAt Go.RowKit Go.Shelf
theorem src_bytes {W W' : World} {a : Option Addr} {zs : List Int} (h : Bytes W a zs) (hw : ∀ p x, W.cell? p = some x → W'.cell? p = some x) (c : Nat) : Go.Src Tryz.prog 1 22 (.slice a zs.length c) zs.length (u8Cells zs) W' := by
  have hl : (u8Cells zs).length = zs.length * 1 := by simp [u8Cells]
  have h1 : ∀ u ∈ u8Cells zs, u.oneCell' = true := fun u hu => by
    obtain ⟨z, _, rfl⟩ := List.mem_map.1 hu
    rfl
  cases a with
  | none =>
    have : zs = [] := by
      rcases h0 : zs with _ | ⟨z, t⟩
      · rfl
      · obtain ⟨b, off, e, _⟩ := h.2 (by rw [h0]; exact List.cons_ne_nil _ _)
        cases e
    subst this
    exact Go.Src.ofNil W' Tryz.underlying22 c
  | some p =>
    refine Go.Src.ofSlice W' Tryz.underlying22 p zs.length c _ hl (fun j u hu => ?_) h1
    have hj : j < zs.length := by
      have := (List.getElem?_eq_some_iff.1 hu).1
      simpa [u8Cells] using this
    obtain ⟨b, off, e, hlt, hc⟩ := h.2 (fun h0 => by rw [h0] at hj; exact Nat.not_lt_zero _ hj)
    injection e with e
    subst e
    refine hw _ _ ?_
    rw [Addr.add_lit, hc j hj, ← hu]
    simp [u8Cells, List.getElem?_map, List.getElem?_eq_getElem hj, List.getD]
def oldS (S : Nat → Bool) (B T : Nat) : Nat → Bool := fun k => S k || decide (B ≤ k ∧ k < T)
theorem oldS_no {S : Nat → Bool} {B T k : Nat} : oldS S B T k = false ↔ S k = false ∧ ¬ (B ≤ k ∧ k < T) := by
  unfold oldS
  rw [Bool.or_eq_false_iff, decide_eq_false_iff_not]
theorem KidsIn.old {S : Nat → Bool} {w W : World} {l : List KV} (h : KidsIn S w l) (hb : Below w.heap.size w W) (T : Nat) : KidsIn (oldS S w.heap.size T) W l :=
  h.step hb.size (fun k hk hs => ⟨oldS_no.2 ⟨hs, by omega⟩, hb.block k hk⟩)
end Go.Proofs.YtiknhkkeifemcaaGreatDoor
namespace Go.Proofs.YtiknhkkeifemcaaGreatDoor
open Go.ChangeShapes Go.WideShapes Go.ChangeAt Go.RowKit Go.Shelf
theorem u8_info4 : (Tryz.prog.info? 5).map (fun i => (i.zero, i.size, i.bytes)) = some (some (.int .u8 0), 1, 1) := by kernel_rfl
end Go.Proofs.YtiknhkkeifemcaaGreatDoor
namespace Go.Proofs.YtiknhkkeifemcaaGreatDoor
open Go.ChangeShapes Go.WideShapes Go.ChangeAt Go.RowKit Go.Shelf

theorem nil_yes (c : Nat) (W : World) : (binOp .eql 22 (.slice none 0 c) (.slice none 0 0)).run Tryz.prog W = .ok (.bool true) W := by kernel_rfl
theorem nil_no (q : Addr) (n c : Nat) (W : World) : (binOp .eql 22 (.slice (some q) n c) (.slice none 0 0)).run Tryz.prog W = .ok (.bool false) W := by kernel_rfl
set_option maxRecDepth 100000 in
set_option maxHeartbeats 8000000 in
theorem bclone_any (w : World) (p : Option Addr) (zs : List Int) (c : Nat) (h : Bytes w p zs) (hl : zs.length ≤ 1000000) :
    Calls Tryz.prog 123 #[.slice p zs.length c] w fun e w' => (∃ v, e = .returned v ∧ w'.ownsRow w.heap.size 5 1 v zs.length (u8Cells zs)) ∧ Below w.heap.size w w' := by
  have HBB := Lib.hid h
  cases p with
  | none =>
    have hz : zs = [] := by
      rcases h0 : zs with _ | ⟨z, t⟩
      · rfl
      · obtain ⟨b, o, hh, _⟩ := h.2 (by rw [h0]; exact List.cons_ne_nil _ _)
        cases hh
    subst hz
    clear h HBB
    have e0 := nil_yes c
    go_enter Tryz.func123, Tryz.ntmps123
    go_wp2
    go_ret
    exact ⟨⟨_, rfl, World.ownsRow_nil _ _ _ _⟩, Below.refl _ _⟩
  | some q =>
    clear h
    have e0 := nil_no q zs.length c
    go_enter Tryz.func123, Tryz.ntmps123
    have HOWN0 := Lib.hid (own_blk (base := w.heap.size) (n := 0) (size := 1) (heap_alloc_new w (.cells #[] 5)) (Nat.le_refl _) (by decide) rfl)
    have HA0 := Lib.hid ((Below.refl w.heap.size w).alloc (Nat.le_refl _) (.cells #[] 5))
    have HSRC := Lib.hid (src_bytes HBB.out (fun p x hp => cell_stays HA0.out hp) c)
    obtain ⟨i0, hi0, hzz0, hzz1, hzz2⟩ := info_parts u8_info4
    have I1 := Lib.hid hi0
    have I2 := Lib.hid hzz0
    have I3 := Lib.hid hzz1
    have I4 := Lib.hid hzz2
    clear hi0 hzz0 hzz1 hzz2
    go_wp2_with (at_builtin; refine wpList_append_first _ rfl (.tmp 5) (.tmp 6) 22 22 rfl w.heap.size 5 i0 _ 1 Tryz.underlying22 I1.out I2.out I3.out rfl _ rfl HOWN0.out _ zs.length (u8Cells zs) rfl HSRC.out (by unfold maxLen; omega) (by rw [I4.out]; omega) (by simp) ?_; intro v4 W4 hown4 hg4 hat4; clear hat4; have HO4 := Lib.hid hown4; have HB4 := Lib.hid (HA0.out.grown hg4 (by simp) (fun k hk => (ownsRow_lt HOWN0.out k hk).1)); clear hown4 hg4)
    go_ret
    exact ⟨⟨_, rfl, HO4.out⟩, HB4.out⟩
set_option maxRecDepth 100000 in
set_option maxHeartbeats 4000000 in
theorem vbytes_any (w : World) (x : PV) (val : Value) (hx : IsV w x val) (i : Int) (hl : (kidP x i).bytes.length ≤ 1000000) :
    Calls Tryz.prog 260 #[val, .int .i64 i] w fun e w' => (∃ v, e = .returned v ∧ w'.ownsRow w.heap.size 5 1 v (kidP x i).bytes.length (u8Cells (kidP x i).bytes)) ∧ Below w.heap.size w w' := by
  have HX := Lib.hid hx
  have HL := Lib.hid hl
  obtain ⟨ba, ka, bc, kc, rfl, hn, hby, hbl, hbm, hkl, hkm, hks⟩ := hx.form
  have hb := (Below.refl w.heap.size w).alloc (Nat.le_refl _) (.cells #[.int .u64 x.num, .slice ba x.bytes.length bc, .slice ka x.kids.length kc, .bool x.has] 116)
  have HB := Lib.hid hb
  obtain ⟨_, s0, s1, s2, s3⟩ := blk4p (heap_alloc_new w (.cells #[.int .u64 x.num, .slice ba x.bytes.length bc, .slice ka x.kids.length kc, .bool x.has] 116))
  have HK := Lib.hid (kid_any _ x _ (hx.later hb) i)
  clear hb hby hks hx HX hn hbl hbm hkl hkm hl
  generalize kidP x i = q at *
  go_enter Tryz.func260, Tryz.ntmps260
  go_upto_region 1 with (fail)
  generalize w.alloc (.cells #[.int .u64 x.num, .slice ba x.bytes.length bc, .slice ka x.kids.length kc, .bool x.has] 116) = W0 at *
  go_wp2_with fail
  refine HK.out.mono ?_
  rintro e W1 ⟨⟨kv, rfl, hkv⟩, hb1⟩
  have HB1 := Lib.hid (HB.out.trans (hb1.mono HB.out.size))
  obtain ⟨ba', ka', bc', kc', rfl, _, hby1, _⟩ := hkv.form
  have HC := Lib.hid (bclone_any W1 ba' q.bytes bc' hby1 HL.out)
  clear hb1 hkv s0 s1 s2 s3 HK hby1
  have f0 := fldV
  have f1 := fldA1
  go_wp2_with fail
  refine HC.out.mono ?_
  rintro e W2 ⟨⟨v, rfl, ho⟩, hb2⟩
  have HO := Lib.hid (ownsRow_base ho HB1.out.size)
  have HB2 := Lib.hid (HB1.out.trans (hb2.mono HB1.out.size))
  clear ho hb2 HC
  go_wp2
  go_ret
  exact ⟨⟨_, rfl, HO.out⟩, HB2.out⟩
end Go.Proofs.YtiknhkkeifemcaaGreatDoor
