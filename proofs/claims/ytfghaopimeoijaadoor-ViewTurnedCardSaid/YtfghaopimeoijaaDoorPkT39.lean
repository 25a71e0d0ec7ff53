/-
  The law's turn, where it turns the value itself: way 0. Conditions: those that each theorem names.
-/
import Derived.Test.YtfghaopimeoijaaDoorPkT6
import Derived.Test.YtfghaopimeoijaaDoorPkT14
import Derived.Test.YtfghaopimeoijaaDoorPkT36
import Derived.BigQuiet
import Derived.Deep.RegionHeld3
import Derived.Deep.MidRow
namespace Go.Proofs.YtfghaopimeoijaaDoor
open Go.ChangeShapes Go.WideShapes Go.ChangeAt Go.RowKit Go.Shelf

theorem vh_mix {S : Nat → Bool} {W : World} {v1 v2 v3 v4 : PV} {a0 a1 a2 a3 b0 b1 b2 b3 c0 c1 c2 c3 d0 d1 d2 d3 : Value} (h1 : VH S W v1 (.agg #[a0, a1, a2, a3])) (h2 : VH S W v2 (.agg #[b0, b1, b2, b3])) (h3 : VH S W v3 (.agg #[c0, c1, c2, c3])) (h4 : VH S W v4 (.agg #[d0, d1, d2, d3])) :
    VH S W (.mk v1.num v2.bytes v3.kids v4.has) (.agg #[a0, b1, c2, d3]) := by
  obtain ⟨_, _, _, _, e1, hn, _⟩ := IsV.form h1
  obtain ⟨_, _, _, _, e2, _, hb, hbl, hbm, _⟩ := IsV.form h2
  obtain ⟨_, _, _, _, e4, _⟩ := IsV.form h4
  obtain ⟨rfl, _, _, _⟩ := agg4_inj e1
  obtain ⟨_, rfl, _, _⟩ := agg4_inj e2
  obtain ⟨_, _, _, rfl⟩ := agg4_inj e4
  unfold VH at h3
  generalize hc : Value.agg #[c0, c1, c2, c3] = cv at h3
  cases h3 with
  | mk n bs ks h ba ka bc kc kb ko f0 f1 f2 f3 hn3 hb3 hbl3 hbm3 hkl hkm hka hcc hk =>
    obtain ⟨_, _, rfl, _⟩ := agg4_inj hc
    exact .mk v1.num v2.bytes ks v4.has _ ka _ kc kb ko f0 f1 f2 f3 hn hb hbl hbm hkl hkm hka hcc hk
theorem vh_has (S : Nat → Bool) (W : World) (h : Bool) : VH S W (.mk 0 [] [] h) (.agg #[.int .u64 0, .slice none 0 0, .slice none 0 0, .bool h]) :=
  .mk 0 [] [] h none none 0 0 0 0 (fun _ => .bool false) (fun _ => .bool false) (fun _ => .bool false) (fun _ => .bool false) (by decide) (bytes_nil _) (Nat.le_refl _) (by decide) (Nat.le_refl _) (by decide) (fun h => absurd rfl h) (fun i hi => absurd hi (Nat.not_lt_zero i)) (fun i hi => absurd hi (Nat.not_lt_zero i))
theorem src_bytes {W W' : World} {a : Option Addr} {zs : List Int} (h : Bytes W a zs) (hw : ∀ p x, W.cell? p = some x → W'.cell? p = some x) (c : Nat) : Go.Src Tryd.prog 1 22 (.slice a zs.length c) zs.length (u8Cells zs) W' := by
  have hl : (u8Cells zs).length = zs.length * 1 := by simp [u8Cells]
  have h1 : ∀ u ∈ u8Cells zs, u.oneCell' = true := fun u hu => by
    obtain ⟨z, _, rfl⟩ := List.mem_map.1 hu
    rfl
  cases a with
  | none =>
    have : zs = [] := by
      rcases h0 : zs with _ | ⟨z, t⟩
      · rfl
      · obtain ⟨b, off, e, _⟩ := h.2 (by rw [h0]; exact List.cons_ne_nil _ _)
        cases e
    subst this
    exact Go.Src.ofNil W' Tryd.underlying22 c
  | some p =>
    refine Go.Src.ofSlice W' Tryd.underlying22 p zs.length c _ hl (fun j u hu => ?_) h1
    have hj : j < zs.length := by
      have := (List.getElem?_eq_some_iff.1 hu).1
      simpa [u8Cells] using this
    obtain ⟨b, off, e, hlt, hc⟩ := h.2 (fun h0 => by rw [h0] at hj; exact Nat.not_lt_zero _ hj)
    injection e with e
    subst e
    refine hw _ _ ?_
    rw [Addr.add_lit, hc j hj, ← hu]
    simp [u8Cells, List.getElem?_map, List.getElem?_eq_getElem hj, List.getD]
theorem kids_kv {S : Nat → Bool} {W : World} {v : PV} {a0 a1 a2 a3 : Value} (h : VH S W v (.agg #[a0, a1, a2, a3])) : ∃ (ka : Option Addr) (kc : Nat) (l : List KV), a2 = .slice ka v.kids.length kc ∧ v.kids.length ≤ kc ∧ l.map KV.v = v.kids ∧ KidsIn S W l ∧ (l ≠ [] → ∃ kb ko, ka = some ⟨kb, ko, none⟩ ∧ ∀ j u, (kvsCells l)[j]? = some u → (hideW S W).cell? ⟨kb, ko + j, none⟩ = some u) := by
  unfold VH at h
  generalize hc : Value.agg #[a0, a1, a2, a3] = cv at h
  cases h with
  | mk n bs ks h ba ka bc kc kb ko f0 f1 f2 f3 hn3 hb3 hbl3 hbm3 hkl hkm hka hcc hk =>
    obtain ⟨_, _, rfl, _⟩ := agg4_inj hc
    let l : List KV := (List.range ks.length).map fun i => ⟨ks.getD i nilV, f0 i, f1 i, f2 i, f3 i⟩
    have hll : l.length = ks.length := by simp [l]
    have hget : ∀ i (hi : i < ks.length), l[i]? = some ⟨ks[i], f0 i, f1 i, f2 i, f3 i⟩ := fun i hi => by
      simp only [l]
      rw [List.getElem?_map, List.getElem?_range hi]
      simp [List.getD, List.getElem?_eq_getElem hi]
    refine ⟨ka, kc, l, rfl, hkl, ?_, ?_, ?_⟩
    · apply List.ext_getElem?
      intro i
      rcases Nat.lt_or_ge i ks.length with hi | hi
      · rw [List.getElem?_map, hget i hi]
        exact (List.getElem?_eq_getElem hi).symm
      · rw [List.getElem?_eq_none (by rw [List.length_map, hll]; exact hi)]
        exact (List.getElem?_eq_none hi).symm
    · intro q hq
      obtain ⟨i, hi, rfl⟩ := List.getElem_of_mem hq
      have hi' : i < ks.length := by rw [← hll]; exact hi
      have := hget i hi'
      rw [List.getElem?_eq_getElem hi] at this
      rw [Option.some.inj this]
      exact hk i hi'
    · intro hne
      have h0 : ks.length ≠ 0 := by rw [← hll]; exact fun h => hne (List.eq_nil_of_length_eq_zero h)
      refine ⟨kb, ko, hka h0, fun j u hu => ?_⟩
      have hlen : (kvsCells l).length = l.length * 4 := by
        have e : ∀ l : List KV, (kvsCells l).length = l.length * 4 := fun l => by
          induction l with
          | nil => rfl
          | cons q t ih => show (kvCells q ++ kvsCells t).length = _; rw [List.length_append, ih, List.length_cons]; show 4 + _ = _; omega
        exact e l
      have hj := (List.getElem?_eq_some_iff.1 hu).1
      rw [hlen, hll] at hj
      obtain ⟨i, r, hr, rfl⟩ : ∃ i r, r < 4 ∧ j = i * 4 + r := ⟨j / 4, j % 4, Nat.mod_lt _ (by decide), by omega⟩
      have hi : i < l.length := by omega
      have hflat := flat_at kvCells 4 (fun _ => rfl) l i hi r hr
      have hq := hget i (by omega)
      rw [List.getElem?_eq_getElem hi] at hq
      rw [Option.some.inj hq] at hflat
      obtain ⟨k0, k1, k2, k3⟩ := hcc i (by omega)
      have e : (kvCells ⟨ks[i]'(by omega), f0 i, f1 i, f2 i, f3 i⟩)[r]? = some u := hflat.symm.trans hu
      have : r = 0 ∨ r = 1 ∨ r = 2 ∨ r = 3 := by omega
      rcases this with rfl | rfl | rfl | rfl
      · rw [← Option.some.inj e]; exact k0
      · rw [← Option.some.inj e]; exact k1
      · rw [← Option.some.inj e]; exact k2
      · rw [← Option.some.inj e]; exact k3
theorem src_kids {S : Nat → Bool} {W W' : World} {ka : Option Addr} {n kc : Nat} {l : List KV} (hl : l.length = n) (hk : KidsIn S W l) (h : l ≠ [] → ∃ kb ko, ka = some ⟨kb, ko, none⟩ ∧ ∀ j u, (kvsCells l)[j]? = some u → (hideW S W).cell? ⟨kb, ko + j, none⟩ = some u) (hw : ∀ p x, W.cell? p = some x → W'.cell? p = some x) :
    Go.Src Tryd.prog 4 34 (.slice ka n kc) n (kvsCells l) W' := by
  have hlen : ∀ l : List KV, (kvsCells l).length = l.length * 4 := fun l => by
    induction l with
    | nil => rfl
    | cons q t ih => show (kvCells q ++ kvsCells t).length = _; rw [List.length_append, ih, List.length_cons]; show 4 + _ = _; omega
  have h1 : ∀ u ∈ kvsCells l, u.oneCell' = true := fun u hu => by
    obtain ⟨q, hq, huq⟩ := List.mem_flatMap.1 hu
    obtain ⟨_, _, _, _, e, _⟩ := IsV.form (hk q hq)
    obtain ⟨e0, e1, e2, e3⟩ := agg4_inj e
    unfold kvCells at huq
    rw [e0, e1, e2, e3] at huq
    simp at huq
    rcases huq with rfl | rfl | rfl | rfl <;> rfl
  cases ka with
  | none =>
    have : l = [] := by
      rcases h0 : l with _ | ⟨z, t⟩
      · rfl
      · obtain ⟨kb, ko, e, _⟩ := h (by rw [h0]; exact List.cons_ne_nil _ _)
        cases e
    subst this
    subst hl
    exact Go.Src.ofNil W' Tryd.underlying34 kc
  | some p =>
    refine Go.Src.ofSlice W' Tryd.underlying34 p n kc _ (by rw [hlen, hl]) (fun j u hu => ?_) h1
    have hne : l ≠ [] := fun h0 => by rw [h0] at hu; cases hu
    obtain ⟨kb, ko, e, hc⟩ := h hne
    injection e with e
    subst e
    rw [Addr.add_lit]
    exact hw _ _ (hide_some (hc j u hu)).2
def oldS (S : Nat → Bool) (B T : Nat) : Nat → Bool := fun k => S k || decide (B ≤ k ∧ k < T)
theorem oldS_no {S : Nat → Bool} {B T k : Nat} : oldS S B T k = false ↔ S k = false ∧ ¬ (B ≤ k ∧ k < T) := by
  unfold oldS
  rw [Bool.or_eq_false_iff, decide_eq_false_iff_not]
theorem KidsIn.old {S : Nat → Bool} {w W : World} {l : List KV} (h : KidsIn S w l) (hb : Below w.heap.size w W) (T : Nat) : KidsIn (oldS S w.heap.size T) W l :=
  h.step hb.size (fun k hk hs => ⟨oldS_no.2 ⟨hs, by omega⟩, hb.block k hk⟩)
theorem bytes_all {W : World} {a : Option Addr} {zs : List Int} (h : Bytes W a zs) : ∀ z ∈ zs, 0 ≤ z ∧ z ≤ 255 := fun z hz => by
  obtain ⟨i, hi, rfl⟩ := List.getElem_of_mem hz
  have := h.1 i
  rwa [List.getD, List.getElem?_eq_getElem hi, Option.getD_some] at this
end Go.Proofs.YtfghaopimeoijaaDoor
namespace Go.Proofs.YtfghaopimeoijaaDoor
open Go.ChangeShapes Go.WideShapes Go.ChangeAt Go.RowKit Go.Shelf

def TurnPost (S : Nat → Bool) (w : World) (e : Ending) (w' : World) : Prop := (∃ v val, e = .returned val ∧ VH S w' v val) ∧ Below w.heap.size w w'
theorem u8_mod (n : Int) : IntKind.u8.wrap n = n % 256 := by simp [IntKind.wrap, IntKind.bits, IntKind.signed]
theorem turn_bytes {S : Nat → Bool} {w W : World} {v : PV} {a0 a1 a2 a3 : Value} {base n cap R : Nat} {A : Option Addr} {zs : List Int} (hv : VH S w v (.agg #[a0, a1, a2, a3])) (hrow : W.ownsRow base 5 1 (.slice A n cap) n (u8Cells zs)) (hz : ∀ z ∈ zs, 0 ≤ z ∧ z ≤ 255) (hS : ∀ k, base ≤ k → S k = false) (hR : R < base) (x y z u : Value) (hb : Below w.heap.size w (set4 W R x y z u)) :
    VH S (set4 W R x y z u) (.mk v.num zs v.kids v.has) (.agg #[a0, .slice A n cap, a2, a3]) :=
  have h := hv.below hb
  vh_mix h (vh_bytes (own_set4 hrow hR x y z u) hz hS) h h
theorem turn_kids {S S' : Nat → Bool} {w W : World} {v : PV} {a0 a1 a2 a3 : Value} {base n cap R : Nat} {A : Option Addr} {l : List KV} (hv : VH S w v (.agg #[a0, a1, a2, a3])) (hrow : W.ownsRow base 36 4 (.slice A n cap) n (kvsCells l)) (hk : KidsIn S' W l) (hSS : ∀ k, S' k = false → S k = false) (hS : ∀ k, base ≤ k → S k = false) (hR : R < base) (x y z u : Value) (hSR : S' R = true) (hb : Below w.heap.size w (set4 W R x y z u)) :
    VH S (set4 W R x y z u) (.mk v.num v.bytes (l.map KV.v) v.has) (.agg #[a0, a1, .slice A n cap, a3]) :=
  have h := hv.below hb
  vh_mix h h (vh_kids (own_set4 hrow hR x y z u) (hk.step (by simp [set4, World.setCell]) (fun k _ hs => ⟨hs, set4_blk W (fun e => by subst e; rw [hSR] at hs; cases hs) x y z u⟩)) hSS hS false) h
theorem u8_info4 : (Tryd.prog.info? 5).map (fun i => (i.zero, i.size, i.bytes)) = some (some (.int .u8 0), 1, 1) := by kernel_rfl
theorem val_info4 : (Tryd.prog.info? 36).map (fun i => (i.zero, i.size, i.bytes)) = some (some (.agg #[.int .u64 0, .slice none 0 0, .slice none 0 0, .bool false]), 4, 64) := by kernel_rfl
end Go.Proofs.YtfghaopimeoijaaDoor
namespace Go.Proofs.YtfghaopimeoijaaDoor
open Go.ChangeShapes Go.WideShapes Go.ChangeAt Go.RowKit Go.Shelf

theorem own_put {W : World} {base sz n c K : Nat} {e : TypeId} {xs : List Value} (h : W.ownsRow base e sz (.slice (some ⟨K, 0, none⟩) n c) n xs) (k : Nat) (u : Value) : (W.setCell ⟨K, k, none⟩ u).ownsRow base e sz (.slice (some ⟨K, 0, none⟩) n c) n (xs.set k u) := by
  obtain ⟨hl, h'⟩ := h
  refine ⟨by rw [List.length_set]; exact hl, ?_⟩
  rcases h' with ⟨h1, _⟩ | ⟨g, cap, cur, hv, hb, hg, hnc, hm, hs, ht⟩
  · cases h1
  · injection hv with h1 h2 h3
    injection h1 with h1
    injection h1 with h1 _ _
    subst h1 h3
    refine .inr ⟨K, c, cur.setIfInBounds k u, rfl, hb, blk_set hg k u, hnc, hm, by rw [Array.size_setIfInBounds]; exact hs, ?_⟩
    rw [Array.toList_setIfInBounds, List.take_set, ht]
theorem kvs_set : ∀ (l : List KV) (i : Nat) (q : KV), i < l.length → ((((kvsCells l).set (i * 4) q.c0).set (i * 4 + 1) q.c1).set (i * 4 + 2) q.c2).set (i * 4 + 3) q.c3 = kvsCells (l.set i q)
  | [], _, _, h => absurd h (Nat.not_lt_zero _)
  | p :: l, 0, q, _ => rfl
  | p :: l, i + 1, q, h => by
    have ih := kvs_set l i q (by simpa using h)
    have e : ∀ k, (i + 1) * 4 + k = (i * 4 + k) + 4 := fun k => by omega
    have e0 : (i + 1) * 4 = i * 4 + 4 := by omega
    show ((((p.c0 :: p.c1 :: p.c2 :: p.c3 :: kvsCells l).set ((i + 1) * 4) q.c0).set ((i + 1) * 4 + 1) q.c1).set ((i + 1) * 4 + 2) q.c2).set ((i + 1) * 4 + 3) q.c3 = p.c0 :: p.c1 :: p.c2 :: p.c3 :: kvsCells (l.set i q)
    rw [e0, show i * 4 + 4 + 1 = i * 4 + 1 + 4 by omega, show i * 4 + 4 + 2 = i * 4 + 2 + 4 by omega, show i * 4 + 4 + 3 = i * 4 + 3 + 4 by omega]
    simp only [List.set_cons_succ]
    rw [ih]
theorem bytes_tail {W : World} {b off : Nat} {zs : List Int} (h : Bytes W (some ⟨b, off, none⟩) zs) : Bytes W (some ⟨b, off + 1, none⟩) zs.tail := by
  refine ⟨fun i => ?_, fun hne => ?_⟩
  · have := h.1 (i + 1)
    cases zs with
    | nil => exact ⟨by simp, by simp⟩
    | cons z t => simpa using this
  · cases zs with
    | nil => exact absurd rfl hne
    | cons z t =>
      obtain ⟨b', off', e, hlt, hc⟩ := h.2 (List.cons_ne_nil _ _)
      injection e with e
      injection e with e1 e2 _
      subst e1 e2
      refine ⟨b, off + 1, rfl, hlt, fun i hi => ?_⟩
      have := hc (i + 1) (by simp at hi ⊢; omega)
      rw [show off + 1 + i = off + (i + 1) by omega, this]
      simp
theorem bytes_tail_if {W : World} {b off cap : Nat} {zs : List Int} (h : Bytes W (some ⟨b, off, none⟩) zs) (hc : zs.length ≤ cap) : Bytes W (if cap = 1 then some ⟨b, off, none⟩ else some ⟨b, off + 1, none⟩) zs.tail := by
  split
  · have h0 : zs.tail = [] := List.eq_nil_of_length_eq_zero (by rw [List.length_tail]; omega)
    rw [h0]
    exact ⟨fun i => by simp, fun hne => absurd rfl hne⟩
  · exact bytes_tail h
theorem keepK {w : World} {g i0 i1 i2 i3 : Nat} {p : Addr} {v x0 x1 x2 x3 : Value} (h : w.cell? p = some v) (hp : p.block ≠ g) :
    ((((w.setCell ⟨g, i0, none⟩ x0).setCell ⟨g, i1, none⟩ x1).setCell ⟨g, i2, none⟩ x2).setCell ⟨g, i3, none⟩ x3).cell? p = some v := by
  have e : ∀ (w : World) (i : Nat) (x : Value), (w.setCell ⟨g, i, none⟩ x).cell? p = w.cell? p := fun w i x => World.cell?_of_block (Below.heap_setCell _ _ _ _ hp)
  rw [e, e, e, e, h]
def TurnAt (d : Nat) : Prop := ∀ (what n : Nat) (S : Nat → Bool) (w : World) (v : PV) (val : Value) (a : Option Addr) (ys : List Int) (cap : Nat), what ≤ 255 → (n : Int) ≤ 18446744073709551615 → VH S w v val → (∀ k, w.heap.size ≤ k → S k = false) → SmallV v → Bytes w a ys → ys.length ≤ cap → (cap : Int) ≤ 9223372036854775807 →
  Calls Tryd.prog 17 #[val, .slice a ys.length cap, .int .u8 what, .int .u64 n, .int .i64 d] w (TurnPost S w)
end Go.Proofs.YtfghaopimeoijaaDoor
namespace Go.Proofs.YtfghaopimeoijaaDoor
open Go.ChangeShapes Go.WideShapes Go.ChangeAt Go.RowKit Go.Shelf

set_option maxRecDepth 100000 in
set_option maxHeartbeats 8000000 in
theorem vturn_rec (d dm what : Nat) (n : Nat) (hdm : d = dm + 1) (hwb : what ≤ 255) (hn : (n : Int) ≤ 18446744073709551615) (hd : d ≤ 1000) (S : Nat → Bool) (w : World) (v : PV) (val : Value) (a : Option Addr) (ys : List Int) (cap : Nat) (hv : VH S w v val) (hS : ∀ k, w.heap.size ≤ k → S k = false) (hsm : SmallV v) (hyb : Bytes w a ys) (hyc : ys.length ≤ cap) (hcm : (cap : Int) ≤ 9223372036854775807) (hy0 : 0 < ys.length) (hk0 : 0 < v.kids.length) (hnx : TurnAt dm) :
    Calls Tryd.prog 17 #[val, .slice a ys.length cap, .int .u8 what, .int .u64 n, .int .i64 d] w (TurnPost S w) := by
  obtain ⟨ba, ka, bc, kc, rfl, hnum, hbb, hbl, hbm, hkl, hkm, hks⟩ := IsV.form hv
  obtain ⟨hb, hq1, hq2⟩ := two_start w #[.int .u64 v.num, .slice ba v.bytes.length bc, .slice ka v.kids.length kc, .bool v.has] #[.int .u64 0, .slice none 0 0, .slice none 0 0, .bool false] 36 36
  obtain ⟨yb, yo, rfl, hylt, hyc0⟩ := hyb.2 (fun e => by rw [e] at hy0; exact Nat.not_lt_zero _ hy0)
  obtain ⟨y, hy⟩ : ∃ y : Nat, ys.getD 0 0 = y := ⟨(ys.getD 0 0).toNat, by have := (hyb.1 0).1; omega⟩
  have hy255 : y ≤ 255 := by have := (hyb.1 0).2; omega
  have hyc1 := hyc0 0 hy0
  rw [hy] at hyc1
  have HYC := Lib.hid ((hb.cell (p := ⟨yb, yo, none⟩) hylt).trans hyc1)
  obtain ⟨ka', kc', l, hkv, _, hlv, hki, hcl⟩ := kids_kv hv
  obtain ⟨rfl, rfl⟩ := slice_inj hkv
  have hll : l.length = v.kids.length := by rw [← hlv, List.length_map]
  obtain ⟨i, hi⟩ : ∃ i, y % v.kids.length = i := ⟨_, rfl⟩
  have hik : i < v.kids.length := by rw [← hi]; exact Nat.mod_lt _ hk0
  have hrem : (y : Int).tmod (v.kids.length : Int) = (i : Int) := by rw [Int.tmod_eq_emod_of_nonneg (by omega), ← hi]; omega
  have hsk : ∀ q ∈ v.kids, SmallV q := by cases hsm; assumption
  have hbl100 : v.bytes.length ≤ 100 := by cases hsm; assumption
  have hkl100 : v.kids.length ≤ 100 := by cases hsm; assumption
  have HV := Lib.hid hv
  have HS := Lib.hid hS
  have HSK := Lib.hid hsk
  have HYB := Lib.hid hyb
  have HB := Lib.hid hb
  have Q1 := Lib.hid hq1
  have Q2 := Lib.hid hq2
  have HLV := Lib.hid hlv
  have HLL := Lib.hid hll
  have HKI := Lib.hid hki
  have HCL := Lib.hid hcl
  have HNX := Lib.hid hnx
  have hy1 : decide (0 < ys.length) = true := decide_eq_true hy0
  have hk1 : decide (0 < v.kids.length) = true := decide_eq_true hk0
  have hd1 : decide (0 < d) = true := decide_eq_true (by omega)
  have hdi : (d : Int) - 1 = (dm : Int) := by omega
  have hdw : IntKind.i64.wrap (dm : Int) = dm := IntWalk.i64_in _ (by omega)
  have hyw : IntKind.i64.wrap (y : Int) = y := IntWalk.i64_in _ (by omega)
  have hiI : (i : Int) < v.kids.length := by omega
  have hi0 : (0 : Int) ≤ (i : Int) := by omega
  have hkn : ¬ v.kids.length = 0 := by omega
  have hyI : (0 : Int) < (ys.length : Int) := by omega
  have hyI1 : (1 : Int) ≤ (ys.length : Int) := by omega
  have hyI2 : (ys.length : Int) ≤ (cap : Int) := by omega
  clear hv hS hsm hbb hb hq1 hq2 hks hnum hyb hylt hyc0 hyc1 hy hkv hlv hll hki hcl hi hsk hnx hdm
  obtain ⟨_, v0, v1, v2, v3⟩ := blk4p Q1.out
  go_enter Tryd.func17, Tryd.ntmps17
  go_upto_region 1 with (fail)
  have hyc2 := HYC.out
  generalize (w.alloc (.cells #[.int .u64 v.num, .slice ba v.bytes.length bc, .slice ka v.kids.length kc, .bool v.has] 36)).alloc (.cells #[.int .u64 0, .slice none 0 0, .slice none 0 0, .bool false] 36) = W0 at *
  go_upto_region 2 with (fail)
  go_quiet (fail)
  have hb5 := bel_dN W0 nq
  have HB5 := Lib.hid (HB.out.trans (hb5.mono HB.out.size))
  have P1 := Lib.hid (blk_below Q1.out hb5 (blk_lt Q1.out))
  have P2 := Lib.hid (blk_below Q2.out hb5 (blk_lt Q2.out))
  clear hb5 hyc2 v0 v1 v2 v3
  generalize W0.drewN nq = W5 at *
  have hz1 := blk_lt P2.out
  obtain ⟨_, v0, v1, v2, v3⟩ := blk4p P1.out
  have HOWN0 := Lib.hid (own_blk (base := w.heap.size + 2) (n := 0) (size := 4) (heap_alloc_new W5 (.cells #[] 36)) (by omega) (by decide) rfl)
  have HA0 := Lib.hid (((Below.refl W5.heap.size W5).alloc (Nat.le_refl _) (.cells #[] 36)).mono (show w.heap.size + 2 ≤ W5.heap.size by omega))
  have HWA := Lib.hid (HB5.out.alloc HB5.out.size (.cells #[] 36))
  have HSRC := Lib.hid (src_kids (kc := kc) HLL.out HKI.out HCL.out (fun p x hp => (HWA.out.cell (World.block_lt_of_cell? _ _ hp)).trans hp))
  obtain ⟨i0, hi0', hzz0, hzz1, hzz2⟩ := info_parts val_info4
  have I1 := Lib.hid hi0'
  have I2 := Lib.hid hzz0
  have I3 := Lib.hid hzz1
  have I4 := Lib.hid hzz2
  clear hi0' hzz0 hzz1 hzz2
  go_upto_region 4 with (at_builtin; refine wpList_append_first _ rfl (.tmp 33) (.tmp 35) 34 34 rfl (w.heap.size + 2) 36 i0 _ 4 Tryd.underlying34 I1.out I2.out I3.out rfl _ rfl HOWN0.out _ v.kids.length (kvsCells l) rfl HSRC.out (by unfold maxLen; omega) (by rw [I4.out]; omega) (by simp; omega) ?_; intro v4 W4 hown4 hg4 hat4; clear hat4; obtain ⟨a4, m4, rfl⟩ := ownsRow_form hown4; have hB4 := HA0.out.grown hg4 (by simp; omega) (fun k hk => (ownsRow_lt HOWN0.out k hk).1); obtain ⟨_, d0, d1, d2, d3⟩ := blk4p (blk_below P1.out hB4 (by omega)); have e1 := blk_frozen (blk_below P1.out hB4 (by omega)) 2; have HB4 := Lib.hid hB4; have HO4 := Lib.hid hown4; clear hown4 hg4 hB4)
  obtain ⟨K, cK, hv, hnc, hbK, hKl, hcell⟩ := row_at HO4.out hk0
  obtain ⟨rfl, rfl⟩ := slice_inj hv
  have c1 := (blk_set (blk_below P1.out HB4.out (by omega)) 2 (.slice (some ⟨K, 0, none⟩) v.kids.length m4)).trans rfl
  have c2 := blk_set_ne (blk_below P2.out HB4.out (by omega)) (p := ⟨w.heap.size, 2, none⟩) (by simp) (.slice (some ⟨K, 0, none⟩) v.kids.length m4)
  have c3 := ownsRow_setCell_below (a := ⟨w.heap.size, 2, none⟩) HO4.out (by show w.heap.size < w.heap.size + 2; omega) (.slice (some ⟨K, 0, none⟩) v.kids.length m4)
  have c4 := (HB5.out.trans (HB4.out.mono (show w.heap.size ≤ w.heap.size + 2 by omega))).setCell (p := ⟨w.heap.size, 2, none⟩) (Nat.le_refl _) (.slice (some ⟨K, 0, none⟩) v.kids.length m4)
  clear v0 v1 v2 v3 d0 d1 d2 d3 e1 hcell hKl hv hnc
  generalize W4.setCell ⟨w.heap.size, 2, none⟩ (.slice (some ⟨K, 0, none⟩) v.kids.length m4) = W8 at *
  have hil : i < l.length := by rw [HLL.out]; exact hik
  obtain ⟨q, hq⟩ : ∃ q, l[i] = q := ⟨_, rfl⟩
  have hqm : q ∈ l := hq ▸ List.getElem_mem hil
  have hqs : SmallV q.v := HSK.out _ (by rw [← HLV.out]; exact List.mem_map.2 ⟨q, hqm, rfl⟩)
  have c3' : W8.ownsRow (w.heap.size + 2) 36 4 (.slice (some ⟨K, 0, none⟩) l.length m4) l.length (kvsCells l) := by rw [HLL.out]; exact c3
  obtain ⟨g', c', hv', _, hKl, hcell⟩ := row_el kvCells 4 (fun _ => rfl) c3' i hil
  have hv'' := (slice_inj hv').1
  injection hv'' with hv''
  injection hv'' with hv'' _ _
  subst hv''
  rw [hq] at hcell
  have hold := HKI.out.old c4 W8.heap.size
  have hqh := hold q hqm
  obtain ⟨qv, q0, q1, q2, q3⟩ := q
  replace hqh : VH (oldS S w.heap.size W8.heap.size) W8 qv (.agg #[q0, q1, q2, q3]) := hqh
  replace hqs : SmallV qv := hqs
  obtain ⟨qba, qka, qbc, qkc, hqe, _⟩ := IsV.form hqh
  obtain ⟨rfl, rfl, rfl, rfl⟩ := agg4_inj hqe
  have z0 : W8.cell? ⟨K, i * 4, none⟩ = some (.int .u64 qv.num) := hcell 0 (by decide)
  have z1 : W8.cell? ⟨K, i * 4 + 1, none⟩ = some (.slice qba qv.bytes.length qbc) := hcell 1 (by decide)
  have z2 : W8.cell? ⟨K, i * 4 + 2, none⟩ = some (.slice qka qv.kids.length qkc) := hcell 2 (by decide)
  have z3 : W8.cell? ⟨K, i * 4 + 3, none⟩ = some (.bool qv.has) := hcell 3 (by decide)
  obtain ⟨_, _, _, b2, _⟩ := blk4p c1
  obtain ⟨cur, hKb⟩ : ∃ cur, W8.heap[K]? = some (.cells cur 36 (0, 0)) := by
    rcases c3.2 with ⟨h1, _⟩ | ⟨g, cap', cur, h1, _, hg, _⟩
    · cases h1
    · injection h1 with h1
      injection h1 with h1
      injection h1 with h1 _ _
      subst h1
      exact ⟨cur, hg⟩
  obtain ⟨A, hA⟩ : ∃ A : Option Addr, (if cap = 1 then some (⟨yb, yo, none⟩ : Addr) else some ⟨yb, yo + 1, none⟩) = A := ⟨_, rfl⟩
  have HTURN := Lib.hid (fun (W : World) (hb : Below W8.heap.size W8 W) => by
    have h := HNX.out what n (oldS S w.heap.size W8.heap.size) W qv (.agg #[.int .u64 qv.num, .slice qba qv.bytes.length qbc, .slice qka qv.kids.length qkc, .bool qv.has]) (if cap = 1 then some ⟨yb, yo, none⟩ else some ⟨yb, yo + 1, none⟩) ys.tail (cap - 1) hwb hn (VH.below hqh hb) (fun k hk => oldS_no.2 ⟨HS.out k (by have := c4.size; have := hb.size; omega), by have := hb.size; omega⟩) hqs (bytes_tail_if (HYB.out.below (Nat.le_refl _) (c4.trans (hb.mono c4.size))) hyc) (by rw [List.length_tail]; omega) (by omega)
    rw [List.length_tail, hA] at h
    exact h)
  have C1 := Lib.hid c1
  have C2 := Lib.hid c2
  have C3 := Lib.hid c3
  have C4 := Lib.hid c4
  have HOLD := Lib.hid hold
  clear c1 c2 c3 c3' c4 hold hqh hqs hqm hq hcell hv' hqe
  have hbK2 : w.heap.size ≠ K := by omega
  go_upto_region 4 with (fail)
  refine wp_region_noPanic ?_
  refine till_start 16 (fun w' => w'.cell? ⟨w.heap.size, 2, none⟩ = some (.slice (some ⟨K, 0, none⟩) v.kids.length m4)) (fun w' => w'.cell? ⟨K, i * 4, none⟩ = some (.int .u64 qv.num) ∧ w'.cell? ⟨K, i * 4 + 1, none⟩ = some (.slice qba qv.bytes.length qbc) ∧ w'.cell? ⟨K, i * 4 + 2, none⟩ = some (.slice qka qv.kids.length qkc) ∧ w'.cell? ⟨K, i * 4 + 3, none⟩ = some (.bool qv.has)) (by kernel_rfl) ?_
  have HB0 := Lib.hid ((Below.refl W8.heap.size W8).drew)
  generalize W8.drew = D0 at *
  have hU := cell_stays HB0.out b2
  have hV := And.intro (cell_stays HB0.out z0) (And.intro (cell_stays HB0.out z1) (And.intro (cell_stays HB0.out z2) (cell_stays HB0.out z3)))
  refine till_take (i := 0) (v := .pointer (some ⟨w.heap.size, 2, none⟩)) rfl (by kernel_rfl) (by kernel_rfl) (by kernel_rfl) (by kernel_rfl) (by kernel_rfl) (fun _ _ _ h => h) (Or.inl ⟨by rfl, ?_⟩) hU hV ?_
  · intro w' hSw
    obtain ⟨s0, t0, t1, t2, t3⟩ := hSw
    go_simp
  simp only [Act.put, List.getElem_toArray, List.getElem_cons_zero, List.setIfInBounds_toArray, List.set_cons_zero, List.set_cons_succ]
  refine till_take (i := 1) (v := .slice (some ⟨K, 0, none⟩) v.kids.length m4) rfl (by kernel_rfl) (by kernel_rfl) (by kernel_rfl) (by kernel_rfl) (by kernel_rfl) (fun _ _ _ h => h) (Or.inl ⟨by rfl, ?_⟩) hU hV ?_
  · intro w' hSw
    obtain ⟨s0, t0, t1, t2, t3⟩ := hSw
    go_simp
  simp only [Act.put, List.getElem_toArray, List.getElem_cons_succ, List.getElem_cons_zero, List.setIfInBounds_toArray, List.set_cons_zero, List.set_cons_succ]
  refine till_take (i := 2) (v := .int .i64 i) rfl (by kernel_rfl) (by kernel_rfl) (by kernel_rfl) (by kernel_rfl) (by kernel_rfl) (fun _ _ _ h => h) (Or.inl ⟨by rfl, ?_⟩) hU hV ?_
  · intro w' hSw
    obtain ⟨s0, t0, t1, t2, t3⟩ := hSw
    go_simp
  simp only [Act.put, List.getElem_toArray, List.getElem_cons_succ, List.getElem_cons_zero, List.setIfInBounds_toArray, List.set_cons_zero, List.set_cons_succ]
  refine till_take (i := 3) (v := .pointer (some ⟨w.heap.size, 2, none⟩)) rfl (by kernel_rfl) (by kernel_rfl) (by kernel_rfl) (by kernel_rfl) (by kernel_rfl) (fun _ _ _ h => h) (Or.inl ⟨by rfl, ?_⟩) hU hV ?_
  · intro w' hSw
    obtain ⟨s0, t0, t1, t2, t3⟩ := hSw
    go_simp
  simp only [Act.put, List.getElem_toArray, List.getElem_cons_succ, List.getElem_cons_zero, List.setIfInBounds_toArray, List.set_cons_zero, List.set_cons_succ]
  refine till_take (i := 4) (v := .slice (some ⟨K, 0, none⟩) v.kids.length m4) rfl (by kernel_rfl) (by kernel_rfl) (by kernel_rfl) (by kernel_rfl) (by kernel_rfl) (fun _ _ _ h => h) (Or.inl ⟨by rfl, ?_⟩) hU hV ?_
  · intro w' hSw
    obtain ⟨s0, t0, t1, t2, t3⟩ := hSw
    go_simp
  simp only [Act.put, List.getElem_toArray, List.getElem_cons_succ, List.getElem_cons_zero, List.setIfInBounds_toArray, List.set_cons_zero, List.set_cons_succ]
  refine till_take (i := 5) (v := .int .i64 i) rfl (by kernel_rfl) (by kernel_rfl) (by kernel_rfl) (by kernel_rfl) (by kernel_rfl) (fun _ _ _ h => h) (Or.inl ⟨by rfl, ?_⟩) hU hV ?_
  · intro w' hSw
    obtain ⟨s0, t0, t1, t2, t3⟩ := hSw
    go_simp
  simp only [Act.put, List.getElem_toArray, List.getElem_cons_succ, List.getElem_cons_zero, List.setIfInBounds_toArray, List.set_cons_zero, List.set_cons_succ]
  refine till_take (i := 6) (v := .pointer (some ⟨K, i * 4, none⟩)) rfl (by kernel_rfl) (by kernel_rfl) (by kernel_rfl) (by kernel_rfl) (by kernel_rfl) (fun _ _ _ h => h) (Or.inl ⟨by rfl, ?_⟩) hU hV ?_
  · intro w' hSw
    obtain ⟨s0, t0, t1, t2, t3⟩ := hSw
    go_simp
  simp only [Act.put, List.getElem_toArray, List.getElem_cons_succ, List.getElem_cons_zero, List.setIfInBounds_toArray, List.set_cons_zero, List.set_cons_succ]
  refine till_take (i := 7) (v := .agg #[.int .u64 qv.num, .slice qba qv.bytes.length qbc, .slice qka qv.kids.length qkc, .bool qv.has]) rfl (by kernel_rfl) (by kernel_rfl) (by kernel_rfl) (by kernel_rfl) (by kernel_rfl) (fun _ _ _ h => h) (Or.inl ⟨by rfl, ?_⟩) hU hV ?_
  · intro w' hSw
    obtain ⟨s0, t0, t1, t2, t3⟩ := hSw
    go_simp
  simp only [Act.put, List.getElem_toArray, List.getElem_cons_succ, List.getElem_cons_zero, List.setIfInBounds_toArray, List.set_cons_zero, List.set_cons_succ]
  refine till_take (i := 8) (v := .slice (some ⟨yb, yo, none⟩) ys.length cap) rfl (by kernel_rfl) (by kernel_rfl) (by kernel_rfl) (by kernel_rfl) (by kernel_rfl) (fun _ _ _ h => h) (Or.inl ⟨by rfl, ?_⟩) hU hV ?_
  · intro w' hSw
    obtain ⟨s0, t0, t1, t2, t3⟩ := hSw
    go_simp
  simp only [Act.put, List.getElem_toArray, List.getElem_cons_succ, List.getElem_cons_zero, List.setIfInBounds_toArray, List.set_cons_zero, List.set_cons_succ]
  refine till_take (i := 9) (v := .slice A (ys.length - 1) (cap - 1)) rfl (by kernel_rfl) (by kernel_rfl) (by kernel_rfl) (by kernel_rfl) (by kernel_rfl) (fun _ _ _ h => h) (Or.inl ⟨by rfl, ?_⟩) hU hV ?_
  · intro w' hSw
    obtain ⟨s0, t0, t1, t2, t3⟩ := hSw
    go_simp
  simp only [Act.put, List.getElem_toArray, List.getElem_cons_succ, List.getElem_cons_zero, List.setIfInBounds_toArray, List.set_cons_zero, List.set_cons_succ]
  refine till_take (i := 10) (v := .int .u8 what) rfl (by kernel_rfl) (by kernel_rfl) (by kernel_rfl) (by kernel_rfl) (by kernel_rfl) (fun _ _ _ h => h) (Or.inl ⟨by rfl, ?_⟩) hU hV ?_
  · intro w' hSw
    obtain ⟨s0, t0, t1, t2, t3⟩ := hSw
    go_simp
  simp only [Act.put, List.getElem_toArray, List.getElem_cons_succ, List.getElem_cons_zero, List.setIfInBounds_toArray, List.set_cons_zero, List.set_cons_succ]
  refine till_take (i := 11) (v := .int .u64 n) rfl (by kernel_rfl) (by kernel_rfl) (by kernel_rfl) (by kernel_rfl) (by kernel_rfl) (fun _ _ _ h => h) (Or.inl ⟨by rfl, ?_⟩) hU hV ?_
  · intro w' hSw
    obtain ⟨s0, t0, t1, t2, t3⟩ := hSw
    go_simp
  simp only [Act.put, List.getElem_toArray, List.getElem_cons_succ, List.getElem_cons_zero, List.setIfInBounds_toArray, List.set_cons_zero, List.set_cons_succ]
  refine till_take (i := 12) (v := .int .i64 d) rfl (by kernel_rfl) (by kernel_rfl) (by kernel_rfl) (by kernel_rfl) (by kernel_rfl) (fun _ _ _ h => h) (Or.inl ⟨by rfl, ?_⟩) hU hV ?_
  · intro w' hSw
    obtain ⟨s0, t0, t1, t2, t3⟩ := hSw
    go_simp
  simp only [Act.put, List.getElem_toArray, List.getElem_cons_succ, List.getElem_cons_zero, List.setIfInBounds_toArray, List.set_cons_zero, List.set_cons_succ]
  refine till_take (i := 13) (v := .int .i64 dm) rfl (by kernel_rfl) (by kernel_rfl) (by kernel_rfl) (by kernel_rfl) (by kernel_rfl) (fun _ _ _ h => h) (Or.inl ⟨by rfl, ?_⟩) hU hV ?_
  · intro w' hSw
    obtain ⟨s0, t0, t1, t2, t3⟩ := hSw
    go_simp
  simp only [Act.put, List.getElem_toArray, List.getElem_cons_succ, List.getElem_cons_zero, List.setIfInBounds_toArray, List.set_cons_zero, List.set_cons_succ]
  refine till_one (i := 14) (by kernel_rfl) rfl (fun K' hK => ?_)
  rw [if_pos (by kernel_rfl)]
  go_simp
  refine (HTURN.out D0 HB0.out).mono ?_
  rintro e W6 ⟨⟨v6, val6, rfl, hvh6⟩, hb6'⟩
  have hb6 : Below W8.heap.size W8 W6 := HB0.out.trans (hb6'.mono HB0.out.size)
  clear hb6' hU hV
  obtain ⟨ba6, ka6, bc6, kc6, rfl, _, _, _, _, _, _, _⟩ := IsV.form hvh6
  have hU := cell_stays hb6 b2
  have hV := And.intro (cell_stays hb6 z0) (And.intro (cell_stays hb6 z1) (And.intro (cell_stays hb6 z2) (cell_stays hb6 z3)))
  refine hK.out _ _ hU hV ?_
  clear hK K'
  refine till_take (i := 15) (v := .pointer (some ⟨K, i * 4, none⟩)) rfl (by kernel_rfl) (by kernel_rfl) (by kernel_rfl) (by kernel_rfl) (by kernel_rfl) (fun _ _ _ h => h) (Or.inl ⟨by rfl, ?_⟩) hU hV ?_
  · intro w' hSw
    obtain ⟨s0, t0, t1, t2, t3⟩ := hSw
    go_simp
  simp only [Act.put, List.getElem_toArray, List.getElem_cons_succ, List.getElem_cons_zero, List.setIfInBounds_toArray, List.set_cons_zero, List.set_cons_succ]
  have hK6 := blk_below hKb hb6 (blk_lt hKb)
  have hthere : W6.there K (i * 4) 4 := fun j hj => by
    have h4 : j = 0 ∨ j = 1 ∨ j = 2 ∨ j = 3 := by omega
    rcases h4 with rfl | rfl | rfl | rfl
    · exact ⟨by rw [Nat.add_zero, hV.1]; rfl, blk_frozen hK6 _⟩
    · exact ⟨by rw [hV.2.1]; rfl, blk_frozen hK6 _⟩
    · exact ⟨by rw [hV.2.2.1]; rfl, blk_frozen hK6 _⟩
    · exact ⟨by rw [hV.2.2.2]; rfl, blk_frozen hK6 _⟩
  refine till_last (by kernel_rfl) rfl (fun K' hK => ?_)
  rw [if_pos (by kernel_rfl)]
  refine wp_store_mid 36 (.tmp 53) (.tmp 52) rfl K (i * 4) #[.int .u64 v6.num, .slice ba6 v6.bytes.length bc6, .slice ka6 v6.kids.length kc6, .bool v6.has] rfl rfl hthere (by kernel_rfl) (Array.all_eq_true_iff_forall_mem.2 (by intro x hx; simp at hx; rcases hx with rfl | rfl | rfl | rfl <;> rfl)) ?_
  change K' _ ((((W6.setCell ⟨K, i * 4, none⟩ (.int .u64 v6.num)).setCell ⟨K, i * 4 + 1, none⟩ (.slice ba6 v6.bytes.length bc6)).setCell ⟨K, i * 4 + 2, none⟩ (.slice ka6 v6.kids.length kc6)).setCell ⟨K, i * 4 + 3, none⟩ (.bool v6.has))
  refine hK.out _ _ (keepK hU hbK2) ?_
  clear hK K'
  have r1 : Below w.heap.size w ((((W6.setCell ⟨K, i * 4, none⟩ (.int .u64 v6.num)).setCell ⟨K, i * 4 + 1, none⟩ (.slice ba6 v6.bytes.length bc6)).setCell ⟨K, i * 4 + 2, none⟩ (.slice ka6 v6.kids.length kc6)).setCell ⟨K, i * 4 + 3, none⟩ (.bool v6.has)) := ((((C4.out.trans (hb6.mono C4.out.size)).setCell (p := ⟨K, i * 4, none⟩) (show w.heap.size ≤ K by omega) _).setCell (p := ⟨K, i * 4 + 1, none⟩) (show w.heap.size ≤ K by omega) _).setCell (p := ⟨K, i * 4 + 2, none⟩) (show w.heap.size ≤ K by omega) _).setCell (p := ⟨K, i * 4 + 3, none⟩) (show w.heap.size ≤ K by omega) _
  have rheap : ∀ k, k ≠ K → ((((W6.setCell ⟨K, i * 4, none⟩ (.int .u64 v6.num)).setCell ⟨K, i * 4 + 1, none⟩ (.slice ba6 v6.bytes.length bc6)).setCell ⟨K, i * 4 + 2, none⟩ (.slice ka6 v6.kids.length kc6)).setCell ⟨K, i * 4 + 3, none⟩ (.bool v6.has)).heap[k]? = W6.heap[k]? := fun k hk => (Below.heap_setCell _ _ _ _ (by show k ≠ K; exact hk)).trans ((Below.heap_setCell _ _ _ _ (by show k ≠ K; exact hk)).trans ((Below.heap_setCell _ _ _ _ (by show k ≠ K; exact hk)).trans (Below.heap_setCell _ _ _ _ (by show k ≠ K; exact hk))))
  have r2 := (rheap _ hbK2).trans (blk_below C1.out hb6 (blk_lt C1.out))
  have r3 := (rheap (w.heap.size + 1) (by omega)).trans (blk_below C2.out hb6 (blk_lt C2.out))
  have r4 : ((((W6.setCell ⟨K, i * 4, none⟩ (.int .u64 v6.num)).setCell ⟨K, i * 4 + 1, none⟩ (.slice ba6 v6.bytes.length bc6)).setCell ⟨K, i * 4 + 2, none⟩ (.slice ka6 v6.kids.length kc6)).setCell ⟨K, i * 4 + 3, none⟩ (.bool v6.has)).ownsRow (w.heap.size + 2) 36 4 (.slice (some ⟨K, 0, none⟩) v.kids.length m4) v.kids.length (kvsCells (l.set i ⟨v6, .int .u64 v6.num, .slice ba6 v6.bytes.length bc6, .slice ka6 v6.kids.length kc6, .bool v6.has⟩)) := by
    have h := own_put (own_put (own_put (own_put (row_keep hb6 C3.out) (i * 4) (.int .u64 v6.num)) (i * 4 + 1) (.slice ba6 v6.bytes.length bc6)) (i * 4 + 2) (.slice ka6 v6.kids.length kc6)) (i * 4 + 3) (.bool v6.has)
    rw [kvs_set l i ⟨v6, .int .u64 v6.num, .slice ba6 v6.bytes.length bc6, .slice ka6 v6.kids.length kc6, .bool v6.has⟩ hil] at h
    exact h
  have hs9 : ((((W6.setCell ⟨K, i * 4, none⟩ (.int .u64 v6.num)).setCell ⟨K, i * 4 + 1, none⟩ (.slice ba6 v6.bytes.length bc6)).setCell ⟨K, i * 4 + 2, none⟩ (.slice ka6 v6.kids.length kc6)).setCell ⟨K, i * 4 + 3, none⟩ (.bool v6.has)).heap.size = W6.heap.size := by simp [World.setCell]
  have hKlt := blk_lt hKb
  have r5 : KidsIn (oldS S w.heap.size W8.heap.size) ((((W6.setCell ⟨K, i * 4, none⟩ (.int .u64 v6.num)).setCell ⟨K, i * 4 + 1, none⟩ (.slice ba6 v6.bytes.length bc6)).setCell ⟨K, i * 4 + 2, none⟩ (.slice ka6 v6.kids.length kc6)).setCell ⟨K, i * 4 + 3, none⟩ (.bool v6.has)) (l.set i ⟨v6, .int .u64 v6.num, .slice ba6 v6.bytes.length bc6, .slice ka6 v6.kids.length kc6, .bool v6.has⟩) := fun p hp => by
    rcases List.mem_or_eq_of_mem_set hp with h | h
    · refine (HOLD.out p h).step (by rw [hs9]; exact hb6.size) (fun k hk hs => ?_)
      have h1 := (oldS_no.1 hs).2
      exact ⟨hs, (rheap k (by omega)).trans (hb6.block k hk)⟩
    · subst h
      refine VH.step hvh6 (by rw [hs9]; exact Nat.le_refl _) (fun k hk hs => ?_)
      have h1 := (oldS_no.1 hs).2
      exact ⟨hs, rheap k (by omega)⟩
  have R1 := Lib.hid r1
  have R3 := Lib.hid r3
  have R4 := Lib.hid r4
  have R5 := Lib.hid r5
  have hSR : oldS S w.heap.size W8.heap.size (w.heap.size + 1) = true := by unfold oldS; rw [decide_eq_true ⟨by omega, blk_lt C2.out⟩, Bool.or_true]
  have HSR := Lib.hid hSR
  clear hU hV hthere hK6 r1 r4 r5 hs9 rheap hSR b2 z0 z1 z2 z3 hvh6 hb6 hKb hKl hil
  generalize ((((W6.setCell ⟨K, i * 4, none⟩ (.int .u64 v6.num)).setCell ⟨K, i * 4 + 1, none⟩ (.slice ba6 v6.bytes.length bc6)).setCell ⟨K, i * 4 + 2, none⟩ (.slice ka6 v6.kids.length kc6)).setCell ⟨K, i * 4 + 3, none⟩ (.bool v6.has)) = W9 at *
  obtain ⟨_, v0, v1, v2, v3⟩ := blk4p r2
  obtain ⟨_, u0, u1, u2, u3⟩ := blk4p r3
  have p0 := blk_frozen r3 0
  have p1 := blk_frozen r3 1
  have p2 := blk_frozen r3 2
  have p3 := blk_frozen r3 3
  clear r2 r3
  refine till_done (by kernel_rfl) ?_ _
  refine NoPanic.normal ?_
  simp only [Exit.then]
  go_wp2
  refine post_gen (fun Wf => Wf.heap[w.heap.size + 1]? = some (.cells #[.int .u64 v.num, .slice ba v.bytes.length bc, .slice (some ⟨K, 0, none⟩) v.kids.length m4, .bool v.has] 36 (0, 0)) ∧ Below w.heap.size w Wf ∧ VH S Wf (.mk v.num v.bytes ((l.set i (⟨v6, .int .u64 v6.num, .slice ba6 v6.bytes.length bc6, .slice ka6 v6.kids.length kc6, .bool v6.has⟩ : KV)).map KV.v) v.has) (.agg #[.int .u64 v.num, .slice ba v.bytes.length bc, .slice (some ⟨K, 0, none⟩) v.kids.length m4, .bool v.has])) ⟨?_, ?_, ?_⟩ ?_
  · exact blk_set4 R3.out _ _ _ _
  · exact below_set4 R1.out (Nat.le_succ _) _ _ _ _
  · exact turn_kids HV.out R4.out R5.out (fun k hk => (oldS_no.1 hk).1) (fun k hk => HS.out k (by omega)) (by omega) _ _ _ _ HSR.out (below_set4 R1.out (Nat.le_succ _) _ _ _ _)
  · rintro Wf ⟨e1, e2, e3⟩
    obtain ⟨_, d0, d1, d2, d3⟩ := blk4p e1
    exact bodyPost_ret (v := .agg #[.int .u64 v.num, .slice ba v.bytes.length bc, .slice (some ⟨K, 0, none⟩) v.kids.length m4, .bool v.has]) (by simp [results, Tryd.results17, go_sem, d0, d1, d2, d3]) rfl ⟨⟨_, _, rfl, e3⟩, e2⟩
end Go.Proofs.YtfghaopimeoijaaDoor
namespace Go.Proofs.YtfghaopimeoijaaDoor
open Go.ChangeShapes Go.WideShapes Go.ChangeAt Go.RowKit Go.Shelf

set_option maxRecDepth 100000 in
set_option maxHeartbeats 8000000 in
theorem vturn_0 (d what : Nat) (n : Nat) (hw : what % 6 = 0) (hwb : what ≤ 255) (hn : (n : Int) ≤ 18446744073709551615) (_hd : d ≤ 1000) (S : Nat → Bool) (w : World) (v : PV) (val : Value) (a : Option Addr) (ys : List Int) (cap : Nat) (hv : VH S w v val) (hS : ∀ k, w.heap.size ≤ k → S k = false) (hsm : SmallV v) (_hyl : (ys.length : Int) ≤ 9223372036854775807) (hgo : decide (0 < ys.length) = false ∨ (decide (0 < ys.length) = true ∧ decide (0 < v.kids.length) = false) ∨ (decide (0 < ys.length) = true ∧ decide (0 < v.kids.length) = true ∧ decide (0 < d) = false)) :
    Calls Tryd.prog 17 #[val, .slice a ys.length cap, .int .u8 what, .int .u64 n, .int .i64 d] w (TurnPost S w) := by
  obtain ⟨ba, ka, bc, kc, rfl, hnum, hbb, hbl, hbm, hkl, hkm, hks⟩ := IsV.form hv
  obtain ⟨hb, hq1, hq2⟩ := two_start w #[.int .u64 v.num, .slice ba v.bytes.length bc, .slice ka v.kids.length kc, .bool v.has] #[.int .u64 0, .slice none 0 0, .slice none 0 0, .bool false] 36 36
  have HV := Lib.hid hv
  have HVB := Lib.hid (hv.below hb)
  have HS := Lib.hid hS
  have HSM := Lib.hid hsm
  have HBB := Lib.hid hbb
  have HBB0 := Lib.hid (IsV.form hv.out)
  have HB := Lib.hid hb
  have Q1 := Lib.hid hq1
  have Q2 := Lib.hid hq2
  have hmod : (what : Int).tmod 6 = (0 : Int) := by rw [Int.tmod_eq_emod_of_nonneg (by omega)]; omega
  have hwr : IntKind.u8.wrap (0 : Int) = (0 : Int) := by decide
  have hbl100 : v.bytes.length ≤ 100 := by cases hsm; assumption
  have hkl100 : v.kids.length ≤ 100 := by cases hsm; assumption
  clear hv hS hsm hbb hb hq1 hq2 hks hnum
  obtain ⟨_, v0, v1, v2, v3⟩ := blk4p Q1.out
  go_enter Tryd.func17, Tryd.ntmps17
  go_upto_region 1 with (fail)
  generalize (w.alloc (.cells #[.int .u64 v.num, .slice ba v.bytes.length bc, .slice ka v.kids.length kc, .bool v.has] 36)).alloc (.cells #[.int .u64 0, .slice none 0 0, .slice none 0 0, .bool false] 36) = W0 at *
  rcases hgo with h1 | ⟨h1, h2⟩ | ⟨h1, h2, h3⟩
  all_goals go_upto_region 6 with (fail)
  all_goals
    obtain ⟨_, u0, u1, u2, u3⟩ := blk4p Q2.out
    have p0 := blk_frozen Q2.out 0
    have p1 := blk_frozen Q2.out 1
    have p2 := blk_frozen Q2.out 2
    have p3 := blk_frozen Q2.out 3
    have q0 := blk_frozen Q1.out 0
    have q1 := blk_frozen Q1.out 1
    have q2 := blk_frozen Q1.out 2
    have q3 := blk_frozen Q1.out 3
    go_wp2
    refine post_gen (fun Wf => Wf.heap[w.heap.size + 1]? = some (.cells #[.int .u64 n, .slice ba v.bytes.length bc, .slice ka v.kids.length kc, .bool v.has] 36 (0, 0)) ∧ Below w.heap.size w Wf ∧ VH S Wf (.mk n v.bytes v.kids v.has) (.agg #[.int .u64 n, .slice ba v.bytes.length bc, .slice ka v.kids.length kc, .bool v.has])) ⟨?_, ?_, ?_⟩ ?_
    · exact blk_set4 (blk_set_ne Q2.out (p := ⟨w.heap.size, 0, none⟩) (by simp) _) _ _ _ _
    · exact below_set4 (HB.out.setCell (p := ⟨w.heap.size, 0, none⟩) (Nat.le_refl _) _) (Nat.le_succ _) _ _ _ _
    · exact (fun hbel => have h := HV.out.below hbel; vh_mix (vh_num S _ n hn) h h h) (below_set4 (HB.out.setCell (p := ⟨w.heap.size, 0, none⟩) (Nat.le_refl _) _) (Nat.le_succ _) _ _ _ _)
    · rintro Wf ⟨e1, e2, e3⟩
      obtain ⟨_, d0, d1, d2, d3⟩ := blk4p e1
      exact bodyPost_ret (v := .agg #[.int .u64 n, .slice ba v.bytes.length bc, .slice ka v.kids.length kc, .bool v.has]) (by simp [results, Tryd.results17, go_sem, d0, d1, d2, d3]) rfl ⟨⟨_, _, rfl, e3⟩, e2⟩
end Go.Proofs.YtfghaopimeoijaaDoor
