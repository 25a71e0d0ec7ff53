/-
  How long a value's form in JSON is, by the value's weight. No run of the program stands in this text. Conditions: those that each theorem names.
-/
import Derived.Test.YtiknhkkeifemcaaGreatDoorPkN6
import Derived.Test.YtiknhkkeifemcaaGreatDoorPkN19
import Derived.Test.YtiknhkkeifemcaaGreatDoorPkN20
import Derived.Test.YtiknhkkeifemcaaGreatDoorPkN23
import Derived.Test.YtiknhkkeifemcaaGreatDoorPkN26
import Derived.Deep.Cut
import Derived.Deep.RegionHeld3
import Derived.Maps.AppendAt
namespace Go.Proofs.YtiknhkkeifemcaaGreatDoor
open Go.ChangeShapes Go.WideShapes Go.ChangeAt Go.RowKit Go.Shelf

def PlanNums (p : Plan) : Prop := ∀ i, i < p.structs.length → ∀ k, k < (p.structs.getD i []).length → (((p.structs.getD i []).getD k noPF).dflt : Int) ≤ 18446744073709551615
theorem plan_nums {w : World} {p : Plan} {a0 a1 : Option Addr} {n0 e0 n1 c1 : Nat} (hp : IsPlan w p a0 n0 e0 a1 n1 c1) : PlanNums p := by
  intro i hi k hk
  obtain ⟨_, _, _, n, _, _, _, _, hn, _, _, hfl⟩ := hp.s_at i (by rw [← hp.s_len]; exact hi)
  obtain ⟨_, _, f, hf, _, _, _, _, _, _, _, _, _, _, _, h⟩ := hfl k (by rw [← hn]; exact hk)
  rw [hf]
  exact h
theorem sgn_max (m n : Int) (h1 : 0 < m) (h2 : m ≤ 2147483648) : sgn m n ≤ 18446744073709551615 := by
  unfold sgn
  have := Int.emod_lt_of_pos n (show 0 < 2 * m by omega)
  split <;> omega
theorem sgnOf_max (n s : Int) (h : n ≤ 18446744073709551615) : sgnOf n s ≤ 18446744073709551615 := by
  unfold sgnOf
  split
  · exact sgn_max _ _ (by decide) (by decide)
  · split
    · exact sgn_max _ _ (by decide) (by decide)
    · split
      · exact sgn_max _ _ (by decide) (by decide)
      · exact h
theorem numP_max (cnt kind n : Nat) (hn : (n : Int) ≤ 18446744073709551615) : (numP cnt kind n : Int) ≤ 18446744073709551615 := by
  unfold numP
  split
  · omega
  · split
    · have := Nat.mod_le n cnt
      omega
    · have hm : ((if kSize kind < 8 then n % 2 ^ (8 * (kSize kind).toNat) else n : Nat) : Int) ≤ 18446744073709551615 := by
        split
        · have := Nat.mod_le n (2 ^ (8 * (kSize kind).toNat))
          omega
        · exact hn
      simp only
      generalize (if kSize kind < 8 then n % 2 ^ (8 * (kSize kind).toNat) else n : Nat) = m at *
      split
      · have := sgnOf_max m (kSize kind) hm
        omega
      · exact hm
theorem refP_struct {p : Plan} {f : PF} {i : Nat} (hi : i < p.structs.length) (h : kindP p i f = 13) : refP p i f < p.structs.length := by
  by_cases h10 : f.kind % 13 + 1 = 10
  · by_cases h0 : p.enums.length = 0
    · have := (kp_a (i := i) h10 h0).1
      omega
    · have := (kp_b (i := i) h10 h0).1
      omega
  · by_cases h13 : f.kind % 13 + 1 = 13
    · cases ht : p.tree with
      | true =>
        by_cases hl : i + 1 = p.structs.length
        · have := (kp_c h13 ht hl).1
          omega
        · rw [(kp_d h13 ht hl).2]
          have := Nat.mod_lt f.ref (show 0 < p.structs.length - i - 1 by omega)
          omega
      | false =>
        rw [(kp_e (i := i) h13 ht).2]
        exact Nat.mod_lt _ (by omega)
    · have := (kp_f (p := p) (i := i) h10 h13).1
      omega
end Go.Proofs.YtiknhkkeifemcaaGreatDoor
namespace Go.Proofs.YtiknhkkeifemcaaGreatDoor
open Go.ChangeShapes Go.WideShapes Go.ChangeAt Go.RowKit Go.Shelf

theorem hnum_any (kind ref n : Nat) {b : Nat} {ss : List (SRec × Value)} {es : List (SCho × Value)} {sv ev : Value} (root : Int) (w : World) (h : SchRows b w ss es sv ev) (ht : NumTy (es.map Prod.fst) kind ref) (hn : (n : Int) ≤ 18446744073709551615) :
    Calls Tryz.prog 31 #[.agg #[sv, ev, .int .i64 root], .agg #[.int .u8 kind, .int .i64 ref, .int .i64 0], .int .u64 n] w fun e w' => (∃ z : Nat, e = .returned (.int .u64 z) ∧ (z : Int) ≤ 18446744073709551615 ∧ fitsT (es.map Prod.fst) kind ref 0 z = true) ∧ Below w.heap.size w w' := by
  have hf := num_fits ht (n := n) (by omega)
  obtain ⟨h1, h2, h3⟩ := ht
  by_cases hk : kind = 10
  · subst hk
    obtain ⟨h4, h5⟩ := h3 rfl
    rw [List.length_map] at h4
    have hc : cntE (es.map Prod.fst) ref = es[ref].1.names.length := by
      unfold cntE
      rw [List.getD, List.getElem?_eq_getElem (by rw [List.length_map]; exact h4), Option.getD_some, List.getElem_map]
    rw [hc] at hf h5
    exact (numberE_any ref 0 n root w h h4 h5 hn).mono fun e W ⟨he, hb⟩ => ⟨⟨_, he, numP_max _ _ _ hn, hf⟩, hb⟩
  · exact (hnumber_any kind ref 0 n (cntE (es.map Prod.fst) ref) sv ev root w hn h1 (by omega)).mono fun e W ⟨he, hb⟩ => ⟨⟨_, he, numP_max _ _ _ hn, hf⟩, hb⟩
end Go.Proofs.YtiknhkkeifemcaaGreatDoor
namespace Go.Proofs.YtiknhkkeifemcaaGreatDoor
open Go.ChangeShapes Go.WideShapes Go.ChangeAt Go.RowKit Go.Shelf
theorem made_len {p : Plan} {ss : List (SRec × Value)} (hok : planOk p) (hss : ss.map Prod.fst = recsP p p.structs.length) : 1 ≤ ss.length ∧ ss.length ≤ 16 ∧ ss.length = p.structs.length := by
  have hl : ss.length = p.structs.length := by
    have := congrArg List.length hss
    rwa [List.length_map, recsP_length] at this
  rw [hl]
  exact ⟨hok.1, hok.2.1, rfl⟩
end Go.Proofs.YtiknhkkeifemcaaGreatDoor
namespace Go.Proofs.YtiknhkkeifemcaaGreatDoor
open Go.ChangeShapes Go.WideShapes Go.ChangeAt Go.RowKit Go.Shelf

structure TyM (n : Nat) (es : List SCho) (k r l : Nat) : Prop where
  lo : 1 ≤ k
  hi : k ≤ 13
  li : l ≤ 3
  en : k = 10 → r < es.length ∧ 1 ≤ cntE es r
  st : k = 13 → r < n
def SchM (ss : List (SRec × Value)) (es : List SCho) : Prop := ss.length ≤ 16 ∧ ∀ q ∈ ss, q.1.fields.length ≤ 16 ∧ ∀ f ∈ q.1.fields, TyM ss.length es f.kind f.ref f.lists ∧ (f.dflt : Int) ≤ 18446744073709551615 ∧ (f.lists = 0 → f.kind ≤ 10 → fitsT es f.kind f.ref 0 f.dflt = true)
inductive SmallV : PV → Prop
  | mk (n : Nat) (bs : List Int) (ks : List PV) (h : Bool) (hb : bs.length ≤ 100) (hk : ks.length ≤ 100) (hs : ∀ q ∈ ks, SmallV q) : SmallV (.mk n bs ks h)
theorem smallV_nil : SmallV nilV := .mk 0 [] [] false (by decide) (by decide) (fun q hq => by cases hq)
inductive Wt : PV → Nat → Prop
  | mk (n : Nat) (bs : List Int) (ks : List PV) (h : Bool) (ms : List Nat) (hl : ms.length = ks.length) (hs : ∀ j (hj : j < ks.length), Wt ks[j] (ms.getD j 0)) (m : Nat) (hm : 1 + bs.length + ms.sum ≤ m) : Wt (.mk n bs ks h) m
theorem Wt.mono {v : PV} {m m' : Nat} (h : Wt v m) (hm : m ≤ m') : Wt v m' := by
  cases h with
  | mk n bs ks h ms hl hs _ hb => exact .mk n bs ks h ms hl hs _ (by omega)
def WtL (ks : List PV) (m : Nat) : Prop := ∃ ms : List Nat, ms.length = ks.length ∧ (∀ j (hj : j < ks.length), Wt ks[j] (ms.getD j 0)) ∧ ms.sum ≤ m
theorem WtL.nil : WtL [] 0 := ⟨[], rfl, fun _ hj => absurd hj (Nat.not_lt_zero _), Nat.le_refl _⟩
theorem WtL.val {ks : List PV} {m : Nat} (h : WtL ks m) (n : Nat) (bs : List Int) (has : Bool) : Wt (.mk n bs ks has) (1 + bs.length + m) := by
  obtain ⟨ms, hl, hs, hm⟩ := h
  exact .mk n bs ks has ms hl hs _ (by omega)
def WtIn (sure : Bool) (n i i' : Nat) (v : PV) : Prop := ∃ m, Wt v m ∧ m ≤ 1700 + 1700 * (i' - i) ∧ (sure = false ∨ i < n → m ≤ 101 + 1700 * (i' - i))
theorem WtIn.bytes {sure : Bool} {n i i' k : Nat} {zs : List Int} {h : Bool} (hz : zs.length ≤ 100) : WtIn sure n i i' (.mk k zs [] h) := ⟨1 + zs.length + 0, WtL.nil.val k zs h, by omega, fun _ => by omega⟩
theorem k_size {k : Nat} (h1 : 1 ≤ k) (h2 : k ≤ 10) : 0 < kSize k := by
  have hk : k = 1 ∨ k = 2 ∨ k = 3 ∨ k = 4 ∨ k = 5 ∨ k = 6 ∨ k = 7 ∨ k = 8 ∨ k = 9 ∨ k = 10 := by omega
  rcases hk with rfl | rfl | rfl | rfl | rfl | rfl | rfl | rfl | rfl | rfl <;> decide
theorem Src.at {g : Nat} {a : Option Addr} {bs : List Int} {bc : Nat} {w W Wf : World} {i j : Nat} (h : Src g a bs bc w i) (hx : Exc g w.heap.size w Wf) (h2 : Src g a bs bc W j) (hb : Wf.heap[g]? = W.heap[g]?) : Src g a bs bc Wf j :=
  ⟨hb.trans h2.blk, h2.le, h.byt.exc hx (Nat.le_refl _) h.low, h.low, h.len, h.cap⟩
def u8Cells (zs : List Int) : List Value := zs.map (.int .u8)
end Go.Proofs.YtiknhkkeifemcaaGreatDoor
namespace Go.Proofs.YtiknhkkeifemcaaGreatDoor
open Go.ChangeShapes Go.WideShapes Go.ChangeAt Go.RowKit Go.Shelf

structure KV where
  v : PV
  c0 : Value
  c1 : Value
  c2 : Value
  c3 : Value
def KidsIn (S : Nat → Bool) (W : World) (l : List KV) : Prop := ∀ q ∈ l, VH S W q.v (.agg #[q.c0, q.c1, q.c2, q.c3])
theorem KidsIn.step {S S' : Nat → Bool} {w W : World} {l : List KV} (h : KidsIn S w l) (hs : w.heap.size ≤ W.heap.size) (hb : ∀ k, k < w.heap.size → S k = false → S' k = false ∧ W.heap[k]? = w.heap[k]?) : KidsIn S' W l :=
  fun q hq => (h q hq).step hs hb
def KidsSmall (l : List KV) : Prop := ∀ q ∈ l, SmallV q.v
theorem KidsSmall.val {l : List KV} (h : KidsSmall l) (hl : l.length ≤ 100) (has : Bool) : SmallV (.mk 0 [] (l.map KV.v) has) := .mk 0 [] _ has (by decide) (by rw [List.length_map]; exact hl) (fun v hv => by obtain ⟨q, hq, rfl⟩ := List.mem_map.1 hv; exact h q hq)
def KidsSW (i1 i2 : Nat) (l : List KV) : Prop := KidsSmall l ∧ i1 ≤ i2 ∧ WtL (l.map KV.v) (101 * l.length + 1700 * (i2 - i1))
theorem KidsSW.nil (i1 : Nat) : KidsSW i1 i1 [] := ⟨fun q hq => absurd hq List.not_mem_nil, Nat.le_refl _, (by show WtL [] (101 * 0 + 1700 * (i1 - i1)); rw [Nat.sub_self]; exact WtL.nil)⟩
theorem KidsSW.val {i i1 i2 n : Nat} {sure : Bool} {l : List KV} (h : KidsSW i1 i2 l) (hl : l.length ≤ 16) (hi : i ≤ i1) (hm : i < n → i1 = i + 1) (hs : sure = true ∨ i1 < n) (has : Bool) : SmallV (.mk 0 [] (l.map KV.v) has) ∧ WtIn sure n i i2 (.mk 0 [] (l.map KV.v) has) := by
  have h2 := h.2.1
  refine ⟨h.1.val (by omega) has, _, h.2.2.val 0 [] has, by simp only [List.length_nil]; omega, fun h3 => ?_⟩
  have h4 : i < n := by
    rcases h3 with h3 | h3
    · rcases hs with h5 | h5
      · rw [h3] at h5; cases h5
      · omega
    · exact h3
  have h5 := hm h4
  simp only [List.length_nil]
  omega
def KidsSWL (n i1 i2 : Nat) (l : List KV) : Prop := KidsSW i1 i2 l ∧ (l ≠ [] → i1 < n)
theorem KidsSWL.nil (n i1 : Nat) : KidsSWL n i1 i1 [] := ⟨KidsSW.nil i1, fun h => absurd rfl h⟩
theorem KidsSWL.val {i i1 i2 n : Nat} {sure : Bool} {l : List KV} (h : KidsSWL n i1 i2 l) (hl : l.length ≤ 4) (hi : i ≤ i1) (hm : i < n → i1 = i + 1) (has : Bool) : SmallV (.mk 0 [] (l.map KV.v) has) ∧ WtIn sure n i i2 (.mk 0 [] (l.map KV.v) has) := by
  have h2 := h.1.2.1
  refine ⟨h.1.1.val (by omega) has, _, h.1.2.2.val 0 [] has, by simp only [List.length_nil]; omega, fun _ => ?_⟩
  simp only [List.length_nil]
  rcases Nat.eq_zero_or_pos l.length with h0 | h0
  · omega
  · have h3 := h.2 (fun e => by rw [e] at h0; simp at h0)
    have h5 := hm (by omega)
    omega
end Go.Proofs.YtiknhkkeifemcaaGreatDoor
namespace Go.Proofs.YtiknhkkeifemcaaGreatDoor
open Go.RowKit
structure NamOk (ss : List SRec) (es : List SCho) : Prop where
  flds : ∀ r ∈ ss, r.fields.length ≤ 16 ∧ ∀ f ∈ r.fields, (quot (bts f.name)).length ≤ 20
  nams : ∀ c ∈ es, ∀ s ∈ c.names, (quot (bts s)).length ≤ 20
theorem namJ_len {ss : List SRec} {es : List SCho} (h : NamOk ss es) (ref : Int) (n : Nat) : (quot (bts (namJ es ref n))).length ≤ 20 := by
  have h0 : (quot (bts ⟨#[]⟩)).length ≤ 20 := by decide
  unfold namJ
  by_cases h1 : ref.toNat < es.length
  · have hn : es.getD ref.toNat ⟨⟨#[]⟩, []⟩ = es[ref.toNat] := by rw [List.getD, List.getElem?_eq_getElem h1, Option.getD_some]
    rw [hn, List.getD]
    by_cases h2 : n < (es[ref.toNat]).names.length
    · rw [List.getElem?_eq_getElem h2]
      exact h.nams _ (List.getElem_mem h1) _ (List.getElem_mem h2)
    · rw [List.getElem?_eq_none (by omega)]
      exact h0
  · have hn : es.getD ref.toNat ⟨⟨#[]⟩, []⟩ = ⟨⟨#[]⟩, []⟩ := by rw [List.getD, List.getElem?_eq_none (by omega)]; rfl
    rw [hn]
    exact h0
theorem numJ_len {ss : List SRec} {es : List SCho} (h : NamOk ss es) (k : Nat) (ref : Int) (n : Nat) : (numJ es k ref n).length ≤ 24 := by
  unfold numJ
  split
  · unfold boolF; split <;> decide
  split
  · have := namJ_len h ref n; omega
  have := decS_len k n
  split
  · rw [List.length_cons, List.length_append, List.length_singleton]; omega
  · omega
end Go.Proofs.YtiknhkkeifemcaaGreatDoor
