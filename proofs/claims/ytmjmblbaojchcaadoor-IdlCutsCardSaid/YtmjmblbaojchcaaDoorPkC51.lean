/-
  What is made of a plan is a schema of few short things. No run of the program stands in this text. Conditions: those that each theorem names.
  The law IdlCuts returns true for every plan and every cut: a walk over the callees' contracts. Condition: the library's tables hold what the row lists.
  What the frames of this seat's proofs share: the program's own facts, and what a walk is told of a slice of integers that came in. No conditions.
  A world in which the listed tables lie as the program's text lays them. No conditions.
-/
import Derived.Test.YtmjmblbaojchcaaDoorPkC22
import Derived.Test.YtmjmblbaojchcaaDoorPkC41
import Derived.Test.YtmjmblbaojchcaaDoorPkC50
import Derived.Test.YtmjmblbaojchcaaDoorRows
import Derived.WalkKit
import Derived.ProofKit
import Derived.OpenShut
import Derived.ShutString
import Derived.ChangeOld
import Derived.Below
import Derived.Deep.DeepHandedRow
import Derived.Lib.LaidTab
namespace Go.Proofs.YtmjmblbaojchcaaDoor
open Go.ChangeShapes Go.WideShapes Go.ChangeAt Go.RowKit Go.Shelf

/-- A plan's numbers are numbers of their sizes. -/
def PlanNums (p : Plan) : Prop := ∀ i, i < p.structs.length → ∀ k, k < (p.structs.getD i []).length → (((p.structs.getD i []).getD k noPF).dflt : Int) ≤ 18446744073709551615
theorem plan_nums {w : World} {p : Plan} {a0 a1 : Option Addr} {n0 e0 n1 c1 : Nat} (hp : IsPlan w p a0 n0 e0 a1 n1 c1) : PlanNums p := by
  intro i hi k hk
  obtain ⟨_, _, _, n, _, _, _, _, hn, _, _, hfl⟩ := hp.s_at i (by rw [← hp.s_len]; exact hi)
  obtain ⟨_, _, f, hf, _, _, _, _, _, _, _, _, _, _, _, h⟩ := hfl k (by rw [← hn]; exact hk)
  rw [hf]
  exact h
theorem name2_size (x : UInt8) (y : Int) : ((⟨#[x]⟩ : ByteArray) ++ strOfNums [y]).size = 2 := by
  rw [ByteArray.size_append, strOfNums_size]
  rfl
theorem label_size (n k : Nat) : (labelOf n k).size ≤ 7 := by
  unfold labelOf
  rw [ByteArray.size_append, strOfNums_size]
  have := heads_size (m := n % 10) (Nat.mod_lt _ (by decide))
  simp
  exact this
theorem sgn_max (m n : Int) (h1 : 0 < m) (h2 : m ≤ 2147483648) : sgn m n ≤ 18446744073709551615 := by
  unfold sgn
  have := Int.emod_lt_of_pos n (show 0 < 2 * m by omega)
  split <;> omega
theorem sgnOf_max (n s : Int) (h : n ≤ 18446744073709551615) : sgnOf n s ≤ 18446744073709551615 := by
  unfold sgnOf
  split
  · exact sgn_max _ _ (by decide) (by decide)
  · split
    · exact sgn_max _ _ (by decide) (by decide)
    · split
      · exact sgn_max _ _ (by decide) (by decide)
      · exact h
theorem numP_max (cnt kind n : Nat) (hn : (n : Int) ≤ 18446744073709551615) : (numP cnt kind n : Int) ≤ 18446744073709551615 := by
  unfold numP
  split
  · omega
  · split
    · have := Nat.mod_le n cnt
      omega
    · have hm : ((if kSize kind < 8 then n % 2 ^ (8 * (kSize kind).toNat) else n : Nat) : Int) ≤ 18446744073709551615 := by
        split
        · have := Nat.mod_le n (2 ^ (8 * (kSize kind).toNat))
          omega
        · exact hn
      simp only
      generalize (if kSize kind < 8 then n % 2 ^ (8 * (kSize kind).toNat) else n : Nat) = m at *
      split
      · have := sgnOf_max m (kSize kind) hm
        omega
      · exact hm
theorem refP_struct {p : Plan} {f : PF} {i : Nat} (hi : i < p.structs.length) (h : kindP p i f = 13) : refP p i f < p.structs.length := by
  by_cases h10 : f.kind % 13 + 1 = 10
  · by_cases h0 : p.enums.length = 0
    · have := (kp_a (i := i) h10 h0).1
      omega
    · have := (kp_b (i := i) h10 h0).1
      omega
  · by_cases h13 : f.kind % 13 + 1 = 13
    · cases ht : p.tree with
      | true =>
        by_cases hl : i + 1 = p.structs.length
        · have := (kp_c h13 ht hl).1
          omega
        · rw [(kp_d h13 ht hl).2]
          have := Nat.mod_lt f.ref (show 0 < p.structs.length - i - 1 by omega)
          omega
      | false =>
        rw [(kp_e (i := i) h13 ht).2]
        exact Nat.mod_lt _ (by omega)
    · have := (kp_f (p := p) (i := i) h10 h13).1
      omega
theorem few_of {p : Plan} (h : planOk p) (hn : PlanNums p) : Few (schP p) := by
  obtain ⟨h1, h2, h3, h4⟩ := h
  have hel : (schP p).enums.length = p.enums.length := chosP_length _ _
  have hsl : (schP p).structs.length = p.structs.length := recsP_length _ _
  refine ⟨by omega, by omega, ?_, ?_, ?_, ?_⟩
  · intro c hc
    obtain ⟨i, hi, rfl⟩ := List.mem_map.1 hc
    refine ⟨Nat.le_trans (Nat.le_of_eq (name2_size _ _)) (by decide), ?_, fun n hn => ?_⟩
    · simp [choP]
      unfold cntOf
      have := Nat.mod_lt (p.enums.getD i 0) (show 0 < 32 by decide)
      omega
    · obtain ⟨k, _, rfl⟩ := List.mem_map.1 hn
      unfold valName
      rw [ByteArray.size_append, strOfNums_size]
      show 1 + 2 ≤ 100
      decide
  · intro r hr
    obtain ⟨i, hi, rfl⟩ := List.mem_map.1 hr
    have hi' := List.mem_range.1 hi
    refine ⟨Nat.le_trans (Nat.le_of_eq (name2_size _ _)) (by decide), ?_⟩
    show (fldsP _ _ _ _).length ≤ 100
    rw [fldsP_length]
    have := (h4 _ (getD_mem [] hi')).2
    omega
  · intro r hr f hf
    obtain ⟨i, hi, rfl⟩ := List.mem_map.1 hr
    have hi' := List.mem_range.1 hi
    obtain ⟨k, hk, rfl⟩ := List.mem_map.1 hf
    have hk' := List.mem_range.1 hk
    have hd := hn i hi' k hk'
    generalize (p.structs.getD i []).getD k noPF = g at *
    obtain ⟨k1, k13⟩ := kindP_le p i g
    refine ⟨Nat.le_trans (label_size _ _) (by decide), ?_, k1, k13, ?_, ?_, ?_⟩
    · show g.lists % 4 ≤ 3
      omega
    · show ((if isNumP (kindP p i g) (g.lists % 4) = true then numP (cntOf p (refP p i g)) (kindP p i g) g.dflt else 0 : Nat) : Int) ≤ _
      split
      · exact numP_max _ _ _ hd
      · decide
    · intro h10
      have h10' : kindP p i g = 10 := h10
      obtain ⟨h0, hr'⟩ := kind_enum h10'
      have hlt : refP p i g < p.enums.length := by rw [hr']; exact Nat.mod_lt _ (by omega)
      refine ⟨by rw [hel]; exact hlt, fun _ => ?_⟩
      have e : ((schP p).enums[refP p i g]'(by rw [hel]; exact hlt)) = choP p (refP p i g) := by simp [schP, chosP]
      show (if isNumP (kindP p i g) (g.lists % 4) = true then numP (cntOf p (refP p i g)) (kindP p i g) g.dflt else 0) < ((schP p).enums[refP p i g]'(by rw [hel]; exact hlt)).names.length
      rw [e]
      have hc : (choP p (refP p i g)).names.length = cntOf p (refP p i g) := by simp [choP]
      have hcp : 0 < cntOf p (refP p i g) := by unfold cntOf; omega
      rw [hc]
      split
      · rw [h10']
        exact Nat.mod_lt _ hcp
      · exact hcp
    · intro h13
      rw [hsl]
      exact refP_struct hi' h13
  · rw [hsl]
    exact Nat.mod_lt _ (by omega)
end Go.Proofs.YtmjmblbaojchcaaDoor
namespace Go.Proofs.YtmjmblbaojchcaaDoor
open Go.ChangeShapes Go.WideShapes Go.ChangeAt Go.RowKit Go.Shelf

theorem IsPlan.below {w W : World} {p : Plan} {a0 a1 : Option Addr} {n0 e0 n1 c1 : Nat} (h : IsPlan w p a0 n0 e0 a1 n1 c1) (hb : Below w.heap.size w W) : IsPlan W p a0 n0 e0 a1 n1 c1 := by
  refine ⟨h.e_len, h.s_len, h.e_cap, h.s_cap, h.rt, fun j hj => ?_, fun r hr => ?_⟩
  · obtain ⟨h1, b, off, h2, h3, h4⟩ := h.e_at j hj
    exact ⟨h1, b, off, h2, Nat.lt_of_lt_of_le h3 hb.size, (hb.cell (p := ⟨b, off + j, none⟩) h3).trans h4⟩
  · obtain ⟨b, off, a, n, c, h2, h3, h4, h5, h6, h7, h8⟩ := h.s_at r hr
    refine ⟨b, off, a, n, c, h2, Nat.lt_of_lt_of_le h3 hb.size, (hb.cell (p := ⟨b, off + r, none⟩) h3).trans h4, h5, h6, h7, fun k hk => ?_⟩
    obtain ⟨b', off', f, g1, g2, g3, x0, x1, x2, x3, x4, q⟩ := h8 k hk
    exact ⟨b', off', f, g1, g2, Nat.lt_of_lt_of_le g3 hb.size, (hb.cell (p := ⟨b', off' + k * 5, none⟩) g3).trans x0, (hb.cell (p := ⟨b', off' + k * 5 + 1, none⟩) g3).trans x1, (hb.cell (p := ⟨b', off' + k * 5 + 2, none⟩) g3).trans x2, (hb.cell (p := ⟨b', off' + k * 5 + 3, none⟩) g3).trans x3, (hb.cell (p := ⟨b', off' + k * 5 + 4, none⟩) g3).trans x4, q⟩
theorem blk4p {w : World} {g : Nat} {x y z u : Value} {t : TypeId} (h : w.heap[g]? = some (.cells #[x, y, z, u] t (0, 0))) :
    g < w.heap.size ∧ w.cell? ⟨g, 0, none⟩ = some x ∧ w.cell? ⟨g, 1, none⟩ = some y ∧ w.cell? ⟨g, 2, none⟩ = some z ∧ w.cell? ⟨g, 3, none⟩ = some u :=
  ⟨blk_lt h, (blk_cell h 0).trans rfl, (blk_cell h 1).trans rfl, (blk_cell h 2).trans rfl, (blk_cell h 3).trans rfl⟩
set_option maxRecDepth 100000 in
set_option maxHeartbeats 4000000 in
theorem idlCuts_walk (p : Plan) {a0 a1 : Option Addr} {n0 e0 n1 c1 : Nat} (cut : Int) (w : World) (hp : IsPlan w p a0 n0 e0 a1 n1 c1) (hcut : (Lit.int .i64 cut).wf = true) (hT : Tabs w) :
    Calls Tryd.prog 4 #[.agg #[.slice a0 n0 e0, .slice a1 n1 c1, .int .u8 p.root, .bool p.tree], .int .i64 cut] w fun e w' => e = .returned (.bool true) ∧ Below w.heap.size w w' := by
  have bc := bounds_i64 hcut
  have HP := Lib.hid hp
  have HT := Lib.hid hT
  have HB0 := Lib.hid ((Below.refl w.heap.size w).alloc (Nat.le_refl _) (.cells #[.slice a0 n0 e0, .slice a1 n1 c1, .int .u8 p.root, .bool p.tree] 25))
  have HZ0 := Lib.hid (heap_alloc_new w (.cells #[.slice a0 n0 e0, .slice a1 n1 c1, .int .u8 p.root, .bool p.tree] 25))
  clear hp hcut hT
  go_enter Tryd.func4, Tryd.ntmps4
  go_wp2_with fail
  refine (iawake_any _ (HT.out.below (Nat.le_refl _) HB0.out)).mono ?_
  rintro e W1 ⟨rfl, hb1⟩
  have HB1 := Lib.hid (HB0.out.trans (hb1.mono HB0.out.size))
  obtain ⟨_, y0, y1, y2, y3⟩ := blk4p (blk_below HZ0.out hb1 (blk_lt HZ0.out))
  clear hb1
  go_wp2_with fail
  refine (made_any p W1 (HP.out.below HB1.out)).mono ?_
  rintro e W2 ⟨hb2, hpost⟩
  have HB2 := Lib.hid (HB1.out.trans (hb2.mono HB1.out.size))
  clear hb2 y0 y1 y2 y3
  rcases hpost with ⟨hok, ss, es, sv, ev, rfl, hss, hes, hr⟩ | ⟨hno, rfl⟩
  · obtain ⟨sa, sc, ea, ec, rfl, rfl⟩ := hr.forms
    have HF : Hid (Few (schP p)) := Lib.hid (few_of hok (plan_nums HP.out))
    have HSS := Lib.hid hss
    have HES := Lib.hid hes
    have HR := Lib.hid hr
    clear hok hss hes hr
    have HSP : Hid (schP p = ⟨ss.map Prod.fst, es.map Prod.fst, p.root % p.structs.length⟩) := Lib.hid (by rw [HSS.out, HES.out]; rfl)
    generalize p.root % p.structs.length = rt at *
    go_upto_region 4 with (fail)
    have hba : Below W2.heap.size W2 (W2.alloc (.cells #[.slice sa ss.length sc, .slice ea es.length ec, .int .i64 rt] 31)) := (Below.refl _ _).alloc (Nat.le_refl _) _
    obtain ⟨_, z0, z1, z2, _⟩ := blk3 (heap_alloc_new W2 (.cells #[.slice sa ss.length sc, .slice ea es.length ec, .int .i64 rt] 31))
    have HB3 := Lib.hid (HB2.out.trans (hba.mono HB2.out.size))
    have HR3 := Lib.hid (HR.out.below hba)
    clear hba
    generalize W2.alloc (.cells #[.slice sa ss.length sc, .slice ea es.length ec, .int .i64 rt] 31) = W3 at *
    go_wp2_with fail
    refine (text_any W3 rt HR3.out (schP p) HSP.out HF.out).mono ?_
    rintro e W4 ⟨rfl, hb4⟩
    have HB4 := Lib.hid (HB3.out.trans (hb4.mono HB3.out.size))
    have hsz := (textS_size HF.out).2
    generalize textS (schP p) = T at *
    clear hb4 z0 z1 z2
    obtain ⟨q, hq, hqs⟩ : ∃ q : Nat, (IntKind.u64.wrap cut).tmod ((T.size : Int) + 1) = q ∧ q ≤ T.size := by
      have hw : 0 ≤ IntKind.u64.wrap cut := by simp only [IntKind.wrap, IntKind.bits, IntKind.signed]; simp; omega
      have h1 := Int.emod_nonneg (IntKind.u64.wrap cut) (show (T.size : Int) + 1 ≠ 0 by omega)
      have h2 := Int.emod_lt_of_pos (IntKind.u64.wrap cut) (show 0 < (T.size : Int) + 1 by omega)
      refine ⟨(IntKind.u64.wrap cut % ((T.size : Int) + 1)).toNat, ?_, by omega⟩
      rw [Int.tmod_eq_emod_of_nonneg hw]
      omega
    have hw64 : wrap64 (q : Int) = q := wrap64_in _ (by omega) (by omega)
    have hqi : (q : Int) ≤ T.size := by omega
    go_wp2_with fail
    refine (told_any (T.extract 0 q) W4 (HT.out.below (Nat.le_refl _) HB4.out) (by rw [ByteArray.size_extract]; omega)).mono ?_
    rintro e W5 ⟨rfl, hb5⟩
    have HB5 := Lib.hid (HB4.out.trans (hb5.mono HB4.out.size))
    clear hb5
    go_wp2
    go_ret
    exact ⟨rfl, HB5.out⟩
  · go_wp2
    go_ret
    exact ⟨rfl, HB2.out.alloc HB2.out.size _⟩
end Go.Proofs.YtmjmblbaojchcaaDoor
namespace Go.Proofs.YtmjmblbaojchcaaDoor
open Go.ChangeShapes Go.WideShapes Go.ChangeAt Go.RowKit

theorem own : ownKnob Tryd.prog.godebug = none := by kernel_rfl
theorem laidOut : laidOutB Tryd.prog = true := by kernel_rfl
/-- A slice of integers that came in: its numbers up to the capacity. -/
def IsRow (k : IntKind) (w : World) (a : Option Addr) (len cap : Nat) (zs : List Int) : Prop :=
  len ≤ cap ∧ cap ≤ maxLen ∧ zs.length = cap ∧ (∀ n ∈ zs, (Lit.int k n).wf = true) ∧
  (zs ≠ [] → ∃ b off, a = some ⟨b, off, none⟩ ∧ b < w.heap.size ∧ ∀ j, j < zs.length → w.cell? ⟨b, off + j, none⟩ = some (.int k (zs.getD j 0)))
theorem isRow_nil (k : IntKind) (w : World) (a : Option Addr) : IsRow k w a 0 0 [] :=
  ⟨Nat.le_refl _, Nat.zero_le _, rfl, (fun n h => by simp at h), (fun h => absurd rfl h)⟩
theorem isRow_of {k : IntKind} {w : World} {x : Addr} {len cap : Nat} {zs : List Int} (hl : len ≤ cap) (hm : cap ≤ maxLen) (hz : zs.length = cap)
    (hc : ∀ i, i < zs.length → w.cell? (x.add i) = some (.int k (zs.getD i 0))) (hw : ∀ n ∈ zs, (Lit.int k n).wf = true) : IsRow k w (some x) len cap zs := by
  refine ⟨hl, hm, hz, hw, fun hne => ?_⟩
  have h0 : 0 < zs.length := List.length_pos_iff.2 hne
  obtain ⟨b, off, rfl, hc'⟩ := ints_at hc h0
  exact ⟨b, off, rfl, World.block_lt_of_cell? _ _ (hc' 0 h0), hc'⟩
end Go.Proofs.YtmjmblbaojchcaaDoor
namespace Go.Proofs.YtmjmblbaojchcaaDoor
open Go.ChangeShapes Go.WideShapes Go.ChangeAt Go.RowKit

/-- The settled world, the two tables holding what the program's text lays. -/
noncomputable def laidWorld (os : Os) : World :=
  { World.holding Tryd.prog os ⟨#[], #[], []⟩ with heap := (((World.holding Tryd.prog os ⟨#[], #[], []⟩).heap.modify 1 (fun
      | .cells _ t frozen => .cells (Lib.firstTab.map (Value.int .u8)).toArray t frozen
      | o => o)).modify 2 (fun
      | .cells _ t frozen => .cells ((List.range 32).map fun i => Value.int .u8 (if i % 2 = 0 then Lib.accLo (i / 2) else Lib.accHi (i / 2))).toArray t frozen
      | o => o)) }
end Go.Proofs.YtmjmblbaojchcaaDoor
