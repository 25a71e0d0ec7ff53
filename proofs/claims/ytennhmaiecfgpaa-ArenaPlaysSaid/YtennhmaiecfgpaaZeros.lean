/-
  An append of so many zeros ('append(b, make([]byte, n)...)') onto a row of bytes that the call owns; what a step may have changed ('Moved'). Conditions: those that each theorem names.
-/
import Derived.Test.YtennhmaiecfgpaaCopy
namespace Go.Proofs.Ytennhmaiecfgpaa
open Go.ChangeShapes Go.WideShapes Go.ChangeAt Go.RowKit

theorem zeroCells_u8 (m : Nat) : Builtin.zeroCells (Value.int .u8 0).cells m = (u8s (zeros m)).toArray := by
  apply Array.ext'
  simp only [Builtin.zeroCells]
  apply List.ext_getElem?
  intro i
  by_cases hi : i < m
  · simp [zeros, u8s, Value.cells, hi, Nat.mod_one]
  · simp [zeros, u8s, Value.cells, hi]
theorem u8s_append (a b : List Int) : u8s (a ++ b) = u8s a ++ u8s b := by simp [u8s]
theorem length_u8s (a : List Int) : (u8s a).length = a.length := by simp [u8s]
theorem length_zeros (n : Nat) : (zeros n).length = n := by simp [zeros]

section
variable {P : Program} (w : World)
/-- A row of bytes of the call's own, nil or not. -/
def OwnV (w : World) (base : Nat) (e : TypeId) (A : Option Addr) (cap : Nat) (zs : List Int) : Prop := w.ownsRow base e 1 (.slice A zs.length cap) zs.length (u8s zs)
def rowOf (A : Option Addr) : Option Nat := A.map (·.block)
theorem ownBlock_rowOf (A : Option Addr) (n cap : Nat) : (Value.slice A n cap).ownBlock = rowOf A := by cases A <;> rfl

theorem run_append_zeros_grow (t tx ty e : TypeId) (i : TypeInfo) (ht : P.underlying t = some (.slice e)) (hk : P.underlying tx = some (.int .i64)) (hi : P.info? e = some i) (hz : i.zero = some (.int .u8 0)) (hsize : i.size = 1) (hby : i.bytes = 1)
    (A : Option Addr) (n cap : Nat) (olds : List Value) (hold : (Builtin.firstCells 1 n (.slice A n cap)).run P w.drew = .ok olds.toArray w.drew) (m : Nat) (hg : cap < n + m) (hbd : n + m ≤ 140737488355328) :
    (Builtin.append_ #[t, tx] ty #[.slice A n cap, .int .i64 m]).run P w = .ok (.slice (some ⟨w.heap.size, 0, none⟩) (n + m) (grownCap w (n + m) cap e))
        (w.drew.alloc (.cells ((olds ++ u8s (zeros m)).toArray ++ Builtin.zeroCells (Value.int .u8 0).cells (grownCap w (n + m) cap e - (n + m))) e)) := by
  have hwr : IntKind.i64.wrap (m : Int) = m := IntWalk.i64_in m (by omega)
  have hm48 : ¬ (281474976710656 : Int) < (m : Int) := by omega
  have hm0 : ¬ (m : Int) < 0 := by omega
  have hn : ¬ (n + m ≤ cap) := by omega
  have h63' : ¬ (9223372036854775807 < ((n : Int) + (m : Int))) := by omega
  have hfit := growslice_fits (old := cap) (need := n + m) (bytes := 1) hg (by omega)
  have h48' : ¬ (281474976710656 < Builtin.nextslicecap (n + m) cap) := by omega
  have hzz := zeroCells_u8 m
  by_cases h0 : m = 0
  · subst h0
    have hw0 : IntKind.i64.wrap 0 = 0 := IntWalk.i64_in 0 (by decide)
    rw [Nat.add_zero] at hg
    have hn' : ¬ n ≤ cap := by omega
    have h63'' : ¬ (9223372036854775807 < (n : Int)) := by omega
    rw [Nat.add_zero] at h48'
    simp [Builtin.append_, run_underlying ht, run_underlying hk, sizeOf, typeInfo, zeroValue, hi, hz, hsize, hby, hw0, asInt, asIntOf, hn', h63'', h48', Question.forced, hold, newRow, grownCap]
    have hu : olds ++ u8s (zeros 0) = olds := by simp [u8s, zeros]
    rw [hu]
  · simp [Builtin.append_, run_underlying ht, run_underlying hk, sizeOf, typeInfo, zeroValue, hi, hz, hsize, hby, hwr, asInt, asIntOf, hm48, hm0, hn, h63', h48', h0, Question.forced, hold, newRow, grownCap, hzz]
    congr 2
    apply Array.ext'
    simp [List.append_assoc]
theorem run_append_zeros_room (t tx ty e : TypeId) (i : TypeInfo) (ht : P.underlying t = some (.slice e)) (hk : P.underlying tx = some (.int .i64)) (hi : P.info? e = some i) (hz : i.zero = some (.int .u8 0)) (hsize : i.size = 1) (hby : i.bytes = 1)
    (g n cap : Nat) (m : Nat) (w' : World) (hroom : n + m ≤ cap) (hbd : n + m ≤ 140737488355328) (hst : (storeCells (⟨g, n, none⟩ : Addr) (u8s (zeros m))).run P w = .ok () w') :
    (Builtin.append_ #[t, tx] ty #[.slice (some ⟨g, 0, none⟩) n cap, .int .i64 m]).run P w = .ok (.slice (some ⟨g, 0, none⟩) (n + m) cap) w' := by
  have hwr : IntKind.i64.wrap (m : Int) = m := IntWalk.i64_in m (by omega)
  have hm48 : ¬ (281474976710656 : Int) < (m : Int) := by omega
  have hm0 : ¬ (m : Int) < 0 := by omega
  have hzz := zeroCells_u8 m
  by_cases h0 : m = 0
  · subst h0
    have hw0 : IntKind.i64.wrap 0 = 0 := IntWalk.i64_in 0 (by decide)
    rw [Nat.add_zero] at hroom
    have hu : u8s (zeros 0) = [] := rfl
    rw [hu] at hst
    simp [Builtin.append_, run_underlying ht, run_underlying hk, sizeOf, typeInfo, zeroValue, hi, hz, hsize, hby, hw0, asInt, asIntOf, hroom, Addr.add_lit, hst]
  · simp [Builtin.append_, run_underlying ht, run_underlying hk, sizeOf, typeInfo, zeroValue, hi, hz, hsize, hby, hwr, asInt, asIntOf, hm48, hm0, hroom, h0, hzz, Addr.add_lit, hst]
theorem run_append_zeros (base : Nat) (t tx ty e : TypeId) (i : TypeInfo) (ht : P.underlying t = some (.slice e)) (hk : P.underlying tx = some (.int .i64)) (hi : P.info? e = some i) (hz : i.zero = some (.int .u8 0)) (hsize : i.size = 1) (hby : i.bytes = 1)
    (A : Option Addr) (cap : Nat) (zs : List Int) (hown : OwnV w base e A cap zs) (m : Nat) (hbd : zs.length + m ≤ 140737488355328) (hbase : base ≤ w.heap.size) :
    ∃ A' cap' w', (Builtin.append_ #[t, tx] ty #[.slice A zs.length cap, .int .i64 m]).run P w = .ok (.slice A' (zs.length + m) cap') w' ∧ OwnV w' base e A' cap' (zs ++ zeros m) ∧ w.grownBy w' (rowOf A) ∧ (rowOf A' = rowOf A ∨ rowOf A' = some w.heap.size) := by
  have hnl : (u8s (zeros m)).length = m := by simp [u8s, zeros]
  have hll : (zs ++ zeros m).length = zs.length + m := by simp [zeros]
  have hlen : (u8s (zs ++ zeros m)).length = (zs.length + m) * 1 := by simp [u8s, zeros]
  have hoz : (u8s zs).length = zs.length := by simp [u8s]
  have grown : ∀ (old : Nat), old < zs.length + m → ∀ (row : Option Nat),
      OwnV (w.drew.alloc (.cells ((u8s zs ++ u8s (zeros m)).toArray ++ Builtin.zeroCells (Value.int .u8 0).cells (grownCap w (zs.length + m) old e - (zs.length + m))) e)) base e (some ⟨w.heap.size, 0, none⟩) (grownCap w (zs.length + m) old e) (zs ++ zeros m) ∧
      w.grownBy (w.drew.alloc (.cells ((u8s zs ++ u8s (zeros m)).toArray ++ Builtin.zeroCells (Value.int .u8 0).cells (grownCap w (zs.length + m) old e - (zs.length + m))) e)) row := by
    intro old ho row
    have hge := grownCap_ge w (zs.length + m) old e
    have hcm : grownCap w (zs.length + m) old e ≤ maxLen := grownCap_le_maxLen w (zs.length + m) old e (by unfold maxLen; omega)
    refine ⟨?_, ⟨rfl, rfl, rfl, by simp, fun k hk _ => Below.heap_alloc w.drew _ k hk⟩⟩
    unfold OwnV
    rw [hll]
    refine ⟨hlen, .inr ⟨w.heap.size, _, _, rfl, hbase, heap_alloc_new w.drew _, hge, hcm, ?_, ?_⟩⟩
    · simp only [Array.size_append, List.size_toArray, size_zeroCells, List.length_append, hoz, hnl, Value.cells]
      simp
      omega
    · rw [u8s_append]
      simp only [Array.toList_append]
      rw [← hlen, u8s_append]
      exact List.take_left
  have hown0 := hown
  unfold OwnV at hown
  rcases hown.2 with ⟨hv, hn⟩ | ⟨g, cap0, cur, hv, hbg, hg, hnc, hcm, hcs, htake⟩
  · injection hv with h1 h2 h3
    subst h1 h3
    have hzs : zs = [] := List.eq_nil_of_length_eq_zero hn
    subst hzs
    by_cases hm : m = 0
    · subst hm
      refine ⟨none, 0, w, ?_, by simpa [zeros] using hown0, ⟨rfl, rfl, rfl, Nat.le_refl _, fun _ _ _ => rfl⟩, .inl rfl⟩
      have hw0 : IntKind.i64.wrap 0 = 0 := IntWalk.i64_in 0 (by decide)
      simp [Builtin.append_, run_underlying ht, run_underlying hk, sizeOf, typeInfo, hi, hby, hw0, asInt, asIntOf]
    · have hr := run_append_zeros_grow (P := P) w t tx ty e i ht hk hi hz hsize hby none 0 0 [] (run_firstCells_none w.drew 1 0 0 0) m (by omega) (by simpa using hbd)
      have hgr := grown 0 (by simp; omega) (rowOf none)
      exact ⟨_, _, _, hr, hgr.1, hgr.2, .inr rfl⟩
  · injection hv with h1 h2 h3
    subst h1 h3
    by_cases hroom : zs.length + m ≤ cap
    · have hfit : zs.length * 1 + (u8s (zeros m)).length ≤ cur.size := by rw [hnl, hcs]; omega
      have hst := run_storeCells_at P g zs.length e (u8s (zeros m)) 0 cur w hg (by simpa using hfit) (u8s_one _)
      simp only [Nat.add_zero] at hst
      have hr := run_append_zeros_room (P := P) w t tx ty e i ht hk hi hz hsize hby g zs.length cap m _ hroom hbd hst
      refine ⟨_, _, _, hr, ?_, ⟨rfl, rfl, rfl, by simp, fun k _ hk => setRow_other w g k _ (fun e => hk (by simp [rowOf, e]))⟩, .inl rfl⟩
      unfold OwnV
      rw [hll]
      refine ⟨hlen, .inr ⟨g, cap, _, rfl, hbg, setRow_heap w g cur _ e _ hg, hroom, hcm, ?_, ?_⟩⟩
      · simp only [List.size_toArray, List.length_append, List.length_take, List.length_drop, Array.length_toList]
        omega
      · rw [Nat.mul_one] at htake
        rw [htake, ← hlen, u8s_append]
        exact List.take_left
    · have holds : ∀ j u, (u8s zs)[j]? = some u → w.cell? ((⟨g, 0, none⟩ : Addr).add j) = some u := hown.cells (g := g) rfl
      have hf := run_firstCells_some (P := P) w.drew 1 zs.length ⟨g, 0, none⟩ zs.length cap (u8s zs) hown.1 (by simpa using holds)
      have hr := run_append_zeros_grow (P := P) w t tx ty e i ht hk hi hz hsize hby (some ⟨g, 0, none⟩) zs.length cap (u8s zs) hf m (by omega) hbd
      have hgr := grown cap (by omega) (rowOf (some ⟨g, 0, none⟩))
      exact ⟨_, _, _, hr, hgr.1, hgr.2, .inr rfl⟩
theorem wpList_app_zeros {ops : Array Oper} {rest : List Oper} {o : Oper} {a : Act} {Q : Exit → Act → World → Prop} (hgd : o.guard = none) (s x : Operand) (t tx : TypeId)
    (ho : o.op = .call { callee := .builtin .append, args := #[s, x], argTypes := #[t, tx] })
    (base : Nat) (e : TypeId) (i : TypeInfo) (ht : P.underlying t = some (.slice e)) (hk : P.underlying tx = some (.int .i64)) (hi : P.info? e = some i) (hz : i.zero = some (.int .u8 0)) (hsize : i.size = 1) (hby : i.bytes = 1)
    (A : Option Addr) (cap : Nat) (zs : List Int) (n m : Nat) (hn : zs.length = n) (hs : a.eval s = .slice A n cap) (hown : OwnV w base e A cap zs) (hx : a.eval x = .int .i64 m) (hbd : n + m ≤ 140737488355328) (hbase : base ≤ w.heap.size)
    (h : ∀ A' cap' w', OwnV w' base e A' cap' (zs ++ zeros m) → w.grownBy w' (rowOf A) → (rowOf A' = rowOf A ∨ rowOf A' = some w.heap.size) → wpList P ops Q rest (a.put o.dst (.slice A' (n + m) cap')) w') : wpList P ops Q (o :: rest) a w := by
  subst hn
  obtain ⟨A', cap', w', hrun, h2, h3, h4⟩ := run_append_zeros (P := P) w base t tx o.type e i ht hk hi hz hsize hby A cap zs hown m hbd hbase
  refine wpList_plain hgd fun _ hK => ?_
  unfold Oper.wp execOp
  simp only [ho, resolve, invoke, builtin, Sem.run_bind, Sem.run_pure, Result.andThen_ok, List.map_toArray, List.map_cons, List.map_nil, hs, hx, hrun]
  exact hK _ _ (h A' cap' w' h2 h3 h4)
end
end Go.Proofs.Ytennhmaiecfgpaa
