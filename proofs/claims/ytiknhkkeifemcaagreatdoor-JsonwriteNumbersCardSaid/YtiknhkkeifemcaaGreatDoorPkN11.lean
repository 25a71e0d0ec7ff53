/-
  A plan that came in, opened. Conditions: those that each theorem names.
-/
import Derived.Test.YtiknhkkeifemcaaGreatDoorPkN4
import Derived.Test.YtiknhkkeifemcaaGreatDoorPkN7
import Derived.Deep.Slices
import Derived.Lib.SmallJoins
namespace Go.Proofs.YtiknhkkeifemcaaGreatDoor
open Go.ChangeShapes Go.WideShapes Go.ChangeAt Go.RowKit

theorem exists_list {α : Type} (P : Nat → α → Prop) (d : α) : ∀ (n : Nat), (∀ r, r < n → ∃ x, P r x) → ∃ L : List α, L.length = n ∧ ∀ r, r < n → P r (L.getD r d)
  | 0, _ => ⟨[], rfl, fun r hr => absurd hr (Nat.not_lt_zero r)⟩
  | n + 1, h => by
    obtain ⟨L, hL, hP⟩ := exists_list P d n (fun r hr => h r (by omega))
    obtain ⟨x, hx⟩ := h n (Nat.lt_succ_self n)
    refine ⟨L ++ [x], by simp [hL], fun r hr => ?_⟩
    rcases Nat.lt_or_ge r n with h1 | h1
    · rw [List.getD, List.getElem?_append_left (by omega), ← List.getD]
      exact hP r h1
    · obtain rfl : r = n := by omega
      rw [List.getD, List.getElem?_append_right (by omega), hL, Nat.sub_self]
      exact hx
theorem list_five' : ∀ {cs : List Value}, cs.length = 5 → ∃ v0 v1 v2 v3 v4, cs = [v0, v1, v2, v3, v4]
  | [v0, v1, v2, v3, v4], _ => ⟨v0, v1, v2, v3, v4, rfl⟩
theorem list_one' : ∀ {cs : List Value}, cs.length = 1 → ∃ v0, cs = [v0]
  | [v0], _ => ⟨v0, rfl⟩
theorem nat_u8 {m : Int} (h : (Lit.int .u8 m).wf = true) : ∃ k : Nat, m = k ∧ k ≤ 255 := by
  obtain ⟨h0, h1⟩ := bounds_u8 h
  exact ⟨m.toNat, by omega, by omega⟩
theorem nat_u64 {m : Int} (h : (Lit.int .u64 m).wf = true) : ∃ k : Nat, m = k ∧ (k : Int) ≤ 18446744073709551615 := by
  obtain ⟨h0, h1⟩ := bounds_u64 h
  exact ⟨m.toNat, by omega, by omega⟩
theorem open_int1' {H : Type} {enc : TypeId × Value → H} {W : World} {t : TypeId} {k : IntKind} {n : Nat} {v : Value} {xs : List (DataW H × List MemPlace)} {i : Nat} (ht : Tryz.prog.underlying t = some (.int k)) (hi : i < xs.length) (h : DataW.trod enc Tryz.prog W 0 (fun _ => true) true n t [v] = xs[i]?) : ∃ m, v = .int k m ∧ (Lit.int k m).wf = true := by
  rw [List.getElem?_eq_getElem hi] at h
  obtain ⟨m, h1, _, h2⟩ := DataW.trod_int ht h
  exact ⟨m, by simpa using h1, h2⟩
def PFLies (W : World) (a : Option Addr) (k : Nat) (f : PF) : Prop :=
  ∃ b' off', a = some ⟨b', off', none⟩ ∧ b' < W.heap.size ∧ W.cell? ⟨b', off' + k * 5, none⟩ = some (.int .u8 (f.kind : Nat)) ∧ W.cell? ⟨b', off' + k * 5 + 1, none⟩ = some (.int .u8 (f.lists : Nat)) ∧ W.cell? ⟨b', off' + k * 5 + 2, none⟩ = some (.int .u8 (f.ref : Nat)) ∧ W.cell? ⟨b', off' + k * 5 + 3, none⟩ = some (.int .u8 (f.name : Nat)) ∧ W.cell? ⟨b', off' + k * 5 + 4, none⟩ = some (.int .u64 (f.dflt : Nat)) ∧
    f.kind ≤ 255 ∧ f.lists ≤ 255 ∧ f.ref ≤ 255 ∧ f.name ≤ 255 ∧ (f.dflt : Int) ≤ 18446744073709551615
theorem open_fields {H : Type} {enc : TypeId × Value → H} {W : World} {n : Nat} {v : Value} {x : DataW H × List MemPlace} (h : DataW.trod enc Tryz.prog W 0 (fun _ => true) true n 93 [v] = some x) :
    ∃ a m c, v = .slice a m c ∧ m ≤ c ∧ c ≤ maxLen ∧ ∃ l : List PF, l.length = m ∧ ∀ k, k < m → PFLies W a k (l.getD k noPF) := by
  rcases Deep.open_slice Tryz.underlying93 h with ⟨hcs, _⟩ | ⟨y, l, c, m, n', Ds, Pl, hcs, _, hl, hm, hmm, _, hx⟩
  · simp at hcs
    subst hcs
    exact ⟨none, 0, 0, rfl, Nat.le_refl _, Nat.zero_le _, [], rfl, fun k hk => absurd hk (Nat.not_lt_zero k)⟩
  · simp at hcs
    subst hcs
    simp only [if_true] at hmm
    have c5 : Tryz.prog.cellsOf 95 = 5 := by kernel_rfl
    rw [c5] at hx
    refine ⟨some y, l, c, rfl, hl, hm, exists_list _ noPF l (fun r hlt => ?_)⟩
    obtain ⟨cs, h1, h2⟩ := hx r (by omega)
    obtain ⟨_, hcl, hc⟩ := World.cells?_some h1
    obtain ⟨_, hcl0, hc0⟩ := World.cells?_some (hx 0 (by omega)).choose_spec.1
    obtain ⟨b, off, spot⟩ := y
    have hspot : spot = none := by
      have h0 := hc0 0 (by omega)
      rw [List.getElem?_eq_getElem (by omega)] at h0
      simpa [Addr.add] using World.cell?_spot h0
    subst hspot
    obtain ⟨xs, n2, _, _, _, hxl, hfs⟩ := DataW.trod_struct Tryz.underlying95 h2
    obtain ⟨v0, v1, v2, v3, v4, rfl⟩ := list_five' hcl
    have k8 : Tryz.prog.cellsOf 5 = 1 := by kernel_rfl
    have k64 : Tryz.prog.cellsOf 37 = 1 := by kernel_rfl
    have f0 : DataW.trod enc Tryz.prog W 0 (fun _ => true) true n2 5 (([v0, v1, v2, v3, v4].drop 0).take (Tryz.prog.cellsOf 5)) = xs[0]? := hfs 0 _ rfl
    rw [k8] at f0
    have f1 : DataW.trod enc Tryz.prog W 0 (fun _ => true) true n2 5 (([v0, v1, v2, v3, v4].drop 1).take (Tryz.prog.cellsOf 5)) = xs[1]? := hfs 1 _ rfl
    rw [k8] at f1
    have f2 : DataW.trod enc Tryz.prog W 0 (fun _ => true) true n2 5 (([v0, v1, v2, v3, v4].drop 2).take (Tryz.prog.cellsOf 5)) = xs[2]? := hfs 2 _ rfl
    rw [k8] at f2
    have f3 : DataW.trod enc Tryz.prog W 0 (fun _ => true) true n2 5 (([v0, v1, v2, v3, v4].drop 3).take (Tryz.prog.cellsOf 5)) = xs[3]? := hfs 3 _ rfl
    rw [k8] at f3
    have f4 : DataW.trod enc Tryz.prog W 0 (fun _ => true) true n2 37 (([v0, v1, v2, v3, v4].drop 4).take (Tryz.prog.cellsOf 37)) = xs[4]? := hfs 4 _ rfl
    rw [k64] at f4
    have hx5 : xs.length = 5 := hxl
    obtain ⟨z0, rfl, w0⟩ := open_int1' Tryz.underlying5 (by omega) f0
    obtain ⟨z1, rfl, w1⟩ := open_int1' Tryz.underlying5 (by omega) f1
    obtain ⟨z2, rfl, w2⟩ := open_int1' Tryz.underlying5 (by omega) f2
    obtain ⟨z3, rfl, w3⟩ := open_int1' Tryz.underlying5 (by omega) f3
    obtain ⟨z4, rfl, w4⟩ := open_int1' Tryz.underlying37 (by omega) f4
    obtain ⟨q0, rfl, l0⟩ := nat_u8 w0
    obtain ⟨q1, rfl, l1⟩ := nat_u8 w1
    obtain ⟨q2, rfl, l2⟩ := nat_u8 w2
    obtain ⟨q3, rfl, l3⟩ := nat_u8 w3
    obtain ⟨q4, rfl, l4⟩ := nat_u64 w4
    have hcell : ∀ i, i < 5 → W.cell? ⟨b, off + r * 5 + i, none⟩ = [Value.int .u8 q0, .int .u8 q1, .int .u8 q2, .int .u8 q3, .int .u64 q4][i]? := fun i hi => by
      have := hc i hi
      rw [Deep.add_add, Go.WideShapes.add_plain, ← Nat.add_assoc] at this
      exact this
    have e0 := hcell 0 (by omega)
    exact ⟨⟨q0, q1, q2, q3, q4⟩, b, off, rfl, World.block_lt_of_cell? _ _ e0, e0, hcell 1 (by omega), hcell 2 (by omega), hcell 3 (by omega), hcell 4 (by omega), l0, l1, l2, l3, l4⟩
theorem open_structs {H : Type} {enc : TypeId × Value → H} {W : World} {n : Nat} {v : Value} {x : DataW H × List MemPlace} (h : DataW.trod enc Tryz.prog W 0 (fun _ => true) true n 23 [v] = some x) :
    ∃ a1 n1 c1, v = .slice a1 n1 c1 ∧ n1 ≤ c1 ∧ c1 ≤ maxLen ∧ ∃ L : List (List PF), L.length = n1 ∧ ∀ r, r < n1 → ∃ b off a m c, a1 = some ⟨b, off, none⟩ ∧ b < W.heap.size ∧ W.cell? ⟨b, off + r, none⟩ = some (.slice a m c) ∧ (L.getD r []).length = m ∧ m ≤ c ∧ c ≤ maxLen ∧ ∀ k, k < m → PFLies W a k ((L.getD r []).getD k noPF) := by
  rcases Deep.open_slice Tryz.underlying23 h with ⟨hcs, _⟩ | ⟨y, l, c, m, n', Ds, Pl, hcs, _, hl, hm, hmm, _, hx⟩
  · simp at hcs
    subst hcs
    exact ⟨none, 0, 0, rfl, Nat.le_refl _, Nat.zero_le _, [], rfl, fun k hk => absurd hk (Nat.not_lt_zero k)⟩
  · simp at hcs
    subst hcs
    simp only [if_true] at hmm
    have c1 : Tryz.prog.cellsOf 93 = 1 := by kernel_rfl
    rw [c1] at hx
    refine ⟨some y, l, c, rfl, hl, hm, ?_⟩
    refine exists_list (fun r (q : List PF) => ∃ b off a m c, some y = some ⟨b, off, none⟩ ∧ b < W.heap.size ∧ W.cell? ⟨b, off + r, none⟩ = some (.slice a m c) ∧ q.length = m ∧ m ≤ c ∧ c ≤ maxLen ∧ ∀ k, k < m → PFLies W a k (q.getD k noPF)) [] l (fun r hlt => ?_)
    obtain ⟨cs, h1, h2⟩ := hx r (by omega)
    obtain ⟨_, hcl, hc⟩ := World.cells?_some h1
    obtain ⟨_, hcl0, hc0⟩ := World.cells?_some (hx 0 (by omega)).choose_spec.1
    obtain ⟨b, off, spot⟩ := y
    have hspot : spot = none := by
      have h0 := hc0 0 (by omega)
      rw [List.getElem?_eq_getElem (by omega)] at h0
      simpa [Addr.add] using World.cell?_spot h0
    subst hspot
    obtain ⟨v0, rfl⟩ := list_one' hcl
    obtain ⟨a, m', c', rfl, g1, g2, q, g3, g4⟩ := open_fields h2
    have e0 : W.cell? ⟨b, off + r, none⟩ = some (.slice a m' c') := by
      have := hc 0 (by omega)
      rw [Deep.add_add, Go.WideShapes.add_plain, Nat.add_zero, Nat.mul_one] at this
      exact this
    exact ⟨q, b, off, a, m', c', rfl, World.block_lt_of_cell? _ _ e0, e0, g3, g1, g2, g4⟩
set_option maxRecDepth 100000 in
theorem open_plan {H : Type} {enc : TypeId × Value → H} {W : World} {base : Nat} {v : Value} {d : DataW H} {p : List MemPlace} (hv : Value.okWide Tryz.prog W .any base 25 v) (h : DataW.Trod enc Tryz.prog W 0 (fun _ => true) true 25 v d p) :
    ∃ (q : Plan) (a0 : Option Addr) (n0 e0 : Nat) (a1 : Option Addr) (n1 c1 : Nat), v = .agg #[.slice a0 n0 e0, .slice a1 n1 c1, .int .u8 q.root, .bool q.tree] ∧ IsPlan W q a0 n0 e0 a1 n1 c1 := by
  obtain ⟨v0, v1, v2, v3, y0, y1, y2, y3, n, rfl, rfl, rfl, h0, h1, h2, h3⟩ := Joins.open_agg4 Tryz.underlying25 (by kernel_rfl) (by kernel_rfl) hv h
  obtain ⟨m2, e2, _, w2⟩ := DataW.trod_int Tryz.underlying5 h2
  obtain ⟨b3, e3, _⟩ := DataW.trod_bool Tryz.underlying4 h3
  simp at e2 e3
  subst e2
  subst e3
  obtain ⟨rt, rfl, hrt⟩ := nat_u8 w2
  obtain ⟨a0, n0, e0, zs, hv0, hrow⟩ : ∃ a0 n0 e0 zs, v0 = .slice a0 n0 e0 ∧ IsRow .u8 W a0 n0 e0 zs := by
    rcases open_ints Tryz.underlying22 Tryz.underlying5 (by kernel_rfl) h0 with ⟨hcs, _⟩ | ⟨x, l, c, zs, hcs, _, hl, hm, hz, _, hcell, hwz⟩
    · exact ⟨none, 0, 0, [], by simpa using hcs, isRow_nil _ _ _⟩
    · exact ⟨some x, l, c, zs, by simpa using hcs, isRow_of hl hm (by simpa using hz) hcell hwz⟩
  subst hv0
  obtain ⟨a1, n1, c1, rfl, hn1, hc1, L, hL, hLs⟩ := open_structs h1
  refine ⟨⟨(zs.take n0).map Int.toNat, L, rt, b3⟩, a0, n0, e0, a1, n1, c1, rfl, ?_, hL, ⟨hrow.1, hrow.2.1⟩, ⟨hn1, hc1⟩, hrt, ?_, ?_⟩
  · have h1 := hrow.1
    have h2 := hrow.2.2.1
    simp
    omega
  · intro j hj
    have g1 := hrow.1
    have g2 := hrow.2.2.1
    have hjz : j < zs.length := by omega
    have hw := hrow.2.2.2.1 _ (List.getElem_mem hjz)
    obtain ⟨k, hk, hk2⟩ := nat_u8 hw
    have he : ((zs.take n0).map Int.toNat).getD j 0 = k := by
      rw [List.getD, List.getElem?_map, List.getElem?_take, if_pos hj, List.getElem?_eq_getElem hjz, hk]
      simp
    obtain ⟨b, off, ha, hb, hcell⟩ := hrow.2.2.2.2 (by intro e; rw [e] at hjz; simp at hjz)
    show ((zs.take n0).map Int.toNat).getD j 0 ≤ 255 ∧ _
    rw [he]
    refine ⟨hk2, b, off, ha, hb, ?_⟩
    rw [hcell j hjz, List.getD, List.getElem?_eq_getElem hjz, Option.getD_some, hk]
  · intro r hr
    obtain ⟨b, off, a, m, c, ha, hb, hcell, hlen, hm, hc, hfl⟩ := hLs r hr
    refine ⟨b, off, a, m, c, ha, hb, hcell, hlen, hm, hc, fun k hk => ?_⟩
    obtain ⟨b', off', g⟩ := hfl k hk
    exact ⟨b', off', _, rfl, g⟩
end Go.Proofs.YtiknhkkeifemcaaGreatDoor
