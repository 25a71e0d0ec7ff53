/-
  A value (package api's Val) that came in, opened. Conditions: those that each theorem names.
-/
import Derived.Test.YtfghaopimeoijaaDoorPV
import Derived.Test.YtfghaopimeoijaaDoorPlanOpen
namespace Go.Proofs.YtfghaopimeoijaaDoor
open Go.ChangeShapes Go.WideShapes Go.ChangeAt Go.RowKit

theorem list_four' : ∀ {cs : List Value}, cs.length = 4 → ∃ v0 v1 v2 v3, cs = [v0, v1, v2, v3]
  | [v0, v1, v2, v3], _ => ⟨v0, v1, v2, v3, rfl⟩
theorem open_int1s {H : Type} {enc : TypeId × Value → H} {W : World} {t : TypeId} {k : IntKind} {n : Nat} {v : Value} {y : DataW H × List MemPlace} (ht : Tryd.prog.underlying t = some (.int k)) (h : DataW.trod enc Tryd.prog W 0 (fun _ => true) true n t [v] = some y) : ∃ m, v = .int k m ∧ (Lit.int k m).wf = true := by
  obtain ⟨m, h1, _, h2⟩ := DataW.trod_int ht h
  exact ⟨m, by simpa using h1, h2⟩
theorem getD_take_int (zs : List Int) (n i : Nat) (hw : ∀ z ∈ zs, (Lit.int .u8 z).wf = true) : 0 ≤ (zs.take n).getD i 0 ∧ (zs.take n).getD i 0 ≤ 255 := by
  rcases Nat.lt_or_ge i (zs.take n).length with h | h
  · rw [List.getD, List.getElem?_eq_getElem h, Option.getD_some]
    exact bounds_u8 (hw _ (List.mem_of_mem_take (List.getElem_mem h)))
  · rw [List.getD, List.getElem?_eq_none h]
    exact ⟨by decide, by decide⟩
theorem bytes_of_row {W : World} {x : Addr} {len cap : Nat} {zs : List Int} (hl : len ≤ cap) (hz : zs.length = cap) (hc : ∀ i, i < zs.length → W.cell? (x.add i) = some (.int .u8 (zs.getD i 0))) (hw : ∀ z ∈ zs, (Lit.int .u8 z).wf = true) : Bytes W (some x) (zs.take len) := by
  refine ⟨fun i => getD_take_int zs len i hw, fun hne => ?_⟩
  have h0 : 0 < (zs.take len).length := List.length_pos_iff.2 hne
  rw [List.length_take] at h0
  obtain ⟨b, off, rfl, hc'⟩ := ints_at hc (by omega)
  refine ⟨b, off, rfl, World.block_lt_of_cell? _ _ (hc' 0 (by omega)), fun i hi => ?_⟩
  rw [List.length_take] at hi
  rw [hc' i (by omega), List.getD, List.getD, List.getElem?_take, if_pos (by omega)]
/-- A kid of a value at a place of a row. -/
def KidLies (W : World) (y : Addr) (r : Nat) (q : PV) : Prop :=
  ∃ b off u0 u1 u2 u3, y = ⟨b, off, none⟩ ∧ W.cell? ⟨b, off + r * 4, none⟩ = some u0 ∧ W.cell? ⟨b, off + r * 4 + 1, none⟩ = some u1 ∧ W.cell? ⟨b, off + r * 4 + 2, none⟩ = some u2 ∧ W.cell? ⟨b, off + r * 4 + 3, none⟩ = some u3 ∧ IsV W q (.agg #[u0, u1, u2, u3])
set_option maxRecDepth 100000 in
theorem open_val_n {H : Type} {enc : TypeId × Value → H} {W : World} : ∀ (n : Nat) (cs : List Value) (x : DataW H × List MemPlace), DataW.trod enc Tryd.prog W 0 (fun _ => true) true n 36 cs = some x → ∃ (v : PV) (c0 c1 c2 c3 : Value), cs = [c0, c1, c2, c3] ∧ IsV W v (.agg #[c0, c1, c2, c3]) := by
  intro n
  induction n using Nat.strongRecOn with
  | ind n ih =>
    intro cs x h
    obtain ⟨y0, y1, y2, y3, hxs⟩ : ∃ y0 y1 y2 y3 : DataW H × List MemPlace, ∃ m v0 v1 v2 v3, n = m + 1 ∧ cs = [v0, v1, v2, v3] ∧ DataW.trod enc Tryd.prog W 0 (fun _ => true) true m 33 [v0] = some y0 ∧ DataW.trod enc Tryd.prog W 0 (fun _ => true) true m 22 [v1] = some y1 ∧ DataW.trod enc Tryd.prog W 0 (fun _ => true) true m 34 [v2] = some y2 ∧ DataW.trod enc Tryd.prog W 0 (fun _ => true) true m 4 [v3] = some y3 := by
      obtain ⟨xs, m, hn, _, hcl, hxl, hfs⟩ := DataW.trod_struct Tryd.underlying36 h
      have c4 : Tryd.prog.cellsOf 36 = 4 := by kernel_rfl
      rw [c4] at hcl
      obtain ⟨v0, v1, v2, v3, rfl⟩ := list_four' hcl
      have k0 : Tryd.prog.cellsOf 33 = 1 := by kernel_rfl
      have k1 : Tryd.prog.cellsOf 22 = 1 := by kernel_rfl
      have k2 : Tryd.prog.cellsOf 34 = 1 := by kernel_rfl
      have k3 : Tryd.prog.cellsOf 4 = 1 := by kernel_rfl
      have f0 : DataW.trod enc Tryd.prog W 0 (fun _ => true) true m 33 (([v0, v1, v2, v3].drop 0).take (Tryd.prog.cellsOf 33)) = xs[0]? := hfs 0 _ rfl
      rw [k0] at f0
      have f1 : DataW.trod enc Tryd.prog W 0 (fun _ => true) true m 22 (([v0, v1, v2, v3].drop 1).take (Tryd.prog.cellsOf 22)) = xs[1]? := hfs 1 _ rfl
      rw [k1] at f1
      have f2 : DataW.trod enc Tryd.prog W 0 (fun _ => true) true m 34 (([v0, v1, v2, v3].drop 2).take (Tryd.prog.cellsOf 34)) = xs[2]? := hfs 2 _ rfl
      rw [k2] at f2
      have f3 : DataW.trod enc Tryd.prog W 0 (fun _ => true) true m 4 (([v0, v1, v2, v3].drop 3).take (Tryd.prog.cellsOf 4)) = xs[3]? := hfs 3 _ rfl
      rw [k3] at f3
      have hx4 : xs.length = 4 := hxl
      match xs, hx4 with
      | [y0, y1, y2, y3], _ => exact ⟨y0, y1, y2, y3, m, v0, v1, v2, v3, hn, rfl, f0, f1, f2, f3⟩
    obtain ⟨m, v0, v1, v2, v3, rfl, rfl, f0, f1, f2, f3⟩ := hxs
    obtain ⟨z0, rfl, w0⟩ := open_int1s Tryd.underlying33 f0
    obtain ⟨num, rfl, hnum⟩ := nat_u64 w0
    obtain ⟨b3, e3, _⟩ := DataW.trod_bool Tryd.underlying4 f3
    obtain rfl : v3 = .bool b3 := by simpa using e3
    obtain ⟨ba, bc, bs, rfl, hby, hbl, hbm⟩ : ∃ (ba : Option Addr) (bc : Nat) (bs : List Int), v1 = .slice ba bs.length bc ∧ Bytes W ba bs ∧ bs.length ≤ bc ∧ (bs.length : Int) ≤ 9223372036854775807 := by
      rcases open_ints Tryd.underlying22 Tryd.underlying5 (by kernel_rfl) f1 with ⟨hcs, _⟩ | ⟨x, l, c, zs, hcs, _, hl, hm, hz, _, hcell, hwz⟩
      · exact ⟨none, 0, [], by simpa using hcs, bytes_nil W, Nat.le_refl _, by decide⟩
      · have hz' : zs.length = c := by simpa using hz
        have hlt : (zs.take l).length = l := by rw [List.length_take]; omega
        have hmx : maxLen = 9223372036854775807 := rfl
        exact ⟨some x, c, zs.take l, by rw [hlt]; simpa using hcs, bytes_of_row hl hz' hcell hwz, by omega, by omega⟩
    rcases DataW.trod_slice Tryd.underlying34 f2 with ⟨hcs, _⟩ | ⟨a, len, cap, elems, rest, k, rfl, hcs, _, _, hl, hm, hel, hes, _, _⟩
    · obtain rfl : v2 = .slice none 0 0 := by simpa using hcs
      exact ⟨.mk num bs [] b3, _, _, _, _, rfl, .mk num bs [] b3 ba none bc 0 0 0 (fun _ => .bool false) (fun _ => .bool false) (fun _ => .bool false) (fun _ => .bool false) (by omega) hby hbl hbm (Nat.le_refl _) (by decide) (fun h => absurd rfl h) (fun i hi => absurd hi (Nat.not_lt_zero i)) (fun i hi => absurd hi (Nat.not_lt_zero i))⟩
    obtain rfl : v2 = .slice (some a) len cap := by simpa using hcs
    have c4 : Tryd.prog.cellsOf 36 = 4 := by kernel_rfl
    rw [c4] at hes
    have hmx : maxLen = 9223372036854775807 := rfl
    obtain ⟨ks, hkl, hks⟩ := exists_list (KidLies W a) nilV len (fun r hr => by
      have h1 := hes r hr
      rw [List.getElem?_eq_getElem (by omega)] at h1
      obtain ⟨cs', hc1, hc2⟩ := Option.bind_eq_some_iff.1 h1
      obtain ⟨q, u0, u1, u2, u3, rfl, hq⟩ := ih k (by omega) _ _ hc2
      obtain ⟨_, _, hcc⟩ := World.cells?_some hc1
      have h2 := hes 0 (by omega)
      rw [List.getElem?_eq_getElem (by omega)] at h2
      obtain ⟨cs0, hd1, hd2⟩ := Option.bind_eq_some_iff.1 h2
      obtain ⟨_, s0, _, _, _, rfl, _⟩ := ih k (by omega) _ _ hd2
      obtain ⟨_, _, hcd⟩ := World.cells?_some hd1
      obtain ⟨b, off, spot⟩ := a
      have hspot : spot = none := by
        have h0 : W.cell? (((⟨b, off, spot⟩ : Addr).add (0 * 4)).add 0) = some s0 := hcd 0 (by omega)
        simpa [Addr.add] using World.cell?_spot h0
      subst hspot
      have hcell : ∀ i, i < 4 → W.cell? ⟨b, off + r * 4 + i, none⟩ = [u0, u1, u2, u3][i]? := fun i hi => by
        have := hcc i hi
        rw [Deep.add_add, Go.WideShapes.add_plain, ← Nat.add_assoc] at this
        exact this
      exact ⟨q, b, off, u0, u1, u2, u3, rfl, hcell 0 (by omega), hcell 1 (by omega), hcell 2 (by omega), hcell 3 (by omega), hq⟩)
    subst hkl
    rcases Nat.eq_zero_or_pos ks.length with h0 | h0
    · obtain rfl : ks = [] := List.length_eq_zero_iff.1 h0
      exact ⟨.mk num bs [] b3, _, _, _, _, rfl, .mk num bs [] b3 ba (some a) bc cap 0 0 (fun _ => .bool false) (fun _ => .bool false) (fun _ => .bool false) (fun _ => .bool false) (by omega) hby hbl hbm (Nat.zero_le _) (by decide) (fun h => absurd rfl h) (fun i hi => absurd hi (Nat.not_lt_zero i)) (fun i hi => absurd hi (Nat.not_lt_zero i))⟩
    obtain ⟨b, off, _, _, _, _, rfl, _, _, _, _, _⟩ := hks 0 h0
    refine ⟨.mk num bs ks b3, _, _, _, _, rfl, .mk num bs ks b3 ba (some ⟨b, off, none⟩) bc cap b off (fun i => (W.cell? ⟨b, off + i * 4, none⟩).getD (.bool false)) (fun i => (W.cell? ⟨b, off + i * 4 + 1, none⟩).getD (.bool false)) (fun i => (W.cell? ⟨b, off + i * 4 + 2, none⟩).getD (.bool false)) (fun i => (W.cell? ⟨b, off + i * 4 + 3, none⟩).getD (.bool false)) (by omega) hby hbl hbm hl (by omega) (fun _ => rfl) (fun i hi => ?_) (fun i hi => ?_)⟩
    · obtain ⟨b', off', u0, u1, u2, u3, he, e0, e1, e2, e3, _⟩ := hks i hi
      simp only [Addr.mk.injEq, and_true] at he
      obtain ⟨rfl, rfl⟩ := he
      simp only [e0, e1, e2, e3, Option.getD_some, and_self]
    · obtain ⟨b', off', u0, u1, u2, u3, he, e0, e1, e2, e3, hq⟩ := hks i hi
      simp only [Addr.mk.injEq, and_true] at he
      obtain ⟨rfl, rfl⟩ := he
      simp only [e0, e1, e2, e3, Option.getD_some]
      rw [List.getD, List.getElem?_eq_getElem hi, Option.getD_some] at hq
      exact hq
set_option maxRecDepth 100000 in
theorem open_val {H : Type} {enc : TypeId × Value → H} {W : World} {base : Nat} {v : Value} {d : DataW H} {p : List MemPlace} (hv : Value.okWide Tryd.prog W .any base 36 v) (h : DataW.Trod enc Tryd.prog W 0 (fun _ => true) true 36 v d p) :
    ∃ (q : PV) (c0 c1 c2 c3 : Value), v = .agg #[c0, c1, c2, c3] ∧ IsV W q (.agg #[c0, c1, c2, c3]) := by
  obtain ⟨v0, v1, v2, v3, y0, y1, y2, y3, n, rfl, rfl, rfl, h0, h1, h2, h3⟩ := Joins.open_agg4 Tryd.underlying36 (by kernel_rfl) (by kernel_rfl) hv h
  obtain ⟨fuel, hf⟩ := h
  obtain ⟨q, c0, c1, c2, c3, he, hq⟩ := open_val_n _ _ _ hf
  simp [Value.cells] at he
  obtain ⟨rfl, rfl, rfl, rfl⟩ := he
  exact ⟨q, _, _, _, _, rfl, hq⟩
end Go.Proofs.YtfghaopimeoijaaDoor
