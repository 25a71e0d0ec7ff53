/-
  The statement of the law ArenaPlays, from its walk: for every input that can be read the law returns true, and its arguments read as they did. Conditions: those of the given row.
-/
import Derived.Test.YtennhmaiecfgpaaPlaysWalk
import Derived.Deep.Slices
namespace Go.Proofs.Ytennhmaiecfgpaa
open Go.ChangeShapes Go.WideShapes Go.ChangeAt Go.RowKit
open Go.ChangeMaps (open_string shut_string)
namespace arenaPlaysFrame
theorem open_int1 {H : Type} {enc : TypeId × Value → H} {W : World} {t : TypeId} {k : IntKind} {n : Nat} {v : Value} {xs : List (DataW H × List MemPlace)} {i : Nat} (ht : Try.prog.underlying t = some (.int k)) (hi : i < xs.length) (h : DataW.trod enc Try.prog W 0 (fun _ => true) true n t [v] = xs[i]?) : ∃ m, v = .int k m ∧ (Lit.int k m).wf = true := by
  rw [List.getElem?_eq_getElem hi] at h
  obtain ⟨m, h1, _, h2⟩ := DataW.trod_int ht h
  exact ⟨m, by simpa using h1, h2⟩
theorem open_row {H : Type} {enc : TypeId × Value → H} {W : World} {n : Nat} {v : Value} {xs : List (DataW H × List MemPlace)} {i : Nat} (hi : i < xs.length) (h : DataW.trod enc Try.prog W 0 (fun _ => true) true n 26 [v] = xs[i]?) : ∃ D dl dc Z, v = .slice D dl dc ∧ IsRow .u8 W D dl dc Z := by
  rw [List.getElem?_eq_getElem hi] at h
  rcases open_ints Try.underlying26 Try.underlying5 (by kernel_rfl) h with ⟨hcs, _⟩ | ⟨x, l, c, zs, hcs, _, hl, hm, hz, _, hcell, hwz⟩
  · exact ⟨none, 0, 0, [], by simpa using hcs, isRow_nil _ _ _⟩
  · exact ⟨some x, l, c, zs, by simpa using hcs, isRow_of hl hm (by simpa using hz) hcell hwz⟩
theorem list_five : ∀ {cs : List Value}, cs.length = 5 → ∃ v0 v1 v2 v3 v4, cs = [v0, v1, v2, v3, v4]
  | [v0, v1, v2, v3, v4], _ => ⟨v0, v1, v2, v3, v4, rfl⟩
theorem open_acts {H : Type} {enc : TypeId × Value → H} {W : World} {a : Option Addr} {len cap : Nat} {d : DataW H} {p : List MemPlace} (h : DataW.Trod enc Try.prog W 0 (fun _ => true) true 22 (.slice a len cap) d p) : ∃ _ : Unit, IsActs W a len := by
  obtain ⟨fuel, hf⟩ := h
  rcases Deep.open_slice Try.underlying22 hf with ⟨hcs, _⟩ | ⟨x, l, c, m, n, Ds, Pl, hcs, _, hl, hm, hmm, _, hx⟩
  · simp [Value.cells] at hcs
    obtain ⟨rfl, rfl, rfl⟩ := hcs
    exact ⟨(), Nat.zero_le _, fun r hr => absurd hr (Nat.not_lt_zero _)⟩
  · simp [Value.cells] at hcs
    obtain ⟨rfl, rfl, rfl⟩ := hcs
    simp only [if_true] at hmm
    have c5 : Try.prog.cellsOf 29 = 5 := by kernel_rfl
    rw [c5] at hx
    refine ⟨(), Nat.le_trans hl hm, fun r hlt => ?_⟩
    obtain ⟨cs, h1, h2⟩ := hx r (by omega)
    obtain ⟨_, hcl, hc⟩ := World.cells?_some h1
    obtain ⟨_, hcl0, hc0⟩ := World.cells?_some (hx 0 (by omega)).choose_spec.1
    obtain ⟨b, off, spot⟩ := x
    have hspot : spot = none := by
      have h0 := hc0 0 (by omega)
      rw [List.getElem?_eq_getElem (by omega)] at h0
      simpa [Addr.add] using World.cell?_spot h0
    subst hspot
    obtain ⟨xs, n', _, _, _, hxl, hfs⟩ := DataW.trod_struct Try.underlying29 h2
    obtain ⟨v0, v1, v2, v3, v4, rfl⟩ := list_five hcl
    have k3 : Try.prog.cellsOf 3 = 1 := by kernel_rfl
    have k27 : Try.prog.cellsOf 27 = 1 := by kernel_rfl
    have k26 : Try.prog.cellsOf 26 = 1 := by kernel_rfl
    have f0 : DataW.trod enc Try.prog W 0 (fun _ => true) true n' 3 (([v0, v1, v2, v3, v4].drop 0).take (Try.prog.cellsOf 3)) = xs[0]? := hfs 0 _ rfl
    rw [k3] at f0
    have f1 : DataW.trod enc Try.prog W 0 (fun _ => true) true n' 3 (([v0, v1, v2, v3, v4].drop 1).take (Try.prog.cellsOf 3)) = xs[1]? := hfs 1 _ rfl
    rw [k3] at f1
    have f2 : DataW.trod enc Try.prog W 0 (fun _ => true) true n' 3 (([v0, v1, v2, v3, v4].drop 2).take (Try.prog.cellsOf 3)) = xs[2]? := hfs 2 _ rfl
    rw [k3] at f2
    have f3 : DataW.trod enc Try.prog W 0 (fun _ => true) true n' 27 (([v0, v1, v2, v3, v4].drop 3).take (Try.prog.cellsOf 27)) = xs[3]? := hfs 3 _ rfl
    rw [k27] at f3
    have f4 : DataW.trod enc Try.prog W 0 (fun _ => true) true n' 26 (([v0, v1, v2, v3, v4].drop 4).take (Try.prog.cellsOf 26)) = xs[4]? := hfs 4 _ rfl
    rw [k26] at f4
    have hx5 : xs.length = 5 := hxl
    obtain ⟨K, rfl, wK⟩ := open_int1 Try.underlying3 (by omega) f0
    obtain ⟨N, rfl, wN⟩ := open_int1 Try.underlying3 (by omega) f1
    obtain ⟨S, rfl, wS⟩ := open_int1 Try.underlying3 (by omega) f2
    obtain ⟨U, rfl, wU⟩ := open_int1 Try.underlying27 (by omega) f3
    obtain ⟨D, dl, dc, Z, rfl, hrow⟩ := open_row (by omega) f4
    have hcell : ∀ i, i < 5 → W.cell? ⟨b, off + r * 5 + i, none⟩ = [Value.int .i64 K, .int .i64 N, .int .i64 S, .int .u64 U, .slice D dl dc][i]? := fun i hi => by
      have := hc i hi
      rw [Deep.add_add, Go.WideShapes.add_plain, ← Nat.add_assoc] at this
      exact this
    have e0 := hcell 0 (by omega)
    exact ⟨K, N, S, U, D, dl, dc, Z, b, off, rfl, World.block_lt_of_cell? _ _ e0, e0, hcell 1 (by omega), hcell 2 (by omega), hcell 3 (by omega), hcell 4 (by omega), wK, wN, wS, wU, hrow⟩

set_option maxRecDepth 100000 in
theorem lifted (os : Os) (started : os.Started) (H : Type) (enc : TypeId × Value → H) :
    ReturnsInHanded {} Try.checked os 3 .any (Rows.arenaPlaysSpec.pre6 enc Try.prog Try.f3 Rows.arenaPlaysRow.domain false) (Rows.arenaPlaysSpec.post enc Try.prog Try.f3 false true false false) := by
  refine returnsInHanded_of_change (C := Try.checked) own started (by kernel_rfl) Try.func3
    (ChangeSpec.witness6 (enc := enc) (C := Try.checked) false ⟨#[], #[.int .i64 0, .slice none 0 0], []⟩ 8 (by kernel_rfl) (by kernel_rfl) (by kernel_rfl) (by kernel_rfl)) ?_
  intro W base args ds gs before hval0 hW _ _
  have hval : ∀ (j : Nat) t v, Try.f3.params[j]? = some t → args[j]? = some v → Value.okWide Try.prog W .any base t v := hval0
  have hW' := hW
  obtain ⟨p, q, hA0, hV, rfl, _hfz, _hnd⟩ := hW
  have hA : DataW.TrodAll enc Try.prog W 0 (fun _ => true) true Try.f3.params.toList args.toList ds p := hA0
  rw [Try.params3] at hA hval
  obtain ⟨v0, vs0, d0, ds0, p0, q0, hargs, rfl, rfl, h0, r0⟩ := trodAll_cons hA
  obtain ⟨v1, vs1, d1, ds1, p1, q1, rfl, rfl, rfl, h1, r1⟩ := trodAll_cons r0
  obtain ⟨rfl, rfl, rfl⟩ := trodAll_nil r1
  obtain rfl : args = #[v0, v1] := by cases args; simp_all
  obtain ⟨rfl, rfl⟩ := trodVars_none hV
  obtain ⟨a0, rfl, rfl, rfl, w0⟩ := open_int Try.underlying3 (hval 0 3 v0 rfl rfl) h0
  obtain ⟨a1, len1, cap1, rfl⟩ := okWide_slice Try.underlying22 (hval 1 22 v1 rfl rfl)
  have k1 := h1
  have lt1 : ∀ x ∈ p1, x.block < W.heap.size := by obtain ⟨m, hm⟩ := k1; exact DataW.trod_lt m _ _ _ hm
  obtain ⟨z1, w1⟩ := open_acts h1
  clear hA0 hval0
  refine (arenaPlays_walk a0 a1 len1 cap1 z1 W w0 w1).mono fun e W' ⟨he, bel⟩ => ?_
  subst he
  exact ⟨_, rfl, _, _, _, [], _, [], hW', trodAll_mk1 (shut_bool Try.underlying4 _), (trodAll_cons_mk (shut_int Try.underlying3 w0) (trodAll_cons_mk (Below.trod laidOut (by kernel_rfl) (of_decide_eq_true (by kernel_rfl)) k1 bel lt1) trodAll_mk0)), rfl, bel.frame _, fun h => by cases h⟩
end arenaPlaysFrame
theorem arenaPlays_card : Rows.ArenaPlaysSaid :=
  OpenClaim.holds_of_wide 3 Try.f3 rfl rfl rfl rfl rfl rfl rfl ⟨rfl, rfl, rfl, rfl, rfl⟩ rfl rfl rfl rfl rfl (by kernel_rfl) Try.func3 (by kernel_rfl)
    (of_decide_eq_true (by kernel_rfl)) (by unfold Func.isWrapper; first | (rw [if_pos (by decide +kernel)]; kernel_rfl) | (rw [if_neg (by decide +kernel)]; exact ⟨rfl, rfl⟩))
    (fun os started H enc _ => arenaPlaysFrame.lifted os started H enc)
end Go.Proofs.Ytennhmaiecfgpaa
