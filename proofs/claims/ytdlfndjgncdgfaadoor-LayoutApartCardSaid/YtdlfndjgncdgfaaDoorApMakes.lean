/-
  The four rows of truths that LayoutApart's closure makes, in whatever order. Conditions: those that each theorem names.
-/
import Derived.Test.YtdlfndjgncdgfaaDoorApFr
import Derived.Test.YtdlfndjgncdgfaaDoorApTake
import Derived.Laws.MakeOwn
import Derived.Deep.RegionHeld3
import Derived.IntWalk
namespace Go.Proofs.YtdlfndjgncdgfaaDoor
open Go.ChangeShapes Go.WideShapes Go.ChangeAt Go.RowKit Go.Shelf

theorem bool_infoA : (Tryd.prog.info? 4).map (fun i => (i.zero, i.size, i.bytes)) = some (some (.bool false), 1, 1) := by kernel_rfl
def falses (n : Nat) : Array Value := (boolCells (List.replicate n false)).toArray
theorem made_falses (n : Nat) : madeCells (Value.bool false).cells (n * 1) = falses n := by
  unfold falses
  rw [boolCells_map]
  apply Array.ext'
  apply List.ext_getElem?
  intro k
  simp only [madeCells, Array.toList_map, Array.toList_range, Nat.mul_one, List.getElem?_map, List.getElem?_replicate]
  by_cases hk : k < n
  · rw [List.getElem?_range hk, if_pos hk, Option.map_some]
    show some (#[Value.bool false][k % 1]!) = _
    rw [Nat.mod_one]
    rfl
  · rw [List.getElem?_eq_none (by simp; omega), if_neg hk]
    rfl
theorem make_bools (z : Int) (n : Nat) (hz : z = (n : Int)) (hn : n ≤ 1000000) (W : World) : (Instr.makeSlice 43 (.int .i64 z) (.int .i64 z)).run Tryd.prog W = .ok (.slice (some ⟨W.heap.size, 0, none⟩) n n) (W.alloc (.cells (falses n) 4)) := by
  subst hz
  obtain ⟨i, hi, hz, hs, hb⟩ := info_parts bool_infoA
  have h := run_make W 43 4 i (.bool false) Tryd.underlying43 hi hz .i64 .i64 n n (by omega) (Int.le_refl _) (by rw [hb]; omega) (by omega)
  rw [hs, Int.toNat_natCast, made_falses] at h
  exact h
theorem falses_row {w : World} {base g n : Nat} (hb : base ≤ g) (hn : n ≤ 1000000) (h : w.heap[g]? = some (.cells (falses n) 4 (0, 0))) : w.ownsRow base 4 1 (.slice (some ⟨g, 0, none⟩) n n) (List.replicate n false).length (boolCells (List.replicate n false)) := by
  have hl : (boolCells (List.replicate n false)).length = n := by rw [boolCells_map, List.length_map, List.length_replicate]
  rw [List.length_replicate]
  refine ⟨by omega, .inr ⟨g, n, falses n, rfl, hb, h, Nat.le_refl _, by unfold maxLen; omega, by unfold falses; rw [List.size_toArray]; omega, ?_⟩⟩
  unfold falses
  rw [List.take_of_length_le (by simp; omega)]
theorem alloc4 (w : World) (o1 o2 o3 o4 : Obj) : Below w.heap.size w ((((w.alloc o1).alloc o2).alloc o3).alloc o4) ∧ ((((w.alloc o1).alloc o2).alloc o3).alloc o4).heap[w.heap.size]? = some o1 ∧ ((((w.alloc o1).alloc o2).alloc o3).alloc o4).heap[w.heap.size + 1]? = some o2 ∧ ((((w.alloc o1).alloc o2).alloc o3).alloc o4).heap[w.heap.size + 1 + 1]? = some o3 ∧ ((((w.alloc o1).alloc o2).alloc o3).alloc o4).heap[w.heap.size + 1 + 1 + 1]? = some o4 := by
  refine ⟨((((Below.refl _ _).alloc (Nat.le_refl _) _).alloc (by rw [World.size_alloc]; omega) _).alloc (by rw [World.size_alloc, World.size_alloc]; omega) _).alloc (by rw [World.size_alloc, World.size_alloc, World.size_alloc]; omega) _, ?_, ?_, ?_, ?_⟩
  · rw [Below.heap_alloc _ _ _ (by simp only [World.size_alloc]; omega), Below.heap_alloc _ _ _ (by simp only [World.size_alloc]; omega), Below.heap_alloc _ _ _ (by simp only [World.size_alloc]; omega)]
    exact heap_alloc_new w o1
  · rw [Below.heap_alloc _ _ _ (by simp only [World.size_alloc]; omega), Below.heap_alloc _ _ _ (by simp only [World.size_alloc]; omega)]
    have h := heap_alloc_new (w.alloc o1) o2
    rw [World.size_alloc] at h
    exact h
  · rw [Below.heap_alloc _ _ _ (by simp only [World.size_alloc]; omega)]
    have h := heap_alloc_new ((w.alloc o1).alloc o2) o3
    rw [World.size_alloc, World.size_alloc] at h
    exact h
  · have h := heap_alloc_new (((w.alloc o1).alloc o2).alloc o3) o4
    rw [World.size_alloc, World.size_alloc, World.size_alloc] at h
    exact h
theorem cell_old {w W : World} (h : Below w.heap.size w W) {p : Addr} {v : Value} (hp : w.cell? p = some v) : W.cell? p = some v := (h.cell (World.block_lt_of_cell? _ _ hp)).trans hp
theorem bel1 (w : World) (o1 : Obj) : Below w.heap.size w (w.alloc o1).drew := ((Below.refl _ _).alloc (Nat.le_refl _) _).drew
theorem bel2 (w : World) (o1 o2 : Obj) : Below w.heap.size w ((w.alloc o1).alloc o2).drew := (((Below.refl _ _).alloc (Nat.le_refl _) _).alloc (by rw [World.size_alloc]; omega) _).drew
theorem bel4 (w : World) (o1 o2 o3 o4 : Obj) : Below w.heap.size w ((((w.alloc o1).alloc o2).alloc o3).alloc o4).drew := (alloc4 w o1 o2 o3 o4).1.drew
theorem bel3 (w : World) (o1 o2 o3 : Obj) : Below w.heap.size w (((w.alloc o1).alloc o2).alloc o3).drew := ((((Below.refl _ _).alloc (Nat.le_refl _) _).alloc (by rw [World.size_alloc]; omega) _).alloc (by rw [World.size_alloc, World.size_alloc]; omega) _).drew
/-- What follows the makes may be gone into from wherever they end. -/
def AfterMakes (K : Act → World → Prop) (R X Y Z : Nat) (tv : Value) (w : World) (nb ny nr np : Nat) : Prop :=
  ∀ (c' : Act) (w' : World) (gb gy gr gp : Nat), ApL0 R X Y Z tv (.slice (some ⟨gb, 0, none⟩) nb nb) (.slice (some ⟨gy, 0, none⟩) ny ny) (.slice (some ⟨gr, 0, none⟩) nr nr) (.slice (some ⟨gp, 0, none⟩) np np) c' → Below w.heap.size w w' →
    (w.heap.size ≤ gb ∧ w.heap.size ≤ gy ∧ w.heap.size ≤ gr ∧ w.heap.size ≤ gp) → (gb ≠ gy ∧ gb ≠ gr ∧ gb ≠ gp ∧ gy ≠ gr ∧ gy ≠ gp ∧ gr ≠ gp) →
    w'.heap[gb]? = some (.cells (falses nb) 4 (0, 0)) → w'.heap[gy]? = some (.cells (falses ny) 4 (0, 0)) → w'.heap[gr]? = some (.cells (falses nr) 4 (0, 0)) → w'.heap[gp]? = some (.cells (falses np) 4 (0, 0)) → K c' w'
set_option maxRecDepth 100000 in
set_option maxHeartbeats 16000000 in
theorem ap_makes {K : Act → World → Prop} {Q : Exit → Act → World → Prop} {c : Act} {w : World} {M R X Y Z nb ny nr np : Nat} {tv : Value} {wd : Int}
    (hc : ApM M R X Y tv Z c) (x0 : w.cell? ⟨X, 0, none⟩ = some (.int .i64 wd)) (x1 : w.cell? ⟨X, 1, none⟩ = some (.int .i64 np)) (y0 : w.cell? ⟨Y, 0, none⟩ = some (.int .i64 nr)) (z1 : w.cell? ⟨Z, 1, none⟩ = some (.int .i64 ny))
    (e1 : 64 * wd = (nb : Int)) (b1 : nb ≤ 1000000) (b2 : ny ≤ 1000000) (b3 : nr ≤ 1000000) (b4 : np ≤ 1000000) (hK : AfterMakes K R X Y Z tv w nb ny nr np) :
    Code.wp Tryd.prog (apReg 9) (Exit.then K Q) c w := by
  obtain ⟨u, rfl⟩ := hc.lit
  have HK := Lib.hid hK
  have hwr : IntKind.i64.wrap (nb : Int) = nb := IntWalk.i64_in _ (by omega)
  have m1 := make_bools nb nb rfl b1
  have m2 := make_bools ny ny rfl b2
  have m3 := make_bools nr nr rfl b3
  have m4 := make_bools np np rfl b4
  clear hc hK
  conv => arg 2; whnf
  refine wp_region_noPanic ?_
  refine wp_region_held_drew (S := (fun w' => w'.cell? ⟨X, 0, none⟩ = some (.int .i64 wd) ∧ w'.cell? ⟨X, 1, none⟩ = some (.int .i64 np) ∧ w'.cell? ⟨Y, 0, none⟩ = some (.int .i64 nr) ∧ w'.cell? ⟨Z, 1, none⟩ = some (.int .i64 ny))) (by kernel_rfl) ⟨x0, x1, y0, z1⟩ ?_
  intro hS
  refine wpAnyH_take (i := 0) (v := .pointer (some ⟨X, 0, none⟩)) rfl (by kernel_rfl) (by kernel_rfl) (by kernel_rfl) (fun _ _ _ h => h) (Or.inl ⟨by rfl, ?_⟩) hS ?_
  · intro w' hSw
    obtain ⟨s0, s1, s2, s3⟩ := hSw
    go_simp
  simp only [Act.put, List.getElem_toArray, List.getElem_cons_zero, List.setIfInBounds_toArray, List.set_cons_zero, List.set_cons_succ]
  refine wpAnyH_take (i := 1) (v := .int .i64 wd) rfl (by kernel_rfl) (by kernel_rfl) (by kernel_rfl) (fun _ _ _ h => h) (Or.inl ⟨by rfl, ?_⟩) hS ?_
  · intro w' hSw
    obtain ⟨s0, s1, s2, s3⟩ := hSw
    go_simp
  simp only [Act.put, List.getElem_toArray, List.getElem_cons_succ, List.getElem_cons_zero, List.setIfInBounds_toArray, List.set_cons_zero, List.set_cons_succ]
  refine wpAnyH_take (i := 2) (v := .int .i64 nb) rfl (by kernel_rfl) (by kernel_rfl) (by kernel_rfl) (fun _ _ _ h => h) (Or.inl ⟨by rfl, ?_⟩) hS ?_
  · intro w' hSw
    obtain ⟨s0, s1, s2, s3⟩ := hSw
    go_simp
  simp only [Act.put, List.getElem_toArray, List.getElem_cons_succ, List.getElem_cons_zero, List.setIfInBounds_toArray, List.set_cons_zero, List.set_cons_succ]
  refine wpAnyH_take (i := 4) (v := .pointer (some ⟨Z, 1, none⟩)) rfl (by kernel_rfl) (by kernel_rfl) (by kernel_rfl) (fun _ _ _ h => h) (Or.inl ⟨by rfl, ?_⟩) hS ?_
  · intro w' hSw
    obtain ⟨s0, s1, s2, s3⟩ := hSw
    go_simp
  simp only [Act.put, List.getElem_toArray, List.getElem_cons_succ, List.getElem_cons_zero, List.setIfInBounds_toArray, List.set_cons_zero, List.set_cons_succ]
  refine wpAnyH_take (i := 5) (v := .int .i64 ny) rfl (by kernel_rfl) (by kernel_rfl) (by kernel_rfl) (fun _ _ _ h => h) (Or.inl ⟨by rfl, ?_⟩) hS ?_
  · intro w' hSw
    obtain ⟨s0, s1, s2, s3⟩ := hSw
    go_simp
  simp only [Act.put, List.getElem_toArray, List.getElem_cons_succ, List.getElem_cons_zero, List.setIfInBounds_toArray, List.set_cons_zero, List.set_cons_succ]
  refine wpAnyH_take (i := 7) (v := .pointer (some ⟨Y, 0, none⟩)) rfl (by kernel_rfl) (by kernel_rfl) (by kernel_rfl) (fun _ _ _ h => h) (Or.inl ⟨by rfl, ?_⟩) hS ?_
  · intro w' hSw
    obtain ⟨s0, s1, s2, s3⟩ := hSw
    go_simp
  simp only [Act.put, List.getElem_toArray, List.getElem_cons_succ, List.getElem_cons_zero, List.setIfInBounds_toArray, List.set_cons_zero, List.set_cons_succ]
  refine wpAnyH_take (i := 8) (v := .int .i64 nr) rfl (by kernel_rfl) (by kernel_rfl) (by kernel_rfl) (fun _ _ _ h => h) (Or.inl ⟨by rfl, ?_⟩) hS ?_
  · intro w' hSw
    obtain ⟨s0, s1, s2, s3⟩ := hSw
    go_simp
  simp only [Act.put, List.getElem_toArray, List.getElem_cons_succ, List.getElem_cons_zero, List.setIfInBounds_toArray, List.set_cons_zero, List.set_cons_succ]
  refine wpAnyH_take (i := 10) (v := .pointer (some ⟨X, 1, none⟩)) rfl (by kernel_rfl) (by kernel_rfl) (by kernel_rfl) (fun _ _ _ h => h) (Or.inl ⟨by rfl, ?_⟩) hS ?_
  · intro w' hSw
    obtain ⟨s0, s1, s2, s3⟩ := hSw
    go_simp
  simp only [Act.put, List.getElem_toArray, List.getElem_cons_succ, List.getElem_cons_zero, List.setIfInBounds_toArray, List.set_cons_zero, List.set_cons_succ]
  refine wpAnyH_take (i := 11) (v := .int .i64 np) rfl (by kernel_rfl) (by kernel_rfl) (by kernel_rfl) (fun _ _ _ h => h) (Or.inl ⟨by rfl, ?_⟩) hS ?_
  · intro w' hSw
    obtain ⟨s0, s1, s2, s3⟩ := hSw
    go_simp
  simp only [Act.put, List.getElem_toArray, List.getElem_cons_succ, List.getElem_cons_zero, List.setIfInBounds_toArray, List.set_cons_zero, List.set_cons_succ]
  refine wpAnyH_ready (rs := [3, 6, 9, 12]) (by kernel_rfl) (by decide) (AllReadyH.cons rfl (fun K hK => ?_) (AllReadyH.cons rfl (fun K hK => ?_) (AllReadyH.cons rfl (fun K hK => ?_) (AllReadyH.cons rfl (fun K hK => ?_) AllReadyH.nil))))
  · rw [if_pos (by kernel_rfl)]
    go_simp
    refine hK.out _ _ ⟨cell_old (bel1 w _) x0, cell_old (bel1 w _) x1, cell_old (bel1 w _) y0, cell_old (bel1 w _) z1⟩ (fun hS => ?_)
    refine wpAnyH_take (i := 13) (v := .slice (some ⟨w.heap.size, 0, none⟩) nb nb) rfl (by kernel_rfl) (by kernel_rfl) (by kernel_rfl) (fun _ _ _ h => h) (Or.inl ⟨by rfl, ?_⟩) hS ?_
    · intro w' hSw
      obtain ⟨s0, s1, s2, s3⟩ := hSw
      go_simp
    simp only [Act.put, List.getElem_toArray, List.getElem_cons_succ, List.getElem_cons_zero, List.setIfInBounds_toArray, List.set_cons_zero, List.set_cons_succ]
    refine wpAnyH_ready (rs := [6, 9, 12]) (by kernel_rfl) (by decide) (AllReadyH.cons rfl (fun K hK => ?_) (AllReadyH.cons rfl (fun K hK => ?_) (AllReadyH.cons rfl (fun K hK => ?_) AllReadyH.nil)))
    · rw [if_pos (by kernel_rfl)]
      go_simp
      refine hK.out _ _ ⟨cell_old (bel2 w _ _) x0, cell_old (bel2 w _ _) x1, cell_old (bel2 w _ _) y0, cell_old (bel2 w _ _) z1⟩ (fun hS => ?_)
      refine wpAnyH_take (i := 14) (v := .slice (some ⟨w.heap.size + 1, 0, none⟩) ny ny) rfl (by kernel_rfl) (by kernel_rfl) (by kernel_rfl) (fun _ _ _ h => h) (Or.inl ⟨by rfl, ?_⟩) hS ?_
      · intro w' hSw
        obtain ⟨s0, s1, s2, s3⟩ := hSw
        go_simp
      simp only [Act.put, List.getElem_toArray, List.getElem_cons_succ, List.getElem_cons_zero, List.setIfInBounds_toArray, List.set_cons_zero, List.set_cons_succ]
      refine wpAnyH_ready (rs := [9, 12]) (by kernel_rfl) (by decide) (AllReadyH.cons rfl (fun K hK => ?_) (AllReadyH.cons rfl (fun K hK => ?_) AllReadyH.nil))
      · rw [if_pos (by kernel_rfl)]
        go_simp
        refine hK.out _ _ ⟨cell_old (bel3 w _ _ _) x0, cell_old (bel3 w _ _ _) x1, cell_old (bel3 w _ _ _) y0, cell_old (bel3 w _ _ _) z1⟩ (fun hS => ?_)
        refine wpAnyH_take (i := 15) (v := .slice (some ⟨w.heap.size + 1 + 1, 0, none⟩) nr nr) rfl (by kernel_rfl) (by kernel_rfl) (by kernel_rfl) (fun _ _ _ h => h) (Or.inl ⟨by rfl, ?_⟩) hS ?_
        · intro w' hSw
          obtain ⟨s0, s1, s2, s3⟩ := hSw
          go_simp
        simp only [Act.put, List.getElem_toArray, List.getElem_cons_succ, List.getElem_cons_zero, List.setIfInBounds_toArray, List.set_cons_zero, List.set_cons_succ]
        refine wpAnyH_ready (rs := [12]) (by kernel_rfl) (by decide) (AllReadyH.cons rfl (fun K hK => ?_) AllReadyH.nil)
        · rw [if_pos (by kernel_rfl)]
          go_simp
          refine hK.out _ _ ⟨cell_old (bel4 w _ _ _ _) x0, cell_old (bel4 w _ _ _ _) x1, cell_old (bel4 w _ _ _ _) y0, cell_old (bel4 w _ _ _ _) z1⟩ (fun hS => ?_)
          refine wpAnyH_take (i := 16) (v := .slice (some ⟨w.heap.size + 1 + 1 + 1, 0, none⟩) np np) rfl (by kernel_rfl) (by kernel_rfl) (by kernel_rfl) (fun _ _ _ h => h) (Or.inl ⟨by rfl, ?_⟩) hS ?_
          · intro w' hSw
            obtain ⟨s0, s1, s2, s3⟩ := hSw
            go_simp
          simp only [Act.put, List.getElem_toArray, List.getElem_cons_succ, List.getElem_cons_zero, List.setIfInBounds_toArray, List.set_cons_zero, List.set_cons_succ]
          refine wpAnyH_done (by kernel_rfl) ?_ _
          refine NoPanic.normal ?_
          simp only [Exit.then]
          exact HK.out _ _ _ _ _ _ ⟨rfl, rfl, rfl, rfl, rfl, rfl, rfl, rfl, rfl, rfl, rfl⟩ (alloc4 w _ _ _ _).1.drew (by omega) (by omega) (alloc4 w _ _ _ _).2.1 (alloc4 w _ _ _ _).2.2.1 (alloc4 w _ _ _ _).2.2.2.1 (alloc4 w _ _ _ _).2.2.2.2
      · rw [if_pos (by kernel_rfl)]
        go_simp
        refine hK.out _ _ ⟨cell_old (bel3 w _ _ _) x0, cell_old (bel3 w _ _ _) x1, cell_old (bel3 w _ _ _) y0, cell_old (bel3 w _ _ _) z1⟩ (fun hS => ?_)
        refine wpAnyH_ready (rs := [9]) (by kernel_rfl) (by decide) (AllReadyH.cons rfl (fun K hK => ?_) AllReadyH.nil)
        · rw [if_pos (by kernel_rfl)]
          go_simp
          refine hK.out _ _ ⟨cell_old (bel4 w _ _ _ _) x0, cell_old (bel4 w _ _ _ _) x1, cell_old (bel4 w _ _ _ _) y0, cell_old (bel4 w _ _ _ _) z1⟩ (fun hS => ?_)
          refine wpAnyH_take (i := 15) (v := .slice (some ⟨w.heap.size + 1 + 1 + 1, 0, none⟩) nr nr) rfl (by kernel_rfl) (by kernel_rfl) (by kernel_rfl) (fun _ _ _ h => h) (Or.inl ⟨by rfl, ?_⟩) hS ?_
          · intro w' hSw
            obtain ⟨s0, s1, s2, s3⟩ := hSw
            go_simp
          simp only [Act.put, List.getElem_toArray, List.getElem_cons_succ, List.getElem_cons_zero, List.setIfInBounds_toArray, List.set_cons_zero, List.set_cons_succ]
          refine wpAnyH_take (i := 16) (v := .slice (some ⟨w.heap.size + 1 + 1, 0, none⟩) np np) rfl (by kernel_rfl) (by kernel_rfl) (by kernel_rfl) (fun _ _ _ h => h) (Or.inl ⟨by rfl, ?_⟩) hS ?_
          · intro w' hSw
            obtain ⟨s0, s1, s2, s3⟩ := hSw
            go_simp
          simp only [Act.put, List.getElem_toArray, List.getElem_cons_succ, List.getElem_cons_zero, List.setIfInBounds_toArray, List.set_cons_zero, List.set_cons_succ]
          refine wpAnyH_done (by kernel_rfl) ?_ _
          refine NoPanic.normal ?_
          simp only [Exit.then]
          exact HK.out _ _ _ _ _ _ ⟨rfl, rfl, rfl, rfl, rfl, rfl, rfl, rfl, rfl, rfl, rfl⟩ (alloc4 w _ _ _ _).1.drew (by omega) (by omega) (alloc4 w _ _ _ _).2.1 (alloc4 w _ _ _ _).2.2.1 (alloc4 w _ _ _ _).2.2.2.2 (alloc4 w _ _ _ _).2.2.2.1
    · rw [if_pos (by kernel_rfl)]
      go_simp
      refine hK.out _ _ ⟨cell_old (bel2 w _ _) x0, cell_old (bel2 w _ _) x1, cell_old (bel2 w _ _) y0, cell_old (bel2 w _ _) z1⟩ (fun hS => ?_)
      refine wpAnyH_ready (rs := [6, 12]) (by kernel_rfl) (by decide) (AllReadyH.cons rfl (fun K hK => ?_) (AllReadyH.cons rfl (fun K hK => ?_) AllReadyH.nil))
      · rw [if_pos (by kernel_rfl)]
        go_simp
        refine hK.out _ _ ⟨cell_old (bel3 w _ _ _) x0, cell_old (bel3 w _ _ _) x1, cell_old (bel3 w _ _ _) y0, cell_old (bel3 w _ _ _) z1⟩ (fun hS => ?_)
        refine wpAnyH_take (i := 14) (v := .slice (some ⟨w.heap.size + 1 + 1, 0, none⟩) ny ny) rfl (by kernel_rfl) (by kernel_rfl) (by kernel_rfl) (fun _ _ _ h => h) (Or.inl ⟨by rfl, ?_⟩) hS ?_
        · intro w' hSw
          obtain ⟨s0, s1, s2, s3⟩ := hSw
          go_simp
        simp only [Act.put, List.getElem_toArray, List.getElem_cons_succ, List.getElem_cons_zero, List.setIfInBounds_toArray, List.set_cons_zero, List.set_cons_succ]
        refine wpAnyH_take (i := 15) (v := .slice (some ⟨w.heap.size + 1, 0, none⟩) nr nr) rfl (by kernel_rfl) (by kernel_rfl) (by kernel_rfl) (fun _ _ _ h => h) (Or.inl ⟨by rfl, ?_⟩) hS ?_
        · intro w' hSw
          obtain ⟨s0, s1, s2, s3⟩ := hSw
          go_simp
        simp only [Act.put, List.getElem_toArray, List.getElem_cons_succ, List.getElem_cons_zero, List.setIfInBounds_toArray, List.set_cons_zero, List.set_cons_succ]
        refine wpAnyH_ready (rs := [12]) (by kernel_rfl) (by decide) (AllReadyH.cons rfl (fun K hK => ?_) AllReadyH.nil)
        · rw [if_pos (by kernel_rfl)]
          go_simp
          refine hK.out _ _ ⟨cell_old (bel4 w _ _ _ _) x0, cell_old (bel4 w _ _ _ _) x1, cell_old (bel4 w _ _ _ _) y0, cell_old (bel4 w _ _ _ _) z1⟩ (fun hS => ?_)
          refine wpAnyH_take (i := 16) (v := .slice (some ⟨w.heap.size + 1 + 1 + 1, 0, none⟩) np np) rfl (by kernel_rfl) (by kernel_rfl) (by kernel_rfl) (fun _ _ _ h => h) (Or.inl ⟨by rfl, ?_⟩) hS ?_
          · intro w' hSw
            obtain ⟨s0, s1, s2, s3⟩ := hSw
            go_simp
          simp only [Act.put, List.getElem_toArray, List.getElem_cons_succ, List.getElem_cons_zero, List.setIfInBounds_toArray, List.set_cons_zero, List.set_cons_succ]
          refine wpAnyH_done (by kernel_rfl) ?_ _
          refine NoPanic.normal ?_
          simp only [Exit.then]
          exact HK.out _ _ _ _ _ _ ⟨rfl, rfl, rfl, rfl, rfl, rfl, rfl, rfl, rfl, rfl, rfl⟩ (alloc4 w _ _ _ _).1.drew (by omega) (by omega) (alloc4 w _ _ _ _).2.1 (alloc4 w _ _ _ _).2.2.2.1 (alloc4 w _ _ _ _).2.2.1 (alloc4 w _ _ _ _).2.2.2.2
      · rw [if_pos (by kernel_rfl)]
        go_simp
        refine hK.out _ _ ⟨cell_old (bel3 w _ _ _) x0, cell_old (bel3 w _ _ _) x1, cell_old (bel3 w _ _ _) y0, cell_old (bel3 w _ _ _) z1⟩ (fun hS => ?_)
        refine wpAnyH_ready (rs := [6]) (by kernel_rfl) (by decide) (AllReadyH.cons rfl (fun K hK => ?_) AllReadyH.nil)
        · rw [if_pos (by kernel_rfl)]
          go_simp
          refine hK.out _ _ ⟨cell_old (bel4 w _ _ _ _) x0, cell_old (bel4 w _ _ _ _) x1, cell_old (bel4 w _ _ _ _) y0, cell_old (bel4 w _ _ _ _) z1⟩ (fun hS => ?_)
          refine wpAnyH_take (i := 14) (v := .slice (some ⟨w.heap.size + 1 + 1 + 1, 0, none⟩) ny ny) rfl (by kernel_rfl) (by kernel_rfl) (by kernel_rfl) (fun _ _ _ h => h) (Or.inl ⟨by rfl, ?_⟩) hS ?_
          · intro w' hSw
            obtain ⟨s0, s1, s2, s3⟩ := hSw
            go_simp
          simp only [Act.put, List.getElem_toArray, List.getElem_cons_succ, List.getElem_cons_zero, List.setIfInBounds_toArray, List.set_cons_zero, List.set_cons_succ]
          refine wpAnyH_take (i := 15) (v := .slice (some ⟨w.heap.size + 1, 0, none⟩) nr nr) rfl (by kernel_rfl) (by kernel_rfl) (by kernel_rfl) (fun _ _ _ h => h) (Or.inl ⟨by rfl, ?_⟩) hS ?_
          · intro w' hSw
            obtain ⟨s0, s1, s2, s3⟩ := hSw
            go_simp
          simp only [Act.put, List.getElem_toArray, List.getElem_cons_succ, List.getElem_cons_zero, List.setIfInBounds_toArray, List.set_cons_zero, List.set_cons_succ]
          refine wpAnyH_take (i := 16) (v := .slice (some ⟨w.heap.size + 1 + 1, 0, none⟩) np np) rfl (by kernel_rfl) (by kernel_rfl) (by kernel_rfl) (fun _ _ _ h => h) (Or.inl ⟨by rfl, ?_⟩) hS ?_
          · intro w' hSw
            obtain ⟨s0, s1, s2, s3⟩ := hSw
            go_simp
          simp only [Act.put, List.getElem_toArray, List.getElem_cons_succ, List.getElem_cons_zero, List.setIfInBounds_toArray, List.set_cons_zero, List.set_cons_succ]
          refine wpAnyH_done (by kernel_rfl) ?_ _
          refine NoPanic.normal ?_
          simp only [Exit.then]
          exact HK.out _ _ _ _ _ _ ⟨rfl, rfl, rfl, rfl, rfl, rfl, rfl, rfl, rfl, rfl, rfl⟩ (alloc4 w _ _ _ _).1.drew (by omega) (by omega) (alloc4 w _ _ _ _).2.1 (alloc4 w _ _ _ _).2.2.2.2 (alloc4 w _ _ _ _).2.2.1 (alloc4 w _ _ _ _).2.2.2.1
    · rw [if_pos (by kernel_rfl)]
      go_simp
      refine hK.out _ _ ⟨cell_old (bel2 w _ _) x0, cell_old (bel2 w _ _) x1, cell_old (bel2 w _ _) y0, cell_old (bel2 w _ _) z1⟩ (fun hS => ?_)
      refine wpAnyH_ready (rs := [6, 9]) (by kernel_rfl) (by decide) (AllReadyH.cons rfl (fun K hK => ?_) (AllReadyH.cons rfl (fun K hK => ?_) AllReadyH.nil))
      · rw [if_pos (by kernel_rfl)]
        go_simp
        refine hK.out _ _ ⟨cell_old (bel3 w _ _ _) x0, cell_old (bel3 w _ _ _) x1, cell_old (bel3 w _ _ _) y0, cell_old (bel3 w _ _ _) z1⟩ (fun hS => ?_)
        refine wpAnyH_take (i := 14) (v := .slice (some ⟨w.heap.size + 1 + 1, 0, none⟩) ny ny) rfl (by kernel_rfl) (by kernel_rfl) (by kernel_rfl) (fun _ _ _ h => h) (Or.inl ⟨by rfl, ?_⟩) hS ?_
        · intro w' hSw
          obtain ⟨s0, s1, s2, s3⟩ := hSw
          go_simp
        simp only [Act.put, List.getElem_toArray, List.getElem_cons_succ, List.getElem_cons_zero, List.setIfInBounds_toArray, List.set_cons_zero, List.set_cons_succ]
        refine wpAnyH_ready (rs := [9]) (by kernel_rfl) (by decide) (AllReadyH.cons rfl (fun K hK => ?_) AllReadyH.nil)
        · rw [if_pos (by kernel_rfl)]
          go_simp
          refine hK.out _ _ ⟨cell_old (bel4 w _ _ _ _) x0, cell_old (bel4 w _ _ _ _) x1, cell_old (bel4 w _ _ _ _) y0, cell_old (bel4 w _ _ _ _) z1⟩ (fun hS => ?_)
          refine wpAnyH_take (i := 15) (v := .slice (some ⟨w.heap.size + 1 + 1 + 1, 0, none⟩) nr nr) rfl (by kernel_rfl) (by kernel_rfl) (by kernel_rfl) (fun _ _ _ h => h) (Or.inl ⟨by rfl, ?_⟩) hS ?_
          · intro w' hSw
            obtain ⟨s0, s1, s2, s3⟩ := hSw
            go_simp
          simp only [Act.put, List.getElem_toArray, List.getElem_cons_succ, List.getElem_cons_zero, List.setIfInBounds_toArray, List.set_cons_zero, List.set_cons_succ]
          refine wpAnyH_take (i := 16) (v := .slice (some ⟨w.heap.size + 1, 0, none⟩) np np) rfl (by kernel_rfl) (by kernel_rfl) (by kernel_rfl) (fun _ _ _ h => h) (Or.inl ⟨by rfl, ?_⟩) hS ?_
          · intro w' hSw
            obtain ⟨s0, s1, s2, s3⟩ := hSw
            go_simp
          simp only [Act.put, List.getElem_toArray, List.getElem_cons_succ, List.getElem_cons_zero, List.setIfInBounds_toArray, List.set_cons_zero, List.set_cons_succ]
          refine wpAnyH_done (by kernel_rfl) ?_ _
          refine NoPanic.normal ?_
          simp only [Exit.then]
          exact HK.out _ _ _ _ _ _ ⟨rfl, rfl, rfl, rfl, rfl, rfl, rfl, rfl, rfl, rfl, rfl⟩ (alloc4 w _ _ _ _).1.drew (by omega) (by omega) (alloc4 w _ _ _ _).2.1 (alloc4 w _ _ _ _).2.2.2.1 (alloc4 w _ _ _ _).2.2.2.2 (alloc4 w _ _ _ _).2.2.1
      · rw [if_pos (by kernel_rfl)]
        go_simp
        refine hK.out _ _ ⟨cell_old (bel3 w _ _ _) x0, cell_old (bel3 w _ _ _) x1, cell_old (bel3 w _ _ _) y0, cell_old (bel3 w _ _ _) z1⟩ (fun hS => ?_)
        refine wpAnyH_ready (rs := [6]) (by kernel_rfl) (by decide) (AllReadyH.cons rfl (fun K hK => ?_) AllReadyH.nil)
        · rw [if_pos (by kernel_rfl)]
          go_simp
          refine hK.out _ _ ⟨cell_old (bel4 w _ _ _ _) x0, cell_old (bel4 w _ _ _ _) x1, cell_old (bel4 w _ _ _ _) y0, cell_old (bel4 w _ _ _ _) z1⟩ (fun hS => ?_)
          refine wpAnyH_take (i := 14) (v := .slice (some ⟨w.heap.size + 1 + 1 + 1, 0, none⟩) ny ny) rfl (by kernel_rfl) (by kernel_rfl) (by kernel_rfl) (fun _ _ _ h => h) (Or.inl ⟨by rfl, ?_⟩) hS ?_
          · intro w' hSw
            obtain ⟨s0, s1, s2, s3⟩ := hSw
            go_simp
          simp only [Act.put, List.getElem_toArray, List.getElem_cons_succ, List.getElem_cons_zero, List.setIfInBounds_toArray, List.set_cons_zero, List.set_cons_succ]
          refine wpAnyH_take (i := 15) (v := .slice (some ⟨w.heap.size + 1 + 1, 0, none⟩) nr nr) rfl (by kernel_rfl) (by kernel_rfl) (by kernel_rfl) (fun _ _ _ h => h) (Or.inl ⟨by rfl, ?_⟩) hS ?_
          · intro w' hSw
            obtain ⟨s0, s1, s2, s3⟩ := hSw
            go_simp
          simp only [Act.put, List.getElem_toArray, List.getElem_cons_succ, List.getElem_cons_zero, List.setIfInBounds_toArray, List.set_cons_zero, List.set_cons_succ]
          refine wpAnyH_take (i := 16) (v := .slice (some ⟨w.heap.size + 1, 0, none⟩) np np) rfl (by kernel_rfl) (by kernel_rfl) (by kernel_rfl) (fun _ _ _ h => h) (Or.inl ⟨by rfl, ?_⟩) hS ?_
          · intro w' hSw
            obtain ⟨s0, s1, s2, s3⟩ := hSw
            go_simp
          simp only [Act.put, List.getElem_toArray, List.getElem_cons_succ, List.getElem_cons_zero, List.setIfInBounds_toArray, List.set_cons_zero, List.set_cons_succ]
          refine wpAnyH_done (by kernel_rfl) ?_ _
          refine NoPanic.normal ?_
          simp only [Exit.then]
          exact HK.out _ _ _ _ _ _ ⟨rfl, rfl, rfl, rfl, rfl, rfl, rfl, rfl, rfl, rfl, rfl⟩ (alloc4 w _ _ _ _).1.drew (by omega) (by omega) (alloc4 w _ _ _ _).2.1 (alloc4 w _ _ _ _).2.2.2.2 (alloc4 w _ _ _ _).2.2.2.1 (alloc4 w _ _ _ _).2.2.1
  · rw [if_pos (by kernel_rfl)]
    go_simp
    refine hK.out _ _ ⟨cell_old (bel1 w _) x0, cell_old (bel1 w _) x1, cell_old (bel1 w _) y0, cell_old (bel1 w _) z1⟩ (fun hS => ?_)
    refine wpAnyH_ready (rs := [3, 9, 12]) (by kernel_rfl) (by decide) (AllReadyH.cons rfl (fun K hK => ?_) (AllReadyH.cons rfl (fun K hK => ?_) (AllReadyH.cons rfl (fun K hK => ?_) AllReadyH.nil)))
    · rw [if_pos (by kernel_rfl)]
      go_simp
      refine hK.out _ _ ⟨cell_old (bel2 w _ _) x0, cell_old (bel2 w _ _) x1, cell_old (bel2 w _ _) y0, cell_old (bel2 w _ _) z1⟩ (fun hS => ?_)
      refine wpAnyH_take (i := 13) (v := .slice (some ⟨w.heap.size + 1, 0, none⟩) nb nb) rfl (by kernel_rfl) (by kernel_rfl) (by kernel_rfl) (fun _ _ _ h => h) (Or.inl ⟨by rfl, ?_⟩) hS ?_
      · intro w' hSw
        obtain ⟨s0, s1, s2, s3⟩ := hSw
        go_simp
      simp only [Act.put, List.getElem_toArray, List.getElem_cons_succ, List.getElem_cons_zero, List.setIfInBounds_toArray, List.set_cons_zero, List.set_cons_succ]
      refine wpAnyH_take (i := 14) (v := .slice (some ⟨w.heap.size, 0, none⟩) ny ny) rfl (by kernel_rfl) (by kernel_rfl) (by kernel_rfl) (fun _ _ _ h => h) (Or.inl ⟨by rfl, ?_⟩) hS ?_
      · intro w' hSw
        obtain ⟨s0, s1, s2, s3⟩ := hSw
        go_simp
      simp only [Act.put, List.getElem_toArray, List.getElem_cons_succ, List.getElem_cons_zero, List.setIfInBounds_toArray, List.set_cons_zero, List.set_cons_succ]
      refine wpAnyH_ready (rs := [9, 12]) (by kernel_rfl) (by decide) (AllReadyH.cons rfl (fun K hK => ?_) (AllReadyH.cons rfl (fun K hK => ?_) AllReadyH.nil))
      · rw [if_pos (by kernel_rfl)]
        go_simp
        refine hK.out _ _ ⟨cell_old (bel3 w _ _ _) x0, cell_old (bel3 w _ _ _) x1, cell_old (bel3 w _ _ _) y0, cell_old (bel3 w _ _ _) z1⟩ (fun hS => ?_)
        refine wpAnyH_take (i := 15) (v := .slice (some ⟨w.heap.size + 1 + 1, 0, none⟩) nr nr) rfl (by kernel_rfl) (by kernel_rfl) (by kernel_rfl) (fun _ _ _ h => h) (Or.inl ⟨by rfl, ?_⟩) hS ?_
        · intro w' hSw
          obtain ⟨s0, s1, s2, s3⟩ := hSw
          go_simp
        simp only [Act.put, List.getElem_toArray, List.getElem_cons_succ, List.getElem_cons_zero, List.setIfInBounds_toArray, List.set_cons_zero, List.set_cons_succ]
        refine wpAnyH_ready (rs := [12]) (by kernel_rfl) (by decide) (AllReadyH.cons rfl (fun K hK => ?_) AllReadyH.nil)
        · rw [if_pos (by kernel_rfl)]
          go_simp
          refine hK.out _ _ ⟨cell_old (bel4 w _ _ _ _) x0, cell_old (bel4 w _ _ _ _) x1, cell_old (bel4 w _ _ _ _) y0, cell_old (bel4 w _ _ _ _) z1⟩ (fun hS => ?_)
          refine wpAnyH_take (i := 16) (v := .slice (some ⟨w.heap.size + 1 + 1 + 1, 0, none⟩) np np) rfl (by kernel_rfl) (by kernel_rfl) (by kernel_rfl) (fun _ _ _ h => h) (Or.inl ⟨by rfl, ?_⟩) hS ?_
          · intro w' hSw
            obtain ⟨s0, s1, s2, s3⟩ := hSw
            go_simp
          simp only [Act.put, List.getElem_toArray, List.getElem_cons_succ, List.getElem_cons_zero, List.setIfInBounds_toArray, List.set_cons_zero, List.set_cons_succ]
          refine wpAnyH_done (by kernel_rfl) ?_ _
          refine NoPanic.normal ?_
          simp only [Exit.then]
          exact HK.out _ _ _ _ _ _ ⟨rfl, rfl, rfl, rfl, rfl, rfl, rfl, rfl, rfl, rfl, rfl⟩ (alloc4 w _ _ _ _).1.drew (by omega) (by omega) (alloc4 w _ _ _ _).2.2.1 (alloc4 w _ _ _ _).2.1 (alloc4 w _ _ _ _).2.2.2.1 (alloc4 w _ _ _ _).2.2.2.2
      · rw [if_pos (by kernel_rfl)]
        go_simp
        refine hK.out _ _ ⟨cell_old (bel3 w _ _ _) x0, cell_old (bel3 w _ _ _) x1, cell_old (bel3 w _ _ _) y0, cell_old (bel3 w _ _ _) z1⟩ (fun hS => ?_)
        refine wpAnyH_ready (rs := [9]) (by kernel_rfl) (by decide) (AllReadyH.cons rfl (fun K hK => ?_) AllReadyH.nil)
        · rw [if_pos (by kernel_rfl)]
          go_simp
          refine hK.out _ _ ⟨cell_old (bel4 w _ _ _ _) x0, cell_old (bel4 w _ _ _ _) x1, cell_old (bel4 w _ _ _ _) y0, cell_old (bel4 w _ _ _ _) z1⟩ (fun hS => ?_)
          refine wpAnyH_take (i := 15) (v := .slice (some ⟨w.heap.size + 1 + 1 + 1, 0, none⟩) nr nr) rfl (by kernel_rfl) (by kernel_rfl) (by kernel_rfl) (fun _ _ _ h => h) (Or.inl ⟨by rfl, ?_⟩) hS ?_
          · intro w' hSw
            obtain ⟨s0, s1, s2, s3⟩ := hSw
            go_simp
          simp only [Act.put, List.getElem_toArray, List.getElem_cons_succ, List.getElem_cons_zero, List.setIfInBounds_toArray, List.set_cons_zero, List.set_cons_succ]
          refine wpAnyH_take (i := 16) (v := .slice (some ⟨w.heap.size + 1 + 1, 0, none⟩) np np) rfl (by kernel_rfl) (by kernel_rfl) (by kernel_rfl) (fun _ _ _ h => h) (Or.inl ⟨by rfl, ?_⟩) hS ?_
          · intro w' hSw
            obtain ⟨s0, s1, s2, s3⟩ := hSw
            go_simp
          simp only [Act.put, List.getElem_toArray, List.getElem_cons_succ, List.getElem_cons_zero, List.setIfInBounds_toArray, List.set_cons_zero, List.set_cons_succ]
          refine wpAnyH_done (by kernel_rfl) ?_ _
          refine NoPanic.normal ?_
          simp only [Exit.then]
          exact HK.out _ _ _ _ _ _ ⟨rfl, rfl, rfl, rfl, rfl, rfl, rfl, rfl, rfl, rfl, rfl⟩ (alloc4 w _ _ _ _).1.drew (by omega) (by omega) (alloc4 w _ _ _ _).2.2.1 (alloc4 w _ _ _ _).2.1 (alloc4 w _ _ _ _).2.2.2.2 (alloc4 w _ _ _ _).2.2.2.1
    · rw [if_pos (by kernel_rfl)]
      go_simp
      refine hK.out _ _ ⟨cell_old (bel2 w _ _) x0, cell_old (bel2 w _ _) x1, cell_old (bel2 w _ _) y0, cell_old (bel2 w _ _) z1⟩ (fun hS => ?_)
      refine wpAnyH_ready (rs := [3, 12]) (by kernel_rfl) (by decide) (AllReadyH.cons rfl (fun K hK => ?_) (AllReadyH.cons rfl (fun K hK => ?_) AllReadyH.nil))
      · rw [if_pos (by kernel_rfl)]
        go_simp
        refine hK.out _ _ ⟨cell_old (bel3 w _ _ _) x0, cell_old (bel3 w _ _ _) x1, cell_old (bel3 w _ _ _) y0, cell_old (bel3 w _ _ _) z1⟩ (fun hS => ?_)
        refine wpAnyH_take (i := 13) (v := .slice (some ⟨w.heap.size + 1 + 1, 0, none⟩) nb nb) rfl (by kernel_rfl) (by kernel_rfl) (by kernel_rfl) (fun _ _ _ h => h) (Or.inl ⟨by rfl, ?_⟩) hS ?_
        · intro w' hSw
          obtain ⟨s0, s1, s2, s3⟩ := hSw
          go_simp
        simp only [Act.put, List.getElem_toArray, List.getElem_cons_succ, List.getElem_cons_zero, List.setIfInBounds_toArray, List.set_cons_zero, List.set_cons_succ]
        refine wpAnyH_take (i := 14) (v := .slice (some ⟨w.heap.size, 0, none⟩) ny ny) rfl (by kernel_rfl) (by kernel_rfl) (by kernel_rfl) (fun _ _ _ h => h) (Or.inl ⟨by rfl, ?_⟩) hS ?_
        · intro w' hSw
          obtain ⟨s0, s1, s2, s3⟩ := hSw
          go_simp
        simp only [Act.put, List.getElem_toArray, List.getElem_cons_succ, List.getElem_cons_zero, List.setIfInBounds_toArray, List.set_cons_zero, List.set_cons_succ]
        refine wpAnyH_take (i := 15) (v := .slice (some ⟨w.heap.size + 1, 0, none⟩) nr nr) rfl (by kernel_rfl) (by kernel_rfl) (by kernel_rfl) (fun _ _ _ h => h) (Or.inl ⟨by rfl, ?_⟩) hS ?_
        · intro w' hSw
          obtain ⟨s0, s1, s2, s3⟩ := hSw
          go_simp
        simp only [Act.put, List.getElem_toArray, List.getElem_cons_succ, List.getElem_cons_zero, List.setIfInBounds_toArray, List.set_cons_zero, List.set_cons_succ]
        refine wpAnyH_ready (rs := [12]) (by kernel_rfl) (by decide) (AllReadyH.cons rfl (fun K hK => ?_) AllReadyH.nil)
        · rw [if_pos (by kernel_rfl)]
          go_simp
          refine hK.out _ _ ⟨cell_old (bel4 w _ _ _ _) x0, cell_old (bel4 w _ _ _ _) x1, cell_old (bel4 w _ _ _ _) y0, cell_old (bel4 w _ _ _ _) z1⟩ (fun hS => ?_)
          refine wpAnyH_take (i := 16) (v := .slice (some ⟨w.heap.size + 1 + 1 + 1, 0, none⟩) np np) rfl (by kernel_rfl) (by kernel_rfl) (by kernel_rfl) (fun _ _ _ h => h) (Or.inl ⟨by rfl, ?_⟩) hS ?_
          · intro w' hSw
            obtain ⟨s0, s1, s2, s3⟩ := hSw
            go_simp
          simp only [Act.put, List.getElem_toArray, List.getElem_cons_succ, List.getElem_cons_zero, List.setIfInBounds_toArray, List.set_cons_zero, List.set_cons_succ]
          refine wpAnyH_done (by kernel_rfl) ?_ _
          refine NoPanic.normal ?_
          simp only [Exit.then]
          exact HK.out _ _ _ _ _ _ ⟨rfl, rfl, rfl, rfl, rfl, rfl, rfl, rfl, rfl, rfl, rfl⟩ (alloc4 w _ _ _ _).1.drew (by omega) (by omega) (alloc4 w _ _ _ _).2.2.2.1 (alloc4 w _ _ _ _).2.1 (alloc4 w _ _ _ _).2.2.1 (alloc4 w _ _ _ _).2.2.2.2
      · rw [if_pos (by kernel_rfl)]
        go_simp
        refine hK.out _ _ ⟨cell_old (bel3 w _ _ _) x0, cell_old (bel3 w _ _ _) x1, cell_old (bel3 w _ _ _) y0, cell_old (bel3 w _ _ _) z1⟩ (fun hS => ?_)
        refine wpAnyH_ready (rs := [3]) (by kernel_rfl) (by decide) (AllReadyH.cons rfl (fun K hK => ?_) AllReadyH.nil)
        · rw [if_pos (by kernel_rfl)]
          go_simp
          refine hK.out _ _ ⟨cell_old (bel4 w _ _ _ _) x0, cell_old (bel4 w _ _ _ _) x1, cell_old (bel4 w _ _ _ _) y0, cell_old (bel4 w _ _ _ _) z1⟩ (fun hS => ?_)
          refine wpAnyH_take (i := 13) (v := .slice (some ⟨w.heap.size + 1 + 1 + 1, 0, none⟩) nb nb) rfl (by kernel_rfl) (by kernel_rfl) (by kernel_rfl) (fun _ _ _ h => h) (Or.inl ⟨by rfl, ?_⟩) hS ?_
          · intro w' hSw
            obtain ⟨s0, s1, s2, s3⟩ := hSw
            go_simp
          simp only [Act.put, List.getElem_toArray, List.getElem_cons_succ, List.getElem_cons_zero, List.setIfInBounds_toArray, List.set_cons_zero, List.set_cons_succ]
          refine wpAnyH_take (i := 14) (v := .slice (some ⟨w.heap.size, 0, none⟩) ny ny) rfl (by kernel_rfl) (by kernel_rfl) (by kernel_rfl) (fun _ _ _ h => h) (Or.inl ⟨by rfl, ?_⟩) hS ?_
          · intro w' hSw
            obtain ⟨s0, s1, s2, s3⟩ := hSw
            go_simp
          simp only [Act.put, List.getElem_toArray, List.getElem_cons_succ, List.getElem_cons_zero, List.setIfInBounds_toArray, List.set_cons_zero, List.set_cons_succ]
          refine wpAnyH_take (i := 15) (v := .slice (some ⟨w.heap.size + 1, 0, none⟩) nr nr) rfl (by kernel_rfl) (by kernel_rfl) (by kernel_rfl) (fun _ _ _ h => h) (Or.inl ⟨by rfl, ?_⟩) hS ?_
          · intro w' hSw
            obtain ⟨s0, s1, s2, s3⟩ := hSw
            go_simp
          simp only [Act.put, List.getElem_toArray, List.getElem_cons_succ, List.getElem_cons_zero, List.setIfInBounds_toArray, List.set_cons_zero, List.set_cons_succ]
          refine wpAnyH_take (i := 16) (v := .slice (some ⟨w.heap.size + 1 + 1, 0, none⟩) np np) rfl (by kernel_rfl) (by kernel_rfl) (by kernel_rfl) (fun _ _ _ h => h) (Or.inl ⟨by rfl, ?_⟩) hS ?_
          · intro w' hSw
            obtain ⟨s0, s1, s2, s3⟩ := hSw
            go_simp
          simp only [Act.put, List.getElem_toArray, List.getElem_cons_succ, List.getElem_cons_zero, List.setIfInBounds_toArray, List.set_cons_zero, List.set_cons_succ]
          refine wpAnyH_done (by kernel_rfl) ?_ _
          refine NoPanic.normal ?_
          simp only [Exit.then]
          exact HK.out _ _ _ _ _ _ ⟨rfl, rfl, rfl, rfl, rfl, rfl, rfl, rfl, rfl, rfl, rfl⟩ (alloc4 w _ _ _ _).1.drew (by omega) (by omega) (alloc4 w _ _ _ _).2.2.2.2 (alloc4 w _ _ _ _).2.1 (alloc4 w _ _ _ _).2.2.1 (alloc4 w _ _ _ _).2.2.2.1
    · rw [if_pos (by kernel_rfl)]
      go_simp
      refine hK.out _ _ ⟨cell_old (bel2 w _ _) x0, cell_old (bel2 w _ _) x1, cell_old (bel2 w _ _) y0, cell_old (bel2 w _ _) z1⟩ (fun hS => ?_)
      refine wpAnyH_ready (rs := [3, 9]) (by kernel_rfl) (by decide) (AllReadyH.cons rfl (fun K hK => ?_) (AllReadyH.cons rfl (fun K hK => ?_) AllReadyH.nil))
      · rw [if_pos (by kernel_rfl)]
        go_simp
        refine hK.out _ _ ⟨cell_old (bel3 w _ _ _) x0, cell_old (bel3 w _ _ _) x1, cell_old (bel3 w _ _ _) y0, cell_old (bel3 w _ _ _) z1⟩ (fun hS => ?_)
        refine wpAnyH_take (i := 13) (v := .slice (some ⟨w.heap.size + 1 + 1, 0, none⟩) nb nb) rfl (by kernel_rfl) (by kernel_rfl) (by kernel_rfl) (fun _ _ _ h => h) (Or.inl ⟨by rfl, ?_⟩) hS ?_
        · intro w' hSw
          obtain ⟨s0, s1, s2, s3⟩ := hSw
          go_simp
        simp only [Act.put, List.getElem_toArray, List.getElem_cons_succ, List.getElem_cons_zero, List.setIfInBounds_toArray, List.set_cons_zero, List.set_cons_succ]
        refine wpAnyH_take (i := 14) (v := .slice (some ⟨w.heap.size, 0, none⟩) ny ny) rfl (by kernel_rfl) (by kernel_rfl) (by kernel_rfl) (fun _ _ _ h => h) (Or.inl ⟨by rfl, ?_⟩) hS ?_
        · intro w' hSw
          obtain ⟨s0, s1, s2, s3⟩ := hSw
          go_simp
        simp only [Act.put, List.getElem_toArray, List.getElem_cons_succ, List.getElem_cons_zero, List.setIfInBounds_toArray, List.set_cons_zero, List.set_cons_succ]
        refine wpAnyH_ready (rs := [9]) (by kernel_rfl) (by decide) (AllReadyH.cons rfl (fun K hK => ?_) AllReadyH.nil)
        · rw [if_pos (by kernel_rfl)]
          go_simp
          refine hK.out _ _ ⟨cell_old (bel4 w _ _ _ _) x0, cell_old (bel4 w _ _ _ _) x1, cell_old (bel4 w _ _ _ _) y0, cell_old (bel4 w _ _ _ _) z1⟩ (fun hS => ?_)
          refine wpAnyH_take (i := 15) (v := .slice (some ⟨w.heap.size + 1 + 1 + 1, 0, none⟩) nr nr) rfl (by kernel_rfl) (by kernel_rfl) (by kernel_rfl) (fun _ _ _ h => h) (Or.inl ⟨by rfl, ?_⟩) hS ?_
          · intro w' hSw
            obtain ⟨s0, s1, s2, s3⟩ := hSw
            go_simp
          simp only [Act.put, List.getElem_toArray, List.getElem_cons_succ, List.getElem_cons_zero, List.setIfInBounds_toArray, List.set_cons_zero, List.set_cons_succ]
          refine wpAnyH_take (i := 16) (v := .slice (some ⟨w.heap.size + 1, 0, none⟩) np np) rfl (by kernel_rfl) (by kernel_rfl) (by kernel_rfl) (fun _ _ _ h => h) (Or.inl ⟨by rfl, ?_⟩) hS ?_
          · intro w' hSw
            obtain ⟨s0, s1, s2, s3⟩ := hSw
            go_simp
          simp only [Act.put, List.getElem_toArray, List.getElem_cons_succ, List.getElem_cons_zero, List.setIfInBounds_toArray, List.set_cons_zero, List.set_cons_succ]
          refine wpAnyH_done (by kernel_rfl) ?_ _
          refine NoPanic.normal ?_
          simp only [Exit.then]
          exact HK.out _ _ _ _ _ _ ⟨rfl, rfl, rfl, rfl, rfl, rfl, rfl, rfl, rfl, rfl, rfl⟩ (alloc4 w _ _ _ _).1.drew (by omega) (by omega) (alloc4 w _ _ _ _).2.2.2.1 (alloc4 w _ _ _ _).2.1 (alloc4 w _ _ _ _).2.2.2.2 (alloc4 w _ _ _ _).2.2.1
      · rw [if_pos (by kernel_rfl)]
        go_simp
        refine hK.out _ _ ⟨cell_old (bel3 w _ _ _) x0, cell_old (bel3 w _ _ _) x1, cell_old (bel3 w _ _ _) y0, cell_old (bel3 w _ _ _) z1⟩ (fun hS => ?_)
        refine wpAnyH_ready (rs := [3]) (by kernel_rfl) (by decide) (AllReadyH.cons rfl (fun K hK => ?_) AllReadyH.nil)
        · rw [if_pos (by kernel_rfl)]
          go_simp
          refine hK.out _ _ ⟨cell_old (bel4 w _ _ _ _) x0, cell_old (bel4 w _ _ _ _) x1, cell_old (bel4 w _ _ _ _) y0, cell_old (bel4 w _ _ _ _) z1⟩ (fun hS => ?_)
          refine wpAnyH_take (i := 13) (v := .slice (some ⟨w.heap.size + 1 + 1 + 1, 0, none⟩) nb nb) rfl (by kernel_rfl) (by kernel_rfl) (by kernel_rfl) (fun _ _ _ h => h) (Or.inl ⟨by rfl, ?_⟩) hS ?_
          · intro w' hSw
            obtain ⟨s0, s1, s2, s3⟩ := hSw
            go_simp
          simp only [Act.put, List.getElem_toArray, List.getElem_cons_succ, List.getElem_cons_zero, List.setIfInBounds_toArray, List.set_cons_zero, List.set_cons_succ]
          refine wpAnyH_take (i := 14) (v := .slice (some ⟨w.heap.size, 0, none⟩) ny ny) rfl (by kernel_rfl) (by kernel_rfl) (by kernel_rfl) (fun _ _ _ h => h) (Or.inl ⟨by rfl, ?_⟩) hS ?_
          · intro w' hSw
            obtain ⟨s0, s1, s2, s3⟩ := hSw
            go_simp
          simp only [Act.put, List.getElem_toArray, List.getElem_cons_succ, List.getElem_cons_zero, List.setIfInBounds_toArray, List.set_cons_zero, List.set_cons_succ]
          refine wpAnyH_take (i := 15) (v := .slice (some ⟨w.heap.size + 1 + 1, 0, none⟩) nr nr) rfl (by kernel_rfl) (by kernel_rfl) (by kernel_rfl) (fun _ _ _ h => h) (Or.inl ⟨by rfl, ?_⟩) hS ?_
          · intro w' hSw
            obtain ⟨s0, s1, s2, s3⟩ := hSw
            go_simp
          simp only [Act.put, List.getElem_toArray, List.getElem_cons_succ, List.getElem_cons_zero, List.setIfInBounds_toArray, List.set_cons_zero, List.set_cons_succ]
          refine wpAnyH_take (i := 16) (v := .slice (some ⟨w.heap.size + 1, 0, none⟩) np np) rfl (by kernel_rfl) (by kernel_rfl) (by kernel_rfl) (fun _ _ _ h => h) (Or.inl ⟨by rfl, ?_⟩) hS ?_
          · intro w' hSw
            obtain ⟨s0, s1, s2, s3⟩ := hSw
            go_simp
          simp only [Act.put, List.getElem_toArray, List.getElem_cons_succ, List.getElem_cons_zero, List.setIfInBounds_toArray, List.set_cons_zero, List.set_cons_succ]
          refine wpAnyH_done (by kernel_rfl) ?_ _
          refine NoPanic.normal ?_
          simp only [Exit.then]
          exact HK.out _ _ _ _ _ _ ⟨rfl, rfl, rfl, rfl, rfl, rfl, rfl, rfl, rfl, rfl, rfl⟩ (alloc4 w _ _ _ _).1.drew (by omega) (by omega) (alloc4 w _ _ _ _).2.2.2.2 (alloc4 w _ _ _ _).2.1 (alloc4 w _ _ _ _).2.2.2.1 (alloc4 w _ _ _ _).2.2.1
  · rw [if_pos (by kernel_rfl)]
    go_simp
    refine hK.out _ _ ⟨cell_old (bel1 w _) x0, cell_old (bel1 w _) x1, cell_old (bel1 w _) y0, cell_old (bel1 w _) z1⟩ (fun hS => ?_)
    refine wpAnyH_ready (rs := [3, 6, 12]) (by kernel_rfl) (by decide) (AllReadyH.cons rfl (fun K hK => ?_) (AllReadyH.cons rfl (fun K hK => ?_) (AllReadyH.cons rfl (fun K hK => ?_) AllReadyH.nil)))
    · rw [if_pos (by kernel_rfl)]
      go_simp
      refine hK.out _ _ ⟨cell_old (bel2 w _ _) x0, cell_old (bel2 w _ _) x1, cell_old (bel2 w _ _) y0, cell_old (bel2 w _ _) z1⟩ (fun hS => ?_)
      refine wpAnyH_take (i := 13) (v := .slice (some ⟨w.heap.size + 1, 0, none⟩) nb nb) rfl (by kernel_rfl) (by kernel_rfl) (by kernel_rfl) (fun _ _ _ h => h) (Or.inl ⟨by rfl, ?_⟩) hS ?_
      · intro w' hSw
        obtain ⟨s0, s1, s2, s3⟩ := hSw
        go_simp
      simp only [Act.put, List.getElem_toArray, List.getElem_cons_succ, List.getElem_cons_zero, List.setIfInBounds_toArray, List.set_cons_zero, List.set_cons_succ]
      refine wpAnyH_ready (rs := [6, 12]) (by kernel_rfl) (by decide) (AllReadyH.cons rfl (fun K hK => ?_) (AllReadyH.cons rfl (fun K hK => ?_) AllReadyH.nil))
      · rw [if_pos (by kernel_rfl)]
        go_simp
        refine hK.out _ _ ⟨cell_old (bel3 w _ _ _) x0, cell_old (bel3 w _ _ _) x1, cell_old (bel3 w _ _ _) y0, cell_old (bel3 w _ _ _) z1⟩ (fun hS => ?_)
        refine wpAnyH_take (i := 14) (v := .slice (some ⟨w.heap.size + 1 + 1, 0, none⟩) ny ny) rfl (by kernel_rfl) (by kernel_rfl) (by kernel_rfl) (fun _ _ _ h => h) (Or.inl ⟨by rfl, ?_⟩) hS ?_
        · intro w' hSw
          obtain ⟨s0, s1, s2, s3⟩ := hSw
          go_simp
        simp only [Act.put, List.getElem_toArray, List.getElem_cons_succ, List.getElem_cons_zero, List.setIfInBounds_toArray, List.set_cons_zero, List.set_cons_succ]
        refine wpAnyH_take (i := 15) (v := .slice (some ⟨w.heap.size, 0, none⟩) nr nr) rfl (by kernel_rfl) (by kernel_rfl) (by kernel_rfl) (fun _ _ _ h => h) (Or.inl ⟨by rfl, ?_⟩) hS ?_
        · intro w' hSw
          obtain ⟨s0, s1, s2, s3⟩ := hSw
          go_simp
        simp only [Act.put, List.getElem_toArray, List.getElem_cons_succ, List.getElem_cons_zero, List.setIfInBounds_toArray, List.set_cons_zero, List.set_cons_succ]
        refine wpAnyH_ready (rs := [12]) (by kernel_rfl) (by decide) (AllReadyH.cons rfl (fun K hK => ?_) AllReadyH.nil)
        · rw [if_pos (by kernel_rfl)]
          go_simp
          refine hK.out _ _ ⟨cell_old (bel4 w _ _ _ _) x0, cell_old (bel4 w _ _ _ _) x1, cell_old (bel4 w _ _ _ _) y0, cell_old (bel4 w _ _ _ _) z1⟩ (fun hS => ?_)
          refine wpAnyH_take (i := 16) (v := .slice (some ⟨w.heap.size + 1 + 1 + 1, 0, none⟩) np np) rfl (by kernel_rfl) (by kernel_rfl) (by kernel_rfl) (fun _ _ _ h => h) (Or.inl ⟨by rfl, ?_⟩) hS ?_
          · intro w' hSw
            obtain ⟨s0, s1, s2, s3⟩ := hSw
            go_simp
          simp only [Act.put, List.getElem_toArray, List.getElem_cons_succ, List.getElem_cons_zero, List.setIfInBounds_toArray, List.set_cons_zero, List.set_cons_succ]
          refine wpAnyH_done (by kernel_rfl) ?_ _
          refine NoPanic.normal ?_
          simp only [Exit.then]
          exact HK.out _ _ _ _ _ _ ⟨rfl, rfl, rfl, rfl, rfl, rfl, rfl, rfl, rfl, rfl, rfl⟩ (alloc4 w _ _ _ _).1.drew (by omega) (by omega) (alloc4 w _ _ _ _).2.2.1 (alloc4 w _ _ _ _).2.2.2.1 (alloc4 w _ _ _ _).2.1 (alloc4 w _ _ _ _).2.2.2.2
      · rw [if_pos (by kernel_rfl)]
        go_simp
        refine hK.out _ _ ⟨cell_old (bel3 w _ _ _) x0, cell_old (bel3 w _ _ _) x1, cell_old (bel3 w _ _ _) y0, cell_old (bel3 w _ _ _) z1⟩ (fun hS => ?_)
        refine wpAnyH_ready (rs := [6]) (by kernel_rfl) (by decide) (AllReadyH.cons rfl (fun K hK => ?_) AllReadyH.nil)
        · rw [if_pos (by kernel_rfl)]
          go_simp
          refine hK.out _ _ ⟨cell_old (bel4 w _ _ _ _) x0, cell_old (bel4 w _ _ _ _) x1, cell_old (bel4 w _ _ _ _) y0, cell_old (bel4 w _ _ _ _) z1⟩ (fun hS => ?_)
          refine wpAnyH_take (i := 14) (v := .slice (some ⟨w.heap.size + 1 + 1 + 1, 0, none⟩) ny ny) rfl (by kernel_rfl) (by kernel_rfl) (by kernel_rfl) (fun _ _ _ h => h) (Or.inl ⟨by rfl, ?_⟩) hS ?_
          · intro w' hSw
            obtain ⟨s0, s1, s2, s3⟩ := hSw
            go_simp
          simp only [Act.put, List.getElem_toArray, List.getElem_cons_succ, List.getElem_cons_zero, List.setIfInBounds_toArray, List.set_cons_zero, List.set_cons_succ]
          refine wpAnyH_take (i := 15) (v := .slice (some ⟨w.heap.size, 0, none⟩) nr nr) rfl (by kernel_rfl) (by kernel_rfl) (by kernel_rfl) (fun _ _ _ h => h) (Or.inl ⟨by rfl, ?_⟩) hS ?_
          · intro w' hSw
            obtain ⟨s0, s1, s2, s3⟩ := hSw
            go_simp
          simp only [Act.put, List.getElem_toArray, List.getElem_cons_succ, List.getElem_cons_zero, List.setIfInBounds_toArray, List.set_cons_zero, List.set_cons_succ]
          refine wpAnyH_take (i := 16) (v := .slice (some ⟨w.heap.size + 1 + 1, 0, none⟩) np np) rfl (by kernel_rfl) (by kernel_rfl) (by kernel_rfl) (fun _ _ _ h => h) (Or.inl ⟨by rfl, ?_⟩) hS ?_
          · intro w' hSw
            obtain ⟨s0, s1, s2, s3⟩ := hSw
            go_simp
          simp only [Act.put, List.getElem_toArray, List.getElem_cons_succ, List.getElem_cons_zero, List.setIfInBounds_toArray, List.set_cons_zero, List.set_cons_succ]
          refine wpAnyH_done (by kernel_rfl) ?_ _
          refine NoPanic.normal ?_
          simp only [Exit.then]
          exact HK.out _ _ _ _ _ _ ⟨rfl, rfl, rfl, rfl, rfl, rfl, rfl, rfl, rfl, rfl, rfl⟩ (alloc4 w _ _ _ _).1.drew (by omega) (by omega) (alloc4 w _ _ _ _).2.2.1 (alloc4 w _ _ _ _).2.2.2.2 (alloc4 w _ _ _ _).2.1 (alloc4 w _ _ _ _).2.2.2.1
    · rw [if_pos (by kernel_rfl)]
      go_simp
      refine hK.out _ _ ⟨cell_old (bel2 w _ _) x0, cell_old (bel2 w _ _) x1, cell_old (bel2 w _ _) y0, cell_old (bel2 w _ _) z1⟩ (fun hS => ?_)
      refine wpAnyH_ready (rs := [3, 12]) (by kernel_rfl) (by decide) (AllReadyH.cons rfl (fun K hK => ?_) (AllReadyH.cons rfl (fun K hK => ?_) AllReadyH.nil))
      · rw [if_pos (by kernel_rfl)]
        go_simp
        refine hK.out _ _ ⟨cell_old (bel3 w _ _ _) x0, cell_old (bel3 w _ _ _) x1, cell_old (bel3 w _ _ _) y0, cell_old (bel3 w _ _ _) z1⟩ (fun hS => ?_)
        refine wpAnyH_take (i := 13) (v := .slice (some ⟨w.heap.size + 1 + 1, 0, none⟩) nb nb) rfl (by kernel_rfl) (by kernel_rfl) (by kernel_rfl) (fun _ _ _ h => h) (Or.inl ⟨by rfl, ?_⟩) hS ?_
        · intro w' hSw
          obtain ⟨s0, s1, s2, s3⟩ := hSw
          go_simp
        simp only [Act.put, List.getElem_toArray, List.getElem_cons_succ, List.getElem_cons_zero, List.setIfInBounds_toArray, List.set_cons_zero, List.set_cons_succ]
        refine wpAnyH_take (i := 14) (v := .slice (some ⟨w.heap.size + 1, 0, none⟩) ny ny) rfl (by kernel_rfl) (by kernel_rfl) (by kernel_rfl) (fun _ _ _ h => h) (Or.inl ⟨by rfl, ?_⟩) hS ?_
        · intro w' hSw
          obtain ⟨s0, s1, s2, s3⟩ := hSw
          go_simp
        simp only [Act.put, List.getElem_toArray, List.getElem_cons_succ, List.getElem_cons_zero, List.setIfInBounds_toArray, List.set_cons_zero, List.set_cons_succ]
        refine wpAnyH_take (i := 15) (v := .slice (some ⟨w.heap.size, 0, none⟩) nr nr) rfl (by kernel_rfl) (by kernel_rfl) (by kernel_rfl) (fun _ _ _ h => h) (Or.inl ⟨by rfl, ?_⟩) hS ?_
        · intro w' hSw
          obtain ⟨s0, s1, s2, s3⟩ := hSw
          go_simp
        simp only [Act.put, List.getElem_toArray, List.getElem_cons_succ, List.getElem_cons_zero, List.setIfInBounds_toArray, List.set_cons_zero, List.set_cons_succ]
        refine wpAnyH_ready (rs := [12]) (by kernel_rfl) (by decide) (AllReadyH.cons rfl (fun K hK => ?_) AllReadyH.nil)
        · rw [if_pos (by kernel_rfl)]
          go_simp
          refine hK.out _ _ ⟨cell_old (bel4 w _ _ _ _) x0, cell_old (bel4 w _ _ _ _) x1, cell_old (bel4 w _ _ _ _) y0, cell_old (bel4 w _ _ _ _) z1⟩ (fun hS => ?_)
          refine wpAnyH_take (i := 16) (v := .slice (some ⟨w.heap.size + 1 + 1 + 1, 0, none⟩) np np) rfl (by kernel_rfl) (by kernel_rfl) (by kernel_rfl) (fun _ _ _ h => h) (Or.inl ⟨by rfl, ?_⟩) hS ?_
          · intro w' hSw
            obtain ⟨s0, s1, s2, s3⟩ := hSw
            go_simp
          simp only [Act.put, List.getElem_toArray, List.getElem_cons_succ, List.getElem_cons_zero, List.setIfInBounds_toArray, List.set_cons_zero, List.set_cons_succ]
          refine wpAnyH_done (by kernel_rfl) ?_ _
          refine NoPanic.normal ?_
          simp only [Exit.then]
          exact HK.out _ _ _ _ _ _ ⟨rfl, rfl, rfl, rfl, rfl, rfl, rfl, rfl, rfl, rfl, rfl⟩ (alloc4 w _ _ _ _).1.drew (by omega) (by omega) (alloc4 w _ _ _ _).2.2.2.1 (alloc4 w _ _ _ _).2.2.1 (alloc4 w _ _ _ _).2.1 (alloc4 w _ _ _ _).2.2.2.2
      · rw [if_pos (by kernel_rfl)]
        go_simp
        refine hK.out _ _ ⟨cell_old (bel3 w _ _ _) x0, cell_old (bel3 w _ _ _) x1, cell_old (bel3 w _ _ _) y0, cell_old (bel3 w _ _ _) z1⟩ (fun hS => ?_)
        refine wpAnyH_ready (rs := [3]) (by kernel_rfl) (by decide) (AllReadyH.cons rfl (fun K hK => ?_) AllReadyH.nil)
        · rw [if_pos (by kernel_rfl)]
          go_simp
          refine hK.out _ _ ⟨cell_old (bel4 w _ _ _ _) x0, cell_old (bel4 w _ _ _ _) x1, cell_old (bel4 w _ _ _ _) y0, cell_old (bel4 w _ _ _ _) z1⟩ (fun hS => ?_)
          refine wpAnyH_take (i := 13) (v := .slice (some ⟨w.heap.size + 1 + 1 + 1, 0, none⟩) nb nb) rfl (by kernel_rfl) (by kernel_rfl) (by kernel_rfl) (fun _ _ _ h => h) (Or.inl ⟨by rfl, ?_⟩) hS ?_
          · intro w' hSw
            obtain ⟨s0, s1, s2, s3⟩ := hSw
            go_simp
          simp only [Act.put, List.getElem_toArray, List.getElem_cons_succ, List.getElem_cons_zero, List.setIfInBounds_toArray, List.set_cons_zero, List.set_cons_succ]
          refine wpAnyH_take (i := 14) (v := .slice (some ⟨w.heap.size + 1, 0, none⟩) ny ny) rfl (by kernel_rfl) (by kernel_rfl) (by kernel_rfl) (fun _ _ _ h => h) (Or.inl ⟨by rfl, ?_⟩) hS ?_
          · intro w' hSw
            obtain ⟨s0, s1, s2, s3⟩ := hSw
            go_simp
          simp only [Act.put, List.getElem_toArray, List.getElem_cons_succ, List.getElem_cons_zero, List.setIfInBounds_toArray, List.set_cons_zero, List.set_cons_succ]
          refine wpAnyH_take (i := 15) (v := .slice (some ⟨w.heap.size, 0, none⟩) nr nr) rfl (by kernel_rfl) (by kernel_rfl) (by kernel_rfl) (fun _ _ _ h => h) (Or.inl ⟨by rfl, ?_⟩) hS ?_
          · intro w' hSw
            obtain ⟨s0, s1, s2, s3⟩ := hSw
            go_simp
          simp only [Act.put, List.getElem_toArray, List.getElem_cons_succ, List.getElem_cons_zero, List.setIfInBounds_toArray, List.set_cons_zero, List.set_cons_succ]
          refine wpAnyH_take (i := 16) (v := .slice (some ⟨w.heap.size + 1 + 1, 0, none⟩) np np) rfl (by kernel_rfl) (by kernel_rfl) (by kernel_rfl) (fun _ _ _ h => h) (Or.inl ⟨by rfl, ?_⟩) hS ?_
          · intro w' hSw
            obtain ⟨s0, s1, s2, s3⟩ := hSw
            go_simp
          simp only [Act.put, List.getElem_toArray, List.getElem_cons_succ, List.getElem_cons_zero, List.setIfInBounds_toArray, List.set_cons_zero, List.set_cons_succ]
          refine wpAnyH_done (by kernel_rfl) ?_ _
          refine NoPanic.normal ?_
          simp only [Exit.then]
          exact HK.out _ _ _ _ _ _ ⟨rfl, rfl, rfl, rfl, rfl, rfl, rfl, rfl, rfl, rfl, rfl⟩ (alloc4 w _ _ _ _).1.drew (by omega) (by omega) (alloc4 w _ _ _ _).2.2.2.2 (alloc4 w _ _ _ _).2.2.1 (alloc4 w _ _ _ _).2.1 (alloc4 w _ _ _ _).2.2.2.1
    · rw [if_pos (by kernel_rfl)]
      go_simp
      refine hK.out _ _ ⟨cell_old (bel2 w _ _) x0, cell_old (bel2 w _ _) x1, cell_old (bel2 w _ _) y0, cell_old (bel2 w _ _) z1⟩ (fun hS => ?_)
      refine wpAnyH_ready (rs := [3, 6]) (by kernel_rfl) (by decide) (AllReadyH.cons rfl (fun K hK => ?_) (AllReadyH.cons rfl (fun K hK => ?_) AllReadyH.nil))
      · rw [if_pos (by kernel_rfl)]
        go_simp
        refine hK.out _ _ ⟨cell_old (bel3 w _ _ _) x0, cell_old (bel3 w _ _ _) x1, cell_old (bel3 w _ _ _) y0, cell_old (bel3 w _ _ _) z1⟩ (fun hS => ?_)
        refine wpAnyH_take (i := 13) (v := .slice (some ⟨w.heap.size + 1 + 1, 0, none⟩) nb nb) rfl (by kernel_rfl) (by kernel_rfl) (by kernel_rfl) (fun _ _ _ h => h) (Or.inl ⟨by rfl, ?_⟩) hS ?_
        · intro w' hSw
          obtain ⟨s0, s1, s2, s3⟩ := hSw
          go_simp
        simp only [Act.put, List.getElem_toArray, List.getElem_cons_succ, List.getElem_cons_zero, List.setIfInBounds_toArray, List.set_cons_zero, List.set_cons_succ]
        refine wpAnyH_ready (rs := [6]) (by kernel_rfl) (by decide) (AllReadyH.cons rfl (fun K hK => ?_) AllReadyH.nil)
        · rw [if_pos (by kernel_rfl)]
          go_simp
          refine hK.out _ _ ⟨cell_old (bel4 w _ _ _ _) x0, cell_old (bel4 w _ _ _ _) x1, cell_old (bel4 w _ _ _ _) y0, cell_old (bel4 w _ _ _ _) z1⟩ (fun hS => ?_)
          refine wpAnyH_take (i := 14) (v := .slice (some ⟨w.heap.size + 1 + 1 + 1, 0, none⟩) ny ny) rfl (by kernel_rfl) (by kernel_rfl) (by kernel_rfl) (fun _ _ _ h => h) (Or.inl ⟨by rfl, ?_⟩) hS ?_
          · intro w' hSw
            obtain ⟨s0, s1, s2, s3⟩ := hSw
            go_simp
          simp only [Act.put, List.getElem_toArray, List.getElem_cons_succ, List.getElem_cons_zero, List.setIfInBounds_toArray, List.set_cons_zero, List.set_cons_succ]
          refine wpAnyH_take (i := 15) (v := .slice (some ⟨w.heap.size, 0, none⟩) nr nr) rfl (by kernel_rfl) (by kernel_rfl) (by kernel_rfl) (fun _ _ _ h => h) (Or.inl ⟨by rfl, ?_⟩) hS ?_
          · intro w' hSw
            obtain ⟨s0, s1, s2, s3⟩ := hSw
            go_simp
          simp only [Act.put, List.getElem_toArray, List.getElem_cons_succ, List.getElem_cons_zero, List.setIfInBounds_toArray, List.set_cons_zero, List.set_cons_succ]
          refine wpAnyH_take (i := 16) (v := .slice (some ⟨w.heap.size + 1, 0, none⟩) np np) rfl (by kernel_rfl) (by kernel_rfl) (by kernel_rfl) (fun _ _ _ h => h) (Or.inl ⟨by rfl, ?_⟩) hS ?_
          · intro w' hSw
            obtain ⟨s0, s1, s2, s3⟩ := hSw
            go_simp
          simp only [Act.put, List.getElem_toArray, List.getElem_cons_succ, List.getElem_cons_zero, List.setIfInBounds_toArray, List.set_cons_zero, List.set_cons_succ]
          refine wpAnyH_done (by kernel_rfl) ?_ _
          refine NoPanic.normal ?_
          simp only [Exit.then]
          exact HK.out _ _ _ _ _ _ ⟨rfl, rfl, rfl, rfl, rfl, rfl, rfl, rfl, rfl, rfl, rfl⟩ (alloc4 w _ _ _ _).1.drew (by omega) (by omega) (alloc4 w _ _ _ _).2.2.2.1 (alloc4 w _ _ _ _).2.2.2.2 (alloc4 w _ _ _ _).2.1 (alloc4 w _ _ _ _).2.2.1
      · rw [if_pos (by kernel_rfl)]
        go_simp
        refine hK.out _ _ ⟨cell_old (bel3 w _ _ _) x0, cell_old (bel3 w _ _ _) x1, cell_old (bel3 w _ _ _) y0, cell_old (bel3 w _ _ _) z1⟩ (fun hS => ?_)
        refine wpAnyH_ready (rs := [3]) (by kernel_rfl) (by decide) (AllReadyH.cons rfl (fun K hK => ?_) AllReadyH.nil)
        · rw [if_pos (by kernel_rfl)]
          go_simp
          refine hK.out _ _ ⟨cell_old (bel4 w _ _ _ _) x0, cell_old (bel4 w _ _ _ _) x1, cell_old (bel4 w _ _ _ _) y0, cell_old (bel4 w _ _ _ _) z1⟩ (fun hS => ?_)
          refine wpAnyH_take (i := 13) (v := .slice (some ⟨w.heap.size + 1 + 1 + 1, 0, none⟩) nb nb) rfl (by kernel_rfl) (by kernel_rfl) (by kernel_rfl) (fun _ _ _ h => h) (Or.inl ⟨by rfl, ?_⟩) hS ?_
          · intro w' hSw
            obtain ⟨s0, s1, s2, s3⟩ := hSw
            go_simp
          simp only [Act.put, List.getElem_toArray, List.getElem_cons_succ, List.getElem_cons_zero, List.setIfInBounds_toArray, List.set_cons_zero, List.set_cons_succ]
          refine wpAnyH_take (i := 14) (v := .slice (some ⟨w.heap.size + 1 + 1, 0, none⟩) ny ny) rfl (by kernel_rfl) (by kernel_rfl) (by kernel_rfl) (fun _ _ _ h => h) (Or.inl ⟨by rfl, ?_⟩) hS ?_
          · intro w' hSw
            obtain ⟨s0, s1, s2, s3⟩ := hSw
            go_simp
          simp only [Act.put, List.getElem_toArray, List.getElem_cons_succ, List.getElem_cons_zero, List.setIfInBounds_toArray, List.set_cons_zero, List.set_cons_succ]
          refine wpAnyH_take (i := 15) (v := .slice (some ⟨w.heap.size, 0, none⟩) nr nr) rfl (by kernel_rfl) (by kernel_rfl) (by kernel_rfl) (fun _ _ _ h => h) (Or.inl ⟨by rfl, ?_⟩) hS ?_
          · intro w' hSw
            obtain ⟨s0, s1, s2, s3⟩ := hSw
            go_simp
          simp only [Act.put, List.getElem_toArray, List.getElem_cons_succ, List.getElem_cons_zero, List.setIfInBounds_toArray, List.set_cons_zero, List.set_cons_succ]
          refine wpAnyH_take (i := 16) (v := .slice (some ⟨w.heap.size + 1, 0, none⟩) np np) rfl (by kernel_rfl) (by kernel_rfl) (by kernel_rfl) (fun _ _ _ h => h) (Or.inl ⟨by rfl, ?_⟩) hS ?_
          · intro w' hSw
            obtain ⟨s0, s1, s2, s3⟩ := hSw
            go_simp
          simp only [Act.put, List.getElem_toArray, List.getElem_cons_succ, List.getElem_cons_zero, List.setIfInBounds_toArray, List.set_cons_zero, List.set_cons_succ]
          refine wpAnyH_done (by kernel_rfl) ?_ _
          refine NoPanic.normal ?_
          simp only [Exit.then]
          exact HK.out _ _ _ _ _ _ ⟨rfl, rfl, rfl, rfl, rfl, rfl, rfl, rfl, rfl, rfl, rfl⟩ (alloc4 w _ _ _ _).1.drew (by omega) (by omega) (alloc4 w _ _ _ _).2.2.2.2 (alloc4 w _ _ _ _).2.2.2.1 (alloc4 w _ _ _ _).2.1 (alloc4 w _ _ _ _).2.2.1
  · rw [if_pos (by kernel_rfl)]
    go_simp
    refine hK.out _ _ ⟨cell_old (bel1 w _) x0, cell_old (bel1 w _) x1, cell_old (bel1 w _) y0, cell_old (bel1 w _) z1⟩ (fun hS => ?_)
    refine wpAnyH_ready (rs := [3, 6, 9]) (by kernel_rfl) (by decide) (AllReadyH.cons rfl (fun K hK => ?_) (AllReadyH.cons rfl (fun K hK => ?_) (AllReadyH.cons rfl (fun K hK => ?_) AllReadyH.nil)))
    · rw [if_pos (by kernel_rfl)]
      go_simp
      refine hK.out _ _ ⟨cell_old (bel2 w _ _) x0, cell_old (bel2 w _ _) x1, cell_old (bel2 w _ _) y0, cell_old (bel2 w _ _) z1⟩ (fun hS => ?_)
      refine wpAnyH_take (i := 13) (v := .slice (some ⟨w.heap.size + 1, 0, none⟩) nb nb) rfl (by kernel_rfl) (by kernel_rfl) (by kernel_rfl) (fun _ _ _ h => h) (Or.inl ⟨by rfl, ?_⟩) hS ?_
      · intro w' hSw
        obtain ⟨s0, s1, s2, s3⟩ := hSw
        go_simp
      simp only [Act.put, List.getElem_toArray, List.getElem_cons_succ, List.getElem_cons_zero, List.setIfInBounds_toArray, List.set_cons_zero, List.set_cons_succ]
      refine wpAnyH_ready (rs := [6, 9]) (by kernel_rfl) (by decide) (AllReadyH.cons rfl (fun K hK => ?_) (AllReadyH.cons rfl (fun K hK => ?_) AllReadyH.nil))
      · rw [if_pos (by kernel_rfl)]
        go_simp
        refine hK.out _ _ ⟨cell_old (bel3 w _ _ _) x0, cell_old (bel3 w _ _ _) x1, cell_old (bel3 w _ _ _) y0, cell_old (bel3 w _ _ _) z1⟩ (fun hS => ?_)
        refine wpAnyH_take (i := 14) (v := .slice (some ⟨w.heap.size + 1 + 1, 0, none⟩) ny ny) rfl (by kernel_rfl) (by kernel_rfl) (by kernel_rfl) (fun _ _ _ h => h) (Or.inl ⟨by rfl, ?_⟩) hS ?_
        · intro w' hSw
          obtain ⟨s0, s1, s2, s3⟩ := hSw
          go_simp
        simp only [Act.put, List.getElem_toArray, List.getElem_cons_succ, List.getElem_cons_zero, List.setIfInBounds_toArray, List.set_cons_zero, List.set_cons_succ]
        refine wpAnyH_ready (rs := [9]) (by kernel_rfl) (by decide) (AllReadyH.cons rfl (fun K hK => ?_) AllReadyH.nil)
        · rw [if_pos (by kernel_rfl)]
          go_simp
          refine hK.out _ _ ⟨cell_old (bel4 w _ _ _ _) x0, cell_old (bel4 w _ _ _ _) x1, cell_old (bel4 w _ _ _ _) y0, cell_old (bel4 w _ _ _ _) z1⟩ (fun hS => ?_)
          refine wpAnyH_take (i := 15) (v := .slice (some ⟨w.heap.size + 1 + 1 + 1, 0, none⟩) nr nr) rfl (by kernel_rfl) (by kernel_rfl) (by kernel_rfl) (fun _ _ _ h => h) (Or.inl ⟨by rfl, ?_⟩) hS ?_
          · intro w' hSw
            obtain ⟨s0, s1, s2, s3⟩ := hSw
            go_simp
          simp only [Act.put, List.getElem_toArray, List.getElem_cons_succ, List.getElem_cons_zero, List.setIfInBounds_toArray, List.set_cons_zero, List.set_cons_succ]
          refine wpAnyH_take (i := 16) (v := .slice (some ⟨w.heap.size, 0, none⟩) np np) rfl (by kernel_rfl) (by kernel_rfl) (by kernel_rfl) (fun _ _ _ h => h) (Or.inl ⟨by rfl, ?_⟩) hS ?_
          · intro w' hSw
            obtain ⟨s0, s1, s2, s3⟩ := hSw
            go_simp
          simp only [Act.put, List.getElem_toArray, List.getElem_cons_succ, List.getElem_cons_zero, List.setIfInBounds_toArray, List.set_cons_zero, List.set_cons_succ]
          refine wpAnyH_done (by kernel_rfl) ?_ _
          refine NoPanic.normal ?_
          simp only [Exit.then]
          exact HK.out _ _ _ _ _ _ ⟨rfl, rfl, rfl, rfl, rfl, rfl, rfl, rfl, rfl, rfl, rfl⟩ (alloc4 w _ _ _ _).1.drew (by omega) (by omega) (alloc4 w _ _ _ _).2.2.1 (alloc4 w _ _ _ _).2.2.2.1 (alloc4 w _ _ _ _).2.2.2.2 (alloc4 w _ _ _ _).2.1
      · rw [if_pos (by kernel_rfl)]
        go_simp
        refine hK.out _ _ ⟨cell_old (bel3 w _ _ _) x0, cell_old (bel3 w _ _ _) x1, cell_old (bel3 w _ _ _) y0, cell_old (bel3 w _ _ _) z1⟩ (fun hS => ?_)
        refine wpAnyH_ready (rs := [6]) (by kernel_rfl) (by decide) (AllReadyH.cons rfl (fun K hK => ?_) AllReadyH.nil)
        · rw [if_pos (by kernel_rfl)]
          go_simp
          refine hK.out _ _ ⟨cell_old (bel4 w _ _ _ _) x0, cell_old (bel4 w _ _ _ _) x1, cell_old (bel4 w _ _ _ _) y0, cell_old (bel4 w _ _ _ _) z1⟩ (fun hS => ?_)
          refine wpAnyH_take (i := 14) (v := .slice (some ⟨w.heap.size + 1 + 1 + 1, 0, none⟩) ny ny) rfl (by kernel_rfl) (by kernel_rfl) (by kernel_rfl) (fun _ _ _ h => h) (Or.inl ⟨by rfl, ?_⟩) hS ?_
          · intro w' hSw
            obtain ⟨s0, s1, s2, s3⟩ := hSw
            go_simp
          simp only [Act.put, List.getElem_toArray, List.getElem_cons_succ, List.getElem_cons_zero, List.setIfInBounds_toArray, List.set_cons_zero, List.set_cons_succ]
          refine wpAnyH_take (i := 15) (v := .slice (some ⟨w.heap.size + 1 + 1, 0, none⟩) nr nr) rfl (by kernel_rfl) (by kernel_rfl) (by kernel_rfl) (fun _ _ _ h => h) (Or.inl ⟨by rfl, ?_⟩) hS ?_
          · intro w' hSw
            obtain ⟨s0, s1, s2, s3⟩ := hSw
            go_simp
          simp only [Act.put, List.getElem_toArray, List.getElem_cons_succ, List.getElem_cons_zero, List.setIfInBounds_toArray, List.set_cons_zero, List.set_cons_succ]
          refine wpAnyH_take (i := 16) (v := .slice (some ⟨w.heap.size, 0, none⟩) np np) rfl (by kernel_rfl) (by kernel_rfl) (by kernel_rfl) (fun _ _ _ h => h) (Or.inl ⟨by rfl, ?_⟩) hS ?_
          · intro w' hSw
            obtain ⟨s0, s1, s2, s3⟩ := hSw
            go_simp
          simp only [Act.put, List.getElem_toArray, List.getElem_cons_succ, List.getElem_cons_zero, List.setIfInBounds_toArray, List.set_cons_zero, List.set_cons_succ]
          refine wpAnyH_done (by kernel_rfl) ?_ _
          refine NoPanic.normal ?_
          simp only [Exit.then]
          exact HK.out _ _ _ _ _ _ ⟨rfl, rfl, rfl, rfl, rfl, rfl, rfl, rfl, rfl, rfl, rfl⟩ (alloc4 w _ _ _ _).1.drew (by omega) (by omega) (alloc4 w _ _ _ _).2.2.1 (alloc4 w _ _ _ _).2.2.2.2 (alloc4 w _ _ _ _).2.2.2.1 (alloc4 w _ _ _ _).2.1
    · rw [if_pos (by kernel_rfl)]
      go_simp
      refine hK.out _ _ ⟨cell_old (bel2 w _ _) x0, cell_old (bel2 w _ _) x1, cell_old (bel2 w _ _) y0, cell_old (bel2 w _ _) z1⟩ (fun hS => ?_)
      refine wpAnyH_ready (rs := [3, 9]) (by kernel_rfl) (by decide) (AllReadyH.cons rfl (fun K hK => ?_) (AllReadyH.cons rfl (fun K hK => ?_) AllReadyH.nil))
      · rw [if_pos (by kernel_rfl)]
        go_simp
        refine hK.out _ _ ⟨cell_old (bel3 w _ _ _) x0, cell_old (bel3 w _ _ _) x1, cell_old (bel3 w _ _ _) y0, cell_old (bel3 w _ _ _) z1⟩ (fun hS => ?_)
        refine wpAnyH_take (i := 13) (v := .slice (some ⟨w.heap.size + 1 + 1, 0, none⟩) nb nb) rfl (by kernel_rfl) (by kernel_rfl) (by kernel_rfl) (fun _ _ _ h => h) (Or.inl ⟨by rfl, ?_⟩) hS ?_
        · intro w' hSw
          obtain ⟨s0, s1, s2, s3⟩ := hSw
          go_simp
        simp only [Act.put, List.getElem_toArray, List.getElem_cons_succ, List.getElem_cons_zero, List.setIfInBounds_toArray, List.set_cons_zero, List.set_cons_succ]
        refine wpAnyH_take (i := 14) (v := .slice (some ⟨w.heap.size + 1, 0, none⟩) ny ny) rfl (by kernel_rfl) (by kernel_rfl) (by kernel_rfl) (fun _ _ _ h => h) (Or.inl ⟨by rfl, ?_⟩) hS ?_
        · intro w' hSw
          obtain ⟨s0, s1, s2, s3⟩ := hSw
          go_simp
        simp only [Act.put, List.getElem_toArray, List.getElem_cons_succ, List.getElem_cons_zero, List.setIfInBounds_toArray, List.set_cons_zero, List.set_cons_succ]
        refine wpAnyH_ready (rs := [9]) (by kernel_rfl) (by decide) (AllReadyH.cons rfl (fun K hK => ?_) AllReadyH.nil)
        · rw [if_pos (by kernel_rfl)]
          go_simp
          refine hK.out _ _ ⟨cell_old (bel4 w _ _ _ _) x0, cell_old (bel4 w _ _ _ _) x1, cell_old (bel4 w _ _ _ _) y0, cell_old (bel4 w _ _ _ _) z1⟩ (fun hS => ?_)
          refine wpAnyH_take (i := 15) (v := .slice (some ⟨w.heap.size + 1 + 1 + 1, 0, none⟩) nr nr) rfl (by kernel_rfl) (by kernel_rfl) (by kernel_rfl) (fun _ _ _ h => h) (Or.inl ⟨by rfl, ?_⟩) hS ?_
          · intro w' hSw
            obtain ⟨s0, s1, s2, s3⟩ := hSw
            go_simp
          simp only [Act.put, List.getElem_toArray, List.getElem_cons_succ, List.getElem_cons_zero, List.setIfInBounds_toArray, List.set_cons_zero, List.set_cons_succ]
          refine wpAnyH_take (i := 16) (v := .slice (some ⟨w.heap.size, 0, none⟩) np np) rfl (by kernel_rfl) (by kernel_rfl) (by kernel_rfl) (fun _ _ _ h => h) (Or.inl ⟨by rfl, ?_⟩) hS ?_
          · intro w' hSw
            obtain ⟨s0, s1, s2, s3⟩ := hSw
            go_simp
          simp only [Act.put, List.getElem_toArray, List.getElem_cons_succ, List.getElem_cons_zero, List.setIfInBounds_toArray, List.set_cons_zero, List.set_cons_succ]
          refine wpAnyH_done (by kernel_rfl) ?_ _
          refine NoPanic.normal ?_
          simp only [Exit.then]
          exact HK.out _ _ _ _ _ _ ⟨rfl, rfl, rfl, rfl, rfl, rfl, rfl, rfl, rfl, rfl, rfl⟩ (alloc4 w _ _ _ _).1.drew (by omega) (by omega) (alloc4 w _ _ _ _).2.2.2.1 (alloc4 w _ _ _ _).2.2.1 (alloc4 w _ _ _ _).2.2.2.2 (alloc4 w _ _ _ _).2.1
      · rw [if_pos (by kernel_rfl)]
        go_simp
        refine hK.out _ _ ⟨cell_old (bel3 w _ _ _) x0, cell_old (bel3 w _ _ _) x1, cell_old (bel3 w _ _ _) y0, cell_old (bel3 w _ _ _) z1⟩ (fun hS => ?_)
        refine wpAnyH_ready (rs := [3]) (by kernel_rfl) (by decide) (AllReadyH.cons rfl (fun K hK => ?_) AllReadyH.nil)
        · rw [if_pos (by kernel_rfl)]
          go_simp
          refine hK.out _ _ ⟨cell_old (bel4 w _ _ _ _) x0, cell_old (bel4 w _ _ _ _) x1, cell_old (bel4 w _ _ _ _) y0, cell_old (bel4 w _ _ _ _) z1⟩ (fun hS => ?_)
          refine wpAnyH_take (i := 13) (v := .slice (some ⟨w.heap.size + 1 + 1 + 1, 0, none⟩) nb nb) rfl (by kernel_rfl) (by kernel_rfl) (by kernel_rfl) (fun _ _ _ h => h) (Or.inl ⟨by rfl, ?_⟩) hS ?_
          · intro w' hSw
            obtain ⟨s0, s1, s2, s3⟩ := hSw
            go_simp
          simp only [Act.put, List.getElem_toArray, List.getElem_cons_succ, List.getElem_cons_zero, List.setIfInBounds_toArray, List.set_cons_zero, List.set_cons_succ]
          refine wpAnyH_take (i := 14) (v := .slice (some ⟨w.heap.size + 1, 0, none⟩) ny ny) rfl (by kernel_rfl) (by kernel_rfl) (by kernel_rfl) (fun _ _ _ h => h) (Or.inl ⟨by rfl, ?_⟩) hS ?_
          · intro w' hSw
            obtain ⟨s0, s1, s2, s3⟩ := hSw
            go_simp
          simp only [Act.put, List.getElem_toArray, List.getElem_cons_succ, List.getElem_cons_zero, List.setIfInBounds_toArray, List.set_cons_zero, List.set_cons_succ]
          refine wpAnyH_take (i := 15) (v := .slice (some ⟨w.heap.size + 1 + 1, 0, none⟩) nr nr) rfl (by kernel_rfl) (by kernel_rfl) (by kernel_rfl) (fun _ _ _ h => h) (Or.inl ⟨by rfl, ?_⟩) hS ?_
          · intro w' hSw
            obtain ⟨s0, s1, s2, s3⟩ := hSw
            go_simp
          simp only [Act.put, List.getElem_toArray, List.getElem_cons_succ, List.getElem_cons_zero, List.setIfInBounds_toArray, List.set_cons_zero, List.set_cons_succ]
          refine wpAnyH_take (i := 16) (v := .slice (some ⟨w.heap.size, 0, none⟩) np np) rfl (by kernel_rfl) (by kernel_rfl) (by kernel_rfl) (fun _ _ _ h => h) (Or.inl ⟨by rfl, ?_⟩) hS ?_
          · intro w' hSw
            obtain ⟨s0, s1, s2, s3⟩ := hSw
            go_simp
          simp only [Act.put, List.getElem_toArray, List.getElem_cons_succ, List.getElem_cons_zero, List.setIfInBounds_toArray, List.set_cons_zero, List.set_cons_succ]
          refine wpAnyH_done (by kernel_rfl) ?_ _
          refine NoPanic.normal ?_
          simp only [Exit.then]
          exact HK.out _ _ _ _ _ _ ⟨rfl, rfl, rfl, rfl, rfl, rfl, rfl, rfl, rfl, rfl, rfl⟩ (alloc4 w _ _ _ _).1.drew (by omega) (by omega) (alloc4 w _ _ _ _).2.2.2.2 (alloc4 w _ _ _ _).2.2.1 (alloc4 w _ _ _ _).2.2.2.1 (alloc4 w _ _ _ _).2.1
    · rw [if_pos (by kernel_rfl)]
      go_simp
      refine hK.out _ _ ⟨cell_old (bel2 w _ _) x0, cell_old (bel2 w _ _) x1, cell_old (bel2 w _ _) y0, cell_old (bel2 w _ _) z1⟩ (fun hS => ?_)
      refine wpAnyH_ready (rs := [3, 6]) (by kernel_rfl) (by decide) (AllReadyH.cons rfl (fun K hK => ?_) (AllReadyH.cons rfl (fun K hK => ?_) AllReadyH.nil))
      · rw [if_pos (by kernel_rfl)]
        go_simp
        refine hK.out _ _ ⟨cell_old (bel3 w _ _ _) x0, cell_old (bel3 w _ _ _) x1, cell_old (bel3 w _ _ _) y0, cell_old (bel3 w _ _ _) z1⟩ (fun hS => ?_)
        refine wpAnyH_take (i := 13) (v := .slice (some ⟨w.heap.size + 1 + 1, 0, none⟩) nb nb) rfl (by kernel_rfl) (by kernel_rfl) (by kernel_rfl) (fun _ _ _ h => h) (Or.inl ⟨by rfl, ?_⟩) hS ?_
        · intro w' hSw
          obtain ⟨s0, s1, s2, s3⟩ := hSw
          go_simp
        simp only [Act.put, List.getElem_toArray, List.getElem_cons_succ, List.getElem_cons_zero, List.setIfInBounds_toArray, List.set_cons_zero, List.set_cons_succ]
        refine wpAnyH_ready (rs := [6]) (by kernel_rfl) (by decide) (AllReadyH.cons rfl (fun K hK => ?_) AllReadyH.nil)
        · rw [if_pos (by kernel_rfl)]
          go_simp
          refine hK.out _ _ ⟨cell_old (bel4 w _ _ _ _) x0, cell_old (bel4 w _ _ _ _) x1, cell_old (bel4 w _ _ _ _) y0, cell_old (bel4 w _ _ _ _) z1⟩ (fun hS => ?_)
          refine wpAnyH_take (i := 14) (v := .slice (some ⟨w.heap.size + 1 + 1 + 1, 0, none⟩) ny ny) rfl (by kernel_rfl) (by kernel_rfl) (by kernel_rfl) (fun _ _ _ h => h) (Or.inl ⟨by rfl, ?_⟩) hS ?_
          · intro w' hSw
            obtain ⟨s0, s1, s2, s3⟩ := hSw
            go_simp
          simp only [Act.put, List.getElem_toArray, List.getElem_cons_succ, List.getElem_cons_zero, List.setIfInBounds_toArray, List.set_cons_zero, List.set_cons_succ]
          refine wpAnyH_take (i := 15) (v := .slice (some ⟨w.heap.size + 1, 0, none⟩) nr nr) rfl (by kernel_rfl) (by kernel_rfl) (by kernel_rfl) (fun _ _ _ h => h) (Or.inl ⟨by rfl, ?_⟩) hS ?_
          · intro w' hSw
            obtain ⟨s0, s1, s2, s3⟩ := hSw
            go_simp
          simp only [Act.put, List.getElem_toArray, List.getElem_cons_succ, List.getElem_cons_zero, List.setIfInBounds_toArray, List.set_cons_zero, List.set_cons_succ]
          refine wpAnyH_take (i := 16) (v := .slice (some ⟨w.heap.size, 0, none⟩) np np) rfl (by kernel_rfl) (by kernel_rfl) (by kernel_rfl) (fun _ _ _ h => h) (Or.inl ⟨by rfl, ?_⟩) hS ?_
          · intro w' hSw
            obtain ⟨s0, s1, s2, s3⟩ := hSw
            go_simp
          simp only [Act.put, List.getElem_toArray, List.getElem_cons_succ, List.getElem_cons_zero, List.setIfInBounds_toArray, List.set_cons_zero, List.set_cons_succ]
          refine wpAnyH_done (by kernel_rfl) ?_ _
          refine NoPanic.normal ?_
          simp only [Exit.then]
          exact HK.out _ _ _ _ _ _ ⟨rfl, rfl, rfl, rfl, rfl, rfl, rfl, rfl, rfl, rfl, rfl⟩ (alloc4 w _ _ _ _).1.drew (by omega) (by omega) (alloc4 w _ _ _ _).2.2.2.1 (alloc4 w _ _ _ _).2.2.2.2 (alloc4 w _ _ _ _).2.2.1 (alloc4 w _ _ _ _).2.1
      · rw [if_pos (by kernel_rfl)]
        go_simp
        refine hK.out _ _ ⟨cell_old (bel3 w _ _ _) x0, cell_old (bel3 w _ _ _) x1, cell_old (bel3 w _ _ _) y0, cell_old (bel3 w _ _ _) z1⟩ (fun hS => ?_)
        refine wpAnyH_ready (rs := [3]) (by kernel_rfl) (by decide) (AllReadyH.cons rfl (fun K hK => ?_) AllReadyH.nil)
        · rw [if_pos (by kernel_rfl)]
          go_simp
          refine hK.out _ _ ⟨cell_old (bel4 w _ _ _ _) x0, cell_old (bel4 w _ _ _ _) x1, cell_old (bel4 w _ _ _ _) y0, cell_old (bel4 w _ _ _ _) z1⟩ (fun hS => ?_)
          refine wpAnyH_take (i := 13) (v := .slice (some ⟨w.heap.size + 1 + 1 + 1, 0, none⟩) nb nb) rfl (by kernel_rfl) (by kernel_rfl) (by kernel_rfl) (fun _ _ _ h => h) (Or.inl ⟨by rfl, ?_⟩) hS ?_
          · intro w' hSw
            obtain ⟨s0, s1, s2, s3⟩ := hSw
            go_simp
          simp only [Act.put, List.getElem_toArray, List.getElem_cons_succ, List.getElem_cons_zero, List.setIfInBounds_toArray, List.set_cons_zero, List.set_cons_succ]
          refine wpAnyH_take (i := 14) (v := .slice (some ⟨w.heap.size + 1 + 1, 0, none⟩) ny ny) rfl (by kernel_rfl) (by kernel_rfl) (by kernel_rfl) (fun _ _ _ h => h) (Or.inl ⟨by rfl, ?_⟩) hS ?_
          · intro w' hSw
            obtain ⟨s0, s1, s2, s3⟩ := hSw
            go_simp
          simp only [Act.put, List.getElem_toArray, List.getElem_cons_succ, List.getElem_cons_zero, List.setIfInBounds_toArray, List.set_cons_zero, List.set_cons_succ]
          refine wpAnyH_take (i := 15) (v := .slice (some ⟨w.heap.size + 1, 0, none⟩) nr nr) rfl (by kernel_rfl) (by kernel_rfl) (by kernel_rfl) (fun _ _ _ h => h) (Or.inl ⟨by rfl, ?_⟩) hS ?_
          · intro w' hSw
            obtain ⟨s0, s1, s2, s3⟩ := hSw
            go_simp
          simp only [Act.put, List.getElem_toArray, List.getElem_cons_succ, List.getElem_cons_zero, List.setIfInBounds_toArray, List.set_cons_zero, List.set_cons_succ]
          refine wpAnyH_take (i := 16) (v := .slice (some ⟨w.heap.size, 0, none⟩) np np) rfl (by kernel_rfl) (by kernel_rfl) (by kernel_rfl) (fun _ _ _ h => h) (Or.inl ⟨by rfl, ?_⟩) hS ?_
          · intro w' hSw
            obtain ⟨s0, s1, s2, s3⟩ := hSw
            go_simp
          simp only [Act.put, List.getElem_toArray, List.getElem_cons_succ, List.getElem_cons_zero, List.setIfInBounds_toArray, List.set_cons_zero, List.set_cons_succ]
          refine wpAnyH_done (by kernel_rfl) ?_ _
          refine NoPanic.normal ?_
          simp only [Exit.then]
          exact HK.out _ _ _ _ _ _ ⟨rfl, rfl, rfl, rfl, rfl, rfl, rfl, rfl, rfl, rfl, rfl⟩ (alloc4 w _ _ _ _).1.drew (by omega) (by omega) (alloc4 w _ _ _ _).2.2.2.2 (alloc4 w _ _ _ _).2.2.2.1 (alloc4 w _ _ _ _).2.2.1 (alloc4 w _ _ _ _).2.1
end Go.Proofs.YtdlfndjgncdgfaaDoor
