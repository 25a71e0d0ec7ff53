/-
  LayoutApart's closure asks for a struct's places in words and in a row, in whatever order its variables are made. (Made by program: wip/tools/gen-apstart.py.) Conditions: those that the theorem names.
-/
import Derived.Test.YtdlfndjgncdgfaaDoorApFr
import Derived.Test.YtdlfndjgncdgfaaDoorApMakes
import Derived.Test.YtdlfndjgncdgfaaDoorLayWords
import Derived.Test.YtdlfndjgncdgfaaDoorLayRowed
import Derived.Test.YtdlfndjgncdgfaaDoorPlanMore
import Derived.Deep.RegionHeld3
namespace Go.Proofs.YtdlfndjgncdgfaaDoor
open Go.ChangeShapes Go.WideShapes Go.ChangeAt Go.RowKit Go.Shelf

theorem row_elseA {W : World} {base : Nat} {e : TypeId} {s : Nat} {v : Value} {n : Nat} {xs : List Value} (h : W.ownsRow base e s v n xs) (p : Addr) (u : Value) (hne : v.ownBlock ≠ some p.block) : (W.setCell p u).ownsRow base e s v n xs := by
  obtain ⟨hl, h'⟩ := h
  refine ⟨hl, ?_⟩
  rcases h' with h1 | ⟨g', cap', cur, rfl, h1, hg', h2⟩
  · exact .inl h1
  · exact .inr ⟨g', cap', cur, rfl, h1, blk_set_ne hg' (fun e => hne (by simp [Value.ownBlock, e])) u, h2⟩
theorem row_typedA {W : World} {g : Nat} {cs : Array Value} {t e : TypeId} (hg : W.heap[g]? = some (.cells cs t (0, 0))) {base s n : Nat} {v : Value} {xs : List Value} (h : W.ownsRow base e s v n xs) (hne : e ≠ t) : v.ownBlock ≠ some g := by
  intro hv
  rcases h.2 with ⟨rfl, _⟩ | ⟨g', cap, cur, rfl, _, hg', _⟩
  · simp [Value.ownBlock] at hv
  · simp [Value.ownBlock] at hv
    subst hv
    rw [hg] at hg'
    injection hg' with hg'
    injection hg' with _ ht
    exact hne ht.symm
theorem blk_ne {W : World} {g g' : Nat} {cs cs' : Array Value} {t t' : TypeId} (h : W.heap[g]? = some (.cells cs t (0, 0))) (h' : W.heap[g']? = some (.cells cs' t' (0, 0))) (hne : t ≠ t') : g ≠ g' := by
  rintro rfl
  rw [h] at h'
  injection h' with h'
  injection h' with _ ht
  exact hne ht
/-- Three stores into a block of new cells: what was there else stays. -/
theorem set3A {B : Nat} {w0 W : World} {X : Nat} {x y z : Value} (hB : Below B w0 W) (hX : W.heap[X]? = some (.cells #[x, y, z] 38 (0, 0))) (hXB : B ≤ X) (a b c : Value) :
    Below B w0 (((W.setCell ⟨X, 0, none⟩ a).setCell ⟨X, 1, none⟩ b).setCell ⟨X, 2, none⟩ c) ∧ (((W.setCell ⟨X, 0, none⟩ a).setCell ⟨X, 1, none⟩ b).setCell ⟨X, 2, none⟩ c).heap[X]? = some (.cells #[a, b, c] 38 (0, 0)) ∧
      (∀ g o, g ≠ X → W.heap[g]? = some o → (((W.setCell ⟨X, 0, none⟩ a).setCell ⟨X, 1, none⟩ b).setCell ⟨X, 2, none⟩ c).heap[g]? = some o) ∧
      (∀ (b' : Nat) (e : TypeId) (s : Nat) (v : Value) (n : Nat) (xs : List Value), e ≠ 38 → W.ownsRow b' e s v n xs → (((W.setCell ⟨X, 0, none⟩ a).setCell ⟨X, 1, none⟩ b).setCell ⟨X, 2, none⟩ c).ownsRow b' e s v n xs) :=
  ⟨((hB.setCell hXB a).setCell hXB b).setCell hXB c, blk_set3 hX a b c, fun g o hg h => blk_set_ne (blk_set_ne (blk_set_ne h (fun e => hg e.symm) a) (fun e => hg e.symm) b) (fun e => hg e.symm) c,
    fun b' e s v n xs he h => by have hne := row_typedA hX h he; exact row_elseA (row_elseA (row_elseA h _ a hne) _ b hne) _ c hne⟩
theorem set4A {B : Nat} {w0 W : World} {X : Nat} {x y z u : Value} (hB : Below B w0 W) (hX : W.heap[X]? = some (.cells #[x, y, z, u] 41 (0, 0))) (hXB : B ≤ X) (a b c d : Value) :
    Below B w0 ((((W.setCell ⟨X, 0, none⟩ a).setCell ⟨X, 1, none⟩ b).setCell ⟨X, 2, none⟩ c).setCell ⟨X, 3, none⟩ d) ∧ ((((W.setCell ⟨X, 0, none⟩ a).setCell ⟨X, 1, none⟩ b).setCell ⟨X, 2, none⟩ c).setCell ⟨X, 3, none⟩ d).heap[X]? = some (.cells #[a, b, c, d] 41 (0, 0)) ∧
      (∀ g o, g ≠ X → W.heap[g]? = some o → ((((W.setCell ⟨X, 0, none⟩ a).setCell ⟨X, 1, none⟩ b).setCell ⟨X, 2, none⟩ c).setCell ⟨X, 3, none⟩ d).heap[g]? = some o) ∧
      (∀ (b' : Nat) (e : TypeId) (s : Nat) (v : Value) (n : Nat) (xs : List Value), e ≠ 41 → W.ownsRow b' e s v n xs → ((((W.setCell ⟨X, 0, none⟩ a).setCell ⟨X, 1, none⟩ b).setCell ⟨X, 2, none⟩ c).setCell ⟨X, 3, none⟩ d).ownsRow b' e s v n xs) :=
  ⟨(((hB.setCell hXB a).setCell hXB b).setCell hXB c).setCell hXB d, blk_set4 hX a b c d, fun g o hg h => blk_set_ne (blk_set_ne (blk_set_ne (blk_set_ne h (fun e => hg e.symm) a) (fun e => hg e.symm) b) (fun e => hg e.symm) c) (fun e => hg e.symm) d,
    fun b' e s v n xs he h => by have hne := row_typedA hX h he; exact row_elseA (row_elseA (row_elseA (row_elseA h _ a hne) _ b hne) _ c hne) _ d hne⟩
/-- What follows may be gone into from wherever this ends. -/
def AfterStart (K : Act → World → Prop) (M R : Nat) (fs : List SFld) (w : World) : Prop :=
  ∀ (c' : Act) (w' : World) (X Y : Nat) (xv yv gv bv : Value), ApX M R X Y c' → Below w.heap.size w w' → w.heap.size ≤ X → w.heap.size ≤ Y → w'.heap[X]? = some (.cells #[.int .i64 (wordsP fs), .int .i64 (ptrsP fs), xv] 38 (0, 0)) →
    w'.heap[Y]? = some (.cells #[.int .i64 (rowUp fs fs.length).size, yv, gv, bv] 41 (0, 0)) → w'.ownsRow w.heap.size 3 1 xv fs.length (i64Cells (atP fs)) → w'.ownsRow w.heap.size 3 1 yv (rowUp fs fs.length).pl.length (i64Cells (rowUp fs fs.length).pl) → K c' w'
set_option maxRecDepth 100000 in
set_option maxHeartbeats 16000000 in
theorem ap_start {K : Act → World → Prop} {Q : Exit → Act → World → Prop} {c : Act} {w : World} {M R : Nat} {nm fv : Value} {fs : List SFld}
    (hc : ApS M R c) (r0 : w.cell? ⟨R, 0, none⟩ = some nm) (r1 : w.cell? ⟨R, 1, none⟩ = some fv)
    (HW : ∀ W, Below w.heap.size w W → Calls Tryd.prog 12 #[.agg #[nm, fv]] W (WPost fs W)) (HR : ∀ W, Below w.heap.size w W → Calls Tryd.prog 13 #[.agg #[nm, fv]] W (RoPost fs W)) (hK : AfterStart K M R fs w) :
    Code.wp Tryd.prog (apReg 1) (Exit.then K Q) c w := by
  have hti : (3 : TypeId) ≠ 38 := by decide
  have htb : (3 : TypeId) ≠ 41 := by decide
  have htx : (38 : TypeId) ≠ 41 := by decide
  obtain ⟨u, rfl⟩ := hc.lit
  have HK := Lib.hid hK
  have HTI := Lib.hid hti
  have HTB := Lib.hid htb
  have HTX := Lib.hid htx
  have HWC := Lib.hid HW
  have HRC := Lib.hid HR
  unfold WPost at HWC
  unfold RoPost at HRC
  clear hc hK hti htb htx HW HR
  conv => arg 2; whnf
  refine wp_region_noPanic ?_
  refine wp_region_held_drew (S := (fun w' => w'.cell? ⟨R, 0, none⟩ = some nm ∧ w'.cell? ⟨R, 1, none⟩ = some fv)) (by kernel_rfl) ⟨r0, r1⟩ ?_
  intro hS
  refine wpAnyH_take (i := 0) (v := .agg #[nm, fv]) rfl (by kernel_rfl) (by kernel_rfl) (by kernel_rfl) (fun _ _ _ h => h) (Or.inl ⟨by rfl, ?_⟩) hS ?_
  · intro w' hSw
    obtain ⟨s0, s1⟩ := hSw
    go_simp
  simp only [Act.put, List.getElem_toArray, List.getElem_cons_zero, List.setIfInBounds_toArray, List.set_cons_zero, List.set_cons_succ]
  refine wpAnyH_take (i := 2) (v := .agg #[nm, fv]) rfl (by kernel_rfl) (by kernel_rfl) (by kernel_rfl) (fun _ _ _ h => h) (Or.inl ⟨by rfl, ?_⟩) hS ?_
  · intro w' hSw
    obtain ⟨s0, s1⟩ := hSw
    go_simp
  simp only [Act.put, List.getElem_toArray, List.getElem_cons_succ, List.getElem_cons_zero, List.setIfInBounds_toArray, List.set_cons_zero, List.set_cons_succ]
  have HB0 := Lib.hid ((Below.refl w.heap.size w).drew)
  generalize w.drew = V0 at *
  refine wpAnyH_ready (rs := [1, 4, 5]) (by kernel_rfl) (by decide) (AllReadyH.cons rfl (fun K hK => ?_) (AllReadyH.cons rfl (fun K hK => ?_) (AllReadyH.cons rfl (fun K hK => ?_) AllReadyH.nil)))
  · rw [if_pos (by kernel_rfl)]
    go_simp
    refine (HWC.out V0 HB0.out).mono ?_
    rintro ee V1 ⟨xv, rfl, hrow, hs⟩
    obtain ⟨xa, xc, rfl⟩ := ownsRow_form hrow
    have HB1 := Lib.hid (HB0.out.trans (hs.mono HB0.out.size))
    have HRX1 := Lib.hid (ownsRow_base hrow HB0.out.size)
    clear hrow hs
    refine hK.out _ _ ⟨cell_old HB1.out r0, cell_old HB1.out r1⟩ (fun hS => ?_)
    refine wpAnyH_ready (rs := [3, 4, 5]) (by kernel_rfl) (by decide) (AllReadyH.cons rfl (fun K hK => ?_) (AllReadyH.cons rfl (fun K hK => ?_) (AllReadyH.cons rfl (fun K hK => ?_) AllReadyH.nil)))
    · rw [if_pos (by kernel_rfl)]
      go_simp
      refine (HRC.out V1 HB1.out).mono ?_
      rintro ee V2 ⟨yv, gv, bv, rfl, hrow, hgr, hbr, hs⟩
      obtain ⟨ya, yc, rfl⟩ := ownsRow_form hrow
      obtain ⟨ga, gc, rfl⟩ := ownsRow_form hgr
      obtain ⟨ba, bc, rfl⟩ := ownsRow_form hbr
      have HB2 := Lib.hid (HB1.out.trans (hs.mono HB1.out.size))
      have HRX2 := Lib.hid (row_keep hs HRX1.out)
      have HRY2 := Lib.hid (ownsRow_base hrow HB1.out.size)
      clear hrow hgr hbr hs
      refine hK.out _ _ ⟨cell_old HB2.out r0, cell_old HB2.out r1⟩ (fun hS => ?_)
      refine wpAnyH_ready (rs := [4, 5]) (by kernel_rfl) (by decide) (AllReadyH.cons rfl (fun K hK => ?_) (AllReadyH.cons rfl (fun K hK => ?_) AllReadyH.nil))
      · rw [if_pos (by kernel_rfl)]
        go_simp
        have hs : Below V2.heap.size V2 (V2.alloc (.cells #[.int .i64 0, .int .i64 0, .slice none 0 0] 38)) := (Below.refl _ _).alloc (Nat.le_refl _) _
        have HB3 := Lib.hid (HB2.out.trans (hs.mono HB2.out.size))
        have HRX3 := Lib.hid (row_keep hs HRX2.out)
        have HRY3 := Lib.hid (row_keep hs HRY2.out)
        have HX3 := Lib.hid (heap_alloc_new V2 (.cells #[.int .i64 0, .int .i64 0, .slice none 0 0] 38))
        have XG := Lib.hid HB2.out.size
        refine hK.out _ _ ⟨cell_old HB3.out r0, cell_old HB3.out r1⟩ (fun hS => ?_)
        clear hs
        generalize V2.alloc (.cells #[.int .i64 0, .int .i64 0, .slice none 0 0] 38) = V3 at *
        generalize V2.heap.size = X at *
        refine wpAnyH_ready (rs := [5]) (by kernel_rfl) (by decide) (AllReadyH.cons rfl (fun K hK => ?_) AllReadyH.nil)
        rw [if_pos (by kernel_rfl)]
        go_simp
        have hs : Below V3.heap.size V3 (V3.alloc (.cells #[.int .i64 0, .slice none 0 0, .slice none 0 0, .slice none 0 0] 41)) := (Below.refl _ _).alloc (Nat.le_refl _) _
        have HB4 := Lib.hid (HB3.out.trans (hs.mono HB3.out.size))
        have HX4 := Lib.hid (blk_below HX3.out hs (blk_lt HX3.out))
        have HRX4 := Lib.hid (row_keep hs HRX3.out)
        have HRY4 := Lib.hid (row_keep hs HRY3.out)
        have HY4 := Lib.hid (heap_alloc_new V3 (.cells #[.int .i64 0, .slice none 0 0, .slice none 0 0, .slice none 0 0] 41))
        have YG := Lib.hid HB3.out.size
        refine hK.out _ _ ⟨cell_old HB4.out r0, cell_old HB4.out r1⟩ (fun hS => ?_)
        clear hs
        generalize V3.alloc (.cells #[.int .i64 0, .slice none 0 0, .slice none 0 0, .slice none 0 0] 41) = V4 at *
        generalize V3.heap.size = Y at *
        refine wpAnyH_ready (rs := [6]) (by kernel_rfl) (by decide) (AllReadyH.cons rfl (fun K hK => ?_) AllReadyH.nil)
        rw [if_pos (by kernel_rfl)]
        have hXY := blk_ne HX4.out HY4.out HTX.out
        obtain ⟨_, a0, a1, a2, b0, b1, b2⟩ := blk3 HX4.out
        obtain ⟨s1, s2, s3, s4⟩ := set3A HB4.out HX4.out XG.out (.int .i64 (wordsP fs)) (.int .i64 (ptrsP fs)) (.slice xa fs.length xc)
        have HB5 := Lib.hid s1
        have HX5 := Lib.hid s2
        have HY5 := Lib.hid (s3 _ _ (fun e => hXY e.symm) HY4.out)
        have HRX5 := Lib.hid (s4 _ _ _ _ _ _ HTI.out HRX4.out)
        have HRY5 := Lib.hid (s4 _ _ _ _ _ _ HTI.out HRY4.out)
        clear s1 s2 s3 s4
        go_simp
        refine hK.out _ _ ⟨cell_old HB5.out r0, cell_old HB5.out r1⟩ (fun hS => ?_)
        generalize ((V4.setCell ⟨X, 0, none⟩ (.int .i64 (wordsP fs))).setCell ⟨X, 1, none⟩ (.int .i64 (ptrsP fs))).setCell ⟨X, 2, none⟩ (.slice xa fs.length xc) = V5 at *
        clear a0 a1 a2 b0 b1 b2
        refine wpAnyH_ready (rs := [7]) (by kernel_rfl) (by decide) (AllReadyH.cons rfl (fun K hK => ?_) AllReadyH.nil)
        rw [if_pos (by kernel_rfl)]
        obtain ⟨_, a0, a1, a2, a3⟩ := blk4p HY5.out
        have b0 := blk_frozen HY5.out 0
        have b1 := blk_frozen HY5.out 1
        have b2 := blk_frozen HY5.out 2
        have b3 := blk_frozen HY5.out 3
        obtain ⟨s1, s2, s3, s4⟩ := set4A HB5.out HY5.out YG.out (.int .i64 (rowUp fs fs.length).size) (.slice ya (rowUp fs fs.length).pl.length yc) (.slice ga (rowUp fs fs.length).gr.length gc) (.slice ba (rowUp fs fs.length).bt.length bc)
        have HB6 := Lib.hid s1
        have HY6 := Lib.hid s2
        have HX6 := Lib.hid (s3 _ _ hXY HX5.out)
        have HRX6 := Lib.hid (s4 _ _ _ _ _ _ HTB.out HRX5.out)
        have HRY6 := Lib.hid (s4 _ _ _ _ _ _ HTB.out HRY5.out)
        clear s1 s2 s3 s4
        go_simp
        refine hK.out _ _ ⟨cell_old HB6.out r0, cell_old HB6.out r1⟩ (fun hS => ?_)
        refine wpAnyH_done (by kernel_rfl) ?_ _
        refine NoPanic.normal ?_
        simp only [Exit.then]
        exact HK.out _ _ _ _ _ _ _ _ ⟨rfl, rfl, rfl, rfl, rfl, rfl⟩ HB6.out XG.out YG.out HX6.out HY6.out HRX6.out HRY6.out
      · rw [if_pos (by kernel_rfl)]
        go_simp
        have hs : Below V2.heap.size V2 (V2.alloc (.cells #[.int .i64 0, .slice none 0 0, .slice none 0 0, .slice none 0 0] 41)) := (Below.refl _ _).alloc (Nat.le_refl _) _
        have HB3 := Lib.hid (HB2.out.trans (hs.mono HB2.out.size))
        have HRX3 := Lib.hid (row_keep hs HRX2.out)
        have HRY3 := Lib.hid (row_keep hs HRY2.out)
        have HY3 := Lib.hid (heap_alloc_new V2 (.cells #[.int .i64 0, .slice none 0 0, .slice none 0 0, .slice none 0 0] 41))
        have YG := Lib.hid HB2.out.size
        refine hK.out _ _ ⟨cell_old HB3.out r0, cell_old HB3.out r1⟩ (fun hS => ?_)
        clear hs
        generalize V2.alloc (.cells #[.int .i64 0, .slice none 0 0, .slice none 0 0, .slice none 0 0] 41) = V3 at *
        generalize V2.heap.size = Y at *
        refine wpAnyH_ready (rs := [4]) (by kernel_rfl) (by decide) (AllReadyH.cons rfl (fun K hK => ?_) AllReadyH.nil)
        rw [if_pos (by kernel_rfl)]
        go_simp
        have hs : Below V3.heap.size V3 (V3.alloc (.cells #[.int .i64 0, .int .i64 0, .slice none 0 0] 38)) := (Below.refl _ _).alloc (Nat.le_refl _) _
        have HB4 := Lib.hid (HB3.out.trans (hs.mono HB3.out.size))
        have HY4 := Lib.hid (blk_below HY3.out hs (blk_lt HY3.out))
        have HRX4 := Lib.hid (row_keep hs HRX3.out)
        have HRY4 := Lib.hid (row_keep hs HRY3.out)
        have HX4 := Lib.hid (heap_alloc_new V3 (.cells #[.int .i64 0, .int .i64 0, .slice none 0 0] 38))
        have XG := Lib.hid HB3.out.size
        refine hK.out _ _ ⟨cell_old HB4.out r0, cell_old HB4.out r1⟩ (fun hS => ?_)
        clear hs
        generalize V3.alloc (.cells #[.int .i64 0, .int .i64 0, .slice none 0 0] 38) = V4 at *
        generalize V3.heap.size = X at *
        refine wpAnyH_ready (rs := [6]) (by kernel_rfl) (by decide) (AllReadyH.cons rfl (fun K hK => ?_) AllReadyH.nil)
        rw [if_pos (by kernel_rfl)]
        have hXY := blk_ne HX4.out HY4.out HTX.out
        obtain ⟨_, a0, a1, a2, b0, b1, b2⟩ := blk3 HX4.out
        obtain ⟨s1, s2, s3, s4⟩ := set3A HB4.out HX4.out XG.out (.int .i64 (wordsP fs)) (.int .i64 (ptrsP fs)) (.slice xa fs.length xc)
        have HB5 := Lib.hid s1
        have HX5 := Lib.hid s2
        have HY5 := Lib.hid (s3 _ _ (fun e => hXY e.symm) HY4.out)
        have HRX5 := Lib.hid (s4 _ _ _ _ _ _ HTI.out HRX4.out)
        have HRY5 := Lib.hid (s4 _ _ _ _ _ _ HTI.out HRY4.out)
        clear s1 s2 s3 s4
        go_simp
        refine hK.out _ _ ⟨cell_old HB5.out r0, cell_old HB5.out r1⟩ (fun hS => ?_)
        generalize ((V4.setCell ⟨X, 0, none⟩ (.int .i64 (wordsP fs))).setCell ⟨X, 1, none⟩ (.int .i64 (ptrsP fs))).setCell ⟨X, 2, none⟩ (.slice xa fs.length xc) = V5 at *
        clear a0 a1 a2 b0 b1 b2
        refine wpAnyH_ready (rs := [7]) (by kernel_rfl) (by decide) (AllReadyH.cons rfl (fun K hK => ?_) AllReadyH.nil)
        rw [if_pos (by kernel_rfl)]
        obtain ⟨_, a0, a1, a2, a3⟩ := blk4p HY5.out
        have b0 := blk_frozen HY5.out 0
        have b1 := blk_frozen HY5.out 1
        have b2 := blk_frozen HY5.out 2
        have b3 := blk_frozen HY5.out 3
        obtain ⟨s1, s2, s3, s4⟩ := set4A HB5.out HY5.out YG.out (.int .i64 (rowUp fs fs.length).size) (.slice ya (rowUp fs fs.length).pl.length yc) (.slice ga (rowUp fs fs.length).gr.length gc) (.slice ba (rowUp fs fs.length).bt.length bc)
        have HB6 := Lib.hid s1
        have HY6 := Lib.hid s2
        have HX6 := Lib.hid (s3 _ _ hXY HX5.out)
        have HRX6 := Lib.hid (s4 _ _ _ _ _ _ HTB.out HRX5.out)
        have HRY6 := Lib.hid (s4 _ _ _ _ _ _ HTB.out HRY5.out)
        clear s1 s2 s3 s4
        go_simp
        refine hK.out _ _ ⟨cell_old HB6.out r0, cell_old HB6.out r1⟩ (fun hS => ?_)
        refine wpAnyH_done (by kernel_rfl) ?_ _
        refine NoPanic.normal ?_
        simp only [Exit.then]
        exact HK.out _ _ _ _ _ _ _ _ ⟨rfl, rfl, rfl, rfl, rfl, rfl⟩ HB6.out XG.out YG.out HX6.out HY6.out HRX6.out HRY6.out
    · rw [if_pos (by kernel_rfl)]
      go_simp
      have hs : Below V1.heap.size V1 (V1.alloc (.cells #[.int .i64 0, .int .i64 0, .slice none 0 0] 38)) := (Below.refl _ _).alloc (Nat.le_refl _) _
      have HB2 := Lib.hid (HB1.out.trans (hs.mono HB1.out.size))
      have HRX2 := Lib.hid (row_keep hs HRX1.out)
      have HX2 := Lib.hid (heap_alloc_new V1 (.cells #[.int .i64 0, .int .i64 0, .slice none 0 0] 38))
      have XG := Lib.hid HB1.out.size
      refine hK.out _ _ ⟨cell_old HB2.out r0, cell_old HB2.out r1⟩ (fun hS => ?_)
      clear hs
      generalize V1.alloc (.cells #[.int .i64 0, .int .i64 0, .slice none 0 0] 38) = V2 at *
      generalize V1.heap.size = X at *
      refine wpAnyH_ready (rs := [3, 5]) (by kernel_rfl) (by decide) (AllReadyH.cons rfl (fun K hK => ?_) (AllReadyH.cons rfl (fun K hK => ?_) AllReadyH.nil))
      · rw [if_pos (by kernel_rfl)]
        go_simp
        refine (HRC.out V2 HB2.out).mono ?_
        rintro ee V3 ⟨yv, gv, bv, rfl, hrow, hgr, hbr, hs⟩
        obtain ⟨ya, yc, rfl⟩ := ownsRow_form hrow
        obtain ⟨ga, gc, rfl⟩ := ownsRow_form hgr
        obtain ⟨ba, bc, rfl⟩ := ownsRow_form hbr
        have HB3 := Lib.hid (HB2.out.trans (hs.mono HB2.out.size))
        have HX3 := Lib.hid (blk_below HX2.out hs (blk_lt HX2.out))
        have HRX3 := Lib.hid (row_keep hs HRX2.out)
        have HRY3 := Lib.hid (ownsRow_base hrow HB2.out.size)
        clear hrow hgr hbr hs
        refine hK.out _ _ ⟨cell_old HB3.out r0, cell_old HB3.out r1⟩ (fun hS => ?_)
        refine wpAnyH_ready (rs := [5]) (by kernel_rfl) (by decide) (AllReadyH.cons rfl (fun K hK => ?_) AllReadyH.nil)
        rw [if_pos (by kernel_rfl)]
        go_simp
        have hs : Below V3.heap.size V3 (V3.alloc (.cells #[.int .i64 0, .slice none 0 0, .slice none 0 0, .slice none 0 0] 41)) := (Below.refl _ _).alloc (Nat.le_refl _) _
        have HB4 := Lib.hid (HB3.out.trans (hs.mono HB3.out.size))
        have HX4 := Lib.hid (blk_below HX3.out hs (blk_lt HX3.out))
        have HRX4 := Lib.hid (row_keep hs HRX3.out)
        have HRY4 := Lib.hid (row_keep hs HRY3.out)
        have HY4 := Lib.hid (heap_alloc_new V3 (.cells #[.int .i64 0, .slice none 0 0, .slice none 0 0, .slice none 0 0] 41))
        have YG := Lib.hid HB3.out.size
        refine hK.out _ _ ⟨cell_old HB4.out r0, cell_old HB4.out r1⟩ (fun hS => ?_)
        clear hs
        generalize V3.alloc (.cells #[.int .i64 0, .slice none 0 0, .slice none 0 0, .slice none 0 0] 41) = V4 at *
        generalize V3.heap.size = Y at *
        refine wpAnyH_ready (rs := [6]) (by kernel_rfl) (by decide) (AllReadyH.cons rfl (fun K hK => ?_) AllReadyH.nil)
        rw [if_pos (by kernel_rfl)]
        have hXY := blk_ne HX4.out HY4.out HTX.out
        obtain ⟨_, a0, a1, a2, b0, b1, b2⟩ := blk3 HX4.out
        obtain ⟨s1, s2, s3, s4⟩ := set3A HB4.out HX4.out XG.out (.int .i64 (wordsP fs)) (.int .i64 (ptrsP fs)) (.slice xa fs.length xc)
        have HB5 := Lib.hid s1
        have HX5 := Lib.hid s2
        have HY5 := Lib.hid (s3 _ _ (fun e => hXY e.symm) HY4.out)
        have HRX5 := Lib.hid (s4 _ _ _ _ _ _ HTI.out HRX4.out)
        have HRY5 := Lib.hid (s4 _ _ _ _ _ _ HTI.out HRY4.out)
        clear s1 s2 s3 s4
        go_simp
        refine hK.out _ _ ⟨cell_old HB5.out r0, cell_old HB5.out r1⟩ (fun hS => ?_)
        generalize ((V4.setCell ⟨X, 0, none⟩ (.int .i64 (wordsP fs))).setCell ⟨X, 1, none⟩ (.int .i64 (ptrsP fs))).setCell ⟨X, 2, none⟩ (.slice xa fs.length xc) = V5 at *
        clear a0 a1 a2 b0 b1 b2
        refine wpAnyH_ready (rs := [7]) (by kernel_rfl) (by decide) (AllReadyH.cons rfl (fun K hK => ?_) AllReadyH.nil)
        rw [if_pos (by kernel_rfl)]
        obtain ⟨_, a0, a1, a2, a3⟩ := blk4p HY5.out
        have b0 := blk_frozen HY5.out 0
        have b1 := blk_frozen HY5.out 1
        have b2 := blk_frozen HY5.out 2
        have b3 := blk_frozen HY5.out 3
        obtain ⟨s1, s2, s3, s4⟩ := set4A HB5.out HY5.out YG.out (.int .i64 (rowUp fs fs.length).size) (.slice ya (rowUp fs fs.length).pl.length yc) (.slice ga (rowUp fs fs.length).gr.length gc) (.slice ba (rowUp fs fs.length).bt.length bc)
        have HB6 := Lib.hid s1
        have HY6 := Lib.hid s2
        have HX6 := Lib.hid (s3 _ _ hXY HX5.out)
        have HRX6 := Lib.hid (s4 _ _ _ _ _ _ HTB.out HRX5.out)
        have HRY6 := Lib.hid (s4 _ _ _ _ _ _ HTB.out HRY5.out)
        clear s1 s2 s3 s4
        go_simp
        refine hK.out _ _ ⟨cell_old HB6.out r0, cell_old HB6.out r1⟩ (fun hS => ?_)
        refine wpAnyH_done (by kernel_rfl) ?_ _
        refine NoPanic.normal ?_
        simp only [Exit.then]
        exact HK.out _ _ _ _ _ _ _ _ ⟨rfl, rfl, rfl, rfl, rfl, rfl⟩ HB6.out XG.out YG.out HX6.out HY6.out HRX6.out HRY6.out
      · rw [if_pos (by kernel_rfl)]
        go_simp
        have hs : Below V2.heap.size V2 (V2.alloc (.cells #[.int .i64 0, .slice none 0 0, .slice none 0 0, .slice none 0 0] 41)) := (Below.refl _ _).alloc (Nat.le_refl _) _
        have HB3 := Lib.hid (HB2.out.trans (hs.mono HB2.out.size))
        have HX3 := Lib.hid (blk_below HX2.out hs (blk_lt HX2.out))
        have HRX3 := Lib.hid (row_keep hs HRX2.out)
        have HY3 := Lib.hid (heap_alloc_new V2 (.cells #[.int .i64 0, .slice none 0 0, .slice none 0 0, .slice none 0 0] 41))
        have YG := Lib.hid HB2.out.size
        refine hK.out _ _ ⟨cell_old HB3.out r0, cell_old HB3.out r1⟩ (fun hS => ?_)
        clear hs
        generalize V2.alloc (.cells #[.int .i64 0, .slice none 0 0, .slice none 0 0, .slice none 0 0] 41) = V3 at *
        generalize V2.heap.size = Y at *
        refine wpAnyH_ready (rs := [3]) (by kernel_rfl) (by decide) (AllReadyH.cons rfl (fun K hK => ?_) AllReadyH.nil)
        rw [if_pos (by kernel_rfl)]
        go_simp
        refine (HRC.out V3 HB3.out).mono ?_
        rintro ee V4 ⟨yv, gv, bv, rfl, hrow, hgr, hbr, hs⟩
        obtain ⟨ya, yc, rfl⟩ := ownsRow_form hrow
        obtain ⟨ga, gc, rfl⟩ := ownsRow_form hgr
        obtain ⟨ba, bc, rfl⟩ := ownsRow_form hbr
        have HB4 := Lib.hid (HB3.out.trans (hs.mono HB3.out.size))
        have HX4 := Lib.hid (blk_below HX3.out hs (blk_lt HX3.out))
        have HY4 := Lib.hid (blk_below HY3.out hs (blk_lt HY3.out))
        have HRX4 := Lib.hid (row_keep hs HRX3.out)
        have HRY4 := Lib.hid (ownsRow_base hrow HB3.out.size)
        clear hrow hgr hbr hs
        refine hK.out _ _ ⟨cell_old HB4.out r0, cell_old HB4.out r1⟩ (fun hS => ?_)
        refine wpAnyH_ready (rs := [6]) (by kernel_rfl) (by decide) (AllReadyH.cons rfl (fun K hK => ?_) AllReadyH.nil)
        rw [if_pos (by kernel_rfl)]
        have hXY := blk_ne HX4.out HY4.out HTX.out
        obtain ⟨_, a0, a1, a2, b0, b1, b2⟩ := blk3 HX4.out
        obtain ⟨s1, s2, s3, s4⟩ := set3A HB4.out HX4.out XG.out (.int .i64 (wordsP fs)) (.int .i64 (ptrsP fs)) (.slice xa fs.length xc)
        have HB5 := Lib.hid s1
        have HX5 := Lib.hid s2
        have HY5 := Lib.hid (s3 _ _ (fun e => hXY e.symm) HY4.out)
        have HRX5 := Lib.hid (s4 _ _ _ _ _ _ HTI.out HRX4.out)
        have HRY5 := Lib.hid (s4 _ _ _ _ _ _ HTI.out HRY4.out)
        clear s1 s2 s3 s4
        go_simp
        refine hK.out _ _ ⟨cell_old HB5.out r0, cell_old HB5.out r1⟩ (fun hS => ?_)
        generalize ((V4.setCell ⟨X, 0, none⟩ (.int .i64 (wordsP fs))).setCell ⟨X, 1, none⟩ (.int .i64 (ptrsP fs))).setCell ⟨X, 2, none⟩ (.slice xa fs.length xc) = V5 at *
        clear a0 a1 a2 b0 b1 b2
        refine wpAnyH_ready (rs := [7]) (by kernel_rfl) (by decide) (AllReadyH.cons rfl (fun K hK => ?_) AllReadyH.nil)
        rw [if_pos (by kernel_rfl)]
        obtain ⟨_, a0, a1, a2, a3⟩ := blk4p HY5.out
        have b0 := blk_frozen HY5.out 0
        have b1 := blk_frozen HY5.out 1
        have b2 := blk_frozen HY5.out 2
        have b3 := blk_frozen HY5.out 3
        obtain ⟨s1, s2, s3, s4⟩ := set4A HB5.out HY5.out YG.out (.int .i64 (rowUp fs fs.length).size) (.slice ya (rowUp fs fs.length).pl.length yc) (.slice ga (rowUp fs fs.length).gr.length gc) (.slice ba (rowUp fs fs.length).bt.length bc)
        have HB6 := Lib.hid s1
        have HY6 := Lib.hid s2
        have HX6 := Lib.hid (s3 _ _ hXY HX5.out)
        have HRX6 := Lib.hid (s4 _ _ _ _ _ _ HTB.out HRX5.out)
        have HRY6 := Lib.hid (s4 _ _ _ _ _ _ HTB.out HRY5.out)
        clear s1 s2 s3 s4
        go_simp
        refine hK.out _ _ ⟨cell_old HB6.out r0, cell_old HB6.out r1⟩ (fun hS => ?_)
        refine wpAnyH_done (by kernel_rfl) ?_ _
        refine NoPanic.normal ?_
        simp only [Exit.then]
        exact HK.out _ _ _ _ _ _ _ _ ⟨rfl, rfl, rfl, rfl, rfl, rfl⟩ HB6.out XG.out YG.out HX6.out HY6.out HRX6.out HRY6.out
    · rw [if_pos (by kernel_rfl)]
      go_simp
      have hs : Below V1.heap.size V1 (V1.alloc (.cells #[.int .i64 0, .slice none 0 0, .slice none 0 0, .slice none 0 0] 41)) := (Below.refl _ _).alloc (Nat.le_refl _) _
      have HB2 := Lib.hid (HB1.out.trans (hs.mono HB1.out.size))
      have HRX2 := Lib.hid (row_keep hs HRX1.out)
      have HY2 := Lib.hid (heap_alloc_new V1 (.cells #[.int .i64 0, .slice none 0 0, .slice none 0 0, .slice none 0 0] 41))
      have YG := Lib.hid HB1.out.size
      refine hK.out _ _ ⟨cell_old HB2.out r0, cell_old HB2.out r1⟩ (fun hS => ?_)
      clear hs
      generalize V1.alloc (.cells #[.int .i64 0, .slice none 0 0, .slice none 0 0, .slice none 0 0] 41) = V2 at *
      generalize V1.heap.size = Y at *
      refine wpAnyH_ready (rs := [3, 4]) (by kernel_rfl) (by decide) (AllReadyH.cons rfl (fun K hK => ?_) (AllReadyH.cons rfl (fun K hK => ?_) AllReadyH.nil))
      · rw [if_pos (by kernel_rfl)]
        go_simp
        refine (HRC.out V2 HB2.out).mono ?_
        rintro ee V3 ⟨yv, gv, bv, rfl, hrow, hgr, hbr, hs⟩
        obtain ⟨ya, yc, rfl⟩ := ownsRow_form hrow
        obtain ⟨ga, gc, rfl⟩ := ownsRow_form hgr
        obtain ⟨ba, bc, rfl⟩ := ownsRow_form hbr
        have HB3 := Lib.hid (HB2.out.trans (hs.mono HB2.out.size))
        have HY3 := Lib.hid (blk_below HY2.out hs (blk_lt HY2.out))
        have HRX3 := Lib.hid (row_keep hs HRX2.out)
        have HRY3 := Lib.hid (ownsRow_base hrow HB2.out.size)
        clear hrow hgr hbr hs
        refine hK.out _ _ ⟨cell_old HB3.out r0, cell_old HB3.out r1⟩ (fun hS => ?_)
        refine wpAnyH_ready (rs := [4]) (by kernel_rfl) (by decide) (AllReadyH.cons rfl (fun K hK => ?_) AllReadyH.nil)
        rw [if_pos (by kernel_rfl)]
        go_simp
        have hs : Below V3.heap.size V3 (V3.alloc (.cells #[.int .i64 0, .int .i64 0, .slice none 0 0] 38)) := (Below.refl _ _).alloc (Nat.le_refl _) _
        have HB4 := Lib.hid (HB3.out.trans (hs.mono HB3.out.size))
        have HY4 := Lib.hid (blk_below HY3.out hs (blk_lt HY3.out))
        have HRX4 := Lib.hid (row_keep hs HRX3.out)
        have HRY4 := Lib.hid (row_keep hs HRY3.out)
        have HX4 := Lib.hid (heap_alloc_new V3 (.cells #[.int .i64 0, .int .i64 0, .slice none 0 0] 38))
        have XG := Lib.hid HB3.out.size
        refine hK.out _ _ ⟨cell_old HB4.out r0, cell_old HB4.out r1⟩ (fun hS => ?_)
        clear hs
        generalize V3.alloc (.cells #[.int .i64 0, .int .i64 0, .slice none 0 0] 38) = V4 at *
        generalize V3.heap.size = X at *
        refine wpAnyH_ready (rs := [6]) (by kernel_rfl) (by decide) (AllReadyH.cons rfl (fun K hK => ?_) AllReadyH.nil)
        rw [if_pos (by kernel_rfl)]
        have hXY := blk_ne HX4.out HY4.out HTX.out
        obtain ⟨_, a0, a1, a2, b0, b1, b2⟩ := blk3 HX4.out
        obtain ⟨s1, s2, s3, s4⟩ := set3A HB4.out HX4.out XG.out (.int .i64 (wordsP fs)) (.int .i64 (ptrsP fs)) (.slice xa fs.length xc)
        have HB5 := Lib.hid s1
        have HX5 := Lib.hid s2
        have HY5 := Lib.hid (s3 _ _ (fun e => hXY e.symm) HY4.out)
        have HRX5 := Lib.hid (s4 _ _ _ _ _ _ HTI.out HRX4.out)
        have HRY5 := Lib.hid (s4 _ _ _ _ _ _ HTI.out HRY4.out)
        clear s1 s2 s3 s4
        go_simp
        refine hK.out _ _ ⟨cell_old HB5.out r0, cell_old HB5.out r1⟩ (fun hS => ?_)
        generalize ((V4.setCell ⟨X, 0, none⟩ (.int .i64 (wordsP fs))).setCell ⟨X, 1, none⟩ (.int .i64 (ptrsP fs))).setCell ⟨X, 2, none⟩ (.slice xa fs.length xc) = V5 at *
        clear a0 a1 a2 b0 b1 b2
        refine wpAnyH_ready (rs := [7]) (by kernel_rfl) (by decide) (AllReadyH.cons rfl (fun K hK => ?_) AllReadyH.nil)
        rw [if_pos (by kernel_rfl)]
        obtain ⟨_, a0, a1, a2, a3⟩ := blk4p HY5.out
        have b0 := blk_frozen HY5.out 0
        have b1 := blk_frozen HY5.out 1
        have b2 := blk_frozen HY5.out 2
        have b3 := blk_frozen HY5.out 3
        obtain ⟨s1, s2, s3, s4⟩ := set4A HB5.out HY5.out YG.out (.int .i64 (rowUp fs fs.length).size) (.slice ya (rowUp fs fs.length).pl.length yc) (.slice ga (rowUp fs fs.length).gr.length gc) (.slice ba (rowUp fs fs.length).bt.length bc)
        have HB6 := Lib.hid s1
        have HY6 := Lib.hid s2
        have HX6 := Lib.hid (s3 _ _ hXY HX5.out)
        have HRX6 := Lib.hid (s4 _ _ _ _ _ _ HTB.out HRX5.out)
        have HRY6 := Lib.hid (s4 _ _ _ _ _ _ HTB.out HRY5.out)
        clear s1 s2 s3 s4
        go_simp
        refine hK.out _ _ ⟨cell_old HB6.out r0, cell_old HB6.out r1⟩ (fun hS => ?_)
        refine wpAnyH_done (by kernel_rfl) ?_ _
        refine NoPanic.normal ?_
        simp only [Exit.then]
        exact HK.out _ _ _ _ _ _ _ _ ⟨rfl, rfl, rfl, rfl, rfl, rfl⟩ HB6.out XG.out YG.out HX6.out HY6.out HRX6.out HRY6.out
      · rw [if_pos (by kernel_rfl)]
        go_simp
        have hs : Below V2.heap.size V2 (V2.alloc (.cells #[.int .i64 0, .int .i64 0, .slice none 0 0] 38)) := (Below.refl _ _).alloc (Nat.le_refl _) _
        have HB3 := Lib.hid (HB2.out.trans (hs.mono HB2.out.size))
        have HY3 := Lib.hid (blk_below HY2.out hs (blk_lt HY2.out))
        have HRX3 := Lib.hid (row_keep hs HRX2.out)
        have HX3 := Lib.hid (heap_alloc_new V2 (.cells #[.int .i64 0, .int .i64 0, .slice none 0 0] 38))
        have XG := Lib.hid HB2.out.size
        refine hK.out _ _ ⟨cell_old HB3.out r0, cell_old HB3.out r1⟩ (fun hS => ?_)
        clear hs
        generalize V2.alloc (.cells #[.int .i64 0, .int .i64 0, .slice none 0 0] 38) = V3 at *
        generalize V2.heap.size = X at *
        refine wpAnyH_ready (rs := [3]) (by kernel_rfl) (by decide) (AllReadyH.cons rfl (fun K hK => ?_) AllReadyH.nil)
        rw [if_pos (by kernel_rfl)]
        go_simp
        refine (HRC.out V3 HB3.out).mono ?_
        rintro ee V4 ⟨yv, gv, bv, rfl, hrow, hgr, hbr, hs⟩
        obtain ⟨ya, yc, rfl⟩ := ownsRow_form hrow
        obtain ⟨ga, gc, rfl⟩ := ownsRow_form hgr
        obtain ⟨ba, bc, rfl⟩ := ownsRow_form hbr
        have HB4 := Lib.hid (HB3.out.trans (hs.mono HB3.out.size))
        have HX4 := Lib.hid (blk_below HX3.out hs (blk_lt HX3.out))
        have HY4 := Lib.hid (blk_below HY3.out hs (blk_lt HY3.out))
        have HRX4 := Lib.hid (row_keep hs HRX3.out)
        have HRY4 := Lib.hid (ownsRow_base hrow HB3.out.size)
        clear hrow hgr hbr hs
        refine hK.out _ _ ⟨cell_old HB4.out r0, cell_old HB4.out r1⟩ (fun hS => ?_)
        refine wpAnyH_ready (rs := [6]) (by kernel_rfl) (by decide) (AllReadyH.cons rfl (fun K hK => ?_) AllReadyH.nil)
        rw [if_pos (by kernel_rfl)]
        have hXY := blk_ne HX4.out HY4.out HTX.out
        obtain ⟨_, a0, a1, a2, b0, b1, b2⟩ := blk3 HX4.out
        obtain ⟨s1, s2, s3, s4⟩ := set3A HB4.out HX4.out XG.out (.int .i64 (wordsP fs)) (.int .i64 (ptrsP fs)) (.slice xa fs.length xc)
        have HB5 := Lib.hid s1
        have HX5 := Lib.hid s2
        have HY5 := Lib.hid (s3 _ _ (fun e => hXY e.symm) HY4.out)
        have HRX5 := Lib.hid (s4 _ _ _ _ _ _ HTI.out HRX4.out)
        have HRY5 := Lib.hid (s4 _ _ _ _ _ _ HTI.out HRY4.out)
        clear s1 s2 s3 s4
        go_simp
        refine hK.out _ _ ⟨cell_old HB5.out r0, cell_old HB5.out r1⟩ (fun hS => ?_)
        generalize ((V4.setCell ⟨X, 0, none⟩ (.int .i64 (wordsP fs))).setCell ⟨X, 1, none⟩ (.int .i64 (ptrsP fs))).setCell ⟨X, 2, none⟩ (.slice xa fs.length xc) = V5 at *
        clear a0 a1 a2 b0 b1 b2
        refine wpAnyH_ready (rs := [7]) (by kernel_rfl) (by decide) (AllReadyH.cons rfl (fun K hK => ?_) AllReadyH.nil)
        rw [if_pos (by kernel_rfl)]
        obtain ⟨_, a0, a1, a2, a3⟩ := blk4p HY5.out
        have b0 := blk_frozen HY5.out 0
        have b1 := blk_frozen HY5.out 1
        have b2 := blk_frozen HY5.out 2
        have b3 := blk_frozen HY5.out 3
        obtain ⟨s1, s2, s3, s4⟩ := set4A HB5.out HY5.out YG.out (.int .i64 (rowUp fs fs.length).size) (.slice ya (rowUp fs fs.length).pl.length yc) (.slice ga (rowUp fs fs.length).gr.length gc) (.slice ba (rowUp fs fs.length).bt.length bc)
        have HB6 := Lib.hid s1
        have HY6 := Lib.hid s2
        have HX6 := Lib.hid (s3 _ _ hXY HX5.out)
        have HRX6 := Lib.hid (s4 _ _ _ _ _ _ HTB.out HRX5.out)
        have HRY6 := Lib.hid (s4 _ _ _ _ _ _ HTB.out HRY5.out)
        clear s1 s2 s3 s4
        go_simp
        refine hK.out _ _ ⟨cell_old HB6.out r0, cell_old HB6.out r1⟩ (fun hS => ?_)
        refine wpAnyH_done (by kernel_rfl) ?_ _
        refine NoPanic.normal ?_
        simp only [Exit.then]
        exact HK.out _ _ _ _ _ _ _ _ ⟨rfl, rfl, rfl, rfl, rfl, rfl⟩ HB6.out XG.out YG.out HX6.out HY6.out HRX6.out HRY6.out
  · rw [if_pos (by kernel_rfl)]
    go_simp
    have hs : Below V0.heap.size V0 (V0.alloc (.cells #[.int .i64 0, .int .i64 0, .slice none 0 0] 38)) := (Below.refl _ _).alloc (Nat.le_refl _) _
    have HB1 := Lib.hid (HB0.out.trans (hs.mono HB0.out.size))
    have HX1 := Lib.hid (heap_alloc_new V0 (.cells #[.int .i64 0, .int .i64 0, .slice none 0 0] 38))
    have XG := Lib.hid HB0.out.size
    refine hK.out _ _ ⟨cell_old HB1.out r0, cell_old HB1.out r1⟩ (fun hS => ?_)
    clear hs
    generalize V0.alloc (.cells #[.int .i64 0, .int .i64 0, .slice none 0 0] 38) = V1 at *
    generalize V0.heap.size = X at *
    refine wpAnyH_ready (rs := [1, 5]) (by kernel_rfl) (by decide) (AllReadyH.cons rfl (fun K hK => ?_) (AllReadyH.cons rfl (fun K hK => ?_) AllReadyH.nil))
    · rw [if_pos (by kernel_rfl)]
      go_simp
      refine (HWC.out V1 HB1.out).mono ?_
      rintro ee V2 ⟨xv, rfl, hrow, hs⟩
      obtain ⟨xa, xc, rfl⟩ := ownsRow_form hrow
      have HB2 := Lib.hid (HB1.out.trans (hs.mono HB1.out.size))
      have HX2 := Lib.hid (blk_below HX1.out hs (blk_lt HX1.out))
      have HRX2 := Lib.hid (ownsRow_base hrow HB1.out.size)
      clear hrow hs
      refine hK.out _ _ ⟨cell_old HB2.out r0, cell_old HB2.out r1⟩ (fun hS => ?_)
      refine wpAnyH_ready (rs := [3, 5]) (by kernel_rfl) (by decide) (AllReadyH.cons rfl (fun K hK => ?_) (AllReadyH.cons rfl (fun K hK => ?_) AllReadyH.nil))
      · rw [if_pos (by kernel_rfl)]
        go_simp
        refine (HRC.out V2 HB2.out).mono ?_
        rintro ee V3 ⟨yv, gv, bv, rfl, hrow, hgr, hbr, hs⟩
        obtain ⟨ya, yc, rfl⟩ := ownsRow_form hrow
        obtain ⟨ga, gc, rfl⟩ := ownsRow_form hgr
        obtain ⟨ba, bc, rfl⟩ := ownsRow_form hbr
        have HB3 := Lib.hid (HB2.out.trans (hs.mono HB2.out.size))
        have HX3 := Lib.hid (blk_below HX2.out hs (blk_lt HX2.out))
        have HRX3 := Lib.hid (row_keep hs HRX2.out)
        have HRY3 := Lib.hid (ownsRow_base hrow HB2.out.size)
        clear hrow hgr hbr hs
        refine hK.out _ _ ⟨cell_old HB3.out r0, cell_old HB3.out r1⟩ (fun hS => ?_)
        refine wpAnyH_ready (rs := [5]) (by kernel_rfl) (by decide) (AllReadyH.cons rfl (fun K hK => ?_) AllReadyH.nil)
        rw [if_pos (by kernel_rfl)]
        go_simp
        have hs : Below V3.heap.size V3 (V3.alloc (.cells #[.int .i64 0, .slice none 0 0, .slice none 0 0, .slice none 0 0] 41)) := (Below.refl _ _).alloc (Nat.le_refl _) _
        have HB4 := Lib.hid (HB3.out.trans (hs.mono HB3.out.size))
        have HX4 := Lib.hid (blk_below HX3.out hs (blk_lt HX3.out))
        have HRX4 := Lib.hid (row_keep hs HRX3.out)
        have HRY4 := Lib.hid (row_keep hs HRY3.out)
        have HY4 := Lib.hid (heap_alloc_new V3 (.cells #[.int .i64 0, .slice none 0 0, .slice none 0 0, .slice none 0 0] 41))
        have YG := Lib.hid HB3.out.size
        refine hK.out _ _ ⟨cell_old HB4.out r0, cell_old HB4.out r1⟩ (fun hS => ?_)
        clear hs
        generalize V3.alloc (.cells #[.int .i64 0, .slice none 0 0, .slice none 0 0, .slice none 0 0] 41) = V4 at *
        generalize V3.heap.size = Y at *
        refine wpAnyH_ready (rs := [6]) (by kernel_rfl) (by decide) (AllReadyH.cons rfl (fun K hK => ?_) AllReadyH.nil)
        rw [if_pos (by kernel_rfl)]
        have hXY := blk_ne HX4.out HY4.out HTX.out
        obtain ⟨_, a0, a1, a2, b0, b1, b2⟩ := blk3 HX4.out
        obtain ⟨s1, s2, s3, s4⟩ := set3A HB4.out HX4.out XG.out (.int .i64 (wordsP fs)) (.int .i64 (ptrsP fs)) (.slice xa fs.length xc)
        have HB5 := Lib.hid s1
        have HX5 := Lib.hid s2
        have HY5 := Lib.hid (s3 _ _ (fun e => hXY e.symm) HY4.out)
        have HRX5 := Lib.hid (s4 _ _ _ _ _ _ HTI.out HRX4.out)
        have HRY5 := Lib.hid (s4 _ _ _ _ _ _ HTI.out HRY4.out)
        clear s1 s2 s3 s4
        go_simp
        refine hK.out _ _ ⟨cell_old HB5.out r0, cell_old HB5.out r1⟩ (fun hS => ?_)
        generalize ((V4.setCell ⟨X, 0, none⟩ (.int .i64 (wordsP fs))).setCell ⟨X, 1, none⟩ (.int .i64 (ptrsP fs))).setCell ⟨X, 2, none⟩ (.slice xa fs.length xc) = V5 at *
        clear a0 a1 a2 b0 b1 b2
        refine wpAnyH_ready (rs := [7]) (by kernel_rfl) (by decide) (AllReadyH.cons rfl (fun K hK => ?_) AllReadyH.nil)
        rw [if_pos (by kernel_rfl)]
        obtain ⟨_, a0, a1, a2, a3⟩ := blk4p HY5.out
        have b0 := blk_frozen HY5.out 0
        have b1 := blk_frozen HY5.out 1
        have b2 := blk_frozen HY5.out 2
        have b3 := blk_frozen HY5.out 3
        obtain ⟨s1, s2, s3, s4⟩ := set4A HB5.out HY5.out YG.out (.int .i64 (rowUp fs fs.length).size) (.slice ya (rowUp fs fs.length).pl.length yc) (.slice ga (rowUp fs fs.length).gr.length gc) (.slice ba (rowUp fs fs.length).bt.length bc)
        have HB6 := Lib.hid s1
        have HY6 := Lib.hid s2
        have HX6 := Lib.hid (s3 _ _ hXY HX5.out)
        have HRX6 := Lib.hid (s4 _ _ _ _ _ _ HTB.out HRX5.out)
        have HRY6 := Lib.hid (s4 _ _ _ _ _ _ HTB.out HRY5.out)
        clear s1 s2 s3 s4
        go_simp
        refine hK.out _ _ ⟨cell_old HB6.out r0, cell_old HB6.out r1⟩ (fun hS => ?_)
        refine wpAnyH_done (by kernel_rfl) ?_ _
        refine NoPanic.normal ?_
        simp only [Exit.then]
        exact HK.out _ _ _ _ _ _ _ _ ⟨rfl, rfl, rfl, rfl, rfl, rfl⟩ HB6.out XG.out YG.out HX6.out HY6.out HRX6.out HRY6.out
      · rw [if_pos (by kernel_rfl)]
        go_simp
        have hs : Below V2.heap.size V2 (V2.alloc (.cells #[.int .i64 0, .slice none 0 0, .slice none 0 0, .slice none 0 0] 41)) := (Below.refl _ _).alloc (Nat.le_refl _) _
        have HB3 := Lib.hid (HB2.out.trans (hs.mono HB2.out.size))
        have HX3 := Lib.hid (blk_below HX2.out hs (blk_lt HX2.out))
        have HRX3 := Lib.hid (row_keep hs HRX2.out)
        have HY3 := Lib.hid (heap_alloc_new V2 (.cells #[.int .i64 0, .slice none 0 0, .slice none 0 0, .slice none 0 0] 41))
        have YG := Lib.hid HB2.out.size
        refine hK.out _ _ ⟨cell_old HB3.out r0, cell_old HB3.out r1⟩ (fun hS => ?_)
        clear hs
        generalize V2.alloc (.cells #[.int .i64 0, .slice none 0 0, .slice none 0 0, .slice none 0 0] 41) = V3 at *
        generalize V2.heap.size = Y at *
        refine wpAnyH_ready (rs := [3]) (by kernel_rfl) (by decide) (AllReadyH.cons rfl (fun K hK => ?_) AllReadyH.nil)
        rw [if_pos (by kernel_rfl)]
        go_simp
        refine (HRC.out V3 HB3.out).mono ?_
        rintro ee V4 ⟨yv, gv, bv, rfl, hrow, hgr, hbr, hs⟩
        obtain ⟨ya, yc, rfl⟩ := ownsRow_form hrow
        obtain ⟨ga, gc, rfl⟩ := ownsRow_form hgr
        obtain ⟨ba, bc, rfl⟩ := ownsRow_form hbr
        have HB4 := Lib.hid (HB3.out.trans (hs.mono HB3.out.size))
        have HX4 := Lib.hid (blk_below HX3.out hs (blk_lt HX3.out))
        have HY4 := Lib.hid (blk_below HY3.out hs (blk_lt HY3.out))
        have HRX4 := Lib.hid (row_keep hs HRX3.out)
        have HRY4 := Lib.hid (ownsRow_base hrow HB3.out.size)
        clear hrow hgr hbr hs
        refine hK.out _ _ ⟨cell_old HB4.out r0, cell_old HB4.out r1⟩ (fun hS => ?_)
        refine wpAnyH_ready (rs := [6]) (by kernel_rfl) (by decide) (AllReadyH.cons rfl (fun K hK => ?_) AllReadyH.nil)
        rw [if_pos (by kernel_rfl)]
        have hXY := blk_ne HX4.out HY4.out HTX.out
        obtain ⟨_, a0, a1, a2, b0, b1, b2⟩ := blk3 HX4.out
        obtain ⟨s1, s2, s3, s4⟩ := set3A HB4.out HX4.out XG.out (.int .i64 (wordsP fs)) (.int .i64 (ptrsP fs)) (.slice xa fs.length xc)
        have HB5 := Lib.hid s1
        have HX5 := Lib.hid s2
        have HY5 := Lib.hid (s3 _ _ (fun e => hXY e.symm) HY4.out)
        have HRX5 := Lib.hid (s4 _ _ _ _ _ _ HTI.out HRX4.out)
        have HRY5 := Lib.hid (s4 _ _ _ _ _ _ HTI.out HRY4.out)
        clear s1 s2 s3 s4
        go_simp
        refine hK.out _ _ ⟨cell_old HB5.out r0, cell_old HB5.out r1⟩ (fun hS => ?_)
        generalize ((V4.setCell ⟨X, 0, none⟩ (.int .i64 (wordsP fs))).setCell ⟨X, 1, none⟩ (.int .i64 (ptrsP fs))).setCell ⟨X, 2, none⟩ (.slice xa fs.length xc) = V5 at *
        clear a0 a1 a2 b0 b1 b2
        refine wpAnyH_ready (rs := [7]) (by kernel_rfl) (by decide) (AllReadyH.cons rfl (fun K hK => ?_) AllReadyH.nil)
        rw [if_pos (by kernel_rfl)]
        obtain ⟨_, a0, a1, a2, a3⟩ := blk4p HY5.out
        have b0 := blk_frozen HY5.out 0
        have b1 := blk_frozen HY5.out 1
        have b2 := blk_frozen HY5.out 2
        have b3 := blk_frozen HY5.out 3
        obtain ⟨s1, s2, s3, s4⟩ := set4A HB5.out HY5.out YG.out (.int .i64 (rowUp fs fs.length).size) (.slice ya (rowUp fs fs.length).pl.length yc) (.slice ga (rowUp fs fs.length).gr.length gc) (.slice ba (rowUp fs fs.length).bt.length bc)
        have HB6 := Lib.hid s1
        have HY6 := Lib.hid s2
        have HX6 := Lib.hid (s3 _ _ hXY HX5.out)
        have HRX6 := Lib.hid (s4 _ _ _ _ _ _ HTB.out HRX5.out)
        have HRY6 := Lib.hid (s4 _ _ _ _ _ _ HTB.out HRY5.out)
        clear s1 s2 s3 s4
        go_simp
        refine hK.out _ _ ⟨cell_old HB6.out r0, cell_old HB6.out r1⟩ (fun hS => ?_)
        refine wpAnyH_done (by kernel_rfl) ?_ _
        refine NoPanic.normal ?_
        simp only [Exit.then]
        exact HK.out _ _ _ _ _ _ _ _ ⟨rfl, rfl, rfl, rfl, rfl, rfl⟩ HB6.out XG.out YG.out HX6.out HY6.out HRX6.out HRY6.out
    · rw [if_pos (by kernel_rfl)]
      go_simp
      have hs : Below V1.heap.size V1 (V1.alloc (.cells #[.int .i64 0, .slice none 0 0, .slice none 0 0, .slice none 0 0] 41)) := (Below.refl _ _).alloc (Nat.le_refl _) _
      have HB2 := Lib.hid (HB1.out.trans (hs.mono HB1.out.size))
      have HX2 := Lib.hid (blk_below HX1.out hs (blk_lt HX1.out))
      have HY2 := Lib.hid (heap_alloc_new V1 (.cells #[.int .i64 0, .slice none 0 0, .slice none 0 0, .slice none 0 0] 41))
      have YG := Lib.hid HB1.out.size
      refine hK.out _ _ ⟨cell_old HB2.out r0, cell_old HB2.out r1⟩ (fun hS => ?_)
      clear hs
      generalize V1.alloc (.cells #[.int .i64 0, .slice none 0 0, .slice none 0 0, .slice none 0 0] 41) = V2 at *
      generalize V1.heap.size = Y at *
      refine wpAnyH_ready (rs := [1]) (by kernel_rfl) (by decide) (AllReadyH.cons rfl (fun K hK => ?_) AllReadyH.nil)
      rw [if_pos (by kernel_rfl)]
      go_simp
      refine (HWC.out V2 HB2.out).mono ?_
      rintro ee V3 ⟨xv, rfl, hrow, hs⟩
      obtain ⟨xa, xc, rfl⟩ := ownsRow_form hrow
      have HB3 := Lib.hid (HB2.out.trans (hs.mono HB2.out.size))
      have HX3 := Lib.hid (blk_below HX2.out hs (blk_lt HX2.out))
      have HY3 := Lib.hid (blk_below HY2.out hs (blk_lt HY2.out))
      have HRX3 := Lib.hid (ownsRow_base hrow HB2.out.size)
      clear hrow hs
      refine hK.out _ _ ⟨cell_old HB3.out r0, cell_old HB3.out r1⟩ (fun hS => ?_)
      refine wpAnyH_ready (rs := [3]) (by kernel_rfl) (by decide) (AllReadyH.cons rfl (fun K hK => ?_) AllReadyH.nil)
      rw [if_pos (by kernel_rfl)]
      go_simp
      refine (HRC.out V3 HB3.out).mono ?_
      rintro ee V4 ⟨yv, gv, bv, rfl, hrow, hgr, hbr, hs⟩
      obtain ⟨ya, yc, rfl⟩ := ownsRow_form hrow
      obtain ⟨ga, gc, rfl⟩ := ownsRow_form hgr
      obtain ⟨ba, bc, rfl⟩ := ownsRow_form hbr
      have HB4 := Lib.hid (HB3.out.trans (hs.mono HB3.out.size))
      have HX4 := Lib.hid (blk_below HX3.out hs (blk_lt HX3.out))
      have HY4 := Lib.hid (blk_below HY3.out hs (blk_lt HY3.out))
      have HRX4 := Lib.hid (row_keep hs HRX3.out)
      have HRY4 := Lib.hid (ownsRow_base hrow HB3.out.size)
      clear hrow hgr hbr hs
      refine hK.out _ _ ⟨cell_old HB4.out r0, cell_old HB4.out r1⟩ (fun hS => ?_)
      refine wpAnyH_ready (rs := [6]) (by kernel_rfl) (by decide) (AllReadyH.cons rfl (fun K hK => ?_) AllReadyH.nil)
      rw [if_pos (by kernel_rfl)]
      have hXY := blk_ne HX4.out HY4.out HTX.out
      obtain ⟨_, a0, a1, a2, b0, b1, b2⟩ := blk3 HX4.out
      obtain ⟨s1, s2, s3, s4⟩ := set3A HB4.out HX4.out XG.out (.int .i64 (wordsP fs)) (.int .i64 (ptrsP fs)) (.slice xa fs.length xc)
      have HB5 := Lib.hid s1
      have HX5 := Lib.hid s2
      have HY5 := Lib.hid (s3 _ _ (fun e => hXY e.symm) HY4.out)
      have HRX5 := Lib.hid (s4 _ _ _ _ _ _ HTI.out HRX4.out)
      have HRY5 := Lib.hid (s4 _ _ _ _ _ _ HTI.out HRY4.out)
      clear s1 s2 s3 s4
      go_simp
      refine hK.out _ _ ⟨cell_old HB5.out r0, cell_old HB5.out r1⟩ (fun hS => ?_)
      generalize ((V4.setCell ⟨X, 0, none⟩ (.int .i64 (wordsP fs))).setCell ⟨X, 1, none⟩ (.int .i64 (ptrsP fs))).setCell ⟨X, 2, none⟩ (.slice xa fs.length xc) = V5 at *
      clear a0 a1 a2 b0 b1 b2
      refine wpAnyH_ready (rs := [7]) (by kernel_rfl) (by decide) (AllReadyH.cons rfl (fun K hK => ?_) AllReadyH.nil)
      rw [if_pos (by kernel_rfl)]
      obtain ⟨_, a0, a1, a2, a3⟩ := blk4p HY5.out
      have b0 := blk_frozen HY5.out 0
      have b1 := blk_frozen HY5.out 1
      have b2 := blk_frozen HY5.out 2
      have b3 := blk_frozen HY5.out 3
      obtain ⟨s1, s2, s3, s4⟩ := set4A HB5.out HY5.out YG.out (.int .i64 (rowUp fs fs.length).size) (.slice ya (rowUp fs fs.length).pl.length yc) (.slice ga (rowUp fs fs.length).gr.length gc) (.slice ba (rowUp fs fs.length).bt.length bc)
      have HB6 := Lib.hid s1
      have HY6 := Lib.hid s2
      have HX6 := Lib.hid (s3 _ _ hXY HX5.out)
      have HRX6 := Lib.hid (s4 _ _ _ _ _ _ HTB.out HRX5.out)
      have HRY6 := Lib.hid (s4 _ _ _ _ _ _ HTB.out HRY5.out)
      clear s1 s2 s3 s4
      go_simp
      refine hK.out _ _ ⟨cell_old HB6.out r0, cell_old HB6.out r1⟩ (fun hS => ?_)
      refine wpAnyH_done (by kernel_rfl) ?_ _
      refine NoPanic.normal ?_
      simp only [Exit.then]
      exact HK.out _ _ _ _ _ _ _ _ ⟨rfl, rfl, rfl, rfl, rfl, rfl⟩ HB6.out XG.out YG.out HX6.out HY6.out HRX6.out HRY6.out
  · rw [if_pos (by kernel_rfl)]
    go_simp
    have hs : Below V0.heap.size V0 (V0.alloc (.cells #[.int .i64 0, .slice none 0 0, .slice none 0 0, .slice none 0 0] 41)) := (Below.refl _ _).alloc (Nat.le_refl _) _
    have HB1 := Lib.hid (HB0.out.trans (hs.mono HB0.out.size))
    have HY1 := Lib.hid (heap_alloc_new V0 (.cells #[.int .i64 0, .slice none 0 0, .slice none 0 0, .slice none 0 0] 41))
    have YG := Lib.hid HB0.out.size
    refine hK.out _ _ ⟨cell_old HB1.out r0, cell_old HB1.out r1⟩ (fun hS => ?_)
    clear hs
    generalize V0.alloc (.cells #[.int .i64 0, .slice none 0 0, .slice none 0 0, .slice none 0 0] 41) = V1 at *
    generalize V0.heap.size = Y at *
    refine wpAnyH_ready (rs := [1, 4]) (by kernel_rfl) (by decide) (AllReadyH.cons rfl (fun K hK => ?_) (AllReadyH.cons rfl (fun K hK => ?_) AllReadyH.nil))
    · rw [if_pos (by kernel_rfl)]
      go_simp
      refine (HWC.out V1 HB1.out).mono ?_
      rintro ee V2 ⟨xv, rfl, hrow, hs⟩
      obtain ⟨xa, xc, rfl⟩ := ownsRow_form hrow
      have HB2 := Lib.hid (HB1.out.trans (hs.mono HB1.out.size))
      have HY2 := Lib.hid (blk_below HY1.out hs (blk_lt HY1.out))
      have HRX2 := Lib.hid (ownsRow_base hrow HB1.out.size)
      clear hrow hs
      refine hK.out _ _ ⟨cell_old HB2.out r0, cell_old HB2.out r1⟩ (fun hS => ?_)
      refine wpAnyH_ready (rs := [3, 4]) (by kernel_rfl) (by decide) (AllReadyH.cons rfl (fun K hK => ?_) (AllReadyH.cons rfl (fun K hK => ?_) AllReadyH.nil))
      · rw [if_pos (by kernel_rfl)]
        go_simp
        refine (HRC.out V2 HB2.out).mono ?_
        rintro ee V3 ⟨yv, gv, bv, rfl, hrow, hgr, hbr, hs⟩
        obtain ⟨ya, yc, rfl⟩ := ownsRow_form hrow
        obtain ⟨ga, gc, rfl⟩ := ownsRow_form hgr
        obtain ⟨ba, bc, rfl⟩ := ownsRow_form hbr
        have HB3 := Lib.hid (HB2.out.trans (hs.mono HB2.out.size))
        have HY3 := Lib.hid (blk_below HY2.out hs (blk_lt HY2.out))
        have HRX3 := Lib.hid (row_keep hs HRX2.out)
        have HRY3 := Lib.hid (ownsRow_base hrow HB2.out.size)
        clear hrow hgr hbr hs
        refine hK.out _ _ ⟨cell_old HB3.out r0, cell_old HB3.out r1⟩ (fun hS => ?_)
        refine wpAnyH_ready (rs := [4]) (by kernel_rfl) (by decide) (AllReadyH.cons rfl (fun K hK => ?_) AllReadyH.nil)
        rw [if_pos (by kernel_rfl)]
        go_simp
        have hs : Below V3.heap.size V3 (V3.alloc (.cells #[.int .i64 0, .int .i64 0, .slice none 0 0] 38)) := (Below.refl _ _).alloc (Nat.le_refl _) _
        have HB4 := Lib.hid (HB3.out.trans (hs.mono HB3.out.size))
        have HY4 := Lib.hid (blk_below HY3.out hs (blk_lt HY3.out))
        have HRX4 := Lib.hid (row_keep hs HRX3.out)
        have HRY4 := Lib.hid (row_keep hs HRY3.out)
        have HX4 := Lib.hid (heap_alloc_new V3 (.cells #[.int .i64 0, .int .i64 0, .slice none 0 0] 38))
        have XG := Lib.hid HB3.out.size
        refine hK.out _ _ ⟨cell_old HB4.out r0, cell_old HB4.out r1⟩ (fun hS => ?_)
        clear hs
        generalize V3.alloc (.cells #[.int .i64 0, .int .i64 0, .slice none 0 0] 38) = V4 at *
        generalize V3.heap.size = X at *
        refine wpAnyH_ready (rs := [6]) (by kernel_rfl) (by decide) (AllReadyH.cons rfl (fun K hK => ?_) AllReadyH.nil)
        rw [if_pos (by kernel_rfl)]
        have hXY := blk_ne HX4.out HY4.out HTX.out
        obtain ⟨_, a0, a1, a2, b0, b1, b2⟩ := blk3 HX4.out
        obtain ⟨s1, s2, s3, s4⟩ := set3A HB4.out HX4.out XG.out (.int .i64 (wordsP fs)) (.int .i64 (ptrsP fs)) (.slice xa fs.length xc)
        have HB5 := Lib.hid s1
        have HX5 := Lib.hid s2
        have HY5 := Lib.hid (s3 _ _ (fun e => hXY e.symm) HY4.out)
        have HRX5 := Lib.hid (s4 _ _ _ _ _ _ HTI.out HRX4.out)
        have HRY5 := Lib.hid (s4 _ _ _ _ _ _ HTI.out HRY4.out)
        clear s1 s2 s3 s4
        go_simp
        refine hK.out _ _ ⟨cell_old HB5.out r0, cell_old HB5.out r1⟩ (fun hS => ?_)
        generalize ((V4.setCell ⟨X, 0, none⟩ (.int .i64 (wordsP fs))).setCell ⟨X, 1, none⟩ (.int .i64 (ptrsP fs))).setCell ⟨X, 2, none⟩ (.slice xa fs.length xc) = V5 at *
        clear a0 a1 a2 b0 b1 b2
        refine wpAnyH_ready (rs := [7]) (by kernel_rfl) (by decide) (AllReadyH.cons rfl (fun K hK => ?_) AllReadyH.nil)
        rw [if_pos (by kernel_rfl)]
        obtain ⟨_, a0, a1, a2, a3⟩ := blk4p HY5.out
        have b0 := blk_frozen HY5.out 0
        have b1 := blk_frozen HY5.out 1
        have b2 := blk_frozen HY5.out 2
        have b3 := blk_frozen HY5.out 3
        obtain ⟨s1, s2, s3, s4⟩ := set4A HB5.out HY5.out YG.out (.int .i64 (rowUp fs fs.length).size) (.slice ya (rowUp fs fs.length).pl.length yc) (.slice ga (rowUp fs fs.length).gr.length gc) (.slice ba (rowUp fs fs.length).bt.length bc)
        have HB6 := Lib.hid s1
        have HY6 := Lib.hid s2
        have HX6 := Lib.hid (s3 _ _ hXY HX5.out)
        have HRX6 := Lib.hid (s4 _ _ _ _ _ _ HTB.out HRX5.out)
        have HRY6 := Lib.hid (s4 _ _ _ _ _ _ HTB.out HRY5.out)
        clear s1 s2 s3 s4
        go_simp
        refine hK.out _ _ ⟨cell_old HB6.out r0, cell_old HB6.out r1⟩ (fun hS => ?_)
        refine wpAnyH_done (by kernel_rfl) ?_ _
        refine NoPanic.normal ?_
        simp only [Exit.then]
        exact HK.out _ _ _ _ _ _ _ _ ⟨rfl, rfl, rfl, rfl, rfl, rfl⟩ HB6.out XG.out YG.out HX6.out HY6.out HRX6.out HRY6.out
      · rw [if_pos (by kernel_rfl)]
        go_simp
        have hs : Below V2.heap.size V2 (V2.alloc (.cells #[.int .i64 0, .int .i64 0, .slice none 0 0] 38)) := (Below.refl _ _).alloc (Nat.le_refl _) _
        have HB3 := Lib.hid (HB2.out.trans (hs.mono HB2.out.size))
        have HY3 := Lib.hid (blk_below HY2.out hs (blk_lt HY2.out))
        have HRX3 := Lib.hid (row_keep hs HRX2.out)
        have HX3 := Lib.hid (heap_alloc_new V2 (.cells #[.int .i64 0, .int .i64 0, .slice none 0 0] 38))
        have XG := Lib.hid HB2.out.size
        refine hK.out _ _ ⟨cell_old HB3.out r0, cell_old HB3.out r1⟩ (fun hS => ?_)
        clear hs
        generalize V2.alloc (.cells #[.int .i64 0, .int .i64 0, .slice none 0 0] 38) = V3 at *
        generalize V2.heap.size = X at *
        refine wpAnyH_ready (rs := [3]) (by kernel_rfl) (by decide) (AllReadyH.cons rfl (fun K hK => ?_) AllReadyH.nil)
        rw [if_pos (by kernel_rfl)]
        go_simp
        refine (HRC.out V3 HB3.out).mono ?_
        rintro ee V4 ⟨yv, gv, bv, rfl, hrow, hgr, hbr, hs⟩
        obtain ⟨ya, yc, rfl⟩ := ownsRow_form hrow
        obtain ⟨ga, gc, rfl⟩ := ownsRow_form hgr
        obtain ⟨ba, bc, rfl⟩ := ownsRow_form hbr
        have HB4 := Lib.hid (HB3.out.trans (hs.mono HB3.out.size))
        have HX4 := Lib.hid (blk_below HX3.out hs (blk_lt HX3.out))
        have HY4 := Lib.hid (blk_below HY3.out hs (blk_lt HY3.out))
        have HRX4 := Lib.hid (row_keep hs HRX3.out)
        have HRY4 := Lib.hid (ownsRow_base hrow HB3.out.size)
        clear hrow hgr hbr hs
        refine hK.out _ _ ⟨cell_old HB4.out r0, cell_old HB4.out r1⟩ (fun hS => ?_)
        refine wpAnyH_ready (rs := [6]) (by kernel_rfl) (by decide) (AllReadyH.cons rfl (fun K hK => ?_) AllReadyH.nil)
        rw [if_pos (by kernel_rfl)]
        have hXY := blk_ne HX4.out HY4.out HTX.out
        obtain ⟨_, a0, a1, a2, b0, b1, b2⟩ := blk3 HX4.out
        obtain ⟨s1, s2, s3, s4⟩ := set3A HB4.out HX4.out XG.out (.int .i64 (wordsP fs)) (.int .i64 (ptrsP fs)) (.slice xa fs.length xc)
        have HB5 := Lib.hid s1
        have HX5 := Lib.hid s2
        have HY5 := Lib.hid (s3 _ _ (fun e => hXY e.symm) HY4.out)
        have HRX5 := Lib.hid (s4 _ _ _ _ _ _ HTI.out HRX4.out)
        have HRY5 := Lib.hid (s4 _ _ _ _ _ _ HTI.out HRY4.out)
        clear s1 s2 s3 s4
        go_simp
        refine hK.out _ _ ⟨cell_old HB5.out r0, cell_old HB5.out r1⟩ (fun hS => ?_)
        generalize ((V4.setCell ⟨X, 0, none⟩ (.int .i64 (wordsP fs))).setCell ⟨X, 1, none⟩ (.int .i64 (ptrsP fs))).setCell ⟨X, 2, none⟩ (.slice xa fs.length xc) = V5 at *
        clear a0 a1 a2 b0 b1 b2
        refine wpAnyH_ready (rs := [7]) (by kernel_rfl) (by decide) (AllReadyH.cons rfl (fun K hK => ?_) AllReadyH.nil)
        rw [if_pos (by kernel_rfl)]
        obtain ⟨_, a0, a1, a2, a3⟩ := blk4p HY5.out
        have b0 := blk_frozen HY5.out 0
        have b1 := blk_frozen HY5.out 1
        have b2 := blk_frozen HY5.out 2
        have b3 := blk_frozen HY5.out 3
        obtain ⟨s1, s2, s3, s4⟩ := set4A HB5.out HY5.out YG.out (.int .i64 (rowUp fs fs.length).size) (.slice ya (rowUp fs fs.length).pl.length yc) (.slice ga (rowUp fs fs.length).gr.length gc) (.slice ba (rowUp fs fs.length).bt.length bc)
        have HB6 := Lib.hid s1
        have HY6 := Lib.hid s2
        have HX6 := Lib.hid (s3 _ _ hXY HX5.out)
        have HRX6 := Lib.hid (s4 _ _ _ _ _ _ HTB.out HRX5.out)
        have HRY6 := Lib.hid (s4 _ _ _ _ _ _ HTB.out HRY5.out)
        clear s1 s2 s3 s4
        go_simp
        refine hK.out _ _ ⟨cell_old HB6.out r0, cell_old HB6.out r1⟩ (fun hS => ?_)
        refine wpAnyH_done (by kernel_rfl) ?_ _
        refine NoPanic.normal ?_
        simp only [Exit.then]
        exact HK.out _ _ _ _ _ _ _ _ ⟨rfl, rfl, rfl, rfl, rfl, rfl⟩ HB6.out XG.out YG.out HX6.out HY6.out HRX6.out HRY6.out
    · rw [if_pos (by kernel_rfl)]
      go_simp
      have hs : Below V1.heap.size V1 (V1.alloc (.cells #[.int .i64 0, .int .i64 0, .slice none 0 0] 38)) := (Below.refl _ _).alloc (Nat.le_refl _) _
      have HB2 := Lib.hid (HB1.out.trans (hs.mono HB1.out.size))
      have HY2 := Lib.hid (blk_below HY1.out hs (blk_lt HY1.out))
      have HX2 := Lib.hid (heap_alloc_new V1 (.cells #[.int .i64 0, .int .i64 0, .slice none 0 0] 38))
      have XG := Lib.hid HB1.out.size
      refine hK.out _ _ ⟨cell_old HB2.out r0, cell_old HB2.out r1⟩ (fun hS => ?_)
      clear hs
      generalize V1.alloc (.cells #[.int .i64 0, .int .i64 0, .slice none 0 0] 38) = V2 at *
      generalize V1.heap.size = X at *
      refine wpAnyH_ready (rs := [1]) (by kernel_rfl) (by decide) (AllReadyH.cons rfl (fun K hK => ?_) AllReadyH.nil)
      rw [if_pos (by kernel_rfl)]
      go_simp
      refine (HWC.out V2 HB2.out).mono ?_
      rintro ee V3 ⟨xv, rfl, hrow, hs⟩
      obtain ⟨xa, xc, rfl⟩ := ownsRow_form hrow
      have HB3 := Lib.hid (HB2.out.trans (hs.mono HB2.out.size))
      have HX3 := Lib.hid (blk_below HX2.out hs (blk_lt HX2.out))
      have HY3 := Lib.hid (blk_below HY2.out hs (blk_lt HY2.out))
      have HRX3 := Lib.hid (ownsRow_base hrow HB2.out.size)
      clear hrow hs
      refine hK.out _ _ ⟨cell_old HB3.out r0, cell_old HB3.out r1⟩ (fun hS => ?_)
      refine wpAnyH_ready (rs := [3]) (by kernel_rfl) (by decide) (AllReadyH.cons rfl (fun K hK => ?_) AllReadyH.nil)
      rw [if_pos (by kernel_rfl)]
      go_simp
      refine (HRC.out V3 HB3.out).mono ?_
      rintro ee V4 ⟨yv, gv, bv, rfl, hrow, hgr, hbr, hs⟩
      obtain ⟨ya, yc, rfl⟩ := ownsRow_form hrow
      obtain ⟨ga, gc, rfl⟩ := ownsRow_form hgr
      obtain ⟨ba, bc, rfl⟩ := ownsRow_form hbr
      have HB4 := Lib.hid (HB3.out.trans (hs.mono HB3.out.size))
      have HX4 := Lib.hid (blk_below HX3.out hs (blk_lt HX3.out))
      have HY4 := Lib.hid (blk_below HY3.out hs (blk_lt HY3.out))
      have HRX4 := Lib.hid (row_keep hs HRX3.out)
      have HRY4 := Lib.hid (ownsRow_base hrow HB3.out.size)
      clear hrow hgr hbr hs
      refine hK.out _ _ ⟨cell_old HB4.out r0, cell_old HB4.out r1⟩ (fun hS => ?_)
      refine wpAnyH_ready (rs := [6]) (by kernel_rfl) (by decide) (AllReadyH.cons rfl (fun K hK => ?_) AllReadyH.nil)
      rw [if_pos (by kernel_rfl)]
      have hXY := blk_ne HX4.out HY4.out HTX.out
      obtain ⟨_, a0, a1, a2, b0, b1, b2⟩ := blk3 HX4.out
      obtain ⟨s1, s2, s3, s4⟩ := set3A HB4.out HX4.out XG.out (.int .i64 (wordsP fs)) (.int .i64 (ptrsP fs)) (.slice xa fs.length xc)
      have HB5 := Lib.hid s1
      have HX5 := Lib.hid s2
      have HY5 := Lib.hid (s3 _ _ (fun e => hXY e.symm) HY4.out)
      have HRX5 := Lib.hid (s4 _ _ _ _ _ _ HTI.out HRX4.out)
      have HRY5 := Lib.hid (s4 _ _ _ _ _ _ HTI.out HRY4.out)
      clear s1 s2 s3 s4
      go_simp
      refine hK.out _ _ ⟨cell_old HB5.out r0, cell_old HB5.out r1⟩ (fun hS => ?_)
      generalize ((V4.setCell ⟨X, 0, none⟩ (.int .i64 (wordsP fs))).setCell ⟨X, 1, none⟩ (.int .i64 (ptrsP fs))).setCell ⟨X, 2, none⟩ (.slice xa fs.length xc) = V5 at *
      clear a0 a1 a2 b0 b1 b2
      refine wpAnyH_ready (rs := [7]) (by kernel_rfl) (by decide) (AllReadyH.cons rfl (fun K hK => ?_) AllReadyH.nil)
      rw [if_pos (by kernel_rfl)]
      obtain ⟨_, a0, a1, a2, a3⟩ := blk4p HY5.out
      have b0 := blk_frozen HY5.out 0
      have b1 := blk_frozen HY5.out 1
      have b2 := blk_frozen HY5.out 2
      have b3 := blk_frozen HY5.out 3
      obtain ⟨s1, s2, s3, s4⟩ := set4A HB5.out HY5.out YG.out (.int .i64 (rowUp fs fs.length).size) (.slice ya (rowUp fs fs.length).pl.length yc) (.slice ga (rowUp fs fs.length).gr.length gc) (.slice ba (rowUp fs fs.length).bt.length bc)
      have HB6 := Lib.hid s1
      have HY6 := Lib.hid s2
      have HX6 := Lib.hid (s3 _ _ hXY HX5.out)
      have HRX6 := Lib.hid (s4 _ _ _ _ _ _ HTB.out HRX5.out)
      have HRY6 := Lib.hid (s4 _ _ _ _ _ _ HTB.out HRY5.out)
      clear s1 s2 s3 s4
      go_simp
      refine hK.out _ _ ⟨cell_old HB6.out r0, cell_old HB6.out r1⟩ (fun hS => ?_)
      refine wpAnyH_done (by kernel_rfl) ?_ _
      refine NoPanic.normal ?_
      simp only [Exit.then]
      exact HK.out _ _ _ _ _ _ _ _ ⟨rfl, rfl, rfl, rfl, rfl, rfl⟩ HB6.out XG.out YG.out HX6.out HY6.out HRX6.out HRY6.out
end Go.Proofs.YtdlfndjgncdgfaaDoor
