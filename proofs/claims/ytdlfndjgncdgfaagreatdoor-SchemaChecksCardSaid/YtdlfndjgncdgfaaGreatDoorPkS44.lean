/-
  SchemaChecks' switch, a way that appends. (Made by program: wip/tools/gen-cksapp.py.) Conditions: those that the theorem names.
-/
import Derived.Test.YtdlfndjgncdgfaaGreatDoorPkS42
import Derived.Deep.RegionHeld3
namespace Go.Proofs.YtdlfndjgncdgfaaGreatDoor
open Go.ChangeShapes Go.WideShapes Go.ChangeAt Go.RowKit Go.Shelf


set_option maxRecDepth 100000 in
set_option maxHeartbeats 16000000 in
theorem ck_10 {K : Act → World → Prop} {Q : Exit → Act → World → Prop} {c : Act} {w : World} {base S G k j n : Nat} {nm : ByteArray} {ss : List (CRec × Value)} {es : List (SCho × Value)} {sa ea : Option Addr} {sc ec : Nat} {rt : Int}
    (hc : CkS S G k j 10 n nm c) (h : CkW base S G k j ss es sa sc ea ec rt w) (_hn : n ≤ 18446744073709551615) (_hnm : nm.size ≤ 200) (hK : AfterCk K S base w) : Code.wp Tryz.prog ckSwitch (Exit.then K Q) c w := by
  have HK := Lib.hid hK
  have H := Lib.hid h
  have hSb : base ≤ w.heap.size := by have h1 := h.low; have h2 := blk_lt h.own; omega
  have HB00 := Lib.hid (Below.refl base w)
  obtain ⟨_, z0, z1, z2, _⟩ := blk3 h.own
  have HRN : Hid (Ready S w) := Lib.hid ⟨base, ss, es, sa, sc, ea, ec, rt, h.own, h.rows, h.fits⟩
  have hef := h.efew
  by_cases he : es.length = 0
  · have t0 : ¬ (0 : Int) < (es.length : Int) := by omega
    obtain ⟨u, rfl⟩ := hc.lit
    clear hc h hK _hn _hnm
    conv => arg 2; whnf
    go_wp2
    exact HK.out _ _ ⟨rfl, rfl, rfl⟩ HRN.out HB00.out
  have t0 : (0 : Int) < (es.length : Int) := by omega
  obtain ⟨g, cc, hv, hcc, hgl, hcell⟩ := row_el schoCells 2 (fun _ => rfl) h.rows.enums 0 (by omega)
  obtain ⟨rfl, rfl⟩ := slice_inj hv
  obtain ⟨curS, hg, hlow⟩ := row_bk h.rows.enums
  obtain ⟨q, hqe⟩ : ∃ q, es[0] = q := ⟨_, rfl⟩
  have hmem : q ∈ es := by rw [← hqe]; exact List.getElem_mem _
  have hnr := h.rows.names q hmem
  have hnn := h.enames q hmem
  obtain ⟨ng, nc, hnv, _⟩ := row_at hnr (by omega)
  have x1 : w.cell? ⟨g, 1, none⟩ = some (.slice (some ⟨ng, 0, none⟩) q.1.names.length nc) := by rw [← hnv, ← hqe]; exact hcell 1 (by omega)
  obtain ⟨m, hm⟩ : ∃ m, q.1.names.length = m := ⟨_, rfl⟩
  rw [hm] at x1 hnv hnn
  have hgne : g ≠ S := blk_ne' hg h.own types_ne.2.2.2.2.2.2.2.2.2.2.1
  have hkeep : ∀ W, Below w.heap.size w W → W.cell? ⟨S, 1, none⟩ = some (.slice (some ⟨g, 0, none⟩) es.length ec) := fun W hb => cel_old hb z1
  have TAIL := Lib.hid (show ∀ V B, Below w.heap.size w V → w.heap.size ≤ B → V.heap[B]? = some (.cells #[.string nm] 9 (0, 0)) → ∃ (a4 : Option Addr) (c4 : Nat) (V' : World), (Builtin.append_ #[55, 55] 55 #[.slice (some ⟨ng, 0, none⟩) m nc, .slice (some ⟨B, 0, none⟩) 1 1]).run Tryz.prog V = .ok (.slice a4 (m + 1) c4) V' ∧ (V'.cell? ⟨S, 1, none⟩ = some (.slice (some ⟨g, 0, none⟩) es.length ec) ∧ (∀ u, (V'.setCell ⟨g, 1, none⟩ u).cell? ⟨S, 1, none⟩ = some (.slice (some ⟨g, 0, none⟩) es.length ec))) ∧ (∃ y, V'.cell? ⟨g, 1, none⟩ = some y) ∧ V'.frozen? ⟨g, 1, none⟩ = false ∧ Ready S (V'.setCell ⟨g, 1, none⟩ (.slice a4 (m + 1) c4)) ∧ Below base w (V'.setCell ⟨g, 1, none⟩ (.slice a4 (m + 1) c4)) from fun V B hb hBs hn => by
    obtain ⟨a4, c4, V', hrun, es', hl, hS8, hC8, hF8, hb8, L, _, hr, hL⟩ := app_names H.out hb _hnm q hmem hnv hm.symm hn (Nat.le_trans hSb hBs) 55
    obtain ⟨_, _, y1, _⟩ := blk3 hS8
    have he8 := hC8.enums
    rw [← hl] at he8
    obtain ⟨g', cc', hv', _, _, hcell'⟩ := row_el schoCells 2 (fun _ => rfl) he8 0 (by omega)
    obtain ⟨e1, _⟩ := slice_inj hv'
    injection e1 with e1
    injection e1 with e1
    subst e1
    obtain ⟨cur8, hg8, _⟩ := row_bk he8
    exact ⟨a4, c4, V', hrun, ⟨y1, fun u => (cel_ne hgne).trans y1⟩, ⟨_, hcell' 1 (by omega)⟩, blk_frozen hg8 1, ck_fin10 hl hS8 hC8 hF8 hr hL rfl, hb8.setCell (p := ⟨g, 1, none⟩) hlow _⟩)
  have hX1 := Lib.hid x1
  obtain ⟨u, rfl⟩ := hc.lit
  clear hc h hK _hn _hnm hv hgl hcell hg hlow hmem hnr hnn hnv curS z2 z0
  clear hqe hcc hm
  conv => arg 2; whnf
  go_upto_region 32 with (fail)
  refine wp_region_noPanic ?_
  refine wp_region_held_drew (S := (fun w' => w'.cell? ⟨S, 1, none⟩ = some (.slice (some ⟨g, 0, none⟩) es.length ec))) (by kernel_rfl) (hkeep w (Below.refl _ _)) ?_
  intro hS
  have HB0 := Lib.hid ((Below.refl w.heap.size w).drew)
  clear x1
  generalize w.drew = V0 at *
  refine wpAnyH_take (i := 0) (v := .pointer (some ⟨S, 1, none⟩)) rfl (by kernel_rfl) (by kernel_rfl) (by kernel_rfl) (fun _ _ _ h => h) (Or.inl ⟨by rfl, ?_⟩) hS ?_
  · intro w' hSw
    have s0 := hSw
    go_simp
  simp only [Act.put, List.getElem_toArray, List.getElem_cons_zero, List.setIfInBounds_toArray, List.set_cons_zero, List.set_cons_succ]
  refine wpAnyH_take (i := 2) (v := .pointer (some ⟨S, 1, none⟩)) rfl (by kernel_rfl) (by kernel_rfl) (by kernel_rfl) (fun _ _ _ h => h) (Or.inl ⟨by rfl, ?_⟩) hS ?_
  · intro w' hSw
    have s0 := hSw
    go_simp
  simp only [Act.put, List.getElem_toArray, List.getElem_cons_succ, List.getElem_cons_zero, List.setIfInBounds_toArray, List.set_cons_zero, List.set_cons_succ]
  refine wpAnyH_take (i := 7) (v := .string nm) rfl (by kernel_rfl) (by kernel_rfl) (by kernel_rfl) (fun _ _ _ h => h) (Or.inl ⟨by rfl, ?_⟩) hS ?_
  · intro w' hSw
    have s0 := hSw
    go_simp
  simp only [Act.put, List.getElem_toArray, List.getElem_cons_succ, List.getElem_cons_zero, List.setIfInBounds_toArray, List.set_cons_zero, List.set_cons_succ]
  refine wpAnyH_take (i := 1) (v := .slice (some ⟨g, 0, none⟩) es.length ec) rfl (by kernel_rfl) (by kernel_rfl) (by kernel_rfl) (fun _ _ _ h => h) (Or.inl ⟨by rfl, ?_⟩) hS ?_
  · intro w' hSw
    have s0 := hSw
    go_simp
  simp only [Act.put, List.getElem_toArray, List.getElem_cons_succ, List.getElem_cons_zero, List.setIfInBounds_toArray, List.set_cons_zero, List.set_cons_succ]
  refine wpAnyH_take (i := 3) (v := .slice (some ⟨g, 0, none⟩) es.length ec) rfl (by kernel_rfl) (by kernel_rfl) (by kernel_rfl) (fun _ _ _ h => h) (Or.inl ⟨by rfl, ?_⟩) hS ?_
  · intro w' hSw
    have s0 := hSw
    go_simp
  simp only [Act.put, List.getElem_toArray, List.getElem_cons_succ, List.getElem_cons_zero, List.setIfInBounds_toArray, List.set_cons_zero, List.set_cons_succ]
  refine wpAnyH_take (i := 4) (v := .pointer (some ⟨g, 0, none⟩)) rfl (by kernel_rfl) (by kernel_rfl) (by kernel_rfl) (fun _ _ _ h => h) (Or.inl ⟨by rfl, ?_⟩) hS ?_
  · intro w' hSw
    have s0 := hSw
    go_simp
  simp only [Act.put, List.getElem_toArray, List.getElem_cons_succ, List.getElem_cons_zero, List.setIfInBounds_toArray, List.set_cons_zero, List.set_cons_succ]
  refine wpAnyH_take (i := 5) (v := .pointer (some ⟨g, 1, none⟩)) rfl (by kernel_rfl) (by kernel_rfl) (by kernel_rfl) (fun _ _ _ h => h) (Or.inl ⟨by rfl, ?_⟩) hS ?_
  · intro w' hSw
    have s0 := hSw
    go_simp
  simp only [Act.put, List.getElem_toArray, List.getElem_cons_succ, List.getElem_cons_zero, List.setIfInBounds_toArray, List.set_cons_zero, List.set_cons_succ]
  refine wpAnyH_ready (rs := [6, 8]) (by kernel_rfl) (by decide) (AllReadyH.cons rfl (fun K hK => ?_) (AllReadyH.cons rfl (fun K hK => ?_) AllReadyH.nil))
  · rw [if_pos (by kernel_rfl)]
    have yl := cel_old HB0.out hX1.out
    go_simp
    refine hK.out _ _ (hkeep _ HB0.out) (fun hS => ?_)
    clear yl
    refine wpAnyH_ready (rs := [8]) (by kernel_rfl) (by decide) (AllReadyH.cons rfl (fun K hK => ?_) AllReadyH.nil)
    rw [if_pos (by kernel_rfl)]
    go_simp
    have hs : Below V0.heap.size V0 (V0.alloc (.cells #[.string nm] 9)) := (Below.refl _ _).alloc (Nat.le_refl _) _
    have HB1 := Lib.hid (HB0.out.trans (hs.mono HB0.out.size))
    have HN := Lib.hid (heap_alloc_new V0 (.cells #[.string nm] 9))
    have HBS := Lib.hid HB0.out.size
    refine hK.out _ _ (hkeep _ HB1.out) (fun hS => ?_)
    clear hs
    generalize V0.alloc (.cells #[.string nm] 9) = V1 at *
    generalize V0.heap.size = B at *
    refine wpAnyH_ready (rs := [9]) (by kernel_rfl) (by decide) (AllReadyH.cons rfl (fun K hK => ?_) AllReadyH.nil)
    rw [if_pos (by kernel_rfl)]
    obtain ⟨a4, c4, V2, hrun, ⟨ks, ks2⟩, ⟨y, y1⟩, yf, hr8, hbf⟩ := TAIL.out V1 B HB1.out HBS.out HN.out
    have HR := Lib.hid hr8
    have HBF := Lib.hid hbf
    refine wp_append_run _ (.tmp 190) (.tmp 192) 55 rfl _ _ _ _ rfl rfl hrun ?_
    refine hK.out _ _ ks (fun hS => ?_)
    clear hrun hr8 hbf
    refine wpAnyH_take (i := 10) (v := .pointer (some ⟨g, 0, none⟩)) rfl (by kernel_rfl) (by kernel_rfl) (by kernel_rfl) (fun _ _ _ h => h) (Or.inl ⟨by rfl, ?_⟩) hS ?_
    · intro w' hSw
      have s0 := hSw
      go_simp
    simp only [Act.put, List.getElem_toArray, List.getElem_cons_succ, List.getElem_cons_zero, List.setIfInBounds_toArray, List.set_cons_zero, List.set_cons_succ]
    refine wpAnyH_take (i := 11) (v := .pointer (some ⟨g, 1, none⟩)) rfl (by kernel_rfl) (by kernel_rfl) (by kernel_rfl) (fun _ _ _ h => h) (Or.inl ⟨by rfl, ?_⟩) hS ?_
    · intro w' hSw
      have s0 := hSw
      go_simp
    simp only [Act.put, List.getElem_toArray, List.getElem_cons_succ, List.getElem_cons_zero, List.setIfInBounds_toArray, List.set_cons_zero, List.set_cons_succ]
    refine wpAnyH_ready (rs := [12]) (by kernel_rfl) (by decide) (AllReadyH.cons rfl (fun K hK => ?_) AllReadyH.nil)
    rw [if_pos (by kernel_rfl)]
    go_simp
    refine hK.out _ _ (ks2 _) (fun hS => ?_)
    refine wpAnyH_done (by kernel_rfl) ?_ _
    refine NoPanic.normal ?_
    simp only [Exit.inBlock, Exit.then]
    exact HK.out _ _ ⟨rfl, rfl, rfl⟩ HR.out HBF.out
  · rw [if_pos (by kernel_rfl)]
    go_simp
    have hs : Below V0.heap.size V0 (V0.alloc (.cells #[.string nm] 9)) := (Below.refl _ _).alloc (Nat.le_refl _) _
    have HB1 := Lib.hid (HB0.out.trans (hs.mono HB0.out.size))
    have HN := Lib.hid (heap_alloc_new V0 (.cells #[.string nm] 9))
    have HBS := Lib.hid HB0.out.size
    refine hK.out _ _ (hkeep _ HB1.out) (fun hS => ?_)
    clear hs
    generalize V0.alloc (.cells #[.string nm] 9) = V1 at *
    generalize V0.heap.size = B at *
    refine wpAnyH_ready (rs := [6]) (by kernel_rfl) (by decide) (AllReadyH.cons rfl (fun K hK => ?_) AllReadyH.nil)
    rw [if_pos (by kernel_rfl)]
    have yl := cel_old HB1.out hX1.out
    go_simp
    refine hK.out _ _ (hkeep _ HB1.out) (fun hS => ?_)
    clear yl
    refine wpAnyH_ready (rs := [9]) (by kernel_rfl) (by decide) (AllReadyH.cons rfl (fun K hK => ?_) AllReadyH.nil)
    rw [if_pos (by kernel_rfl)]
    obtain ⟨a4, c4, V2, hrun, ⟨ks, ks2⟩, ⟨y, y1⟩, yf, hr8, hbf⟩ := TAIL.out V1 B HB1.out HBS.out HN.out
    have HR := Lib.hid hr8
    have HBF := Lib.hid hbf
    refine wp_append_run _ (.tmp 190) (.tmp 192) 55 rfl _ _ _ _ rfl rfl hrun ?_
    refine hK.out _ _ ks (fun hS => ?_)
    clear hrun hr8 hbf
    refine wpAnyH_take (i := 10) (v := .pointer (some ⟨g, 0, none⟩)) rfl (by kernel_rfl) (by kernel_rfl) (by kernel_rfl) (fun _ _ _ h => h) (Or.inl ⟨by rfl, ?_⟩) hS ?_
    · intro w' hSw
      have s0 := hSw
      go_simp
    simp only [Act.put, List.getElem_toArray, List.getElem_cons_succ, List.getElem_cons_zero, List.setIfInBounds_toArray, List.set_cons_zero, List.set_cons_succ]
    refine wpAnyH_take (i := 11) (v := .pointer (some ⟨g, 1, none⟩)) rfl (by kernel_rfl) (by kernel_rfl) (by kernel_rfl) (fun _ _ _ h => h) (Or.inl ⟨by rfl, ?_⟩) hS ?_
    · intro w' hSw
      have s0 := hSw
      go_simp
    simp only [Act.put, List.getElem_toArray, List.getElem_cons_succ, List.getElem_cons_zero, List.setIfInBounds_toArray, List.set_cons_zero, List.set_cons_succ]
    refine wpAnyH_ready (rs := [12]) (by kernel_rfl) (by decide) (AllReadyH.cons rfl (fun K hK => ?_) AllReadyH.nil)
    rw [if_pos (by kernel_rfl)]
    go_simp
    refine hK.out _ _ (ks2 _) (fun hS => ?_)
    refine wpAnyH_done (by kernel_rfl) ?_ _
    refine NoPanic.normal ?_
    simp only [Exit.inBlock, Exit.then]
    exact HK.out _ _ ⟨rfl, rfl, rfl⟩ HR.out HBF.out
end Go.Proofs.YtdlfndjgncdgfaaGreatDoor
