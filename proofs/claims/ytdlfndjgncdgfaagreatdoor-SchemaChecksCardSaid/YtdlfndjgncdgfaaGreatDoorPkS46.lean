/-
  SchemaChecks' switch, whatever the way: a schema lies ready behind it. Conditions: those that the theorem names.
-/
import Derived.Test.YtdlfndjgncdgfaaGreatDoorPkS15
import Derived.Test.YtdlfndjgncdgfaaGreatDoorPkS42
import Derived.Test.YtdlfndjgncdgfaaGreatDoorPkS44
namespace Go.Proofs.YtdlfndjgncdgfaaGreatDoor
open Go.ChangeShapes Go.WideShapes Go.ChangeAt Go.RowKit Go.Shelf

theorem cell_old {w W : World} (h : Below w.heap.size w W) {p : Addr} {v : Value} (hp : w.cell? p = some v) : W.cell? p = some v := (h.cell (World.block_lt_of_cell? _ _ hp)).trans hp
theorem cell_ne {W : World} {a b : Nat} {i j : Nat} {u : Value} (h : a ≠ b) : (W.setCell ⟨a, i, none⟩ u).cell? ⟨b, j, none⟩ = W.cell? ⟨b, j, none⟩ := World.cell?_of_block (w := W) (a := ⟨b, j, none⟩) (Below.heap_setCell _ _ _ _ (fun e => h e.symm))
set_option maxRecDepth 100000 in
set_option maxHeartbeats 16000000 in
theorem ck_7 {K : Act → World → Prop} {Q : Exit → Act → World → Prop} {c : Act} {w : World} {base S G k j n : Nat} {nm : ByteArray} {ss : List (CRec × Value)} {es : List (SCho × Value)} {sa ea : Option Addr} {sc ec : Nat} {rt : Int}
    (hc : CkS S G k j 7 n nm c) (h : CkW base S G k j ss es sa sc ea ec rt w) (_hn : n ≤ 18446744073709551615) (_hnm : nm.size ≤ 200) (hK : AfterCk K S base w) : Code.wp Tryz.prog ckSwitch (Exit.then K Q) c w := by
  have HK := Lib.hid hK
  have H := Lib.hid h
  have hSb : base ≤ w.heap.size := by have h1 := h.low; have h2 := blk_lt h.own; omega
  have hkl := h.kl
  obtain ⟨g, cc, hv, hcc, hgl, hcell⟩ := row_el crecCells 2 (fun _ => rfl) h.rows.structs k hkl
  obtain ⟨rfl, rfl⟩ := slice_inj hv
  obtain ⟨curS, hg, hlow⟩ := row_bk h.rows.structs
  have hgd : ss.getD k noCR = ss[k] := by rw [List.getD, List.getElem?_eq_getElem hkl, Option.getD_some]
  obtain ⟨fc, hfv⟩ := h.fld
  have hjl := h.jl
  have hjf := h.jfew
  have hfew := h.few
  obtain ⟨q, hq⟩ : ∃ q, ss.getD k noCR = q := ⟨_, rfl⟩
  rw [hq] at hfv hjl hjf hgd
  have hmem : q ∈ ss := by rw [hgd]; exact List.getElem_mem _
  have hrow := h.rows.fields q hmem
  rw [hfv] at hrow
  have hcq : w.cell? ⟨g, k * 2 + 1, none⟩ = some q.2 := by rw [hgd]; exact hcell 1 (by omega)
  rw [hfv] at hcq
  obtain ⟨cur, f, hG, hlowG, hfit, x0, x1, x2, x3, x4⟩ := h.field
  obtain ⟨_, z0, z1, z2, _⟩ := blk3 h.own
  have hffit := (h.fits.recs q hmem).2
  have hfc : q.1.fields.length ≤ fc := by rcases hrow.2 with ⟨h1, _⟩ | ⟨_, _, _, h1, _, _, h2, _⟩; cases h1; injection h1 with _ _ h3; omega
  obtain ⟨m, hm⟩ : ∃ m, q.1.fields.length = m := ⟨_, rfl⟩
  rw [hm] at hcq hjl hjf hfc
  have hkb : (k : Int) < ss.length := by omega
  have hkb0 : (0 : Int) ≤ (k : Int) := by omega
  have hm0 : (0 : Int) ≤ (m : Int) := by omega
  have hmc : (m : Int) ≤ (fc : Int) := by omega
  obtain ⟨i0, hi0, hzz0, hzz1, hzz2⟩ := info_parts sfld_info
  have hkeep : ∀ W, Below w.heap.size w W → W.cell? ⟨S, 0, none⟩ = some (.slice (some ⟨g, 0, none⟩) ss.length sc) ∧ W.cell? ⟨G, j * 5, none⟩ = some (.string f.name) ∧ W.cell? ⟨G, j * 5 + 1, none⟩ = some (.int .u8 f.kind) ∧ W.cell? ⟨G, j * 5 + 2, none⟩ = some (.int .i64 f.ref) ∧ W.cell? ⟨G, j * 5 + 3, none⟩ = some (.int .i64 f.lists) ∧ W.cell? ⟨G, j * 5 + 4, none⟩ = some (.int .u64 f.dflt) := fun W hb => ⟨cell_old hb z0, cell_old hb x0, cell_old hb x1, cell_old hb x2, cell_old hb x3, cell_old hb x4⟩
  have hgne : g ≠ S ∧ g ≠ G := ⟨blk_ne' hg H.out.own (types_ne.2.2.2.2.2.2.2.2.2.1), blk_ne' hg hG types_ne.1⟩
  have hkeep2 : ∀ W, Below w.heap.size w W → ∀ u, (W.setCell ⟨g, k * 2 + 1, none⟩ u).cell? ⟨S, 0, none⟩ = some (.slice (some ⟨g, 0, none⟩) ss.length sc) ∧ (W.setCell ⟨g, k * 2 + 1, none⟩ u).cell? ⟨G, j * 5, none⟩ = some (.string f.name) ∧ (W.setCell ⟨g, k * 2 + 1, none⟩ u).cell? ⟨G, j * 5 + 1, none⟩ = some (.int .u8 f.kind) ∧ (W.setCell ⟨g, k * 2 + 1, none⟩ u).cell? ⟨G, j * 5 + 2, none⟩ = some (.int .i64 f.ref) ∧ (W.setCell ⟨g, k * 2 + 1, none⟩ u).cell? ⟨G, j * 5 + 3, none⟩ = some (.int .i64 f.lists) ∧ (W.setCell ⟨g, k * 2 + 1, none⟩ u).cell? ⟨G, j * 5 + 4, none⟩ = some (.int .u64 f.dflt) := fun W hb u => by obtain ⟨k0, k1, k2, k3, k4, k5⟩ := hkeep W hb; exact ⟨(cell_ne hgne.1).trans k0, (cell_ne hgne.2).trans k1, (cell_ne hgne.2).trans k2, (cell_ne hgne.2).trans k3, (cell_ne hgne.2).trans k4, (cell_ne hgne.2).trans k5⟩
  have TAIL := Lib.hid (show ∀ V B, Below w.heap.size w V → V.heap[B]? = some (.cells #[.string f.name, .int .u8 f.kind, .int .i64 f.ref, .int .i64 f.lists, .int .u64 f.dflt] 51 (0, 0)) → ∃ (a4 : Option Addr) (c4 : Nat) (V' : World), (Builtin.append_ #[52, 52] 52 #[.slice (some ⟨G, 0, none⟩) m m, .slice (some ⟨B, 0, none⟩) 1 1]).run Tryz.prog V = .ok (.slice a4 (m + 1) c4) V' ∧ Below w.heap.size w V' ∧ V'.cell? ⟨g, k * 2 + 1, none⟩ = some (.slice (some ⟨G, 0, none⟩) m fc) ∧ V'.frozen? ⟨g, k * 2 + 1, none⟩ = false ∧ Ready S (V'.setCell ⟨g, k * 2 + 1, none⟩ (.slice a4 (m + 1) c4)) ∧ Below base w (V'.setCell ⟨g, k * 2 + 1, none⟩ (.slice a4 (m + 1) c4)) from fun V B hb hn => by
    obtain ⟨v4, V', hrun, hown, hgrow⟩ := run_append_cut (P := Tryz.prog) V base 52 52 51 i0 _ 5 48 Tryz.underlying52 hi0 hzz0 hzz1 hzz2 rfl G m fc (cfldsCells q.1.fields) (by have h := row_keep hb hrow; rw [hm] at h; exact h) ⟨B, 0, none⟩ 1 1 (cfldCells f) (by omega) rfl (World.news_of_block hn) (by unfold maxLen; omega) (by omega) (Nat.le_trans hSb hb.size)
    obtain ⟨a4, c4, rfl⟩ := ownsRow_form hown
    have hb8 := hb.grown hgrow hb.size (fun k hk => by cases hk)
    exact ⟨a4, c4, V', hrun, hb8, cell_old hb8 hcq, blk_frozen (blk_below hg hb8 (blk_lt hg)) _, ck_fin7 H.out hb8 (L := q.1.fields ++ [f]) (by rw [List.length_append, hm, flds_snoc]; exact hown) (fun x hx => by rcases List.mem_append.1 hx with hx | hx; exact hffit x hx; rw [List.mem_singleton.1 hx]; exact hfit) rfl, (hb8.mono hSb).setCell (p := ⟨g, k * 2 + 1, none⟩) hlow _⟩)
  have hkeepV : ∀ W, Below w.heap.size w W → W.cell? ⟨g, k * 2 + 1, none⟩ = some (.slice (some ⟨G, 0, none⟩) m fc) := fun W hb => cell_old hb hcq
  obtain ⟨u, rfl⟩ := hc.lit
  clear hc h hK _hn _hnm hv hcc hgl hcell hg hlow hgd hmem hfv hrow hffit hfit hm hi0 hzz0 hzz1 hzz2 hq hG hlowG cur curS z1 z2
  conv => arg 2; whnf
  go_upto_region 24 with (fail)
  refine wp_region_noPanic ?_
  refine till_start 31 (fun w' => w'.cell? ⟨S, 0, none⟩ = some (.slice (some ⟨g, 0, none⟩) ss.length sc) ∧ w'.cell? ⟨G, j * 5, none⟩ = some (.string f.name) ∧ w'.cell? ⟨G, j * 5 + 1, none⟩ = some (.int .u8 f.kind) ∧ w'.cell? ⟨G, j * 5 + 2, none⟩ = some (.int .i64 f.ref) ∧ w'.cell? ⟨G, j * 5 + 3, none⟩ = some (.int .i64 f.lists) ∧ w'.cell? ⟨G, j * 5 + 4, none⟩ = some (.int .u64 f.dflt)) (fun w' => w'.cell? ⟨g, k * 2 + 1, none⟩ = some (.slice (some ⟨G, 0, none⟩) m fc)) (by kernel_rfl) ?_
  have HB0 := Lib.hid ((Below.refl w.heap.size w).drew)
  generalize w.drew = V0 at *
  have hU := hkeep V0 HB0.out
  have hV := hkeepV V0 HB0.out
  refine till_take (i := 0) (v := .pointer (some ⟨S, 0, none⟩)) rfl (by kernel_rfl) (by kernel_rfl) (by kernel_rfl) (by kernel_rfl) (by kernel_rfl) (fun _ _ _ h => h) (Or.inl ⟨by rfl, ?_⟩) hU hV ?_
  · intro w' hSw
    obtain ⟨⟨s0, s1, s2, s3, s4, s5⟩, t0⟩ := hSw
    go_simp
  simp only [Act.put, List.getElem_toArray, List.getElem_cons_zero, List.setIfInBounds_toArray, List.set_cons_zero, List.set_cons_succ]
  refine till_take (i := 1) (v := .slice (some ⟨g, 0, none⟩) ss.length sc) rfl (by kernel_rfl) (by kernel_rfl) (by kernel_rfl) (by kernel_rfl) (by kernel_rfl) (fun _ _ _ h => h) (Or.inl ⟨by rfl, ?_⟩) hU hV ?_
  · intro w' hSw
    obtain ⟨⟨s0, s1, s2, s3, s4, s5⟩, t0⟩ := hSw
    go_simp
  simp only [Act.put, List.getElem_toArray, List.getElem_cons_succ, List.getElem_cons_zero, List.setIfInBounds_toArray, List.set_cons_zero, List.set_cons_succ]
  refine till_take (i := 2) (v := .int .i64 k) rfl (by kernel_rfl) (by kernel_rfl) (by kernel_rfl) (by kernel_rfl) (by kernel_rfl) (fun _ _ _ h => h) (Or.inl ⟨by rfl, ?_⟩) hU hV ?_
  · intro w' hSw
    obtain ⟨⟨s0, s1, s2, s3, s4, s5⟩, t0⟩ := hSw
    go_simp
  simp only [Act.put, List.getElem_toArray, List.getElem_cons_succ, List.getElem_cons_zero, List.setIfInBounds_toArray, List.set_cons_zero, List.set_cons_succ]
  refine till_take (i := 3) (v := .pointer (some ⟨S, 0, none⟩)) rfl (by kernel_rfl) (by kernel_rfl) (by kernel_rfl) (by kernel_rfl) (by kernel_rfl) (fun _ _ _ h => h) (Or.inl ⟨by rfl, ?_⟩) hU hV ?_
  · intro w' hSw
    obtain ⟨⟨s0, s1, s2, s3, s4, s5⟩, t0⟩ := hSw
    go_simp
  simp only [Act.put, List.getElem_toArray, List.getElem_cons_succ, List.getElem_cons_zero, List.setIfInBounds_toArray, List.set_cons_zero, List.set_cons_succ]
  refine till_take (i := 4) (v := .slice (some ⟨g, 0, none⟩) ss.length sc) rfl (by kernel_rfl) (by kernel_rfl) (by kernel_rfl) (by kernel_rfl) (by kernel_rfl) (fun _ _ _ h => h) (Or.inl ⟨by rfl, ?_⟩) hU hV ?_
  · intro w' hSw
    obtain ⟨⟨s0, s1, s2, s3, s4, s5⟩, t0⟩ := hSw
    go_simp
  simp only [Act.put, List.getElem_toArray, List.getElem_cons_succ, List.getElem_cons_zero, List.setIfInBounds_toArray, List.set_cons_zero, List.set_cons_succ]
  refine till_take (i := 5) (v := .int .i64 k) rfl (by kernel_rfl) (by kernel_rfl) (by kernel_rfl) (by kernel_rfl) (by kernel_rfl) (fun _ _ _ h => h) (Or.inl ⟨by rfl, ?_⟩) hU hV ?_
  · intro w' hSw
    obtain ⟨⟨s0, s1, s2, s3, s4, s5⟩, t0⟩ := hSw
    go_simp
  simp only [Act.put, List.getElem_toArray, List.getElem_cons_succ, List.getElem_cons_zero, List.setIfInBounds_toArray, List.set_cons_zero, List.set_cons_succ]
  refine till_take (i := 6) (v := .pointer (some ⟨g, k * 2, none⟩)) rfl (by kernel_rfl) (by kernel_rfl) (by kernel_rfl) (by kernel_rfl) (by kernel_rfl) (fun _ _ _ h => h) (Or.inl ⟨by rfl, ?_⟩) hU hV ?_
  · intro w' hSw
    obtain ⟨⟨s0, s1, s2, s3, s4, s5⟩, t0⟩ := hSw
    go_simp
  simp only [Act.put, List.getElem_toArray, List.getElem_cons_succ, List.getElem_cons_zero, List.setIfInBounds_toArray, List.set_cons_zero, List.set_cons_succ]
  refine till_take (i := 7) (v := .pointer (some ⟨g, k * 2 + 1, none⟩)) rfl (by kernel_rfl) (by kernel_rfl) (by kernel_rfl) (by kernel_rfl) (by kernel_rfl) (fun _ _ _ h => h) (Or.inl ⟨by rfl, ?_⟩) hU hV ?_
  · intro w' hSw
    obtain ⟨⟨s0, s1, s2, s3, s4, s5⟩, t0⟩ := hSw
    go_simp
  simp only [Act.put, List.getElem_toArray, List.getElem_cons_succ, List.getElem_cons_zero, List.setIfInBounds_toArray, List.set_cons_zero, List.set_cons_succ]
  refine till_take (i := 8) (v := .slice (some ⟨G, 0, none⟩) m fc) rfl (by kernel_rfl) (by kernel_rfl) (by kernel_rfl) (by kernel_rfl) (by kernel_rfl) (fun _ _ _ h => h) (Or.inl ⟨by rfl, ?_⟩) hU hV ?_
  · intro w' hSw
    obtain ⟨⟨s0, s1, s2, s3, s4, s5⟩, t0⟩ := hSw
    go_simp
  simp only [Act.put, List.getElem_toArray, List.getElem_cons_succ, List.getElem_cons_zero, List.setIfInBounds_toArray, List.set_cons_zero, List.set_cons_succ]
  refine till_take (i := 9) (v := .pointer (some ⟨S, 0, none⟩)) rfl (by kernel_rfl) (by kernel_rfl) (by kernel_rfl) (by kernel_rfl) (by kernel_rfl) (fun _ _ _ h => h) (Or.inl ⟨by rfl, ?_⟩) hU hV ?_
  · intro w' hSw
    obtain ⟨⟨s0, s1, s2, s3, s4, s5⟩, t0⟩ := hSw
    go_simp
  simp only [Act.put, List.getElem_toArray, List.getElem_cons_succ, List.getElem_cons_zero, List.setIfInBounds_toArray, List.set_cons_zero, List.set_cons_succ]
  refine till_take (i := 10) (v := .slice (some ⟨g, 0, none⟩) ss.length sc) rfl (by kernel_rfl) (by kernel_rfl) (by kernel_rfl) (by kernel_rfl) (by kernel_rfl) (fun _ _ _ h => h) (Or.inl ⟨by rfl, ?_⟩) hU hV ?_
  · intro w' hSw
    obtain ⟨⟨s0, s1, s2, s3, s4, s5⟩, t0⟩ := hSw
    go_simp
  simp only [Act.put, List.getElem_toArray, List.getElem_cons_succ, List.getElem_cons_zero, List.setIfInBounds_toArray, List.set_cons_zero, List.set_cons_succ]
  refine till_take (i := 11) (v := .int .i64 k) rfl (by kernel_rfl) (by kernel_rfl) (by kernel_rfl) (by kernel_rfl) (by kernel_rfl) (fun _ _ _ h => h) (Or.inl ⟨by rfl, ?_⟩) hU hV ?_
  · intro w' hSw
    obtain ⟨⟨s0, s1, s2, s3, s4, s5⟩, t0⟩ := hSw
    go_simp
  simp only [Act.put, List.getElem_toArray, List.getElem_cons_succ, List.getElem_cons_zero, List.setIfInBounds_toArray, List.set_cons_zero, List.set_cons_succ]
  refine till_take (i := 12) (v := .pointer (some ⟨g, k * 2, none⟩)) rfl (by kernel_rfl) (by kernel_rfl) (by kernel_rfl) (by kernel_rfl) (by kernel_rfl) (fun _ _ _ h => h) (Or.inl ⟨by rfl, ?_⟩) hU hV ?_
  · intro w' hSw
    obtain ⟨⟨s0, s1, s2, s3, s4, s5⟩, t0⟩ := hSw
    go_simp
  simp only [Act.put, List.getElem_toArray, List.getElem_cons_succ, List.getElem_cons_zero, List.setIfInBounds_toArray, List.set_cons_zero, List.set_cons_succ]
  refine till_take (i := 13) (v := .pointer (some ⟨g, k * 2 + 1, none⟩)) rfl (by kernel_rfl) (by kernel_rfl) (by kernel_rfl) (by kernel_rfl) (by kernel_rfl) (fun _ _ _ h => h) (Or.inl ⟨by rfl, ?_⟩) hU hV ?_
  · intro w' hSw
    obtain ⟨⟨s0, s1, s2, s3, s4, s5⟩, t0⟩ := hSw
    go_simp
  simp only [Act.put, List.getElem_toArray, List.getElem_cons_succ, List.getElem_cons_zero, List.setIfInBounds_toArray, List.set_cons_zero, List.set_cons_succ]
  refine till_take (i := 14) (v := .slice (some ⟨G, 0, none⟩) m fc) rfl (by kernel_rfl) (by kernel_rfl) (by kernel_rfl) (by kernel_rfl) (by kernel_rfl) (fun _ _ _ h => h) (Or.inl ⟨by rfl, ?_⟩) hU hV ?_
  · intro w' hSw
    obtain ⟨⟨s0, s1, s2, s3, s4, s5⟩, t0⟩ := hSw
    go_simp
  simp only [Act.put, List.getElem_toArray, List.getElem_cons_succ, List.getElem_cons_zero, List.setIfInBounds_toArray, List.set_cons_zero, List.set_cons_succ]
  refine till_take (i := 15) (v := .int .i64 m) rfl (by kernel_rfl) (by kernel_rfl) (by kernel_rfl) (by kernel_rfl) (by kernel_rfl) (fun _ _ _ h => h) (Or.inl ⟨by rfl, ?_⟩) hU hV ?_
  · intro w' hSw
    obtain ⟨⟨s0, s1, s2, s3, s4, s5⟩, t0⟩ := hSw
    go_simp
  simp only [Act.put, List.getElem_toArray, List.getElem_cons_succ, List.getElem_cons_zero, List.setIfInBounds_toArray, List.set_cons_zero, List.set_cons_succ]
  refine till_take (i := 16) (v := .pointer (some ⟨S, 0, none⟩)) rfl (by kernel_rfl) (by kernel_rfl) (by kernel_rfl) (by kernel_rfl) (by kernel_rfl) (fun _ _ _ h => h) (Or.inl ⟨by rfl, ?_⟩) hU hV ?_
  · intro w' hSw
    obtain ⟨⟨s0, s1, s2, s3, s4, s5⟩, t0⟩ := hSw
    go_simp
  simp only [Act.put, List.getElem_toArray, List.getElem_cons_succ, List.getElem_cons_zero, List.setIfInBounds_toArray, List.set_cons_zero, List.set_cons_succ]
  refine till_take (i := 17) (v := .slice (some ⟨g, 0, none⟩) ss.length sc) rfl (by kernel_rfl) (by kernel_rfl) (by kernel_rfl) (by kernel_rfl) (by kernel_rfl) (fun _ _ _ h => h) (Or.inl ⟨by rfl, ?_⟩) hU hV ?_
  · intro w' hSw
    obtain ⟨⟨s0, s1, s2, s3, s4, s5⟩, t0⟩ := hSw
    go_simp
  simp only [Act.put, List.getElem_toArray, List.getElem_cons_succ, List.getElem_cons_zero, List.setIfInBounds_toArray, List.set_cons_zero, List.set_cons_succ]
  refine till_take (i := 18) (v := .int .i64 k) rfl (by kernel_rfl) (by kernel_rfl) (by kernel_rfl) (by kernel_rfl) (by kernel_rfl) (fun _ _ _ h => h) (Or.inl ⟨by rfl, ?_⟩) hU hV ?_
  · intro w' hSw
    obtain ⟨⟨s0, s1, s2, s3, s4, s5⟩, t0⟩ := hSw
    go_simp
  simp only [Act.put, List.getElem_toArray, List.getElem_cons_succ, List.getElem_cons_zero, List.setIfInBounds_toArray, List.set_cons_zero, List.set_cons_succ]
  refine till_take (i := 19) (v := .pointer (some ⟨g, k * 2, none⟩)) rfl (by kernel_rfl) (by kernel_rfl) (by kernel_rfl) (by kernel_rfl) (by kernel_rfl) (fun _ _ _ h => h) (Or.inl ⟨by rfl, ?_⟩) hU hV ?_
  · intro w' hSw
    obtain ⟨⟨s0, s1, s2, s3, s4, s5⟩, t0⟩ := hSw
    go_simp
  simp only [Act.put, List.getElem_toArray, List.getElem_cons_succ, List.getElem_cons_zero, List.setIfInBounds_toArray, List.set_cons_zero, List.set_cons_succ]
  refine till_take (i := 20) (v := .pointer (some ⟨g, k * 2 + 1, none⟩)) rfl (by kernel_rfl) (by kernel_rfl) (by kernel_rfl) (by kernel_rfl) (by kernel_rfl) (fun _ _ _ h => h) (Or.inl ⟨by rfl, ?_⟩) hU hV ?_
  · intro w' hSw
    obtain ⟨⟨s0, s1, s2, s3, s4, s5⟩, t0⟩ := hSw
    go_simp
  simp only [Act.put, List.getElem_toArray, List.getElem_cons_succ, List.getElem_cons_zero, List.setIfInBounds_toArray, List.set_cons_zero, List.set_cons_succ]
  refine till_take (i := 21) (v := .slice (some ⟨G, 0, none⟩) m fc) rfl (by kernel_rfl) (by kernel_rfl) (by kernel_rfl) (by kernel_rfl) (by kernel_rfl) (fun _ _ _ h => h) (Or.inl ⟨by rfl, ?_⟩) hU hV ?_
  · intro w' hSw
    obtain ⟨⟨s0, s1, s2, s3, s4, s5⟩, t0⟩ := hSw
    go_simp
  simp only [Act.put, List.getElem_toArray, List.getElem_cons_succ, List.getElem_cons_zero, List.setIfInBounds_toArray, List.set_cons_zero, List.set_cons_succ]
  refine till_take (i := 22) (v := .int .i64 m) rfl (by kernel_rfl) (by kernel_rfl) (by kernel_rfl) (by kernel_rfl) (by kernel_rfl) (fun _ _ _ h => h) (Or.inl ⟨by rfl, ?_⟩) hU hV ?_
  · intro w' hSw
    obtain ⟨⟨s0, s1, s2, s3, s4, s5⟩, t0⟩ := hSw
    go_simp
  simp only [Act.put, List.getElem_toArray, List.getElem_cons_succ, List.getElem_cons_zero, List.setIfInBounds_toArray, List.set_cons_zero, List.set_cons_succ]
  refine till_take (i := 23) (v := .slice (some ⟨G, 0, none⟩) m m) rfl (by kernel_rfl) (by kernel_rfl) (by kernel_rfl) (by kernel_rfl) (by kernel_rfl) (fun _ _ _ h => h) (Or.inl ⟨by rfl, ?_⟩) hU hV ?_
  · intro w' hSw
    obtain ⟨⟨s0, s1, s2, s3, s4, s5⟩, t0⟩ := hSw
    go_simp
  simp only [Act.put, List.getElem_toArray, List.getElem_cons_succ, List.getElem_cons_zero, List.setIfInBounds_toArray, List.set_cons_zero, List.set_cons_succ]
  refine till_take (i := 24) (v := .pointer (some ⟨G, j * 5, none⟩)) rfl (by kernel_rfl) (by kernel_rfl) (by kernel_rfl) (by kernel_rfl) (by kernel_rfl) (fun _ _ _ h => h) (Or.inl ⟨by rfl, ?_⟩) hU hV ?_
  · intro w' hSw
    obtain ⟨⟨s0, s1, s2, s3, s4, s5⟩, t0⟩ := hSw
    go_simp
  simp only [Act.put, List.getElem_toArray, List.getElem_cons_succ, List.getElem_cons_zero, List.setIfInBounds_toArray, List.set_cons_zero, List.set_cons_succ]
  refine till_take (i := 25) (v := .pointer (some ⟨G, j * 5, none⟩)) rfl (by kernel_rfl) (by kernel_rfl) (by kernel_rfl) (by kernel_rfl) (by kernel_rfl) (fun _ _ _ h => h) (Or.inl ⟨by rfl, ?_⟩) hU hV ?_
  · intro w' hSw
    obtain ⟨⟨s0, s1, s2, s3, s4, s5⟩, t0⟩ := hSw
    go_simp
  simp only [Act.put, List.getElem_toArray, List.getElem_cons_succ, List.getElem_cons_zero, List.setIfInBounds_toArray, List.set_cons_zero, List.set_cons_succ]
  refine till_take (i := 26) (v := .agg #[.string f.name, .int .u8 f.kind, .int .i64 f.ref, .int .i64 f.lists, .int .u64 f.dflt]) rfl (by kernel_rfl) (by kernel_rfl) (by kernel_rfl) (by kernel_rfl) (by kernel_rfl) (fun _ _ _ h => h) (Or.inl ⟨by rfl, ?_⟩) hU hV ?_
  · intro w' hSw
    obtain ⟨⟨s0, s1, s2, s3, s4, s5⟩, t0⟩ := hSw
    go_simp
  simp only [Act.put, List.getElem_toArray, List.getElem_cons_succ, List.getElem_cons_zero, List.setIfInBounds_toArray, List.set_cons_zero, List.set_cons_succ]
  refine till_one (i := 27) (by kernel_rfl) rfl (fun K hK => ?_)
  rw [if_pos (by kernel_rfl)]
  go_simp
  have hs : Below V0.heap.size V0 (V0.alloc (.cells #[.string f.name, .int .u8 f.kind, .int .i64 f.ref, .int .i64 f.lists, .int .u64 f.dflt] 51)) := (Below.refl _ _).alloc (Nat.le_refl _) _
  have HB1 := Lib.hid (HB0.out.trans (hs.mono HB0.out.size))
  have HN := Lib.hid (heap_alloc_new V0 (.cells #[.string f.name, .int .u8 f.kind, .int .i64 f.ref, .int .i64 f.lists, .int .u64 f.dflt] 51))
  have HNB := Lib.hid HB0.out.size
  refine hK.out _ _ (hkeep _ HB1.out) (hkeepV _ HB1.out) ?_
  clear hs hU hV
  generalize V0.alloc (.cells #[.string f.name, .int .u8 f.kind, .int .i64 f.ref, .int .i64 f.lists, .int .u64 f.dflt] 51) = V1 at *
  generalize V0.heap.size = B at *
  have hU := hkeep V1 HB1.out
  have hV := hkeepV V1 HB1.out
  refine till_one (i := 28) (by kernel_rfl) rfl (fun K hK => ?_)
  rw [if_pos (by kernel_rfl)]
  obtain ⟨a4, c4, V2, hrun, hb8, y1, yf, hr8, hbf⟩ := TAIL.out V1 B HB1.out HN.out
  have HB2 := Lib.hid hb8
  have HR := Lib.hid hr8
  have HBF := Lib.hid hbf
  refine wp_append_run _ (.tmp 140) (.tmp 144) 52 rfl _ _ _ _ rfl rfl hrun ?_
  refine hK.out _ _ (hkeep _ hb8) (hkeepV _ hb8) ?_
  clear hrun hb8 hr8 hbf hU hV
  have hU := hkeep V2 HB2.out
  have hV := hkeepV V2 HB2.out
  refine till_one (i := 29) (by kernel_rfl) rfl (fun K hK => ?_)
  rw [if_pos (by kernel_rfl)]
  go_simp
  refine hK.out _ _ hU hV ?_
  refine till_take (i := 30) (v := .pointer (some ⟨g, k * 2 + 1, none⟩)) rfl (by kernel_rfl) (by kernel_rfl) (by kernel_rfl) (by kernel_rfl) (by kernel_rfl) (fun _ _ _ h => h) (Or.inl ⟨by rfl, ?_⟩) hU hV ?_
  · intro w' hSw
    obtain ⟨⟨s0, s1, s2, s3, s4, s5⟩, t0⟩ := hSw
    go_simp
  simp only [Act.put, List.getElem_toArray, List.getElem_cons_succ, List.getElem_cons_zero, List.setIfInBounds_toArray, List.set_cons_zero, List.set_cons_succ]
  refine till_last (by kernel_rfl) rfl (fun K hK => ?_)
  rw [if_pos (by kernel_rfl)]
  go_simp
  refine hK.out _ _ (hkeep2 _ HB2.out _) ?_
  refine till_done (by kernel_rfl) ?_ _
  refine NoPanic.normal ?_
  simp only [Exit.inBlock, Exit.then]
  exact HK.out _ _ ⟨rfl, rfl, rfl⟩ HR.out HBF.out
end Go.Proofs.YtdlfndjgncdgfaaGreatDoor
namespace Go.Proofs.YtdlfndjgncdgfaaGreatDoor
open Go.ChangeShapes Go.WideShapes Go.ChangeAt Go.RowKit Go.Shelf


set_option maxRecDepth 100000 in
set_option maxHeartbeats 16000000 in
theorem ck_8 {K : Act → World → Prop} {Q : Exit → Act → World → Prop} {c : Act} {w : World} {base S G k j n : Nat} {nm : ByteArray} {ss : List (CRec × Value)} {es : List (SCho × Value)} {sa ea : Option Addr} {sc ec : Nat} {rt : Int}
    (hc : CkS S G k j 8 n nm c) (h : CkW base S G k j ss es sa sc ea ec rt w) (_hn : n ≤ 18446744073709551615) (_hnm : nm.size ≤ 200) (hK : AfterCk K S base w) : Code.wp Tryz.prog ckSwitch (Exit.then K Q) c w := by
  have HK := Lib.hid hK
  have H := Lib.hid h
  have hSb : base ≤ w.heap.size := by have h1 := h.low; have h2 := blk_lt h.own; omega
  have hkl := h.kl
  obtain ⟨g, cc, hv, hcc, hgl, hcell⟩ := row_el crecCells 2 (fun _ => rfl) h.rows.structs k hkl
  obtain ⟨rfl, rfl⟩ := slice_inj hv
  obtain ⟨curS, hg, hlow⟩ := row_bk h.rows.structs
  have hfew := h.few
  obtain ⟨q, hqe⟩ : ∃ q, ss[k] = q := ⟨_, rfl⟩
  have hmem : q ∈ ss := by rw [← hqe]; exact List.getElem_mem _
  obtain ⟨fa, fc, hfv⟩ := ownsRow_form (h.rows.fields q hmem)
  have x0 : w.cell? ⟨g, k * 2, none⟩ = some (.string q.1.name) := by rw [← hqe]; exact hcell 0 (by omega)
  have x1 : w.cell? ⟨g, k * 2 + 1, none⟩ = some (.slice fa q.1.fields.length fc) := by rw [← hfv, ← hqe]; exact hcell 1 (by omega)
  have hqc : crecCells q = [.string q.1.name, .slice fa q.1.fields.length fc] := by unfold crecCells; rw [hfv]
  obtain ⟨_, z0, z1, z2, zf0, zf1, zf2⟩ := blk3 h.own
  obtain ⟨fl, hfl⟩ : ∃ fl, q.1.fields.length = fl := ⟨_, rfl⟩
  rw [hfl] at x1 hqc
  have hrow := h.rows.structs
  obtain ⟨m, hm⟩ : ∃ m, ss.length = m := ⟨_, rfl⟩
  rw [hm] at z0 hcc hfew hrow
  have hkb : (k : Int) < (m : Int) := by omega
  have hkb0 : (0 : Int) ≤ (k : Int) := by omega
  have hm0 : (0 : Int) ≤ (m : Int) := by omega
  have hmc : (m : Int) ≤ (sc : Int) := by omega
  obtain ⟨i0, hi0, hzz0, hzz1, hzz2⟩ := info_parts srec_info
  have hgne : S ≠ g := blk_ne' h.own hg (types_ne.2.2.2.2.2.2.2.2.2.1).symm
  have hkeep : ∀ W, Below w.heap.size w W → W.cell? ⟨g, k * 2, none⟩ = some (.string q.1.name) ∧ W.cell? ⟨g, k * 2 + 1, none⟩ = some (.slice fa fl fc) := fun W hb => ⟨cel_old hb x0, cel_old hb x1⟩
  have hkeep2 : ∀ W, Below w.heap.size w W → ∀ u, (W.setCell ⟨S, 0, none⟩ u).cell? ⟨g, k * 2, none⟩ = some (.string q.1.name) ∧ (W.setCell ⟨S, 0, none⟩ u).cell? ⟨g, k * 2 + 1, none⟩ = some (.slice fa fl fc) := fun W hb u => by obtain ⟨k0, k1⟩ := hkeep W hb; exact ⟨(cel_ne hgne).trans k0, (cel_ne hgne).trans k1⟩
  have TAIL := Lib.hid (show ∀ V B, Below w.heap.size w V → V.heap[B]? = some (.cells #[.string q.1.name, .slice fa fl fc] 54 (0, 0)) → ∃ (a4 : Option Addr) (c4 : Nat) (V' : World), (Builtin.append_ #[27, 27] 27 #[.slice (some ⟨g, 0, none⟩) m m, .slice (some ⟨B, 0, none⟩) 1 1]).run Tryz.prog V = .ok (.slice a4 (m + 1) c4) V' ∧ Below w.heap.size w V' ∧ V'.cell? ⟨S, 0, none⟩ = some (.slice (some ⟨g, 0, none⟩) m sc) ∧ V'.frozen? ⟨S, 0, none⟩ = false ∧ Ready S (V'.setCell ⟨S, 0, none⟩ (.slice a4 (m + 1) c4)) ∧ Below base w (V'.setCell ⟨S, 0, none⟩ (.slice a4 (m + 1) c4)) from fun V B hb hn => by
    obtain ⟨v4, V', hrun, hown, hgrow⟩ := run_append_cut (P := Tryz.prog) V base 27 27 54 i0 _ 2 40 Tryz.underlying27 hi0 hzz0 hzz1 hzz2 rfl g m sc (crecsCells ss) (row_keep hb hrow) ⟨B, 0, none⟩ 1 1 [.string q.1.name, .slice fa fl fc] (by omega) rfl (World.news_of_block hn) (by unfold maxLen; omega) (by omega) (Nat.le_trans hSb hb.size)
    obtain ⟨a4, c4, rfl⟩ := ownsRow_form hown
    have hb8 := hb.grown hgrow hb.size (fun k hk => by cases hk)
    refine ⟨a4, c4, V', hrun, hb8, cel_old hb8 z0, blk_frozen (blk_below H.out.own hb8 (blk_lt H.out.own)) 0, ?_, (hb8.mono hSb).setCell (p := ⟨S, 0, none⟩) H.out.low _⟩
    have hfin := ck_fin8 H.out hb8 (a4 := a4) (c4 := c4) q hmem (by rw [hm, hqc]; exact hown)
    rw [hm] at hfin
    exact hfin)
  have hkeepV : ∀ W, Below w.heap.size w W → W.cell? ⟨S, 0, none⟩ = some (.slice (some ⟨g, 0, none⟩) m sc) := fun W hb => cel_old hb z0
  obtain ⟨u, rfl⟩ := hc.lit
  clear hc h hK _hn _hnm hv hgl hcell hg hlow hmem hfv hrow hfl hi0 hzz0 hzz1 hzz2 hqc curS z1 z2 zf0 zf1 zf2
  clear hkl hqe hcc hm
  conv => arg 2; whnf
  go_upto_region 26 with (fail)
  refine wp_region_noPanic ?_
  refine till_start 17 (fun w' => w'.cell? ⟨g, k * 2, none⟩ = some (.string q.1.name) ∧ w'.cell? ⟨g, k * 2 + 1, none⟩ = some (.slice fa fl fc)) (fun w' => w'.cell? ⟨S, 0, none⟩ = some (.slice (some ⟨g, 0, none⟩) m sc)) (by kernel_rfl) ?_
  have HB0 := Lib.hid ((Below.refl w.heap.size w).drew)
  generalize w.drew = V0 at *
  have hU := hkeep V0 HB0.out
  have hV := hkeepV V0 HB0.out
  refine till_take (i := 0) (v := .pointer (some ⟨S, 0, none⟩)) rfl (by kernel_rfl) (by kernel_rfl) (by kernel_rfl) (by kernel_rfl) (by kernel_rfl) (fun _ _ _ h => h) (Or.inl ⟨by rfl, ?_⟩) hU hV ?_
  · intro w' hSw
    obtain ⟨⟨s0, s1⟩, t0⟩ := hSw
    go_simp
  simp only [Act.put, List.getElem_toArray, List.getElem_cons_zero, List.setIfInBounds_toArray, List.set_cons_zero, List.set_cons_succ]
  refine till_take (i := 1) (v := .slice (some ⟨g, 0, none⟩) m sc) rfl (by kernel_rfl) (by kernel_rfl) (by kernel_rfl) (by kernel_rfl) (by kernel_rfl) (fun _ _ _ h => h) (Or.inl ⟨by rfl, ?_⟩) hU hV ?_
  · intro w' hSw
    obtain ⟨⟨s0, s1⟩, t0⟩ := hSw
    go_simp
  simp only [Act.put, List.getElem_toArray, List.getElem_cons_succ, List.getElem_cons_zero, List.setIfInBounds_toArray, List.set_cons_zero, List.set_cons_succ]
  refine till_take (i := 2) (v := .pointer (some ⟨S, 0, none⟩)) rfl (by kernel_rfl) (by kernel_rfl) (by kernel_rfl) (by kernel_rfl) (by kernel_rfl) (fun _ _ _ h => h) (Or.inl ⟨by rfl, ?_⟩) hU hV ?_
  · intro w' hSw
    obtain ⟨⟨s0, s1⟩, t0⟩ := hSw
    go_simp
  simp only [Act.put, List.getElem_toArray, List.getElem_cons_succ, List.getElem_cons_zero, List.setIfInBounds_toArray, List.set_cons_zero, List.set_cons_succ]
  refine till_take (i := 3) (v := .slice (some ⟨g, 0, none⟩) m sc) rfl (by kernel_rfl) (by kernel_rfl) (by kernel_rfl) (by kernel_rfl) (by kernel_rfl) (fun _ _ _ h => h) (Or.inl ⟨by rfl, ?_⟩) hU hV ?_
  · intro w' hSw
    obtain ⟨⟨s0, s1⟩, t0⟩ := hSw
    go_simp
  simp only [Act.put, List.getElem_toArray, List.getElem_cons_succ, List.getElem_cons_zero, List.setIfInBounds_toArray, List.set_cons_zero, List.set_cons_succ]
  refine till_take (i := 4) (v := .int .i64 m) rfl (by kernel_rfl) (by kernel_rfl) (by kernel_rfl) (by kernel_rfl) (by kernel_rfl) (fun _ _ _ h => h) (Or.inl ⟨by rfl, ?_⟩) hU hV ?_
  · intro w' hSw
    obtain ⟨⟨s0, s1⟩, t0⟩ := hSw
    go_simp
  simp only [Act.put, List.getElem_toArray, List.getElem_cons_succ, List.getElem_cons_zero, List.setIfInBounds_toArray, List.set_cons_zero, List.set_cons_succ]
  refine till_take (i := 5) (v := .pointer (some ⟨S, 0, none⟩)) rfl (by kernel_rfl) (by kernel_rfl) (by kernel_rfl) (by kernel_rfl) (by kernel_rfl) (fun _ _ _ h => h) (Or.inl ⟨by rfl, ?_⟩) hU hV ?_
  · intro w' hSw
    obtain ⟨⟨s0, s1⟩, t0⟩ := hSw
    go_simp
  simp only [Act.put, List.getElem_toArray, List.getElem_cons_succ, List.getElem_cons_zero, List.setIfInBounds_toArray, List.set_cons_zero, List.set_cons_succ]
  refine till_take (i := 6) (v := .slice (some ⟨g, 0, none⟩) m sc) rfl (by kernel_rfl) (by kernel_rfl) (by kernel_rfl) (by kernel_rfl) (by kernel_rfl) (fun _ _ _ h => h) (Or.inl ⟨by rfl, ?_⟩) hU hV ?_
  · intro w' hSw
    obtain ⟨⟨s0, s1⟩, t0⟩ := hSw
    go_simp
  simp only [Act.put, List.getElem_toArray, List.getElem_cons_succ, List.getElem_cons_zero, List.setIfInBounds_toArray, List.set_cons_zero, List.set_cons_succ]
  refine till_take (i := 7) (v := .int .i64 m) rfl (by kernel_rfl) (by kernel_rfl) (by kernel_rfl) (by kernel_rfl) (by kernel_rfl) (fun _ _ _ h => h) (Or.inl ⟨by rfl, ?_⟩) hU hV ?_
  · intro w' hSw
    obtain ⟨⟨s0, s1⟩, t0⟩ := hSw
    go_simp
  simp only [Act.put, List.getElem_toArray, List.getElem_cons_succ, List.getElem_cons_zero, List.setIfInBounds_toArray, List.set_cons_zero, List.set_cons_succ]
  refine till_take (i := 8) (v := .slice (some ⟨g, 0, none⟩) m m) rfl (by kernel_rfl) (by kernel_rfl) (by kernel_rfl) (by kernel_rfl) (by kernel_rfl) (fun _ _ _ h => h) (Or.inl ⟨by rfl, ?_⟩) hU hV ?_
  · intro w' hSw
    obtain ⟨⟨s0, s1⟩, t0⟩ := hSw
    go_simp
  simp only [Act.put, List.getElem_toArray, List.getElem_cons_succ, List.getElem_cons_zero, List.setIfInBounds_toArray, List.set_cons_zero, List.set_cons_succ]
  refine till_take (i := 9) (v := .pointer (some ⟨S, 0, none⟩)) rfl (by kernel_rfl) (by kernel_rfl) (by kernel_rfl) (by kernel_rfl) (by kernel_rfl) (fun _ _ _ h => h) (Or.inl ⟨by rfl, ?_⟩) hU hV ?_
  · intro w' hSw
    obtain ⟨⟨s0, s1⟩, t0⟩ := hSw
    go_simp
  simp only [Act.put, List.getElem_toArray, List.getElem_cons_succ, List.getElem_cons_zero, List.setIfInBounds_toArray, List.set_cons_zero, List.set_cons_succ]
  refine till_take (i := 10) (v := .slice (some ⟨g, 0, none⟩) m sc) rfl (by kernel_rfl) (by kernel_rfl) (by kernel_rfl) (by kernel_rfl) (by kernel_rfl) (fun _ _ _ h => h) (Or.inl ⟨by rfl, ?_⟩) hU hV ?_
  · intro w' hSw
    obtain ⟨⟨s0, s1⟩, t0⟩ := hSw
    go_simp
  simp only [Act.put, List.getElem_toArray, List.getElem_cons_succ, List.getElem_cons_zero, List.setIfInBounds_toArray, List.set_cons_zero, List.set_cons_succ]
  refine till_take (i := 11) (v := .int .i64 k) rfl (by kernel_rfl) (by kernel_rfl) (by kernel_rfl) (by kernel_rfl) (by kernel_rfl) (fun _ _ _ h => h) (Or.inl ⟨by rfl, ?_⟩) hU hV ?_
  · intro w' hSw
    obtain ⟨⟨s0, s1⟩, t0⟩ := hSw
    go_simp
  simp only [Act.put, List.getElem_toArray, List.getElem_cons_succ, List.getElem_cons_zero, List.setIfInBounds_toArray, List.set_cons_zero, List.set_cons_succ]
  refine till_take (i := 12) (v := .pointer (some ⟨g, k * 2, none⟩)) rfl (by kernel_rfl) (by kernel_rfl) (by kernel_rfl) (by kernel_rfl) (by kernel_rfl) (fun _ _ _ h => h) (Or.inl ⟨by rfl, ?_⟩) hU hV ?_
  · intro w' hSw
    obtain ⟨⟨s0, s1⟩, t0⟩ := hSw
    go_simp
  simp only [Act.put, List.getElem_toArray, List.getElem_cons_succ, List.getElem_cons_zero, List.setIfInBounds_toArray, List.set_cons_zero, List.set_cons_succ]
  refine till_take (i := 13) (v := .agg #[.string q.1.name, .slice fa fl fc]) rfl (by kernel_rfl) (by kernel_rfl) (by kernel_rfl) (by kernel_rfl) (by kernel_rfl) (fun _ _ _ h => h) (Or.inl ⟨by rfl, ?_⟩) hU hV ?_
  · intro w' hSw
    obtain ⟨⟨s0, s1⟩, t0⟩ := hSw
    go_simp
  simp only [Act.put, List.getElem_toArray, List.getElem_cons_succ, List.getElem_cons_zero, List.setIfInBounds_toArray, List.set_cons_zero, List.set_cons_succ]
  refine till_one (i := 14) (by kernel_rfl) rfl (fun K hK => ?_)
  rw [if_pos (by kernel_rfl)]
  go_simp
  have hs : Below V0.heap.size V0 (V0.alloc (.cells #[.string q.1.name, .slice fa fl fc] 54)) := (Below.refl _ _).alloc (Nat.le_refl _) _
  have HB1 := Lib.hid (HB0.out.trans (hs.mono HB0.out.size))
  have HN := Lib.hid (heap_alloc_new V0 (.cells #[.string q.1.name, .slice fa fl fc] 54))
  have HNB := Lib.hid HB0.out.size
  refine hK.out _ _ (hkeep _ HB1.out) (hkeepV _ HB1.out) ?_
  clear hs hU hV
  generalize V0.alloc (.cells #[.string q.1.name, .slice fa fl fc] 54) = V1 at *
  generalize V0.heap.size = B at *
  have hU := hkeep V1 HB1.out
  have hV := hkeepV V1 HB1.out
  refine till_one (i := 15) (by kernel_rfl) rfl (fun K hK => ?_)
  rw [if_pos (by kernel_rfl)]
  obtain ⟨a4, c4, V2, hrun, hb8, y1, yf, hr8, hbf⟩ := TAIL.out V1 B HB1.out HN.out
  have HB2 := Lib.hid hb8
  have HR := Lib.hid hr8
  have HBF := Lib.hid hbf
  refine wp_append_run _ (.tmp 158) (.tmp 164) 27 rfl _ _ _ _ rfl rfl hrun ?_
  refine hK.out _ _ (hkeep _ hb8) (hkeepV _ hb8) ?_
  clear hrun hb8 hr8 hbf hU hV
  have hU := hkeep V2 HB2.out
  have hV := hkeepV V2 HB2.out
  refine till_take (i := 16) (v := .pointer (some ⟨S, 0, none⟩)) rfl (by kernel_rfl) (by kernel_rfl) (by kernel_rfl) (by kernel_rfl) (by kernel_rfl) (fun _ _ _ h => h) (Or.inl ⟨by rfl, ?_⟩) hU hV ?_
  · intro w' hSw
    obtain ⟨⟨s0, s1⟩, t0⟩ := hSw
    go_simp
  simp only [Act.put, List.getElem_toArray, List.getElem_cons_succ, List.getElem_cons_zero, List.setIfInBounds_toArray, List.set_cons_zero, List.set_cons_succ]
  refine till_last (by kernel_rfl) rfl (fun K hK => ?_)
  rw [if_pos (by kernel_rfl)]
  go_simp
  refine hK.out _ _ (hkeep2 _ HB2.out _) ?_
  refine till_done (by kernel_rfl) ?_ _
  refine NoPanic.normal ?_
  simp only [Exit.inBlock, Exit.then]
  exact HK.out _ _ ⟨rfl, rfl, rfl⟩ HR.out HBF.out
end Go.Proofs.YtdlfndjgncdgfaaGreatDoor
namespace Go.Proofs.YtdlfndjgncdgfaaGreatDoor
open Go.ChangeShapes Go.WideShapes Go.ChangeAt Go.RowKit Go.Shelf

theorem ck_all {K : Act → World → Prop} {Q : Exit → Act → World → Prop} {c : Act} {w : World} {base S G k j n r : Nat} {nm : ByteArray} {ss : List (CRec × Value)} {es : List (SCho × Value)} {sa ea : Option Addr} {sc ec : Nat} {rt : Int}
    (hr : r < 12) (hc : CkS S G k j r n nm c) (h : CkW base S G k j ss es sa sc ea ec rt w) (hn : n ≤ 18446744073709551615) (hnm : nm.size ≤ 200) (hK : AfterCk K S base w) : Code.wp Tryz.prog ckSwitch (Exit.then K Q) c w := by
  have hrs : r = 0 ∨ r = 1 ∨ r = 2 ∨ r = 3 ∨ r = 4 ∨ r = 5 ∨ r = 6 ∨ r = 7 ∨ r = 8 ∨ r = 9 ∨ r = 10 ∨ r = 11 := by omega
  rcases hrs with rfl | rfl | rfl | rfl | rfl | rfl | rfl | rfl | rfl | rfl | rfl | rfl
  · exact ck_0 hc h hn hnm hK
  · exact ck_1 hc h hn hnm hK
  · exact ck_2 hc h hn hnm hK
  · exact ck_3 hc h hn hnm hK
  · exact ck_4 hc h hn hnm hK
  · exact ck_5 hc h hn hnm hK
  · exact ck_6 hc h hn hnm hK
  · exact ck_7 hc h hn hnm hK
  · exact ck_8 hc h hn hnm hK
  · exact ck_9 hc h hn hnm hK
  · exact ck_10 hc h hn hnm hK
  · exact ck_11 hc h hn hnm hK
end Go.Proofs.YtdlfndjgncdgfaaGreatDoor
