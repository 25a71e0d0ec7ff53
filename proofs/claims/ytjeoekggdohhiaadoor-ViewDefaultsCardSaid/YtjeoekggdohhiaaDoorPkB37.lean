/-
  The document's Default: of a struct in memory. Conditions: those that each theorem names.
-/
import Derived.Test.YtjeoekggdohhiaaDoorPkB15
import Derived.Test.YtjeoekggdohhiaaDoorPkB17
import Derived.Test.YtjeoekggdohhiaaDoorPkB20
import Derived.Test.YtjeoekggdohhiaaDoorPkB32
namespace Go.Proofs.YtjeoekggdohhiaaDoor
open Go.ChangeShapes Go.WideShapes Go.ChangeAt Go.RowKit Go.Shelf

theorem SmallV.kids {x : PV} (h : SmallV x) : x.bytes.length ≤ 100 ∧ x.kids.length ≤ 100 ∧ ∀ q ∈ x.kids, SmallV q := by
  cases h with
  | mk n bs ks h hb hk hs => exact ⟨hb, hk, hs⟩
theorem SmallV.kid {x : PV} (h : SmallV x) (i : Int) : SmallV (kidP x i) := by
  by_cases h0 : 0 ≤ i ∧ i < (x.kids.length : Int)
  · obtain ⟨j, rfl⟩ := Int.eq_ofNat_of_zero_le h0.1
    rw [kidP_at x j (by omega)]
    exact h.kids.2.2 _ (List.getElem_mem _)
  · rw [kidP_no x i h0]
    exact smallV_nil
end Go.Proofs.YtjeoekggdohhiaaDoor
namespace Go.Proofs.YtjeoekggdohhiaaDoor
open Go.ChangeShapes Go.WideShapes Go.ChangeAt Go.RowKit Go.Shelf

theorem isV_own {W : World} {base n cap : Nat} {A : Option Addr} (l : List Nat) (h : W.ownsRow base 36 4 (.slice A n cap) n (rowN l)) (hn : ∀ m ∈ l, m ≤ 18446744073709551615) (hl : n = l.length) :
    IsV W (structV l) (.agg #[.int .u64 0, .slice none 0 0, .slice A n cap, .bool true]) := by
  have hcap := row_cap h
  have hfew := row_few h
  subst hl
  obtain ⟨kb, hkb⟩ : ∃ kb, l.length ≠ 0 → A = some ⟨kb, 0, none⟩ := by
    rcases h.2 with ⟨h1, h2⟩ | ⟨g, c, cur, h1, _⟩
    · exact ⟨0, fun hne => absurd h2 hne⟩
    · injection h1 with h1
      exact ⟨g, fun _ => h1⟩
  have hcell : ∀ i, i < l.length → ∀ j, j < 4 → W.cell? ⟨kb, 0 + i * 4 + j, none⟩ = (cellN (l.getD i 0))[j]? := fun i hi j hj => by
    obtain ⟨g, cc, hv, _, _, hc⟩ := row_el cellN 4 (fun _ => rfl) h i hi
    have hA := hkb (by omega)
    injection hv with hv
    rw [hA] at hv
    injection hv with hv
    injection hv with hv
    subst hv
    rw [Nat.zero_add, List.getD, List.getElem?_eq_getElem hi, Option.getD_some]
    exact hc j hj
  have h := IsV.mk (w := W) 0 [] (l.map numV) true none A 0 cap kb 0 (fun i => .int .u64 (l.getD i 0 : Nat)) (fun _ => .slice none 0 0) (fun _ => .slice none 0 0) (fun _ => .bool false) (by decide) (bytes_nil W) (Nat.le_refl _) (by decide) (by simpa using hcap) (by rw [List.length_map]; omega) (fun hne => hkb (by simpa using hne))
    (fun i hi => by
      rw [List.length_map] at hi
      exact ⟨hcell i hi 0 (by omega), hcell i hi 1 (by omega), hcell i hi 2 (by omega), hcell i hi 3 (by omega)⟩)
    (fun i hi => by
      rw [List.length_map] at hi
      rw [List.getElem_map, List.getD, List.getElem?_eq_getElem hi, Option.getD_some]
      exact isV_num W _ (hn _ (List.getElem_mem hi)))
  rw [List.length_map] at h
  exact h
theorem cell_other {W : World} {a b : Nat} {i j : Nat} {u : Value} (h : a ≠ b) : (W.setCell ⟨a, i, none⟩ u).cell? ⟨b, j, none⟩ = W.cell? ⟨b, j, none⟩ := World.cell?_of_block (w := W) (a := ⟨b, j, none⟩) (Below.heap_setCell _ _ _ _ (fun e => h e.symm))
theorem val_info4 : (Tryd.prog.info? 36).map (fun i => (i.zero, i.size, i.bytes)) = some (some (.agg #[.int .u64 0, .slice none 0 0, .slice none 0 0, .bool false]), 4, 64) := by kernel_rfl
def DRAt (D : Nat) (W1 : World) (fs : List CFld) (i : Value) (W : World) : Prop := ∃ (j : Nat) (A : Option Addr) (cap : Nat), j ≤ fs.length ∧ i = .int .i64 j ∧ Exc D W1.heap.size W1 W ∧ W.heap[D]? = some (.cells #[.int .u64 0, .slice none 0 0, .slice A j cap, .bool true] 36 (0, 0)) ∧ W.ownsRow W1.heap.size 36 4 (.slice A j cap) j (rowN ((fs.take j).map CFld.dflt))
set_option maxRecDepth 100000 in
set_option maxHeartbeats 16000000 in
theorem rdefault_any (w : World) {base : Nat} (name : ByteArray) (fs : List CFld) (fv : Value) (hf : w.ownsRow base 57 5 fv fs.length (cfldsCells fs)) (hfew : fs.length ≤ 1000000) (hd : ∀ f ∈ fs, f.dflt ≤ 18446744073709551615) :
    Calls Tryd.prog 19 #[.agg #[.string name, fv]] w fun e w' => (∃ val, e = .returned val ∧ IsV w' (structV (fs.map CFld.dflt)) val) ∧ Below w.heap.size w w' := by
  obtain ⟨fa, fc, rfl⟩ := ownsRow_form hf
  obtain ⟨hb, hq1, hq2⟩ := two_start w #[.string name, .slice fa fs.length fc] #[.int .u64 0, .slice none 0 0, .slice none 0 0, .bool false] 51 36
  have HB := Lib.hid hb
  have HQ1 := Lib.hid hq1
  have HQ2 := Lib.hid hq2
  have HROW := Lib.hid (row_keep hb hf)
  have HD := Lib.hid hd
  have HFW := Lib.hid hfew
  have HSZ : Hid (((w.alloc (.cells #[.string name, .slice fa fs.length fc] 51)).alloc (.cells #[.int .u64 0, .slice none 0 0, .slice none 0 0, .bool false] 36)).heap.size = w.heap.size + 2) := Lib.hid (by simp)
  clear hb hq1 hq2 hf hd hfew
  go_enter Tryd.func19, Tryd.ntmps19
  go_upto_region 1 with (fail)
  generalize (w.alloc (.cells #[.string name, .slice fa fs.length fc] 51)).alloc (.cells #[.int .u64 0, .slice none 0 0, .slice none 0 0, .bool false] 36) = W0 at *
  go_upto_region 2 with (fail)
  have hba : Below W0.heap.size W0 (W0.alloc (.cells #[.int .u64 0, .slice none 0 0, .slice none 0 0, .bool true] 36)) := (Below.refl _ _).alloc (Nat.le_refl _) _
  have HB1 := Lib.hid (HB.out.trans (hba.mono HB.out.size))
  have HQ11 := Lib.hid (blk_below HQ1.out hba (blk_lt HQ1.out))
  have HQ21 := Lib.hid (blk_below HQ2.out hba (blk_lt HQ2.out))
  have HROW1 := Lib.hid (row_keep hba HROW.out)
  have HKB := Lib.hid (heap_alloc_new W0 (.cells #[.int .u64 0, .slice none 0 0, .slice none 0 0, .bool true] 36))
  have HNE : Hid (Value.ownBlock (.slice fa fs.length fc) ≠ some W0.heap.size) := Lib.hid (fun h => by have h1 := (ownsRow_lt HROW.out _ h).2; omega)
  clear hba HB HQ1 HQ2 HROW
  generalize W0.alloc (.cells #[.int .u64 0, .slice none 0 0, .slice none 0 0, .bool true] 36) = W1 at *
  generalize W0.heap.size = D at *
  go_wp2_with fail
  go_loopw [4] (fun i wr => DRAt D W1 fs i wr) (fun i _ => fs.length - (intOf i).toNat)
  case atStart => exact ⟨0, none, 0, Nat.zero_le _, rfl, Exc.refl _ _ _, HKB.out, World.ownsRow_nil _ _ _ _⟩
  case round =>
    obtain ⟨j, A, cap, hj, rfl, hex, hrow, hown⟩ := hrel
    have HEX := Lib.hid hex
    have HRW := Lib.hid hrow
    have HOWN := Lib.hid hown
    clear hex hrow hown
    have hD1 := blk_lt HKB.out
    have hfw := HFW.out
    have HR1 := Lib.hid (blk_exc HQ11.out HEX.out (blk_lt HQ11.out) (by have := HSZ.out; omega))
    obtain ⟨_, r0, r1, _⟩ := blk2 HR1.out
    by_cases hjl : j < fs.length
    · have hji : (j : Int) < fs.length := by omega
      have hji0 : (0 : Int) ≤ (j : Int) := by omega
      obtain ⟨g, cc, hv, hcc, hgl, hcell⟩ := row_el cfldCells 5 (fun _ => rfl) (HEX.out.ownsRow HROW1.out HNE.out) j hjl
      obtain ⟨rfl, rfl⟩ := slice_inj hv
      obtain ⟨x, hx⟩ : ∃ x, fs[j] = x := ⟨_, rfl⟩
      have HX := Lib.hid hx
      rw [hx] at hcell
      have x0 : wr.cell? ⟨g, j * 5, none⟩ = some (.string x.name) := hcell 0 (by omega)
      have x1 : wr.cell? ⟨g, j * 5 + 1, none⟩ = some (.int .u8 x.kind) := hcell 1 (by omega)
      have x2 : wr.cell? ⟨g, j * 5 + 2, none⟩ = some (.int .i64 x.ref) := hcell 2 (by omega)
      have x3 : wr.cell? ⟨g, j * 5 + 3, none⟩ = some (.int .i64 x.lists) := hcell 3 (by omega)
      have x4 : wr.cell? ⟨g, j * 5 + 4, none⟩ = some (.int .u64 x.dflt) := hcell 4 (by omega)
      have hgD : D ≠ g := fun e => HNE.out (by rw [e]; rfl)
      have hg1 : g < W1.heap.size := (ownsRow_lt HROW1.out g rfl).2
      have hR1 : w.heap.size < W1.heap.size := blk_lt HQ11.out
      have hRD : D ≠ w.heap.size := by have := HSZ.out; omega
      obtain ⟨_, d0, d1, d2, d3⟩ := blk4p HRW.out
      clear hcell hv hx r0 d0 d1 d3
      have hkeep : ∀ W, Below wr.heap.size wr W → W.cell? ⟨w.heap.size, 1, none⟩ = some (.slice (some ⟨g, 0, none⟩) fs.length fc) ∧ W.cell? ⟨g, j * 5, none⟩ = some (.string x.name) ∧ W.cell? ⟨g, j * 5 + 1, none⟩ = some (.int .u8 x.kind) ∧ W.cell? ⟨g, j * 5 + 2, none⟩ = some (.int .i64 x.ref) ∧ W.cell? ⟨g, j * 5 + 3, none⟩ = some (.int .i64 x.lists) ∧ W.cell? ⟨g, j * 5 + 4, none⟩ = some (.int .u64 x.dflt) := fun W hb => ⟨cell_stays hb r1, cell_stays hb x0, cell_stays hb x1, cell_stays hb x2, cell_stays hb x3, cell_stays hb x4⟩
      have hkeep2 : ∀ W, Below wr.heap.size wr W → ∀ u, (W.setCell ⟨D, 2, none⟩ u).cell? ⟨w.heap.size, 1, none⟩ = some (.slice (some ⟨g, 0, none⟩) fs.length fc) ∧ (W.setCell ⟨D, 2, none⟩ u).cell? ⟨g, j * 5, none⟩ = some (.string x.name) ∧ (W.setCell ⟨D, 2, none⟩ u).cell? ⟨g, j * 5 + 1, none⟩ = some (.int .u8 x.kind) ∧ (W.setCell ⟨D, 2, none⟩ u).cell? ⟨g, j * 5 + 2, none⟩ = some (.int .i64 x.ref) ∧ (W.setCell ⟨D, 2, none⟩ u).cell? ⟨g, j * 5 + 3, none⟩ = some (.int .i64 x.lists) ∧ (W.setCell ⟨D, 2, none⟩ u).cell? ⟨g, j * 5 + 4, none⟩ = some (.int .u64 x.dflt) := fun W hb u => by
        obtain ⟨a0, a1, a2, a3, a4, a5⟩ := hkeep W hb
        exact ⟨(cell_other hRD).trans a0, (cell_other hgD).trans a1, (cell_other hgD).trans a2, (cell_other hgD).trans a3, (cell_other hgD).trans a4, (cell_other hgD).trans a5⟩
      have hkeepV : ∀ W, Below wr.heap.size wr W → W.cell? ⟨D, 2, none⟩ = some (.slice A j cap) := fun W hb => cell_stays hb d2
      obtain ⟨i0, hi0, hzz0, hzz1, hzz2⟩ := info_parts val_info4
      have TAIL := Lib.hid (show ∀ V B, Below wr.heap.size wr V → V.heap[B]? = some (.cells #[.int .u64 (x.dflt : Nat), .slice none 0 0, .slice none 0 0, .bool false] 36 (0, 0)) → ∃ (a4 : Option Addr) (c4 : Nat) (V' : World), (Builtin.append_ #[34, 34] 34 #[.slice A j cap, .slice (some ⟨B, 0, none⟩) 1 1]).run Tryd.prog V = .ok (.slice a4 (j + 1) c4) V' ∧ Exc D W1.heap.size W1 V' ∧ V'.heap[D]? = some (.cells #[.int .u64 0, .slice none 0 0, .slice A j cap, .bool true] 36 (0, 0)) ∧ V'.ownsRow W1.heap.size 36 4 (.slice a4 (j + 1) c4) (j + 1) (rowN ((fs.take (j + 1)).map CFld.dflt)) ∧ (∀ (q : Addr) (u : Value), q.block < W1.heap.size → wr.cell? q = some u → V'.cell? q = some u) from fun V B hb hn => by
        have hew := HEX.out.bel (Nat.le_refl _) hb
        obtain ⟨v4, V', hrun, hown, hgrow, _⟩ := run_append_own (P := Tryd.prog) V W1.heap.size 34 34 36 i0 _ 4 64 Tryd.underlying34 hi0 hzz0 hzz1 hzz2 rfl (by decide) _ j _ (row_keep hb HOWN.out) ⟨B, 0, none⟩ 1 1 (cellN x.dflt) rfl (World.news_of_block hn) (by intro u hu; simp [cellN] at hu; rcases hu with rfl | rfl | rfl <;> rfl) (by unfold maxLen; have := HFW.out; omega) (by have := HFW.out; omega) hew.size
        obtain ⟨a4, c4, rfl⟩ := ownsRow_form hown
        have hew2 := hew.grown hgrow hew.size (fun k hk => .inl (ownsRow_lt HOWN.out k hk).1)
        have hDo : Value.ownBlock (.slice A j cap) ≠ some D := fun h => by have h1 := (ownsRow_lt HOWN.out _ h).1; omega
        refine ⟨a4, c4, V', hrun, hew2, ?_, ?_, fun q u hq hu => ?_⟩
        · have h1 := blk_below HRW.out hb (blk_lt HRW.out)
          exact (hgrow.block D (blk_lt h1) (fun e => hDo e.symm)).trans h1
        · rw [List.take_succ_eq_append_getElem hjl, HX.out, List.map_append]
          have e : rowN ((fs.take j).map CFld.dflt ++ [x].map CFld.dflt) = rowN ((fs.take j).map CFld.dflt) ++ cellN x.dflt := by simp [rowN]
          rw [e]
          exact hown
        · have h1 := cell_stays hb hu
          exact (World.cell?_of_block (w := V) (a := q) (hgrow.block q.block (World.block_lt_of_cell? _ _ h1) (fun e => by have h2 := (ownsRow_lt HOWN.out _ e.symm).1; omega))).trans h1)
      clear hi0 hzz0 hzz1 hzz2
      go_upto_region 5 with (fail)
      clear r1 x0 x1 x2 x3 x4 d2
      refine wp_region_noPanic ?_
      refine till_start 11 (fun w' => w'.cell? ⟨w.heap.size, 1, none⟩ = some (.slice (some ⟨g, 0, none⟩) fs.length fc) ∧ w'.cell? ⟨g, j * 5, none⟩ = some (.string x.name) ∧ w'.cell? ⟨g, j * 5 + 1, none⟩ = some (.int .u8 x.kind) ∧ w'.cell? ⟨g, j * 5 + 2, none⟩ = some (.int .i64 x.ref) ∧ w'.cell? ⟨g, j * 5 + 3, none⟩ = some (.int .i64 x.lists) ∧ w'.cell? ⟨g, j * 5 + 4, none⟩ = some (.int .u64 x.dflt)) (fun w' => w'.cell? ⟨D, 2, none⟩ = some (.slice A j cap)) (by kernel_rfl) ?_
      have HB0 := Lib.hid ((Below.refl wr.heap.size wr).drew)
      generalize wr.drew = V0 at *
      have hU := hkeep V0 HB0.out
      have hV := hkeepV V0 HB0.out
      refine till_take (i := 0) (v := .pointer (some ⟨D, 2, none⟩)) rfl (by kernel_rfl) (by kernel_rfl) (by kernel_rfl) (by kernel_rfl) (by kernel_rfl) (fun _ _ _ h => h) (Or.inl ⟨by rfl, ?_⟩) hU hV ?_
      · intro w' hSw
        obtain ⟨⟨s0, s1, s2, s3, s4, s5⟩, t0⟩ := hSw
        go_simp
      simp only [Act.put, List.getElem_toArray, List.getElem_cons_zero, List.setIfInBounds_toArray, List.set_cons_zero, List.set_cons_succ]
      refine till_take (i := 1) (v := .slice A j cap) rfl (by kernel_rfl) (by kernel_rfl) (by kernel_rfl) (by kernel_rfl) (by kernel_rfl) (fun _ _ _ h => h) (Or.inl ⟨by rfl, ?_⟩) hU hV ?_
      · intro w' hSw
        obtain ⟨⟨s0, s1, s2, s3, s4, s5⟩, t0⟩ := hSw
        go_simp
      simp only [Act.put, List.getElem_toArray, List.getElem_cons_succ, List.getElem_cons_zero, List.setIfInBounds_toArray, List.set_cons_zero, List.set_cons_succ]
      refine till_take (i := 2) (v := .pointer (some ⟨w.heap.size, 1, none⟩)) rfl (by kernel_rfl) (by kernel_rfl) (by kernel_rfl) (by kernel_rfl) (by kernel_rfl) (fun _ _ _ h => h) (Or.inl ⟨by rfl, ?_⟩) hU hV ?_
      · intro w' hSw
        obtain ⟨⟨s0, s1, s2, s3, s4, s5⟩, t0⟩ := hSw
        go_simp
      simp only [Act.put, List.getElem_toArray, List.getElem_cons_succ, List.getElem_cons_zero, List.setIfInBounds_toArray, List.set_cons_zero, List.set_cons_succ]
      refine till_take (i := 3) (v := .slice (some ⟨g, 0, none⟩) fs.length fc) rfl (by kernel_rfl) (by kernel_rfl) (by kernel_rfl) (by kernel_rfl) (by kernel_rfl) (fun _ _ _ h => h) (Or.inl ⟨by rfl, ?_⟩) hU hV ?_
      · intro w' hSw
        obtain ⟨⟨s0, s1, s2, s3, s4, s5⟩, t0⟩ := hSw
        go_simp
      simp only [Act.put, List.getElem_toArray, List.getElem_cons_succ, List.getElem_cons_zero, List.setIfInBounds_toArray, List.set_cons_zero, List.set_cons_succ]
      refine till_take (i := 4) (v := .int .i64 j) rfl (by kernel_rfl) (by kernel_rfl) (by kernel_rfl) (by kernel_rfl) (by kernel_rfl) (fun _ _ _ h => h) (Or.inl ⟨by rfl, ?_⟩) hU hV ?_
      · intro w' hSw
        obtain ⟨⟨s0, s1, s2, s3, s4, s5⟩, t0⟩ := hSw
        go_simp
      simp only [Act.put, List.getElem_toArray, List.getElem_cons_succ, List.getElem_cons_zero, List.setIfInBounds_toArray, List.set_cons_zero, List.set_cons_succ]
      refine till_take (i := 5) (v := .pointer (some ⟨g, j * 5, none⟩)) rfl (by kernel_rfl) (by kernel_rfl) (by kernel_rfl) (by kernel_rfl) (by kernel_rfl) (fun _ _ _ h => h) (Or.inl ⟨by rfl, ?_⟩) hU hV ?_
      · intro w' hSw
        obtain ⟨⟨s0, s1, s2, s3, s4, s5⟩, t0⟩ := hSw
        go_simp
      simp only [Act.put, List.getElem_toArray, List.getElem_cons_succ, List.getElem_cons_zero, List.setIfInBounds_toArray, List.set_cons_zero, List.set_cons_succ]
      refine till_take (i := 6) (v := .agg #[.string x.name, .int .u8 x.kind, .int .i64 x.ref, .int .i64 x.lists, .int .u64 x.dflt]) rfl (by kernel_rfl) (by kernel_rfl) (by kernel_rfl) (by kernel_rfl) (by kernel_rfl) (fun _ _ _ h => h) (Or.inl ⟨by rfl, ?_⟩) hU hV ?_
      · intro w' hSw
        obtain ⟨⟨s0, s1, s2, s3, s4, s5⟩, t0⟩ := hSw
        go_simp
      simp only [Act.put, List.getElem_toArray, List.getElem_cons_succ, List.getElem_cons_zero, List.setIfInBounds_toArray, List.set_cons_zero, List.set_cons_succ]
      refine till_one (i := 7) (by kernel_rfl) rfl (fun K hK => ?_)
      rw [if_pos (by kernel_rfl)]
      go_simp
      refine (nothing_any V0 x.name x.kind x.ref x.lists x.dflt).mono ?_
      rintro e V1 ⟨rfl, hb1⟩
      have HV1 := Lib.hid (HB0.out.trans (hb1.mono HB0.out.size))
      refine hK.out _ _ (hkeep _ HV1.out) (hkeepV _ HV1.out) ?_
      clear hb1 hU hV
      have hU := hkeep V1 HV1.out
      have hV := hkeepV V1 HV1.out
      refine till_one (i := 8) (by kernel_rfl) rfl (fun K hK => ?_)
      rw [if_pos (by kernel_rfl)]
      go_simp
      have hs : Below V1.heap.size V1 (V1.alloc (.cells #[.int .u64 (x.dflt : Nat), .slice none 0 0, .slice none 0 0, .bool false] 36)) := (Below.refl _ _).alloc (Nat.le_refl _) _
      have HB2 := Lib.hid (HV1.out.trans (hs.mono HV1.out.size))
      have HN := Lib.hid (heap_alloc_new V1 (.cells #[.int .u64 (x.dflt : Nat), .slice none 0 0, .slice none 0 0, .bool false] 36))
      refine hK.out _ _ (hkeep _ HB2.out) (hkeepV _ HB2.out) ?_
      clear hs hU hV
      generalize V1.alloc (.cells #[.int .u64 (x.dflt : Nat), .slice none 0 0, .slice none 0 0, .bool false] 36) = V2 at *
      generalize V1.heap.size = B at *
      have hU := hkeep V2 HB2.out
      have hV := hkeepV V2 HB2.out
      obtain ⟨a4, c4, V3, hrun, hex3, hrw3, hown3, hcl3⟩ := TAIL.out V2 B HB2.out HN.out
      have HEX3 := Lib.hid hex3
      have HRW3 := Lib.hid hrw3
      have HOWN3 := Lib.hid hown3
      have hU3 : V3.cell? ⟨w.heap.size, 1, none⟩ = some (.slice (some ⟨g, 0, none⟩) fs.length fc) ∧ V3.cell? ⟨g, j * 5, none⟩ = some (.string x.name) ∧ V3.cell? ⟨g, j * 5 + 1, none⟩ = some (.int .u8 x.kind) ∧ V3.cell? ⟨g, j * 5 + 2, none⟩ = some (.int .i64 x.ref) ∧ V3.cell? ⟨g, j * 5 + 3, none⟩ = some (.int .i64 x.lists) ∧ V3.cell? ⟨g, j * 5 + 4, none⟩ = some (.int .u64 x.dflt) := by
        obtain ⟨a0, a1, a2, a3, a4, a5⟩ := hkeep wr (Below.refl _ _)
        exact ⟨hcl3 _ _ hR1 a0, hcl3 _ _ hg1 a1, hcl3 _ _ hg1 a2, hcl3 _ _ hg1 a3, hcl3 _ _ hg1 a4, hcl3 _ _ hg1 a5⟩
      obtain ⟨_, m0, m1, m2, m3⟩ := blk4p hrw3
      have mf := blk_frozen hrw3 2
      have hU4 : ∀ u, (V3.setCell ⟨D, 2, none⟩ u).cell? ⟨w.heap.size, 1, none⟩ = some (.slice (some ⟨g, 0, none⟩) fs.length fc) ∧ (V3.setCell ⟨D, 2, none⟩ u).cell? ⟨g, j * 5, none⟩ = some (.string x.name) ∧ (V3.setCell ⟨D, 2, none⟩ u).cell? ⟨g, j * 5 + 1, none⟩ = some (.int .u8 x.kind) ∧ (V3.setCell ⟨D, 2, none⟩ u).cell? ⟨g, j * 5 + 2, none⟩ = some (.int .i64 x.ref) ∧ (V3.setCell ⟨D, 2, none⟩ u).cell? ⟨g, j * 5 + 3, none⟩ = some (.int .i64 x.lists) ∧ (V3.setCell ⟨D, 2, none⟩ u).cell? ⟨g, j * 5 + 4, none⟩ = some (.int .u64 x.dflt) := fun u => by
        obtain ⟨a0, a1, a2, a3, a4, a5⟩ := hU3
        exact ⟨(cell_other hRD).trans a0, (cell_other hgD).trans a1, (cell_other hgD).trans a2, (cell_other hgD).trans a3, (cell_other hgD).trans a4, (cell_other hgD).trans a5⟩
      clear hU hV hex3 hrw3 hown3 hcl3 m0 m1 m3
      refine till_one (i := 9) (by kernel_rfl) rfl (fun K hK => ?_)
      rw [if_pos (by kernel_rfl)]
      refine wp_append_run _ (.tmp 14) (.tmp 21) 34 rfl _ _ _ _ rfl rfl hrun ?_
      refine hK.out _ _ hU3 m2 ?_
      clear hrun
      have hU := hU3
      have hV := m2
      refine till_take (i := 10) (v := .pointer (some ⟨D, 2, none⟩)) rfl (by kernel_rfl) (by kernel_rfl) (by kernel_rfl) (by kernel_rfl) (by kernel_rfl) (fun _ _ _ h => h) (Or.inl ⟨by rfl, ?_⟩) hU hV ?_
      · intro w' hSw
        obtain ⟨⟨s0, s1, s2, s3, s4, s5⟩, t0⟩ := hSw
        go_simp
      simp only [Act.put, List.getElem_toArray, List.getElem_cons_succ, List.getElem_cons_zero, List.setIfInBounds_toArray, List.set_cons_zero, List.set_cons_succ]
      refine till_last (by kernel_rfl) rfl (fun K hK => ?_)
      rw [if_pos (by kernel_rfl)]
      go_simp
      refine hK.out _ _ (hU4 _) ?_
      refine till_done (by kernel_rfl) ?_ _
      refine NoPanic.normal ?_
      try simp only [Exit.inBlock, Exit.then]
      go_wp2
      go_roundw
      case rel =>
        refine ⟨j + 1, a4, c4, by omega, by go_num, HEX3.out.setCell (p := ⟨D, 2, none⟩) (.inl rfl) _, ?_, ?_⟩
        · exact (blk_set HRW3.out 2 (.slice a4 (j + 1) c4)).trans rfl
        · exact ownsRow_setCell_below (a := ⟨D, 2, none⟩) HOWN3.out (by show D < W1.heap.size; omega) (.slice a4 (j + 1) c4)
      case measure => simp [intOf]; omega
    · obtain rfl : j = fs.length := by omega
      have HQ22 := Lib.hid (blk_exc HQ21.out HEX.out (blk_lt HQ21.out) (by have := HSZ.out; omega))
      obtain ⟨_, z0, z1, z2, z3⟩ := blk4p HQ22.out
      have z4 := blk_frozen HQ22.out 0
      have z5 := blk_frozen HQ22.out 1
      have z6 := blk_frozen HQ22.out 2
      have z7 := blk_frozen HQ22.out 3
      obtain ⟨_, d0, d1, d2, d3⟩ := blk4p HRW.out
      have HBE := Lib.hid (HB1.out.trans ((HEX.out.mono (Nat.le_trans HB1.out.size (Nat.le_refl _))).below (by have := HSZ.out; omega)))
      have HR2 : Hid (wr.ownsRow W1.heap.size 36 4 (.slice A fs.length cap) fs.length (rowN (fs.map CFld.dflt))) := Lib.hid (by have h := HOWN.out; rw [List.take_length] at h; exact h)
      have HBND := Lib.hid (blk_lt HQ21.out)
      have hlt : ¬ (fs.length : Int) < fs.length := Int.lt_irrefl _
      go_wp2
      refine post_gen (fun Wf => Wf.heap[w.heap.size + 1]? = some (.cells #[.int .u64 0, .slice none 0 0, .slice A fs.length cap, .bool true] 36 (0, 0)) ∧ Below w.heap.size w Wf ∧ IsV Wf (structV (fs.map CFld.dflt)) (.agg #[.int .u64 0, .slice none 0 0, .slice A fs.length cap, .bool true])) ⟨?_, ?_, ?_⟩ ?_
      · exact blk_set4 HQ22.out _ _ _ _
      · exact below_set4 HBE.out (Nat.le_succ _) _ _ _ _
      · exact isV_own (fs.map CFld.dflt) (own_set4 HR2.out HBND.out _ _ _ _) (fun n hn => by obtain ⟨f, hf, rfl⟩ := List.mem_map.1 hn; exact HD.out f hf) (by rw [List.length_map])
      · rintro Wf ⟨e1, e2, e3⟩
        obtain ⟨_, d0, d1, d2, d3⟩ := blk4p e1
        exact bodyPost_ret (v := .agg #[.int .u64 0, .slice none 0 0, .slice A fs.length cap, .bool true]) (by simp [results, Tryd.results19, go_sem, d0, d1, d2, d3]) rfl ⟨⟨_, rfl, e3⟩, e2⟩
end Go.Proofs.YtjeoekggdohhiaaDoor
