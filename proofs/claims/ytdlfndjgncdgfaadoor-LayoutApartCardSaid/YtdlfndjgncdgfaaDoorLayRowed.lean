/-
  The package layout's Rowed. Conditions: those that each theorem names.
-/
import Derived.Test.YtdlfndjgncdgfaaDoorLayRP
import Derived.Test.YtdlfndjgncdgfaaDoorLayApp
import Derived.Deep.Cut
import Derived.Deep.RegionLaw
import Derived.Deep.RegionHeld3
import Derived.Deep.AppendLies
namespace Go.Proofs.YtdlfndjgncdgfaaDoor
open Go.ChangeShapes Go.WideShapes Go.ChangeAt Go.RowKit Go.Shelf

theorem blk_set4 {w : World} {g : Nat} {x y z u : Value} {t : TypeId} (h : w.heap[g]? = some (.cells #[x, y, z, u] t (0, 0))) (x' y' z' u' : Value) :
    ((((w.setCell ⟨g, 0, none⟩ x').setCell ⟨g, 1, none⟩ y').setCell ⟨g, 2, none⟩ z').setCell ⟨g, 3, none⟩ u').heap[g]? = some (.cells #[x', y', z', u'] t (0, 0)) :=
  (blk_set (blk_set (blk_set (blk_set h 0 x') 1 y') 2 z') 3 u').trans rfl
/-- The memory of Rowed: the struct's record, the result, the places, the Block that is made, its lists. -/
structure RoM (w : World) (nm fv : Value) (n : Nat) (st : RowSt) (gv bv : Value) (W : World) : Prop where
  bel : Below w.heap.size w W
  rc : W.heap[w.heap.size]? = some (.cells #[nm, fv] 35 (0, 0))
  res : W.heap[w.heap.size + 1]? = some (.cells #[.int .i64 0, .slice none 0 0, .slice none 0 0, .slice none 0 0] 41 (0, 0))
  row : W.heap[w.heap.size + 1 + 1]? = some (.cells (i64Cells st.pl).toArray 3 (0, 0))
  bk : W.heap[w.heap.size + 1 + 1 + 1]? = some (.cells #[.int .i64 st.size, .slice (some ⟨w.heap.size + 1 + 1, 0, none⟩) n n, gv, bv] 41 (0, 0))
  gr : W.ownsRow (w.heap.size + 4) 3 1 gv st.gr.length (i64Cells st.gr)
  bt : W.ownsRow (w.heap.size + 4) 3 1 bv st.bt.length (i64Cells st.bt)
  apart : ∀ k, gv.ownBlock = some k → bv.ownBlock ≠ some k
theorem RoM.later {w W W' : World} {nm fv gv bv : Value} {n : Nat} {st : RowSt} (h : RoM w nm fv n st gv bv W) (hb : Below W.heap.size W W') : RoM w nm fv n st gv bv W' :=
  ⟨h.bel.trans (hb.mono h.bel.size), blk_below h.rc hb (blk_lt h.rc), blk_below h.res hb (blk_lt h.res), blk_below h.row hb (blk_lt h.row), blk_below h.bk hb (blk_lt h.bk), row_keep hb h.gr, row_keep hb h.bt, h.apart⟩
theorem RoM.drew {w W : World} {nm fv gv bv : Value} {n : Nat} {st : RowSt} (h : RoM w nm fv n st gv bv W) : RoM w nm fv n st gv bv W.drew :=
  ⟨h.bel.drew, h.rc, h.res, h.row, h.bk, h.gr, h.bt, h.apart⟩
theorem row_set {W : World} {base : Nat} {e : TypeId} {s : Nat} {v : Value} {n : Nat} {xs : List Value} (h : W.ownsRow base e s v n xs) {p : Addr} (hp : p.block < base) (u : Value) : (W.setCell p u).ownsRow base e s v n xs := by
  obtain ⟨hl, h'⟩ := h
  refine ⟨hl, ?_⟩
  rcases h' with h1 | ⟨g', cap', cur, rfl, h1, hg', h2⟩
  · exact .inl h1
  · exact .inr ⟨g', cap', cur, rfl, h1, blk_set_ne hg' (by omega) u, h2⟩
/-- A number's place is written, and the size. -/
theorem RoM.num {w W : World} {nm fv gv bv : Value} {n : Nat} {st : RowSt} (h : RoM w nm fv n st gv bv W) (k : Nat) (z : Int) : RoM w nm fv n ⟨st.pl.set k st.size, z, st.gr, st.bt⟩ gv bv ((W.setCell ⟨w.heap.size + 1 + 1, k, none⟩ (.int .i64 st.size)).setCell ⟨w.heap.size + 1 + 1 + 1, 0, none⟩ (.int .i64 z)) where
  bel := (h.bel.setCell (p := ⟨w.heap.size + 1 + 1, k, none⟩) (by show w.heap.size ≤ w.heap.size + 1 + 1; omega) _).setCell (p := ⟨w.heap.size + 1 + 1 + 1, 0, none⟩) (by show w.heap.size ≤ w.heap.size + 1 + 1 + 1; omega) _
  rc := blk_set_ne (blk_set_ne h.rc (by show w.heap.size + 1 + 1 ≠ _; omega) _) (by show w.heap.size + 1 + 1 + 1 ≠ _; omega) _
  res := blk_set_ne (blk_set_ne h.res (by show w.heap.size + 1 + 1 ≠ _; omega) _) (by show w.heap.size + 1 + 1 + 1 ≠ _; omega) _
  row := blk_set_ne ((blk_set h.row k _).trans (by rw [i64_set])) (by show w.heap.size + 1 + 1 + 1 ≠ _; omega) _
  bk := (blk_set (blk_set_ne h.bk (by show w.heap.size + 1 + 1 ≠ _; omega) _) 0 _).trans rfl
  gr := row_set (row_set h.gr (by show w.heap.size + 1 + 1 < _; omega) _) (by show w.heap.size + 1 + 1 + 1 < _; omega) _
  bt := row_set (row_set h.bt (by show w.heap.size + 1 + 1 < _; omega) _) (by show w.heap.size + 1 + 1 + 1 < _; omega) _
  apart := h.apart
theorem own_far {v v' u : Value} {m : Nat} (h : v'.ownBlock = v.ownBlock ∨ ∀ k, v'.ownBlock = some k → m ≤ k) (hv : ∀ k, v.ownBlock = some k → u.ownBlock ≠ some k) (hu : ∀ k, u.ownBlock = some k → k < m) : ∀ k, v'.ownBlock = some k → u.ownBlock ≠ some k := by
  intro k hk he
  rcases h with h | h
  · exact hv k (h.symm.trans hk) he
  · have h1 := h k hk
    have h2 := hu k he
    omega
/-- A group is put behind the others. -/
theorem RoM.group {w W Wa W2 : World} {nm fv gv bv gv' : Value} {n m : Nat} {st : RowSt} {z : Int} (h : RoM w nm fv n st gv bv W) (ha : Below W.heap.size W Wa) (hm : W.heap.size ≤ m) (ho : W2.ownsRow (w.heap.size + 4) 3 1 gv' (st.gr.length + 1) (i64Cells st.gr ++ [.int .i64 z])) (hg : Wa.grownBy W2 gv.ownBlock) (hx : gv'.ownBlock = gv.ownBlock ∨ ∀ k, gv'.ownBlock = some k → m ≤ k) :
    RoM w nm fv n ⟨st.pl, st.size, st.gr ++ [z], st.bt⟩ gv' bv (W2.setCell ⟨w.heap.size + 1 + 1 + 1, 2, none⟩ gv') := by
  have hlow : ∀ k, gv.ownBlock = some k → w.heap.size + 4 ≤ k := fun k hk => (ownsRow_lt h.gr k hk).1
  have h1 := h.later ha
  have hsz := ha.size
  have keep : ∀ {g : Nat} {o : Obj}, g < w.heap.size + 4 → Wa.heap[g]? = some o → W2.heap[g]? = some o := fun hlt ho => (hg.block _ (blk_lt ho) (fun e => by have := hlow _ e.symm; omega)).trans ho
  have hbb := (h1.bel.grown hg (by have := h1.bel.size; omega) (fun k hk => by have := hlow k hk; omega))
  refine ⟨hbb.setCell (p := ⟨w.heap.size + 1 + 1 + 1, 2, none⟩) (by show w.heap.size ≤ w.heap.size + 1 + 1 + 1; omega) _, ?_, ?_, ?_, ?_, ?_, ?_, ?_⟩
  · exact blk_set_ne (keep (by omega) h1.rc) (by show w.heap.size + 1 + 1 + 1 ≠ _; omega) _
  · exact blk_set_ne (keep (by omega) h1.res) (by show w.heap.size + 1 + 1 + 1 ≠ _; omega) _
  · exact blk_set_ne (keep (by omega) h1.row) (by show w.heap.size + 1 + 1 + 1 ≠ _; omega) _
  · exact (blk_set (keep (by omega) h1.bk) 2 _).trans rfl
  · refine row_set ?_ (by show w.heap.size + 1 + 1 + 1 < _; omega) _
    rw [i64Cells_snoc, List.length_append]
    exact ho
  · exact row_set (row_grown hg h1.bt (fun k hk he => h.apart k he hk)) (by show w.heap.size + 1 + 1 + 1 < _; omega) _
  · exact own_far hx h.apart (fun k hk => Nat.lt_of_lt_of_le (ownsRow_lt h.bt k hk).2 hm)
/-- Bytes are put behind the others. -/
theorem RoM.byte {w W Wa W2 : World} {nm fv gv bv bv' : Value} {n m : Nat} {st : RowSt} {z : Int} (h : RoM w nm fv n st gv bv W) (ha : Below W.heap.size W Wa) (hm : W.heap.size ≤ m) (ho : W2.ownsRow (w.heap.size + 4) 3 1 bv' (st.bt.length + 1) (i64Cells st.bt ++ [.int .i64 z])) (hg : Wa.grownBy W2 bv.ownBlock) (hx : bv'.ownBlock = bv.ownBlock ∨ ∀ k, bv'.ownBlock = some k → m ≤ k) :
    RoM w nm fv n ⟨st.pl, st.size, st.gr, st.bt ++ [z]⟩ gv bv' (W2.setCell ⟨w.heap.size + 1 + 1 + 1, 3, none⟩ bv') := by
  have hlow : ∀ k, bv.ownBlock = some k → w.heap.size + 4 ≤ k := fun k hk => (ownsRow_lt h.bt k hk).1
  have h1 := h.later ha
  have hsz := ha.size
  have keep : ∀ {g : Nat} {o : Obj}, g < w.heap.size + 4 → Wa.heap[g]? = some o → W2.heap[g]? = some o := fun hlt ho => (hg.block _ (blk_lt ho) (fun e => by have := hlow _ e.symm; omega)).trans ho
  have hbb := (h1.bel.grown hg (by have := h1.bel.size; omega) (fun k hk => by have := hlow k hk; omega))
  refine ⟨hbb.setCell (p := ⟨w.heap.size + 1 + 1 + 1, 3, none⟩) (by show w.heap.size ≤ w.heap.size + 1 + 1 + 1; omega) _, ?_, ?_, ?_, ?_, ?_, ?_, ?_⟩
  · exact blk_set_ne (keep (by omega) h1.rc) (by show w.heap.size + 1 + 1 + 1 ≠ _; omega) _
  · exact blk_set_ne (keep (by omega) h1.res) (by show w.heap.size + 1 + 1 + 1 ≠ _; omega) _
  · exact blk_set_ne (keep (by omega) h1.row) (by show w.heap.size + 1 + 1 + 1 ≠ _; omega) _
  · exact (blk_set (keep (by omega) h1.bk) 3 _).trans rfl
  · exact row_set (row_grown hg h1.gr h.apart) (by show w.heap.size + 1 + 1 + 1 < _; omega) _
  · refine row_set ?_ (by show w.heap.size + 1 + 1 + 1 < _; omega) _
    rw [i64Cells_snoc, List.length_append]
    exact ho
  · intro k hk he
    exact own_far hx (fun q hq hp => h.apart q hp hq) (fun q hq => Nat.lt_of_lt_of_le (ownsRow_lt h.gr q hq).2 hm) k he hk
theorem RoM.bk_gr {w W Wa W2 : World} {nm fv gv bv : Value} {n : Nat} {st : RowSt} (h : RoM w nm fv n st gv bv W) (ha : Below W.heap.size W Wa) (hg : Wa.grownBy W2 gv.ownBlock ∨ Wa.grownBy W2 bv.ownBlock) : W2.heap[w.heap.size + 1 + 1 + 1]? = some (.cells #[.int .i64 st.size, .slice (some ⟨w.heap.size + 1 + 1, 0, none⟩) n n, gv, bv] 41 (0, 0)) := by
  have h1 := h.later ha
  rcases hg with hg | hg
  · exact (hg.block _ (blk_lt h1.bk) (fun e => by have := (ownsRow_lt h.gr _ e.symm).1; omega)).trans h1.bk
  · exact (hg.block _ (blk_lt h1.bk) (fun e => by have := (ownsRow_lt h.bt _ e.symm).1; omega)).trans h1.bk
theorem RoM.start (w : World) (nm fv : Value) (fs : List SFld) : RoM w nm fv fs.length (rowUp fs 0) (.slice none 0 0) (.slice none 0 0) ((((w.alloc (.cells #[nm, fv] 35)).alloc (.cells #[.int .i64 0, .slice none 0 0, .slice none 0 0, .slice none 0 0] 41)).alloc (.cells (i64Cells (List.replicate fs.length 0)).toArray 3)).alloc (.cells #[.int .i64 0, .slice (some ⟨w.heap.size + 1 + 1, 0, none⟩) fs.length fs.length, .slice none 0 0, .slice none 0 0] 41)) := by
  refine ⟨((((Below.refl _ _).alloc (Nat.le_refl _) _).alloc (by simp) _).alloc (by simp; omega) _).alloc (by simp; omega) _, ?_, ?_, ?_, ?_, World.ownsRow_nil _ _ _ _, World.ownsRow_nil _ _ _ _, fun k hk => by simp [Value.ownBlock] at hk⟩
  · exact blk_alloc (blk_alloc (blk_alloc (heap_alloc_new w _) _) _) _
  · have h := heap_alloc_new (w.alloc (.cells #[nm, fv] 35)) (.cells #[.int .i64 0, .slice none 0 0, .slice none 0 0, .slice none 0 0] 41)
    rw [World.size_alloc] at h
    exact blk_alloc (blk_alloc h _) _
  · have h := heap_alloc_new ((w.alloc (.cells #[nm, fv] 35)).alloc (.cells #[.int .i64 0, .slice none 0 0, .slice none 0 0, .slice none 0 0] 41)) (.cells (i64Cells (List.replicate fs.length 0)).toArray 3)
    rw [World.size_alloc, World.size_alloc] at h
    exact blk_alloc h _
  · have h := heap_alloc_new (((w.alloc (.cells #[nm, fv] 35)).alloc (.cells #[.int .i64 0, .slice none 0 0, .slice none 0 0, .slice none 0 0] 41)).alloc (.cells (i64Cells (List.replicate fs.length 0)).toArray 3)) (.cells #[.int .i64 0, .slice (some ⟨w.heap.size + 1 + 1, 0, none⟩) fs.length fs.length, .slice none 0 0, .slice none 0 0] 41)
    rw [World.size_alloc, World.size_alloc, World.size_alloc] at h
    exact h
/-- Where the loop of Rowed is. -/
def RoAt (w : World) (nm fv : Value) (fs : List SFld) (i : Value) (W : World) : Prop :=
  ∃ (k : Nat) (gv bv : Value), k ≤ fs.length ∧ i = .int .i64 k ∧ RoM w nm fv fs.length (rowUp fs k) gv bv W
/-- What Rowed hands back. -/
def RoPost (fs : List SFld) (w : World) (e : Ending) (w' : World) : Prop :=
  ∃ v gv bv, e = .returned (.agg #[.int .i64 (rowUp fs fs.length).size, v, gv, bv]) ∧ w'.ownsRow w.heap.size 3 1 v (rowUp fs fs.length).pl.length (i64Cells (rowUp fs fs.length).pl) ∧ w'.ownsRow w.heap.size 3 1 gv (rowUp fs fs.length).gr.length (i64Cells (rowUp fs fs.length).gr) ∧ w'.ownsRow w.heap.size 3 1 bv (rowUp fs fs.length).bt.length (i64Cells (rowUp fs fs.length).bt) ∧ Below w.heap.size w w'
set_option maxRecDepth 100000 in
set_option maxHeartbeats 8000000 in
theorem rowed_any (w : World) (nm : ByteArray) (fs : List SFld) (fv : Value) (base : Nat) (h : w.ownsRow base 53 5 fv fs.length (sfldsCells fs)) (hn : fs.length ≤ 1000) (hk : ∀ f ∈ fs, 1 ≤ f.kind ∧ f.kind ≤ 13) :
    Calls Tryd.prog 13 #[.agg #[.string nm, fv]] w (RoPost fs w) := by
  obtain ⟨fa, fc, rfl⟩ := ownsRow_form h
  have HR := Lib.hid h
  have HKD := Lib.hid hk
  have hfew := row_few h
  have hmk := make_ints fs.length (by omega)
  clear h hk
  go_enter Tryd.func13, Tryd.ntmps13
  go_upto_region 2 with (fail)
  have HM := Lib.hid (RoM.start w (.string nm) (.slice fa fs.length fc) fs)
  generalize ((((w.alloc (.cells #[.string nm, .slice fa fs.length fc] 35)).alloc (.cells #[.int .i64 0, .slice none 0 0, .slice none 0 0, .slice none 0 0] 41)).alloc (.cells (i64Cells (List.replicate fs.length 0)).toArray 3)).alloc (.cells #[.int .i64 0, .slice (some ⟨w.heap.size + 1 + 1, 0, none⟩) fs.length fs.length, .slice none 0 0, .slice none 0 0] 41)) = W0 at *
  obtain ⟨_, r0, r1, _⟩ := blk2 HM.out.rc
  clear hmk
  go_wp2_with fail
  clear r0 r1
  go_loopw [14] (fun i wr => RoAt w (.string nm) (.slice fa fs.length fc) fs i wr) (fun i _ => fs.length - (intOf i).toNat)
  case atStart => exact ⟨0, _, _, Nat.zero_le _, rfl, HM.out⟩
  case round =>
    obtain ⟨k, gv, bv, hk, rfl, hm⟩ := hrel
    have HM2 := Lib.hid hm
    obtain ⟨hlen, hs0, hs1, hgl, hbl⟩ := rowUp_facts fs k
    clear hm
    by_cases hkl : k < fs.length
    · have hki : (k : Int) < fs.length := by omega
      obtain ⟨g, cc, hv, hcc, hg, hcell⟩ := row_el sfldCells 5 (fun _ => rfl) (row_keep HM2.out.bel HR.out) k hkl
      obtain ⟨rfl, rfl⟩ := slice_inj hv
      have x0 : wr.cell? ⟨g, k * 5, none⟩ = some (.string fs[k].name) := hcell 0 (by omega)
      have x1 : wr.cell? ⟨g, k * 5 + 1, none⟩ = some (.int .u8 (fs[k].kind : Nat)) := hcell 1 (by omega)
      have x2 : wr.cell? ⟨g, k * 5 + 2, none⟩ = some (.int .i64 (fs[k].ref : Nat)) := hcell 2 (by omega)
      have x3 : wr.cell? ⟨g, k * 5 + 3, none⟩ = some (.int .i64 (fs[k].lists : Nat)) := hcell 3 (by omega)
      have x4 : wr.cell? ⟨g, k * 5 + 4, none⟩ = some (.int .u64 (fs[k].dflt : Nat)) := hcell 4 (by omega)
      have HST := Lib.hid (rowUp_step fs k hkl)
      have hkb := HKD.out fs[k] (List.getElem_mem hkl)
      clear hcell hv
      generalize fs[k] = f at *
      obtain ⟨fn, fk, fr, fl, fd⟩ := f
      simp only at x0 x1 x2 x3 x4 hkb
      generalize rowUp fs k = st at *
      obtain ⟨ga, gc, rfl⟩ := ownsRow_form HM2.out.gr
      obtain ⟨ba, bc, rfl⟩ := ownsRow_form HM2.out.bt
      go_upto_region 5 with (fail)
      have hba : Below wr.heap.size wr (wr.alloc (.cells #[.string fn, .int .u8 fk, .int .i64 fr, .int .i64 fl, .int .u64 fd] 53)) := (Below.refl _ _).alloc (Nat.le_refl _) _
      have hq := heap_alloc_new wr (.cells #[.string fn, .int .u8 fk, .int .i64 fr, .int .i64 fl, .int .u64 fd] 53)
      have HM3 := Lib.hid (HM2.out.later hba)
      have hwr : w.heap.size + 1 + 1 + 1 < wr.heap.size := blk_lt HM2.out.bk
      clear x0 x1 x2 x3 x4 hba
      generalize wr.alloc (.cells #[.string fn, .int .u8 fk, .int .i64 fr, .int .i64 fl, .int .u64 fd] 53) = W1 at *
      have hWl : wr.heap.size < W1.heap.size := blk_lt hq
      have y1 := (blk_cell hq 1).trans rfl
      have y2 := (blk_cell hq 2).trans rfl
      have y3 := (blk_cell hq 3).trans rfl
      have HQ := Lib.hid hq
      clear hq HM2
      go_wp2_with fail
      refine (lnumber_any fk fr fl W1).mono ?_
      rintro e W2 ⟨rfl, hb2⟩
      have HM4 := Lib.hid (HM3.out.later hb2)
      have HQ2 := Lib.hid (blk_below HQ.out hb2 hWl)
      have z1 := (blk_cell HQ2.out 1).trans rfl
      have z3 := (blk_cell HQ2.out 3).trans rfl
      clear hb2 y1 y2 y3 HM3 HQ
      have b0 := (blk_cell HM4.out.bk 0).trans rfl
      have b1 := (blk_cell HM4.out.bk 1).trans rfl
      have b2 := (blk_cell HM4.out.bk 2).trans rfl
      have b3 := (blk_cell HM4.out.bk 3).trans rfl
      have g0 := blk_frozen HM4.out.bk 0
      have g2 := blk_frozen HM4.out.bk 2
      have g3 := blk_frozen HM4.out.bk 3
      cases hnum : isNumP fk fl
      · by_cases hgr : 0 < fl ∨ fk = 13
        · have HE := Lib.hid (HST.out.trans (rowStep_gr hnum hgr))
          clear HST hnum
          by_cases hl : 0 < fl
          · have t1 : (0 : Int) < fl := by omega
            have hd : decide ((0 : Int) < (fl : Int)) = true := decide_eq_true t1
            obtain ⟨i0, hi0, hz0, hz1, hz2⟩ := info_parts int_info
            have I1 := Lib.hid hi0
            have I2 := Lib.hid hz0
            have I3 := Lib.hid hz1
            have I4 := Lib.hid hz2
            have hal : Below W2.heap.size W2 (W2.alloc (.cells #[.int .i64 k] 3)) := (Below.refl _ _).alloc (Nat.le_refl _) _
            have HAL := Lib.hid hal
            have HBN := Lib.hid (heap_alloc_new W2 (.cells #[.int .i64 k] 3))
            have HUA := Lib.hid (row_keep hal HM4.out.gr)
            have hsz2 : w.heap.size + 4 ≤ W2.heap.size := by have := blk_lt HM4.out.bk; omega
            go_upto_region 9 with (fail)
            clear hi0 hz0 hz1 hz2 hal z1 z3
            go_wp2_with (at_builtin; refine wpList_append_apart _ rfl (.tmp 49) (.tmp 51) 36 36 rfl (w.heap.size + 4) 3 i0 _ Tryd.underlying36 I1.out I2.out I3.out rfl (.slice ga st.gr.length gc) st.gr.length (i64Cells st.gr) rfl HUA.out (.slice (some ⟨W2.heap.size, 0, none⟩) 1 1) 1 [.int .i64 k] rfl (Src.ofSlice _ Tryd.underlying36 ⟨W2.heap.size, 0, none⟩ 1 1 [.int .i64 k] rfl (World.news_of_block HBN.out) (by intro u hu; simp at hu; subst hu; rfl)) (by unfold maxLen; omega) (by rw [I4.out]; omega) (by rw [World.size_alloc]; omega) ?_; intro v4 W8 hown4 hg4 hx4; have HP := Lib.hid (HM4.out.group (z := (k : Int)) HAL.out (by rw [World.size_alloc]; omega) hown4 hg4 hx4); obtain ⟨a4, e4, rfl⟩ := ownsRow_form hown4; have hb8 := HM4.out.bk_gr HAL.out (.inl hg4); have c8 := (blk_cell hb8 2).trans rfl; have f8 := blk_frozen hb8 2; clear hown4 hg4 hx4 hb8 b0 b1 b2 b3 g0 g2 g3)
            go_roundw
            case rel => exact ⟨k + 1, _, _, hkl, by go_num, by rw [HE.out]; exact HP.out⟩
            case measure => simp [intOf]; omega
          · have t1 : ¬ (0 : Int) < fl := by omega
            have hd : decide ((0 : Int) < (fl : Int)) = false := decide_eq_false t1
            have hk13 : fk = 13 := by omega
            have t2 : ((fk : Int) == 13) = true := by simp [hk13]
            clear hk13
            obtain ⟨i0, hi0, hz0, hz1, hz2⟩ := info_parts int_info
            have I1 := Lib.hid hi0
            have I2 := Lib.hid hz0
            have I3 := Lib.hid hz1
            have I4 := Lib.hid hz2
            have hal : Below W2.heap.size W2 (W2.alloc (.cells #[.int .i64 k] 3)) := (Below.refl _ _).alloc (Nat.le_refl _) _
            have HAL := Lib.hid hal
            have HBN := Lib.hid (heap_alloc_new W2 (.cells #[.int .i64 k] 3))
            have HUA := Lib.hid (row_keep hal HM4.out.gr)
            have hsz2 : w.heap.size + 4 ≤ W2.heap.size := by have := blk_lt HM4.out.bk; omega
            go_upto_region 9 with (fail)
            clear hi0 hz0 hz1 hz2 hal z1 z3
            go_wp2_with (at_builtin; refine wpList_append_apart _ rfl (.tmp 49) (.tmp 51) 36 36 rfl (w.heap.size + 4) 3 i0 _ Tryd.underlying36 I1.out I2.out I3.out rfl (.slice ga st.gr.length gc) st.gr.length (i64Cells st.gr) rfl HUA.out (.slice (some ⟨W2.heap.size, 0, none⟩) 1 1) 1 [.int .i64 k] rfl (Src.ofSlice _ Tryd.underlying36 ⟨W2.heap.size, 0, none⟩ 1 1 [.int .i64 k] rfl (World.news_of_block HBN.out) (by intro u hu; simp at hu; subst hu; rfl)) (by unfold maxLen; omega) (by rw [I4.out]; omega) (by rw [World.size_alloc]; omega) ?_; intro v4 W8 hown4 hg4 hx4; have HP := Lib.hid (HM4.out.group (z := (k : Int)) HAL.out (by rw [World.size_alloc]; omega) hown4 hg4 hx4); obtain ⟨a4, e4, rfl⟩ := ownsRow_form hown4; have hb8 := HM4.out.bk_gr HAL.out (.inl hg4); have c8 := (blk_cell hb8 2).trans rfl; have f8 := blk_frozen hb8 2; clear hown4 hg4 hx4 hb8 b0 b1 b2 b3 g0 g2 g3)
            go_roundw
            case rel => exact ⟨k + 1, _, _, hkl, by go_num, by rw [HE.out]; exact HP.out⟩
            case measure => simp [intOf]; omega
        · have HE := Lib.hid (HST.out.trans (rowStep_bt hnum hgr))
          obtain ⟨hl0, hk2⟩ := kind_rest hkb.1 hkb.2 hnum hgr
          have t1 : ¬ (0 : Int) < fl := by omega
          have hd : decide ((0 : Int) < (fl : Int)) = false := decide_eq_false t1
          have t2 : ((fk : Int) == 13) = false := by simp; omega
          clear HST hnum hl0
          by_cases hk11 : fk = 11
          · have t3 : ((fk : Int) == 11) = true := by simp [hk11]
            clear hk11
            obtain ⟨i0, hi0, hz0, hz1, hz2⟩ := info_parts int_info
            have I1 := Lib.hid hi0
            have I2 := Lib.hid hz0
            have I3 := Lib.hid hz1
            have I4 := Lib.hid hz2
            have hal : Below W2.heap.size W2 (W2.alloc (.cells #[.int .i64 k] 3)) := (Below.refl _ _).alloc (Nat.le_refl _) _
            have HAL := Lib.hid hal
            have HBN := Lib.hid (heap_alloc_new W2 (.cells #[.int .i64 k] 3))
            have HUA := Lib.hid (row_keep hal HM4.out.bt)
            have hsz2 : w.heap.size + 4 ≤ W2.heap.size := by have := blk_lt HM4.out.bk; omega
            go_upto_region 11 with (fail)
            clear hi0 hz0 hz1 hz2 hal z1 z3
            go_wp2_with (at_builtin; refine wpList_append_apart _ rfl (.tmp 66) (.tmp 68) 36 36 rfl (w.heap.size + 4) 3 i0 _ Tryd.underlying36 I1.out I2.out I3.out rfl (.slice ba st.bt.length bc) st.bt.length (i64Cells st.bt) rfl HUA.out (.slice (some ⟨W2.heap.size, 0, none⟩) 1 1) 1 [.int .i64 k] rfl (Src.ofSlice _ Tryd.underlying36 ⟨W2.heap.size, 0, none⟩ 1 1 [.int .i64 k] rfl (World.news_of_block HBN.out) (by intro u hu; simp at hu; subst hu; rfl)) (by unfold maxLen; omega) (by rw [I4.out]; omega) (by rw [World.size_alloc]; omega) ?_; intro v4 W8 hown4 hg4 hx4; have HP := Lib.hid (HM4.out.byte (z := (k : Int)) HAL.out (by rw [World.size_alloc]; omega) hown4 hg4 hx4); obtain ⟨a4, e4, rfl⟩ := ownsRow_form hown4; have hb8 := HM4.out.bk_gr HAL.out (.inr hg4); have c8 := (blk_cell hb8 3).trans rfl; have f8 := blk_frozen hb8 3; clear hown4 hg4 hx4 hb8 b0 b1 b2 b3 g0 g2 g3)
            go_roundw
            case rel => exact ⟨k + 1, _, _, hkl, by go_num, by rw [HE.out]; exact HP.out⟩
            case measure => simp [intOf]; omega
          · have t3 : ((fk : Int) == 11) = false := by simp; omega
            have t4 : ((fk : Int) == 12) = true := by simp; omega
            clear hk11
            obtain ⟨i0, hi0, hz0, hz1, hz2⟩ := info_parts int_info
            have I1 := Lib.hid hi0
            have I2 := Lib.hid hz0
            have I3 := Lib.hid hz1
            have I4 := Lib.hid hz2
            have hal : Below W2.heap.size W2 (W2.alloc (.cells #[.int .i64 k] 3)) := (Below.refl _ _).alloc (Nat.le_refl _) _
            have HAL := Lib.hid hal
            have HBN := Lib.hid (heap_alloc_new W2 (.cells #[.int .i64 k] 3))
            have HUA := Lib.hid (row_keep hal HM4.out.bt)
            have hsz2 : w.heap.size + 4 ≤ W2.heap.size := by have := blk_lt HM4.out.bk; omega
            go_upto_region 11 with (fail)
            clear hi0 hz0 hz1 hz2 hal z1 z3
            go_wp2_with (at_builtin; refine wpList_append_apart _ rfl (.tmp 66) (.tmp 68) 36 36 rfl (w.heap.size + 4) 3 i0 _ Tryd.underlying36 I1.out I2.out I3.out rfl (.slice ba st.bt.length bc) st.bt.length (i64Cells st.bt) rfl HUA.out (.slice (some ⟨W2.heap.size, 0, none⟩) 1 1) 1 [.int .i64 k] rfl (Src.ofSlice _ Tryd.underlying36 ⟨W2.heap.size, 0, none⟩ 1 1 [.int .i64 k] rfl (World.news_of_block HBN.out) (by intro u hu; simp at hu; subst hu; rfl)) (by unfold maxLen; omega) (by rw [I4.out]; omega) (by rw [World.size_alloc]; omega) ?_; intro v4 W8 hown4 hg4 hx4; have HP := Lib.hid (HM4.out.byte (z := (k : Int)) HAL.out (by rw [World.size_alloc]; omega) hown4 hg4 hx4); obtain ⟨a4, e4, rfl⟩ := ownsRow_form hown4; have hb8 := HM4.out.bk_gr HAL.out (.inr hg4); have c8 := (blk_cell hb8 3).trans rfl; have f8 := blk_frozen hb8 3; clear hown4 hg4 hx4 hb8 b0 b1 b2 b3 g0 g2 g3)
            go_roundw
            case rel => exact ⟨k + 1, _, _, hkl, by go_num, by rw [HE.out]; exact HP.out⟩
            case measure => simp [intOf]; omega
      · have HE := Lib.hid (HST.out.trans (rowStep_num hnum))
        clear HST hnum
        have c0 : W2.cell? ⟨w.heap.size + 1 + 1, k, none⟩ = some (.int .i64 (st.pl.getD k 0)) := by
          rw [blk_cell HM4.out.row k, i64Cells_map]
          simp [List.getD, hlen, hkl]
        have f0 := blk_frozen HM4.out.row k
        generalize st.pl.getD k 0 = old at *
        have hz := kSize_bd (fk : Int)
        have HP := Lib.hid (HM4.out.num k (st.size + kSize fk))
        have hw := IntWalk.i64_in (st.size + kSize (fk : Int)) (by omega)
        have HSZ := Lib.hid (fun W => wsize_still (fk : Int) W)
        generalize kSize (fk : Int) = sz at *
        go_upto_region 7 with (fail)
        have e0 := (blk_cell (blk_set_ne (p := ⟨w.heap.size + 1 + 1, k, none⟩) HM4.out.bk (by show w.heap.size + 1 + 1 ≠ w.heap.size + 1 + 1 + 1; omega) (.int .i64 st.size)) 0).trans rfl
        have e1 := blk_frozen (blk_set_ne (p := ⟨w.heap.size + 1 + 1, k, none⟩) HM4.out.bk (by show w.heap.size + 1 + 1 ≠ w.heap.size + 1 + 1 + 1; omega) (.int .i64 st.size)) 0
        have e2 := (blk_cell (blk_set_ne (p := ⟨w.heap.size + 1 + 1, k, none⟩) HQ2.out (by show w.heap.size + 1 + 1 ≠ wr.heap.size; omega) (.int .i64 st.size)) 1).trans rfl
        clear b0 b1 b2 b3 g0 g2 g3 c0 f0 z1 z3
        generalize W2.setCell ⟨w.heap.size + 1 + 1, k, none⟩ (.int .i64 st.size) = W3 at *
        go_region_law (first | (go_simp; go_at_call 35; (refine (HSZ.out _).mono ?_); rintro e Wc ⟨rfl, rfl⟩))
        all_goals
          have HP2 := Lib.hid HP.out.drew
          simp only [Exit.inBlock, Exit.then]
          go_wp2
          go_roundw
          case rel => exact ⟨k + 1, _, _, hkl, by go_num, by rw [HE.out]; exact HP2.out⟩
          case measure => simp [intOf]; omega
    · obtain rfl : k = fs.length := by omega
      obtain ⟨ga, gc, rfl⟩ := ownsRow_form HM2.out.gr
      obtain ⟨ba, bc, rfl⟩ := ownsRow_form HM2.out.bt
      have HS : Hid (∃ st, rowUp fs fs.length = st) := Lib.hid ⟨_, rfl⟩
      obtain ⟨st, hst⟩ := HS.out
      have HST := Lib.hid hst
      rw [hst] at HM2 hlen hs0 hs1 hgl hbl
      clear hst HS
      have b0 := (blk_cell HM2.out.bk 0).trans rfl
      have b1 := (blk_cell HM2.out.bk 1).trans rfl
      have b2 := (blk_cell HM2.out.bk 2).trans rfl
      have b3 := (blk_cell HM2.out.bk 3).trans rfl
      have g0 := blk_frozen HM2.out.res 0
      have g1 := blk_frozen HM2.out.res 1
      have g2 := blk_frozen HM2.out.res 2
      have g3 := blk_frozen HM2.out.res 3
      have o0 := (blk_cell HM2.out.res 0).trans rfl
      have o1 := (blk_cell HM2.out.res 1).trans rfl
      have o2 := (blk_cell HM2.out.res 2).trans rfl
      have o3 := (blk_cell HM2.out.res 3).trans rfl
      have hrow : wr.ownsRow w.heap.size 3 1 (.slice (some ⟨w.heap.size + 1 + 1, 0, none⟩) fs.length fs.length) fs.length (i64Cells st.pl) := by
        refine ⟨by rw [i64Cells_length, hlen]; omega, .inr ⟨w.heap.size + 1 + 1, fs.length, _, rfl, by omega, HM2.out.row, Nat.le_refl _, by unfold maxLen; omega, by simp [i64Cells_length, hlen], ?_⟩⟩
        rw [List.toList_toArray, List.take_of_length_le (by rw [i64Cells_length, hlen]; omega)]
      have HROW := Lib.hid hrow
      clear hrow
      go_wp2
      refine post_gen (fun Wf => Wf.heap[w.heap.size + 1]? = some (.cells #[.int .i64 st.size, .slice (some ⟨w.heap.size + 1 + 1, 0, none⟩) fs.length fs.length, .slice ga st.gr.length gc, .slice ba st.bt.length bc] 41 (0, 0)) ∧ Below w.heap.size w Wf ∧ Wf.ownsRow w.heap.size 3 1 (.slice (some ⟨w.heap.size + 1 + 1, 0, none⟩) fs.length fs.length) fs.length (i64Cells st.pl) ∧ Wf.ownsRow (w.heap.size + 4) 3 1 (.slice ga st.gr.length gc) st.gr.length (i64Cells st.gr) ∧ Wf.ownsRow (w.heap.size + 4) 3 1 (.slice ba st.bt.length bc) st.bt.length (i64Cells st.bt)) ⟨?_, ?_, ?_, ?_, ?_⟩ ?_
      · exact blk_set4 HM2.out.res _ _ _ _
      · exact (((HM2.out.bel.setCell (p := ⟨w.heap.size + 1, 0, none⟩) (Nat.le_succ _) _).setCell (p := ⟨w.heap.size + 1, 1, none⟩) (Nat.le_succ _) _).setCell (p := ⟨w.heap.size + 1, 2, none⟩) (Nat.le_succ _) _).setCell (p := ⟨w.heap.size + 1, 3, none⟩) (Nat.le_succ _) _
      · exact (exc_set (((wr.setCell ⟨w.heap.size + 1, 0, none⟩ _).setCell ⟨w.heap.size + 1, 1, none⟩ _).setCell ⟨w.heap.size + 1, 2, none⟩ _) (w.heap.size + 1) 3 _).ownsRow ((exc_set3 wr (w.heap.size + 1) _ _ _).ownsRow HROW.out (by simp [Value.ownBlock])) (by simp [Value.ownBlock])
      · exact row_set (row_set (row_set (row_set HM2.out.gr (by show w.heap.size + 1 < w.heap.size + 4; omega) _) (by show w.heap.size + 1 < w.heap.size + 4; omega) _) (by show w.heap.size + 1 < w.heap.size + 4; omega) _) (by show w.heap.size + 1 < w.heap.size + 4; omega) _
      · exact row_set (row_set (row_set (row_set HM2.out.bt (by show w.heap.size + 1 < w.heap.size + 4; omega) _) (by show w.heap.size + 1 < w.heap.size + 4; omega) _) (by show w.heap.size + 1 < w.heap.size + 4; omega) _) (by show w.heap.size + 1 < w.heap.size + 4; omega) _
      · rintro Wf ⟨e1, e2, e3, e4, e5⟩
        have d0 := (blk_cell e1 0).trans rfl
        have d1 := (blk_cell e1 1).trans rfl
        have d2 := (blk_cell e1 2).trans rfl
        have d3 := (blk_cell e1 3).trans rfl
        refine bodyPost_ret (v := .agg #[.int .i64 st.size, .slice (some ⟨w.heap.size + 1 + 1, 0, none⟩) fs.length fs.length, .slice ga st.gr.length gc, .slice ba st.bt.length bc]) (by simp [results, Tryd.results13, go_sem, d0, d1, d2, d3]) rfl ?_
        unfold RoPost
        rw [HST.out, hlen]
        exact ⟨_, _, _, rfl, e3, ownsRow_base e4 (by omega), ownsRow_base e5 (by omega), e2⟩
end Go.Proofs.YtdlfndjgncdgfaaDoor
