/-
  The document's own Rowed. Conditions: those that each theorem names.
-/
import Derived.Test.YtcbkdohahfjbfaaDoorLayRowed
namespace Go.Proofs.YtcbkdohahfjbfaaDoor
open Go.ChangeShapes Go.WideShapes Go.ChangeAt Go.RowKit Go.Shelf

/-- The memory of the document's Rowed: the struct's record, the places, its lists. -/
structure RRoM (w : World) (nm fv : Value) (n : Nat) (st : RowSt) (gv bv : Value) (W : World) : Prop where
  bel : Below w.heap.size w W
  rc : W.heap[w.heap.size]? = some (.cells #[nm, fv] 36 (0, 0))
  row : W.heap[w.heap.size + 1]? = some (.cells (i64Cells st.pl).toArray 3 (0, 0))
  gr : W.ownsRow (w.heap.size + 2) 3 1 gv st.gr.length (i64Cells st.gr)
  bt : W.ownsRow (w.heap.size + 2) 3 1 bv st.bt.length (i64Cells st.bt)
  apart : ∀ k, gv.ownBlock = some k → bv.ownBlock ≠ some k
theorem RRoM.later {w W W' : World} {nm fv gv bv : Value} {n : Nat} {st : RowSt} (h : RRoM w nm fv n st gv bv W) (hb : Below W.heap.size W W') : RRoM w nm fv n st gv bv W' :=
  ⟨h.bel.trans (hb.mono h.bel.size), blk_below h.rc hb (blk_lt h.rc), blk_below h.row hb (blk_lt h.row), row_keep hb h.gr, row_keep hb h.bt, h.apart⟩
theorem RRoM.num {w W : World} {nm fv gv bv : Value} {n : Nat} {st : RowSt} (h : RRoM w nm fv n st gv bv W) (k : Nat) (z : Int) : RRoM w nm fv n ⟨st.pl.set k st.size, z, st.gr, st.bt⟩ gv bv (W.setCell ⟨w.heap.size + 1, k, none⟩ (.int .i64 st.size)) where
  bel := h.bel.setCell (p := ⟨w.heap.size + 1, k, none⟩) (by show w.heap.size ≤ w.heap.size + 1; omega) _
  rc := blk_set_ne h.rc (by show w.heap.size + 1 ≠ _; omega) _
  row := (blk_set h.row k _).trans (by rw [i64_set])
  gr := row_set h.gr (by show w.heap.size + 1 < _; omega) _
  bt := row_set h.bt (by show w.heap.size + 1 < _; omega) _
  apart := h.apart
theorem RRoM.group {w W Wa W2 : World} {nm fv gv bv gv' : Value} {n m : Nat} {st : RowSt} {z : Int} (h : RRoM w nm fv n st gv bv W) (ha : Below W.heap.size W Wa) (hm : W.heap.size ≤ m) (ho : W2.ownsRow (w.heap.size + 2) 3 1 gv' (st.gr.length + 1) (i64Cells st.gr ++ [.int .i64 z])) (hg : Wa.grownBy W2 gv.ownBlock) (hx : gv'.ownBlock = gv.ownBlock ∨ ∀ k, gv'.ownBlock = some k → m ≤ k) :
    RRoM w nm fv n ⟨st.pl, st.size, st.gr ++ [z], st.bt⟩ gv' bv W2 := by
  have hlow : ∀ k, gv.ownBlock = some k → w.heap.size + 2 ≤ k := fun k hk => (ownsRow_lt h.gr k hk).1
  have h1 := h.later ha
  have hsz := ha.size
  have keep : ∀ {g : Nat} {o : Obj}, g < w.heap.size + 2 → Wa.heap[g]? = some o → W2.heap[g]? = some o := fun hlt ho => (hg.block _ (blk_lt ho) (fun e => by have := hlow _ e.symm; omega)).trans ho
  have hbb := (h1.bel.grown hg (by have := h1.bel.size; omega) (fun k hk => by have := hlow k hk; omega))
  refine ⟨hbb, keep (by omega) h1.rc, keep (by omega) h1.row, ?_, ?_, ?_⟩
  · rw [i64Cells_snoc, List.length_append]
    exact ho
  · exact row_grown hg h1.bt (fun k hk he => h.apart k he hk)
  · exact own_far hx h.apart (fun k hk => Nat.lt_of_lt_of_le (ownsRow_lt h.bt k hk).2 hm)
theorem RRoM.byte {w W Wa W2 : World} {nm fv gv bv bv' : Value} {n m : Nat} {st : RowSt} {z : Int} (h : RRoM w nm fv n st gv bv W) (ha : Below W.heap.size W Wa) (hm : W.heap.size ≤ m) (ho : W2.ownsRow (w.heap.size + 2) 3 1 bv' (st.bt.length + 1) (i64Cells st.bt ++ [.int .i64 z])) (hg : Wa.grownBy W2 bv.ownBlock) (hx : bv'.ownBlock = bv.ownBlock ∨ ∀ k, bv'.ownBlock = some k → m ≤ k) :
    RRoM w nm fv n ⟨st.pl, st.size, st.gr, st.bt ++ [z]⟩ gv bv' W2 := by
  have hlow : ∀ k, bv.ownBlock = some k → w.heap.size + 2 ≤ k := fun k hk => (ownsRow_lt h.bt k hk).1
  have h1 := h.later ha
  have hsz := ha.size
  have keep : ∀ {g : Nat} {o : Obj}, g < w.heap.size + 2 → Wa.heap[g]? = some o → W2.heap[g]? = some o := fun hlt ho => (hg.block _ (blk_lt ho) (fun e => by have := hlow _ e.symm; omega)).trans ho
  have hbb := (h1.bel.grown hg (by have := h1.bel.size; omega) (fun k hk => by have := hlow k hk; omega))
  refine ⟨hbb, keep (by omega) h1.rc, keep (by omega) h1.row, ?_, ?_, ?_⟩
  · exact row_grown hg h1.gr h.apart
  · rw [i64Cells_snoc, List.length_append]
    exact ho
  · intro k hk he
    exact own_far hx (fun q hq hp => h.apart q hp hq) (fun q hq => Nat.lt_of_lt_of_le (ownsRow_lt h.gr q hq).2 hm) k he hk
theorem RRoM.start (w : World) (nm fv : Value) (fs : List SFld) : RRoM w nm fv fs.length (rowUp fs 0) (.slice none 0 0) (.slice none 0 0) ((w.alloc (.cells #[nm, fv] 36)).alloc (.cells (i64Cells (List.replicate fs.length 0)).toArray 3)) := by
  refine ⟨((Below.refl _ _).alloc (Nat.le_refl _) _).alloc (by simp) _, ?_, ?_, World.ownsRow_nil _ _ _ _, World.ownsRow_nil _ _ _ _, fun k hk => by simp [Value.ownBlock] at hk⟩
  · exact blk_alloc (heap_alloc_new w _) _
  · have h := heap_alloc_new (w.alloc (.cells #[nm, fv] 36)) (.cells (i64Cells (List.replicate fs.length 0)).toArray 3)
    rw [World.size_alloc] at h
    exact h
/-- Where the loop of the document's Rowed is. -/
def RRoAt (w : World) (nm fv : Value) (fs : List SFld) (z gv bv i : Value) (W : World) : Prop :=
  ∃ (k : Nat), k ≤ fs.length ∧ i = .int .i64 k ∧ z = .int .i64 (rowUp fs k).size ∧ RRoM w nm fv fs.length (rowUp fs k) gv bv W
/-- What the document's Rowed hands back. -/
def RRoPost (fs : List SFld) (w : World) (e : Ending) (w' : World) : Prop :=
  ∃ v gv bv, e = .returned (.tuple #[v, .int .i64 (rowUp fs fs.length).size, gv, bv]) ∧ w'.ownsRow w.heap.size 3 1 v (rowUp fs fs.length).pl.length (i64Cells (rowUp fs fs.length).pl) ∧ w'.ownsRow w.heap.size 3 1 gv (rowUp fs fs.length).gr.length (i64Cells (rowUp fs fs.length).gr) ∧ w'.ownsRow w.heap.size 3 1 bv (rowUp fs fs.length).bt.length (i64Cells (rowUp fs fs.length).bt) ∧ Below w.heap.size w w'
set_option maxRecDepth 100000 in
set_option maxHeartbeats 8000000 in
theorem rrowed_any (w : World) (nm : ByteArray) (fs : List SFld) (fv : Value) (base : Nat) (h : w.ownsRow base 52 5 fv fs.length (sfldsCells fs)) (hn : fs.length ≤ 1000) (hk : ∀ f ∈ fs, 1 ≤ f.kind ∧ f.kind ≤ 13) :
    Calls Tryd.prog 23 #[.agg #[.string nm, fv]] w (RRoPost fs w) := by
  obtain ⟨fa, fc, rfl⟩ := ownsRow_form h
  have HR := Lib.hid h
  have HKD := Lib.hid hk
  have hfew := row_few h
  have hmk := make_ints fs.length (by omega)
  clear h hk
  go_enter Tryd.func23, Tryd.ntmps23
  go_upto_region 2 with (fail)
  have HM := Lib.hid (RRoM.start w (.string nm) (.slice fa fs.length fc) fs)
  generalize (w.alloc (.cells #[.string nm, .slice fa fs.length fc] 36)).alloc (.cells (i64Cells (List.replicate fs.length 0)).toArray 3) = W0 at *
  clear hmk
  go_wp2_with fail
  go_loopw [7, 8, 9, 10] (fun z gv bv i wr => RRoAt w (.string nm) (.slice fa fs.length fc) fs z gv bv i wr) (fun _ _ _ i _ => fs.length - (intOf i).toNat)
  case atStart => exact ⟨0, Nat.zero_le _, rfl, rfl, HM.out⟩
  case round =>
    obtain ⟨k, hk, rfl, rfl, hm⟩ := hrel
    have HM2 := Lib.hid hm
    obtain ⟨hlen, hs0, hs1, hgl, hbl⟩ := rowUp_facts fs k
    obtain ⟨ga, gc, rfl⟩ := ownsRow_form hm.gr
    obtain ⟨ba, bc, rfl⟩ := ownsRow_form hm.bt
    clear hm
    obtain ⟨hBl, r0, r1, _⟩ := blk2 HM2.out.rc
    by_cases hkl : k < fs.length
    · have hki : (k : Int) < fs.length := by omega
      obtain ⟨g, cc, hv, hcc, hg, hcell⟩ := row_el sfldCells 5 (fun _ => rfl) (row_keep HM2.out.bel HR.out) k hkl
      obtain ⟨rfl, rfl⟩ := slice_inj hv
      have x1 : wr.cell? ⟨g, k * 5 + 1, none⟩ = some (.int .u8 (fs[k].kind : Nat)) := hcell 1 (by omega)
      have x2 : wr.cell? ⟨g, k * 5 + 2, none⟩ = some (.int .i64 (fs[k].ref : Nat)) := hcell 2 (by omega)
      have x3 : wr.cell? ⟨g, k * 5 + 3, none⟩ = some (.int .i64 (fs[k].lists : Nat)) := hcell 3 (by omega)
      have HST := Lib.hid (rowUp_step fs k hkl)
      have hkb := HKD.out fs[k] (List.getElem_mem hkl)
      clear hcell hv
      generalize fs[k] = f at *
      obtain ⟨fn, fk, fr, fl, fd⟩ := f
      simp only at x1 x2 x3 hkb
      generalize rowUp fs k = st at *
      go_upto_region 8 with (fail)
      have hba : Below wr.heap.size wr (wr.alloc (.cells #[.int .u8 fk, .int .i64 fr, .int .i64 fl] 49)) := (Below.refl _ _).alloc (Nat.le_refl _) _
      have hq := heap_alloc_new wr (.cells #[.int .u8 fk, .int .i64 fr, .int .i64 fl] 49)
      have HM3 := Lib.hid (HM2.out.later hba)
      have hwr : w.heap.size + 1 < wr.heap.size := blk_lt HM2.out.row
      clear x1 x2 x3 hba r0 r1
      generalize wr.alloc (.cells #[.int .u8 fk, .int .i64 fr, .int .i64 fl] 49) = W1 at *
      have hWl : wr.heap.size < W1.heap.size := blk_lt hq
      have y1 := (blk_cell hq 0).trans rfl
      have y2 := (blk_cell hq 1).trans rfl
      have y3 := (blk_cell hq 2).trans rfl
      have HQ := Lib.hid hq
      clear hq HM2
      go_wp2_with fail
      refine (isnum_any fk fr fl W1 (by omega)).mono ?_
      rintro e W2 ⟨rfl, hb2⟩
      have HM4 := Lib.hid (HM3.out.later hb2)
      have HQ2 := Lib.hid (blk_below HQ.out hb2 hWl)
      have z1 := (blk_cell HQ2.out 0).trans rfl
      have z3 := (blk_cell HQ2.out 2).trans rfl
      clear hb2 y1 y2 y3 HM3 HQ
      cases hnum : isNumP fk fl
      · by_cases hgr : 0 < fl ∨ fk = 13
        · have HE := Lib.hid (HST.out.trans (rowStep_gr hnum hgr))
          clear HST hnum
          by_cases hl : 0 < fl
          · have t1 : (0 : Int) < fl := by omega
            have hd : decide ((0 : Int) < (fl : Int)) = true := decide_eq_true t1
            obtain ⟨i0, hi0, hz0, hz1, hz2⟩ := info_parts int_info
            have I1 := Lib.hid hi0
            have I2 := Lib.hid hz0
            have I3 := Lib.hid hz1
            have I4 := Lib.hid hz2
            have hal : Below W2.heap.size W2 (W2.alloc (.cells #[.int .i64 k] 3)) := (Below.refl _ _).alloc (Nat.le_refl _) _
            have HAL := Lib.hid hal
            have HBN := Lib.hid (heap_alloc_new W2 (.cells #[.int .i64 k] 3))
            have HUA := Lib.hid (row_keep hal HM4.out.gr)
            have hsz2 : w.heap.size + 2 ≤ W2.heap.size := by have := blk_lt HM4.out.row; omega
            go_upto_region 12 with (fail)
            clear hi0 hz0 hz1 hz2 hal z1 z3
            go_wp2_with (at_builtin; refine wpList_append_apart _ rfl (.tmp 49) (.tmp 51) 37 37 rfl (w.heap.size + 2) 3 i0 _ Tryd.underlying37 I1.out I2.out I3.out rfl (.slice ga st.gr.length gc) st.gr.length (i64Cells st.gr) rfl HUA.out (.slice (some ⟨W2.heap.size, 0, none⟩) 1 1) 1 [.int .i64 k] rfl (Src.ofSlice _ Tryd.underlying37 ⟨W2.heap.size, 0, none⟩ 1 1 [.int .i64 k] rfl (World.news_of_block HBN.out) (by intro u hu; simp at hu; subst hu; rfl)) (by unfold maxLen; omega) (by rw [I4.out]; omega) (by rw [World.size_alloc]; omega) ?_; intro v4 W8 hown4 hg4 hx4; have HP := Lib.hid (HM4.out.group (z := (k : Int)) HAL.out (by rw [World.size_alloc]; omega) hown4 hg4 hx4); obtain ⟨a4, e4, rfl⟩ := ownsRow_form hown4; have hrc8 := HP.out.rc; obtain ⟨hBl8, r80, r81, _⟩ := blk2 hrc8; clear hown4 hg4 hx4 hrc8)
            go_roundw
            case rel => exact ⟨k + 1, hkl, by go_num, by rw [HE.out], by rw [HE.out]; exact HP.out⟩
            case measure => simp [intOf]; omega
          · have t1 : ¬ (0 : Int) < fl := by omega
            have hd : decide ((0 : Int) < (fl : Int)) = false := decide_eq_false t1
            have hk13 : fk = 13 := by omega
            have t2 : ((fk : Int) == 13) = true := by simp [hk13]
            clear hk13
            obtain ⟨i0, hi0, hz0, hz1, hz2⟩ := info_parts int_info
            have I1 := Lib.hid hi0
            have I2 := Lib.hid hz0
            have I3 := Lib.hid hz1
            have I4 := Lib.hid hz2
            have hal : Below W2.heap.size W2 (W2.alloc (.cells #[.int .i64 k] 3)) := (Below.refl _ _).alloc (Nat.le_refl _) _
            have HAL := Lib.hid hal
            have HBN := Lib.hid (heap_alloc_new W2 (.cells #[.int .i64 k] 3))
            have HUA := Lib.hid (row_keep hal HM4.out.gr)
            have hsz2 : w.heap.size + 2 ≤ W2.heap.size := by have := blk_lt HM4.out.row; omega
            go_upto_region 12 with (fail)
            clear hi0 hz0 hz1 hz2 hal z1 z3
            go_wp2_with (at_builtin; refine wpList_append_apart _ rfl (.tmp 49) (.tmp 51) 37 37 rfl (w.heap.size + 2) 3 i0 _ Tryd.underlying37 I1.out I2.out I3.out rfl (.slice ga st.gr.length gc) st.gr.length (i64Cells st.gr) rfl HUA.out (.slice (some ⟨W2.heap.size, 0, none⟩) 1 1) 1 [.int .i64 k] rfl (Src.ofSlice _ Tryd.underlying37 ⟨W2.heap.size, 0, none⟩ 1 1 [.int .i64 k] rfl (World.news_of_block HBN.out) (by intro u hu; simp at hu; subst hu; rfl)) (by unfold maxLen; omega) (by rw [I4.out]; omega) (by rw [World.size_alloc]; omega) ?_; intro v4 W8 hown4 hg4 hx4; have HP := Lib.hid (HM4.out.group (z := (k : Int)) HAL.out (by rw [World.size_alloc]; omega) hown4 hg4 hx4); obtain ⟨a4, e4, rfl⟩ := ownsRow_form hown4; have hrc8 := HP.out.rc; obtain ⟨hBl8, r80, r81, _⟩ := blk2 hrc8; clear hown4 hg4 hx4 hrc8)
            go_roundw
            case rel => exact ⟨k + 1, hkl, by go_num, by rw [HE.out], by rw [HE.out]; exact HP.out⟩
            case measure => simp [intOf]; omega
        · have HE := Lib.hid (HST.out.trans (rowStep_bt hnum hgr))
          have t1 : ¬ (0 : Int) < fl := by omega
          have hd : decide ((0 : Int) < (fl : Int)) = false := decide_eq_false t1
          have t2 : ((fk : Int) == 13) = false := by simp; omega
          clear HST hnum
          obtain ⟨i0, hi0, hz0, hz1, hz2⟩ := info_parts int_info
          have I1 := Lib.hid hi0
          have I2 := Lib.hid hz0
          have I3 := Lib.hid hz1
          have I4 := Lib.hid hz2
          have hal : Below W2.heap.size W2 (W2.alloc (.cells #[.int .i64 k] 3)) := (Below.refl _ _).alloc (Nat.le_refl _) _
          have HAL := Lib.hid hal
          have HBN := Lib.hid (heap_alloc_new W2 (.cells #[.int .i64 k] 3))
          have HUA := Lib.hid (row_keep hal HM4.out.bt)
          have hsz2 : w.heap.size + 2 ≤ W2.heap.size := by have := blk_lt HM4.out.row; omega
          go_upto_region 13 with (fail)
          clear hi0 hz0 hz1 hz2 hal z1 z3
          go_wp2_with (at_builtin; refine wpList_append_apart _ rfl (.tmp 53) (.tmp 55) 37 37 rfl (w.heap.size + 2) 3 i0 _ Tryd.underlying37 I1.out I2.out I3.out rfl (.slice ba st.bt.length bc) st.bt.length (i64Cells st.bt) rfl HUA.out (.slice (some ⟨W2.heap.size, 0, none⟩) 1 1) 1 [.int .i64 k] rfl (Src.ofSlice _ Tryd.underlying37 ⟨W2.heap.size, 0, none⟩ 1 1 [.int .i64 k] rfl (World.news_of_block HBN.out) (by intro u hu; simp at hu; subst hu; rfl)) (by unfold maxLen; omega) (by rw [I4.out]; omega) (by rw [World.size_alloc]; omega) ?_; intro v4 W8 hown4 hg4 hx4; have HP := Lib.hid (HM4.out.byte (z := (k : Int)) HAL.out (by rw [World.size_alloc]; omega) hown4 hg4 hx4); obtain ⟨a4, e4, rfl⟩ := ownsRow_form hown4; have hrc8 := HP.out.rc; obtain ⟨hBl8, r80, r81, _⟩ := blk2 hrc8; clear hown4 hg4 hx4 hrc8)
          go_roundw
          case rel => exact ⟨k + 1, hkl, by go_num, by rw [HE.out], by rw [HE.out]; exact HP.out⟩
          case measure => simp [intOf]; omega
      · have HE := Lib.hid (HST.out.trans (rowStep_num hnum))
        clear HST hnum
        have c0 : W2.cell? ⟨w.heap.size + 1, k, none⟩ = some (.int .i64 (st.pl.getD k 0)) := by
          rw [blk_cell HM4.out.row k, i64Cells_map]
          simp [List.getD, hlen, hkl]
        have f0 := blk_frozen HM4.out.row k
        generalize st.pl.getD k 0 = old at *
        have hz := kSize_bd (fk : Int)
        have HP := Lib.hid (HM4.out.num k (st.size + kSize fk))
        have hw := IntWalk.i64_in (st.size + kSize (fk : Int)) (by omega)
        have hw2 := IntWalk.i64_in (fk : Int) (by omega)
        have e2 := (blk_cell (blk_set_ne (p := ⟨w.heap.size + 1, k, none⟩) HQ2.out (by show w.heap.size + 1 ≠ wr.heap.size; omega) (.int .i64 st.size)) 0).trans rfl
        go_upto_region 10 with (fail)
        clear c0 f0 z1 z3
        generalize W2.setCell ⟨w.heap.size + 1, k, none⟩ (.int .i64 st.size) = W3 at *
        obtain ⟨hBl3, r0, r1, _⟩ := blk2 HP.out.rc
        go_wp2_with fail
        refine (rsize_any (fk : Int) W3).mono ?_
        rintro e W4 ⟨rfl, rfl⟩
        generalize kSize (fk : Int) = sz at *
        go_wp2
        go_roundw
        case rel => exact ⟨k + 1, hkl, by go_num, by rw [HE.out], by rw [HE.out]; exact HP.out⟩
        case measure => simp [intOf]; omega
    · obtain rfl : k = fs.length := by omega
      generalize hst : rowUp fs fs.length = st' at *
      have HST := Lib.hid hst
      clear hst
      have hrow : wr.ownsRow w.heap.size 3 1 (.slice (some ⟨w.heap.size + 1, 0, none⟩) fs.length fs.length) fs.length (i64Cells st'.pl) := by
        refine ⟨by rw [i64Cells_length, hlen]; omega, .inr ⟨w.heap.size + 1, fs.length, _, rfl, by omega, HM2.out.row, Nat.le_refl _, by unfold maxLen; omega, by simp [i64Cells_length, hlen], ?_⟩⟩
        rw [List.toList_toArray, List.take_of_length_le (by rw [i64Cells_length, hlen]; omega)]
      have HROW := Lib.hid hrow
      clear hrow
      go_wp2
      refine bodyPost_ret (v := .tuple #[.slice (some ⟨w.heap.size + 1, 0, none⟩) fs.length fs.length, .int .i64 st'.size, .slice ga st'.gr.length gc, .slice ba st'.bt.length bc]) (by simp [results, Tryd.results23, go_sem]) rfl ?_
      unfold RRoPost
      rw [HST.out, hlen]
      exact ⟨_, _, _, rfl, HROW.out, ownsRow_base HM2.out.gr (by omega), ownsRow_base HM2.out.bt (by omega), HM2.out.bel⟩
end Go.Proofs.YtcbkdohahfjbfaaDoor
