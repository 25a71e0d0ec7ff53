/-
  The package layout's Words. Conditions: those that each theorem names; the listed widths lie as the row lists them.
-/
import Derived.Test.YtdlfndjgncdgfaaDoorLayWP
import Derived.Deep.Cut
import Derived.Test.YtdlfndjgncdgfaaDoorLayMake
namespace Go.Proofs.YtdlfndjgncdgfaaDoor
open Go.ChangeShapes Go.WideShapes Go.ChangeAt Go.RowKit Go.Shelf

/-- The listed widths. -/
structure WTab (w : World) : Prop where
  lt : 0 < w.heap.size
  c0 : w.cell? ⟨0, 0, none⟩ = some (.int .i64 64)
  c1 : w.cell? ⟨0, 1, none⟩ = some (.int .i64 32)
  c2 : w.cell? ⟨0, 2, none⟩ = some (.int .i64 16)
  c3 : w.cell? ⟨0, 3, none⟩ = some (.int .i64 8)
  c4 : w.cell? ⟨0, 4, none⟩ = some (.int .i64 1)
theorem WTab.below {w w' : World} (h : WTab w) (hb : Below w.heap.size w w') : WTab w' :=
  ⟨Nat.lt_of_lt_of_le h.lt hb.size, (hb.cell (p := ⟨0, 0, none⟩) h.lt).trans h.c0, (hb.cell (p := ⟨0, 1, none⟩) h.lt).trans h.c1, (hb.cell (p := ⟨0, 2, none⟩) h.lt).trans h.c2, (hb.cell (p := ⟨0, 3, none⟩) h.lt).trans h.c3, (hb.cell (p := ⟨0, 4, none⟩) h.lt).trans h.c4⟩
theorem idx5_0 (W : World) : (Instr.index 81 (.agg #[.int .i64 64, .int .i64 32, .int .i64 16, .int .i64 8, .int .i64 1]) (.int .i64 0)).run Tryd.prog W = .ok (.int .i64 64) W := by kernel_rfl
theorem idx5_1 (W : World) : (Instr.index 81 (.agg #[.int .i64 64, .int .i64 32, .int .i64 16, .int .i64 8, .int .i64 1]) (.int .i64 1)).run Tryd.prog W = .ok (.int .i64 32) W := by kernel_rfl
theorem idx5_2 (W : World) : (Instr.index 81 (.agg #[.int .i64 64, .int .i64 32, .int .i64 16, .int .i64 8, .int .i64 1]) (.int .i64 2)).run Tryd.prog W = .ok (.int .i64 16) W := by kernel_rfl
theorem idx5_3 (W : World) : (Instr.index 81 (.agg #[.int .i64 64, .int .i64 32, .int .i64 16, .int .i64 8, .int .i64 1]) (.int .i64 3)).run Tryd.prog W = .ok (.int .i64 8) W := by kernel_rfl
theorem idx5_4 (W : World) : (Instr.index 81 (.agg #[.int .i64 64, .int .i64 32, .int .i64 16, .int .i64 8, .int .i64 1]) (.int .i64 4)).run Tryd.prog W = .ok (.int .i64 1) W := by kernel_rfl
theorem idx5 (z : Nat) (hz : z < 5) (W : World) : (Instr.index 81 (.agg #[.int .i64 64, .int .i64 32, .int .i64 16, .int .i64 8, .int .i64 1]) (.int .i64 (z : Int))).run Tryd.prog W = .ok (.int .i64 (widthsL.getD z 0)) W := by
  have : z = 0 ∨ z = 1 ∨ z = 2 ∨ z = 3 ∨ z = 4 := by omega
  rcases this with rfl | rfl | rfl | rfl | rfl
  · exact idx5_0 W
  · exact idx5_1 W
  · exact idx5_2 W
  · exact idx5_3 W
  · exact idx5_4 W
/-- The memory of Words: the struct's record, the result, the places, the Packed that is made. -/
structure WM (w : World) (nm fv : Value) (n : Nat) (at' : List Int) (ptrs : Int) (W : World) : Prop where
  bel : Below w.heap.size w W
  rc : W.heap[w.heap.size]? = some (.cells #[nm, fv] 35 (0, 0))
  res : W.heap[w.heap.size + 1]? = some (.cells #[.int .i64 0, .int .i64 0, .slice none 0 0] 38 (0, 0))
  row : W.heap[w.heap.size + 1 + 1]? = some (.cells (i64Cells at').toArray 3 (0, 0))
  pk : W.heap[w.heap.size + 1 + 1 + 1]? = some (.cells #[.int .i64 0, .int .i64 ptrs, .slice (some ⟨w.heap.size + 1 + 1, 0, none⟩) n n] 38 (0, 0))
  len : at'.length = n
theorem WM.later {w W W' : World} {nm fv : Value} {n : Nat} {at' : List Int} {ptrs : Int} (h : WM w nm fv n at' ptrs W) (hb : Below W.heap.size W W') : WM w nm fv n at' ptrs W' :=
  ⟨h.bel.trans (hb.mono h.bel.size), blk_below h.rc hb (blk_lt h.rc), blk_below h.res hb (blk_lt h.res), blk_below h.row hb (blk_lt h.row), blk_below h.pk hb (blk_lt h.pk), h.len⟩
theorem WM.put {w W : World} {nm fv : Value} {n : Nat} {at' : List Int} {ptrs : Int} (h : WM w nm fv n at' ptrs W) (k : Nat) (z : Int) : WM w nm fv n (at'.set k z) ptrs (W.setCell ⟨w.heap.size + 1 + 1, k, none⟩ (.int .i64 z)) :=
  ⟨h.bel.setCell (p := ⟨w.heap.size + 1 + 1, k, none⟩) (by show w.heap.size ≤ w.heap.size + 1 + 1; omega) _, blk_set_ne h.rc (by show w.heap.size + 1 + 1 ≠ _; omega) _, blk_set_ne h.res (by show w.heap.size + 1 + 1 ≠ _; omega) _, (blk_set h.row k _).trans (by rw [i64_set]), blk_set_ne h.pk (by show w.heap.size + 1 + 1 ≠ _; omega) _, by rw [List.length_set]; exact h.len⟩
theorem WM.bump {w W : World} {nm fv : Value} {n : Nat} {at' : List Int} {ptrs : Int} (h : WM w nm fv n at' ptrs W) (z : Int) : WM w nm fv n at' z (W.setCell ⟨w.heap.size + 1 + 1 + 1, 1, none⟩ (.int .i64 z)) :=
  ⟨h.bel.setCell (p := ⟨w.heap.size + 1 + 1 + 1, 1, none⟩) (by show w.heap.size ≤ w.heap.size + 1 + 1 + 1; omega) _, blk_set_ne h.rc (by show w.heap.size + 1 + 1 + 1 ≠ _; omega) _, blk_set_ne h.res (by show w.heap.size + 1 + 1 + 1 ≠ _; omega) _, blk_set_ne h.row (by show w.heap.size + 1 + 1 + 1 ≠ _; omega) _, (blk_set h.pk 1 _).trans rfl, h.len⟩
theorem WM.start (w : World) (nm fv : Value) (n : Nat) : WM w nm fv n (List.replicate n 0) 0 ((((w.alloc (.cells #[nm, fv] 35)).alloc (.cells #[.int .i64 0, .int .i64 0, .slice none 0 0] 38)).alloc (.cells (i64Cells (List.replicate n 0)).toArray 3)).alloc (.cells #[.int .i64 0, .int .i64 0, .slice (some ⟨w.heap.size + 1 + 1, 0, none⟩) n n] 38)) := by
  refine ⟨((((Below.refl _ _).alloc (Nat.le_refl _) _).alloc (by simp) _).alloc (by simp; omega) _).alloc (by simp; omega) _, ?_, ?_, ?_, ?_, by simp⟩
  · exact blk_alloc (blk_alloc (blk_alloc (heap_alloc_new w _) _) _) _
  · have h := heap_alloc_new (w.alloc (.cells #[nm, fv] 35)) (.cells #[.int .i64 0, .int .i64 0, .slice none 0 0] 38)
    rw [World.size_alloc] at h
    exact blk_alloc (blk_alloc h _) _
  · have h := heap_alloc_new ((w.alloc (.cells #[nm, fv] 35)).alloc (.cells #[.int .i64 0, .int .i64 0, .slice none 0 0] 38)) (.cells (i64Cells (List.replicate n 0)).toArray 3)
    rw [World.size_alloc, World.size_alloc] at h
    exact blk_alloc h _
  · have h := heap_alloc_new (((w.alloc (.cells #[nm, fv] 35)).alloc (.cells #[.int .i64 0, .int .i64 0, .slice none 0 0] 38)).alloc (.cells (i64Cells (List.replicate n 0)).toArray 3)) (.cells #[.int .i64 0, .int .i64 0, .slice (some ⟨w.heap.size + 1 + 1, 0, none⟩) n n] 38)
    rw [World.size_alloc, World.size_alloc, World.size_alloc] at h
    exact h
/-- Where the loops of Words are. -/
def WOut (w : World) (nm fv : Value) (fs : List SFld) (b z : Value) (W : World) : Prop :=
  ∃ k : Nat, k ≤ 5 ∧ z = .int .i64 k ∧ b = .int .i64 (wAll fs k).2 ∧ WM w nm fv fs.length (wAll fs k).1 0 W
def WIn (w : World) (nm fv : Value) (fs : List SFld) (wd : Int) (s : List Int × Int) (b i : Value) (W : World) : Prop :=
  ∃ k : Nat, k ≤ fs.length ∧ i = .int .i64 k ∧ b = .int .i64 (wUpTo wd fs s k).2 ∧ WM w nm fv fs.length (wUpTo wd fs s k).1 0 W
def WPt (w : World) (nm fv : Value) (fs : List SFld) (s : List Int × Int) (i : Value) (W : World) : Prop :=
  ∃ k : Nat, k ≤ fs.length ∧ i = .int .i64 k ∧ WM w nm fv fs.length (pUpTo fs s k).1 (pUpTo fs s k).2 W
/-- What Words hands back. -/
def WPost (fs : List SFld) (w : World) (e : Ending) (w' : World) : Prop :=
  ∃ v, e = .returned (.agg #[.int .i64 (wordsP fs), .int .i64 (ptrsP fs), v]) ∧ w'.ownsRow w.heap.size 3 1 v fs.length (i64Cells (atP fs)) ∧ Below w.heap.size w w'
set_option maxRecDepth 100000 in
set_option maxHeartbeats 4000000 in
theorem words_any (w : World) (nm : ByteArray) (fs : List SFld) (fv : Value) (base : Nat) (h : w.ownsRow base 53 5 fv fs.length (sfldsCells fs)) (hn : fs.length ≤ 1000) (hT : WTab w) :
    Calls Tryd.prog 12 #[.agg #[.string nm, fv]] w (WPost fs w) := by
  obtain ⟨fa, fc, rfl⟩ := ownsRow_form h
  have HR := Lib.hid h
  have HT := Lib.hid hT
  have hfew := row_few h
  have hmk := make_ints fs.length (by omega)
  clear h hT
  go_enter Tryd.func12, Tryd.ntmps12
  go_upto_region 2 with (fail)
  have HM := Lib.hid (WM.start w (.string nm) (.slice fa fs.length fc) fs.length)
  generalize ((((w.alloc (.cells #[.string nm, .slice fa fs.length fc] 35)).alloc (.cells #[.int .i64 0, .int .i64 0, .slice none 0 0] 38)).alloc (.cells (i64Cells (List.replicate fs.length 0)).toArray 3)).alloc (.cells #[.int .i64 0, .int .i64 0, .slice (some ⟨w.heap.size + 1 + 1, 0, none⟩) fs.length fs.length] 38)) = W0 at *
  obtain ⟨_, q0, q1, q2, q3, q4⟩ := HT.out.below HM.out.bel
  clear hmk
  go_wp2_with fail
  clear q0 q1 q2 q3 q4
  go_loopw [4, 17] (fun b z wr => WOut w (.string nm) (.slice fa fs.length fc) fs b z wr) (fun _ z _ => 5 - (intOf z).toNat)
  case atStart => exact ⟨0, Nat.zero_le _, rfl, rfl, HM.out⟩
  case round =>
    obtain ⟨z, hz, rfl, rfl, hm⟩ := hrel
    have HM1 := Lib.hid hm
    clear hm HM
    by_cases hz5 : z < 5
    · have hzi : (z : Int) < 5 := by omega
      have hix := idx5 z hz5
      have hwd := widths_bd z hz5
      have HWA : Hid (wAll fs (z + 1) = wUpTo (widthsL.getD z 0) fs (wAll fs z) fs.length) := Lib.hid rfl
      have hsb := wAll_bd fs hn z (by omega)
      have HSL := Lib.hid (wAll_len fs z)
      generalize widthsL.getD z 0 = wd at *
      obtain ⟨_, r0, r1, _⟩ := blk2 HM1.out.rc
      generalize wAll fs z = s at *
      go_wp2_with fail
      clear r0 r1
      have hs0 : 0 ≤ s.2 := hsb.1
      have hs1 : s.2 ≤ 320000 := by omega
      go_loopw [4, 23] (fun b i wq => WIn w (.string nm) (.slice fa fs.length fc) fs wd s b i wq) (fun _ i _ => fs.length - (intOf i).toNat)
      case atStart => exact ⟨0, Nat.zero_le _, rfl, rfl, HM1.out⟩
      case round =>
        obtain ⟨k, hk, rfl, rfl, hm⟩ := hrel
        have HM2 := Lib.hid hm
        have hub := wUpTo_bd wd (by omega) hwd.2 fs s k
        have hlen := hm.len
        clear hm
        by_cases hkl : k < fs.length
        · have hki : (k : Int) < fs.length := by omega
          obtain ⟨g, cc, hv, hcc, hg, hcell⟩ := row_el sfldCells 5 (fun _ => rfl) (row_keep HM2.out.bel HR.out) k hkl
          obtain ⟨rfl, rfl⟩ := slice_inj hv
          have x0 : wr.cell? ⟨g, k * 5, none⟩ = some (.string fs[k].name) := hcell 0 (by omega)
          have x1 : wr.cell? ⟨g, k * 5 + 1, none⟩ = some (.int .u8 (fs[k].kind : Nat)) := hcell 1 (by omega)
          have x2 : wr.cell? ⟨g, k * 5 + 2, none⟩ = some (.int .i64 (fs[k].ref : Nat)) := hcell 2 (by omega)
          have x3 : wr.cell? ⟨g, k * 5 + 3, none⟩ = some (.int .i64 (fs[k].lists : Nat)) := hcell 3 (by omega)
          have x4 : wr.cell? ⟨g, k * 5 + 4, none⟩ = some (.int .u64 (fs[k].dflt : Nat)) := hcell 4 (by omega)
          have HY := Lib.hid (fun (a' : List Int) (b' : Int) (h : wUpTo wd fs s k = (a', b')) => wUpTo_yes (f := fs[k]) h hkl rfl)
          have HN := Lib.hid (wUpTo_no (z := wd) (s := s) (f := fs[k]) hkl rfl)
          have HFW : Hid (fwI fs[k] = if isNumP fs[k].kind fs[k].lists = true then bitsK fs[k].kind else 0) := Lib.hid rfl
          clear hcell hv
          generalize fs[k] = f at *
          obtain ⟨fn, fk, fr, fl, fd⟩ := f
          simp only at x0 x1 x2 x3 x4
          have HFW2 := Lib.hid HFW.out
          simp only at HFW2
          clear HFW
          obtain ⟨a1, b1, hab⟩ : ∃ a1 b1, wUpTo wd fs s k = (a1, b1) := ⟨_, _, rfl⟩
          have HY2 := Lib.hid (HY.out a1 b1 hab)
          have HN2 := Lib.hid HN.out
          rw [hab] at HM2 hub hlen HN2 ⊢
          simp only at HM2 hub hlen ⊢
          clear HY HN hab
          obtain ⟨_, r0, r1, _⟩ := blk2 HM2.out.rc
          go_upto_region 9 with (fail)
          have hba : Below wr.heap.size wr (wr.alloc (.cells #[.string fn, .int .u8 fk, .int .i64 fr, .int .i64 fl, .int .u64 fd] 53)) := (Below.refl _ _).alloc (Nat.le_refl _) _
          have hq := heap_alloc_new wr (.cells #[.string fn, .int .u8 fk, .int .i64 fr, .int .i64 fl, .int .u64 fd] 53)
          have HM3 := Lib.hid (HM2.out.later hba)
          clear x0 x1 x2 x3 x4 r0 r1 hba
          generalize wr.alloc (.cells #[.string fn, .int .u8 fk, .int .i64 fr, .int .i64 fl, .int .u64 fd] 53) = W1 at *
          have hWl : wr.heap.size < W1.heap.size := blk_lt hq
          have y1 := (blk_cell hq 1).trans rfl
          have y2 := (blk_cell hq 2).trans rfl
          have y3 := (blk_cell hq 3).trans rfl
          have HQ := Lib.hid hq
          clear hq HM2
          go_wp2_with fail
          refine (lnumber_any fk fr fl W1).mono ?_
          rintro e W2 ⟨rfl, hb2⟩
          have HM4 := Lib.hid (HM3.out.later hb2)
          have hq2 := blk_below HQ.out hb2 hWl
          have z1 := (blk_cell hq2 1).trans rfl
          clear hb2 y1 y2 y3 HM3 hq2 HQ
          cases hnum : isNumP fk fl
          · have HE := Lib.hid (HN2.out (by unfold fwI; rw [hnum]; simp; omega))
            clear HN2 HY2 HFW2 hnum
            go_wp2
            go_roundw
            case rel => exact ⟨k + 1, hkl, by go_num, by rw [HE.out], by rw [HE.out]; exact HM4.out⟩
            case measure => simp [intOf]; omega
          · have HF : Hid (fwI ⟨fn, fk, fr, fl, fd⟩ = bitsK fk) := Lib.hid (by unfold fwI; rw [hnum]; rfl)
            clear hnum HFW2
            go_wp2_with fail
            refine (lbits_any fk W2).mono ?_
            rintro e W3 ⟨rfl, rfl⟩
            by_cases hbw : bitsK fk = wd
            · have HE := Lib.hid (HY2.out (HF.out.trans hbw))
              clear HN2 HY2 HF
              rw [hbw]
              obtain ⟨_, p0, p1, p2, g0, g1, g2⟩ := blk3 HM4.out.pk
              have c0 : W3.cell? ⟨w.heap.size + 1 + 1, k, none⟩ = some (.int .i64 (a1.getD k 0)) := by
                rw [blk_cell HM4.out.row k, i64Cells_map]
                simp [List.getD, hlen, hkl]
              have f0 := blk_frozen HM4.out.row k
              have HP := Lib.hid (HM4.out.put k b1)
              generalize a1.getD k 0 = old at *
              have ha1 := IntWalk.i64_in (b1 + wd) (by omega)
              go_wp2
              go_roundw
              case rel => exact ⟨k + 1, hkl, by go_num, by rw [HE.out], by rw [HE.out]; exact HP.out⟩
              case measure => simp [intOf]; omega
            · have HE := Lib.hid (HN2.out (by rw [HF.out]; exact hbw))
              have tb : (bitsK fk == wd) = false := by simpa using hbw
              clear HN2 HY2 HF
              generalize bitsK fk = q at *
              go_wp2
              go_roundw
              case rel => exact ⟨k + 1, hkl, by go_num, by rw [HE.out], by rw [HE.out]; exact HM4.out⟩
              case measure => simp [intOf]; omega
        · obtain rfl : k = fs.length := by omega
          have HE := Lib.hid HWA.out
          go_wp2
          go_roundw
          case rel => exact ⟨z + 1, by omega, by go_num, by rw [HE.out], by rw [HE.out]; exact HM2.out⟩
          case measure => simp [intOf]; omega
    · have hze : z = 5 := by omega
      have hzi : ¬ (z : Int) < 5 := by omega
      obtain ⟨_, r0, r1, _⟩ := blk2 HM1.out.rc
      have hsb := wAll_bd fs hn 5 (Nat.le_refl _)
      have HAT : Hid (atP fs = (pUpTo fs ((wAll fs z).1, 0) fs.length).1) := Lib.hid (by rw [hze]; rfl)
      have HPT : Hid (ptrsP fs = (pUpTo fs ((wAll fs z).1, 0) fs.length).2) := Lib.hid (by rw [hze]; rfl)
      have HWT : Hid (wordsP fs = ((wAll fs z).2 + 63) / 64) := Lib.hid (by rw [hze]; rfl)
      rw [← hze] at hsb
      have hs1 : (wAll fs z).2 ≤ 320000 := by omega
      clear hz hz5 hze
      generalize wAll fs z = s at *
      go_wp2_with fail
      clear r0 r1
      have hs0 : 0 ≤ s.2 := hsb.1
      go_loopw [52] (fun i wq => WPt w (.string nm) (.slice fa fs.length fc) fs (s.1, 0) i wq) (fun i _ => fs.length - (intOf i).toNat)
      case atStart => exact ⟨0, Nat.zero_le _, rfl, HM1.out⟩
      case round =>
        obtain ⟨k, hk, rfl, hm⟩ := hrel
        have HM2 := Lib.hid hm
        have hub := pUpTo_bd fs (s.1, 0) k
        have hlen := hm.len
        clear hm
        by_cases hkl : k < fs.length
        · have hki : (k : Int) < fs.length := by omega
          obtain ⟨g, cc, hv, hcc, hg, hcell⟩ := row_el sfldCells 5 (fun _ => rfl) (row_keep HM2.out.bel HR.out) k hkl
          obtain ⟨rfl, rfl⟩ := slice_inj hv
          have x0 : wr.cell? ⟨g, k * 5, none⟩ = some (.string fs[k].name) := hcell 0 (by omega)
          have x1 : wr.cell? ⟨g, k * 5 + 1, none⟩ = some (.int .u8 (fs[k].kind : Nat)) := hcell 1 (by omega)
          have x2 : wr.cell? ⟨g, k * 5 + 2, none⟩ = some (.int .i64 (fs[k].ref : Nat)) := hcell 2 (by omega)
          have x3 : wr.cell? ⟨g, k * 5 + 3, none⟩ = some (.int .i64 (fs[k].lists : Nat)) := hcell 3 (by omega)
          have x4 : wr.cell? ⟨g, k * 5 + 4, none⟩ = some (.int .u64 (fs[k].dflt : Nat)) := hcell 4 (by omega)
          have HY := Lib.hid (pUpTo_yes (s := (s.1, 0)) (f := fs[k]) hkl rfl)
          have HN := Lib.hid (fun (a' : List Int) (b' : Int) (h : pUpTo fs (s.1, 0) k = (a', b')) => pUpTo_no (f := fs[k]) h hkl rfl)
          clear hcell hv
          generalize fs[k] = f at *
          obtain ⟨fn, fk, fr, fl, fd⟩ := f
          simp only at x0 x1 x2 x3 x4
          obtain ⟨a1, b1, hab⟩ : ∃ a1 b1, pUpTo fs (s.1, 0) k = (a1, b1) := ⟨_, _, rfl⟩
          have HN2 := Lib.hid (HN.out a1 b1 hab)
          have HY2 := Lib.hid HY.out
          rw [hab] at HM2 hub hlen HY2
          simp only at HM2 hub hlen HY2 HN2
          clear HY HN hab
          obtain ⟨_, r0, r1, _⟩ := blk2 HM2.out.rc
          go_upto_region 17 with (fail)
          have hba : Below wr.heap.size wr (wr.alloc (.cells #[.string fn, .int .u8 fk, .int .i64 fr, .int .i64 fl, .int .u64 fd] 53)) := (Below.refl _ _).alloc (Nat.le_refl _) _
          have hq := heap_alloc_new wr (.cells #[.string fn, .int .u8 fk, .int .i64 fr, .int .i64 fl, .int .u64 fd] 53)
          have HM3 := Lib.hid (HM2.out.later hba)
          clear x0 x1 x2 x3 x4 r0 r1 hba
          generalize wr.alloc (.cells #[.string fn, .int .u8 fk, .int .i64 fr, .int .i64 fl, .int .u64 fd] 53) = W1 at *
          have hWl : wr.heap.size < W1.heap.size := blk_lt hq
          have y1 := (blk_cell hq 1).trans rfl
          have y2 := (blk_cell hq 2).trans rfl
          have y3 := (blk_cell hq 3).trans rfl
          clear hq HM2
          go_wp2_with fail
          refine (lnumber_any fk fr fl W1).mono ?_
          rintro e W2 ⟨rfl, hb2⟩
          have HM4 := Lib.hid (HM3.out.later hb2)
          clear hb2 y1 y2 y3 HM3
          cases hnum : isNumP fk fl
          · have HE := Lib.hid (HN2.out hnum)
            clear HN2 HY2 hnum
            obtain ⟨_, p0, p1, p2, g0, g1, g2⟩ := blk3 HM4.out.pk
            have c0 : W2.cell? ⟨w.heap.size + 1 + 1, k, none⟩ = some (.int .i64 (a1.getD k 0)) := by
              rw [blk_cell HM4.out.row k, i64Cells_map]
              simp [List.getD, hlen, hkl]
            have f0 := blk_frozen HM4.out.row k
            have HP := Lib.hid ((HM4.out.put k b1).bump (b1 + 1))
            generalize a1.getD k 0 = old at *
            have ha1 := IntWalk.i64_in (b1 + 1) (by omega)
            go_wp2
            go_roundw
            case rel => exact ⟨k + 1, hkl, by go_num, by rw [HE.out]; exact HP.out⟩
            case measure => simp [intOf]; omega
          · have HE := Lib.hid (HY2.out hnum)
            clear HN2 HY2 hnum
            go_wp2
            go_roundw
            case rel => exact ⟨k + 1, hkl, by go_num, by rw [HE.out]; exact HM4.out⟩
            case measure => simp [intOf]; omega
        · obtain rfl : k = fs.length := by omega
          rw [← HAT.out, ← HPT.out] at HM2
          have hpb := hub.2
          have hpb0 := hub.1
          rw [← HPT.out] at hpb hpb0
          generalize hptp : ptrsP fs = pt at *
          have HPP := Lib.hid hptp
          clear hptp
          generalize hatp : atP fs = ap at *
          have hal : ap.length = fs.length := by rw [← hatp]; exact atP_len fs
          have HAP := Lib.hid hatp
          clear hatp hub hlen HAT
          obtain ⟨_, p0, p1, p2, g0, g1, g2⟩ := blk3 HM2.out.pk
          obtain ⟨_, o0, o1, o2, i0, i1, i2⟩ := blk3 HM2.out.res
          have hmu : multI s.2 64 = (s.2 + 64 - 1) / 64 * 64 := rfl
          have hdv : (multI s.2 64).tdiv 64 = (s.2 + 63) / 64 := by
            rw [hmu, Int.tdiv_eq_ediv_of_nonneg (by omega)]
            omega
          have hdv2 : multI s.2 64 / 64 = (s.2 + 63) / 64 := by
            rw [hmu]
            omega
          clear hmu
          have hd0 : 0 ≤ (s.2 + 63) / 64 ∧ (s.2 + 63) / 64 ≤ 10000 := by omega
          have HWT2 := Lib.hid HWT.out
          go_wp2_with fail
          refine (multiple_any s.2 64 _ hs0 (by omega) (by omega) (by omega)).mono ?_
          rintro e W3 ⟨rfl, rfl⟩
          generalize multI s.2 64 = mu at *
          generalize (s.2 + 63) / 64 = q at *
          have hrow : W3.ownsRow w.heap.size 3 1 (.slice (some ⟨w.heap.size + 1 + 1, 0, none⟩) fs.length fs.length) fs.length (i64Cells ap) := by
            refine ⟨by rw [i64Cells_length, hal]; omega, .inr ⟨w.heap.size + 1 + 1, fs.length, _, rfl, by omega, HM2.out.row, Nat.le_refl _, by unfold maxLen; omega, by simp [i64Cells_length, hal], ?_⟩⟩
            rw [List.toList_toArray, List.take_of_length_le (by rw [i64Cells_length, hal]; omega)]
          have HROW := Lib.hid hrow
          clear hrow
          go_wp2
          refine post_gen (fun Wf => Wf.heap[w.heap.size + 1]? = some (.cells #[.int .i64 q, .int .i64 pt, .slice (some ⟨w.heap.size + 1 + 1, 0, none⟩) fs.length fs.length] 38 (0, 0)) ∧ Below w.heap.size w Wf ∧ Wf.ownsRow w.heap.size 3 1 (.slice (some ⟨w.heap.size + 1 + 1, 0, none⟩) fs.length fs.length) fs.length (i64Cells ap)) ⟨?_, ?_, ?_⟩ ?_
          · exact blk_set3 (blk_set_ne (p := ⟨w.heap.size + 1 + 1 + 1, 0, none⟩) HM2.out.res (by show w.heap.size + 1 + 1 + 1 ≠ w.heap.size + 1; omega) _) _ _ _
          · exact (((HM2.out.bel.setCell (p := ⟨w.heap.size + 1 + 1 + 1, 0, none⟩) (by show w.heap.size ≤ w.heap.size + 1 + 1 + 1; omega) _).setCell (p := ⟨w.heap.size + 1, 0, none⟩) (Nat.le_succ _) _).setCell (p := ⟨w.heap.size + 1, 1, none⟩) (Nat.le_succ _) _).setCell (p := ⟨w.heap.size + 1, 2, none⟩) (Nat.le_succ _) _
          · refine (exc_set3 (W3.setCell _ _) (w.heap.size + 1) _ _ _).ownsRow ?_ (by simp [Value.ownBlock])
            exact (exc_set W3 (w.heap.size + 1 + 1 + 1) 0 _).ownsRow HROW.out (by simp [Value.ownBlock])
          · rintro Wf ⟨e1, e2, e3⟩
            obtain ⟨_, d0, d1, d2, _⟩ := blk3 e1
            refine bodyPost_ret (v := .agg #[.int .i64 q, .int .i64 pt, .slice (some ⟨w.heap.size + 1 + 1, 0, none⟩) fs.length fs.length]) (by simp [results, Tryd.results12, go_sem, d0, d1, d2]) rfl ⟨_, by rw [HWT2.out, HPP.out], by rw [HAP.out]; exact e3, e2⟩
end Go.Proofs.YtdlfndjgncdgfaaDoor
