/-
  The document's own Tabled. Conditions: those that each theorem names.
-/
import Derived.Test.YtcbkdohahfjbfaaDoorLayTP
import Derived.Test.YtcbkdohahfjbfaaDoorLayMake
import Derived.Deep.Cut
namespace Go.Proofs.YtcbkdohahfjbfaaDoor
open Go.ChangeShapes Go.WideShapes Go.ChangeAt Go.RowKit Go.Shelf

/-- The memory of the document's Tabled: the struct's record, the places. -/
structure RTM (w : World) (nm fv : Value) (pl : List Int) (W : World) : Prop where
  bel : Below w.heap.size w W
  rc : W.heap[w.heap.size]? = some (.cells #[nm, fv] 36 (0, 0))
  row : W.heap[w.heap.size + 1]? = some (.cells (i64Cells pl).toArray 3 (0, 0))
theorem RTM.later {w W W' : World} {nm fv : Value} {pl : List Int} (h : RTM w nm fv pl W) (hb : Below W.heap.size W W') : RTM w nm fv pl W' :=
  ⟨h.bel.trans (hb.mono h.bel.size), blk_below h.rc hb (blk_lt h.rc), blk_below h.row hb (blk_lt h.row)⟩
theorem RTM.put {w W : World} {nm fv : Value} {pl : List Int} (h : RTM w nm fv pl W) (k : Nat) (z : Int) : RTM w nm fv (pl.set k z) (W.setCell ⟨w.heap.size + 1, k, none⟩ (.int .i64 z)) :=
  ⟨h.bel.setCell (p := ⟨w.heap.size + 1, k, none⟩) (by show w.heap.size ≤ w.heap.size + 1; omega) _, blk_set_ne h.rc (by show w.heap.size + 1 ≠ _; omega) _, (blk_set h.row k _).trans (by rw [i64_set])⟩
theorem RTM.start (w : World) (nm fv : Value) (n : Nat) : RTM w nm fv (List.replicate n 0) ((w.alloc (.cells #[nm, fv] 36)).alloc (.cells (i64Cells (List.replicate n 0)).toArray 3)) := by
  refine ⟨((Below.refl _ _).alloc (Nat.le_refl _) _).alloc (by simp) _, ?_, ?_⟩
  · exact blk_alloc (heap_alloc_new w _) _
  · have h := heap_alloc_new (w.alloc (.cells #[nm, fv] 36)) (.cells (i64Cells (List.replicate n 0)).toArray 3)
    rw [World.size_alloc] at h
    exact h
def zOf (j : Nat) : Int := [(8 : Int), 4, 2, 1, 0].getD j 0
theorem zOf_in (j : Nat) (h : j < 4) : zOf j = inlinesL.getD j 0 ∧ (zOf j).tdiv 2 = zOf (j + 1) ∧ 0 < zOf j ∧ (zOf (j + 1)).toNat < (zOf j).toNat := by
  have : j = 0 ∨ j = 1 ∨ j = 2 ∨ j = 3 := by omega
  rcases this with rfl | rfl | rfl | rfl <;> decide
/-- Where the loops of the document's Tabled are. -/
def RTOut (w : World) (nm fv : Value) (fs : List SFld) (th : List Bool) (b a z : Value) (W : World) : Prop :=
  ∃ j : Nat, j ≤ 4 ∧ z = .int .i64 (zOf j) ∧ b = .int .i64 (tabAll fs th j).size ∧ a = .int .i64 (tabAll fs th j).al ∧ RTM w nm fv (tabAll fs th j).pl W
def RTIn (w : World) (nm fv : Value) (fs : List SFld) (th : List Bool) (wd : Int) (s : TabSt) (b a i : Value) (W : World) : Prop :=
  ∃ k : Nat, k ≤ fs.length ∧ i = .int .i64 k ∧ b = .int .i64 (tabUp wd fs th s k).size ∧ a = .int .i64 (tabUp wd fs th s k).al ∧ RTM w nm fv (tabUp wd fs th s k).pl W
def RTUp (W0 : World) (n wd : Int) (b : Value) (W : World) : Prop := ∃ c : Int, n ≤ c ∧ c ≤ multI n wd ∧ b = .int .i64 c ∧ W0 = W
/-- What the document's Tabled hands back. -/
def RTPost (fs : List SFld) (th : List Bool) (w : World) (e : Ending) (w' : World) : Prop :=
  ∃ v, e = .returned (.tuple #[v, .int .i64 (tabAll fs th 4).size, .int .i64 (tabAll fs th 4).al]) ∧ w'.ownsRow w.heap.size 3 1 v (tabAll fs th 4).pl.length (i64Cells (tabAll fs th 4).pl) ∧ Below w.heap.size w w'
set_option maxRecDepth 100000 in
set_option maxHeartbeats 8000000 in
theorem rtabled_any (w : World) (nm : ByteArray) (fs : List SFld) (fv : Value) (base : Nat) (h : w.ownsRow base 52 5 fv fs.length (sfldsCells fs)) (hn : fs.length ≤ 1000) (hkd : ∀ f ∈ fs, f.kind ≤ 255) (th : List Bool) (tv : Value) (tbase : Nat) (ht : w.ownsRow tbase 4 1 tv th.length (boolCells th)) (hth : th.length = fs.length) :
    Calls Tryd.prog 20 #[.agg #[.string nm, fv], tv] w (RTPost fs th w) := by
  obtain ⟨fa, fc, rfl⟩ := ownsRow_form h
  obtain ⟨ta, tc, rfl⟩ := ownsRow_form ht
  have HR := Lib.hid h
  have HTH := Lib.hid ht
  have HTL := Lib.hid hth
  have HKD := Lib.hid hkd
  have hfew := row_few h
  have hfew2 := row_few ht
  have hmk := make_ints fs.length (by omega)
  clear h ht hth hkd
  go_enter Tryd.func20, Tryd.ntmps20
  go_upto_region 3 with (fail)
  have HM := Lib.hid (RTM.start w (.string nm) (.slice fa fs.length fc) fs.length)
  generalize (w.alloc (.cells #[.string nm, .slice fa fs.length fc] 36)).alloc (.cells (i64Cells (List.replicate fs.length 0)).toArray 3) = W0 at *
  clear hmk
  go_wp2_with fail
  go_loopw [8, 9, 10] (fun b a z wr => RTOut w (.string nm) (.slice fa fs.length fc) fs th b a z wr) (fun _ _ z _ => (intOf z).toNat)
  case atStart => exact ⟨0, Nat.zero_le _, rfl, rfl, rfl, HM.out⟩
  case round =>
    obtain ⟨j, hj, rfl, rfl, rfl, hm⟩ := hrel
    have HM1 := Lib.hid hm
    clear hm HM
    obtain ⟨hsl, hsz0, hsz1, hal0, hal1⟩ := tabAll_facts fs th j (by omega)
    have hs1 : (tabAll fs th j).size ≤ 60004 := by
      have : fs.length * j ≤ 1000 * 4 := Nat.mul_le_mul hn hj
      omega
    clear hsz1
    by_cases hj4 : j < 4
    · obtain ⟨hzi, hzd, hz0, hzm⟩ := zOf_in j hj4
      have hwd := inlines_is j hj4
      rw [← hzi] at hwd
      have HWA : Hid (tabAll fs th (j + 1) = tabUp (zOf j) fs th (tabAll fs th j) fs.length) := Lib.hid (by rw [hzi]; rfl)
      have HZN : Hid ((intOf (.int .i64 (zOf (j + 1)))).toNat < (intOf (.int .i64 (zOf j))).toNat) := Lib.hid hzm
      clear hzi hzm
      generalize hzj : zOf j = wd at *
      have HZJ := Lib.hid hzj
      generalize hzj2 : zOf (j + 1) = wd2 at *
      have HZJ2 := Lib.hid hzj2
      generalize tabAll fs th j = s at *
      clear hzj hzj2
      go_wp2_with fail
      go_loopw [8, 9, 11] (fun b a i wq => RTIn w (.string nm) (.slice fa fs.length fc) fs th wd s b a i wq) (fun _ _ i _ => fs.length - (intOf i).toNat)
      case atStart => exact ⟨0, Nat.zero_le _, rfl, rfl, rfl, HM1.out⟩
      case round =>
        obtain ⟨k, hk, rfl, rfl, rfl, hm⟩ := hrel
        have HM2 := Lib.hid hm
        obtain ⟨hpl, hp4, hp5, ha4, ha8⟩ := tabUp_facts hwd fs th s hsz0 hal0 hal1 k
        clear hm
        obtain ⟨hBl, r0, r1, _⟩ := blk2 HM2.out.rc
        by_cases hkl : k < fs.length
        · have hki : (k : Int) < fs.length := by omega
          have hkt : k < th.length := by rw [HTL.out]; exact hkl
          have hkti : (k : Int) < th.length := by omega
          have hki0 : (0 : Int) ≤ (k : Int) := by omega
          obtain ⟨g, cc, hv, hcc, hg, hcell⟩ := row_el sfldCells 5 (fun _ => rfl) (row_keep HM2.out.bel HR.out) k hkl
          obtain ⟨rfl, rfl⟩ := slice_inj hv
          obtain ⟨g3, c3, hv3, _, hg3, t0⟩ := row_bool (row_keep HM2.out.bel HTH.out) k hkt
          obtain ⟨rfl, rfl⟩ := slice_inj hv3
          have x0 : wr.cell? ⟨g, k * 5, none⟩ = some (.string fs[k].name) := hcell 0 (by omega)
          have x1 : wr.cell? ⟨g, k * 5 + 1, none⟩ = some (.int .u8 (fs[k].kind : Nat)) := hcell 1 (by omega)
          have x2 : wr.cell? ⟨g, k * 5 + 2, none⟩ = some (.int .i64 (fs[k].ref : Nat)) := hcell 2 (by omega)
          have x3 : wr.cell? ⟨g, k * 5 + 3, none⟩ = some (.int .i64 (fs[k].lists : Nat)) := hcell 3 (by omega)
          have x4 : wr.cell? ⟨g, k * 5 + 4, none⟩ = some (.int .u64 (fs[k].dflt : Nat)) := hcell 4 (by omega)
          have HST := Lib.hid (tabUp_step (z := wd) (s := s) hkl hkt)
          have hkb := HKD.out fs[k] (List.getElem_mem hkl)
          clear hcell hv hv3
          generalize fs[k] = f at *
          generalize th[k] = b at *
          obtain ⟨fn, fk, fr, fl, fd⟩ := f
          simp only at x0 x1 x2 x3 x4 hkb
          generalize tabUp wd fs th s k = st at *
          have hmb := mult_bd hwd (show 0 ≤ st.size by omega)
          have hib := inlP_bd ⟨fn, fk, fr, fl, fd⟩
          cases b
          · have HE := Lib.hid (HST.out.trans (tabStep_no (.inl rfl)))
            clear HST
            go_wp2
            go_roundw
            case rel => exact ⟨k + 1, hkl, by go_num, by rw [HE.out], by rw [HE.out], by rw [HE.out]; exact HM2.out⟩
            case measure => simp [intOf]; omega
          · go_wp2_with fail
            refine (rinline_any fn fk fr fl fd wr hkb).mono ?_
            rintro e W2 ⟨rfl, hb2⟩
            have HM4 := Lib.hid (HM2.out.later hb2)
            clear hb2 x0 x1 x2 x3 x4 t0 HM2 r0 r1
            by_cases hiw : inlP ⟨fn, fk, fr, fl, fd⟩ = wd
            · have HE := Lib.hid (HST.out.trans (tabStep_yes rfl hiw))
              rw [hiw]
              clear HST hiw hib
              go_wp2_with fail
              have hm0 : multI st.size wd ≤ 100000 := by omega
              go_loopw [8] (fun b wq => RTUp W2 st.size wd b wq) (fun b _ => (multI st.size wd - intOf b).toNat)
              case atStart => exact ⟨st.size, Int.le_refl _, hmb.1, rfl, rfl⟩
              case round =>
                obtain ⟨c, hc1, hc2, rfl, hw⟩ := hrel
                obtain rfl : W2 = wr := hw
                have hwd0 : wd ≠ 0 := by omega
                have hct : c.tmod wd = c % wd := Int.tmod_eq_emod_of_nonneg (by omega)
                by_cases hcm : c % wd = 0
                · have hce := mult_end hwd hc1 hc2 hcm
                  have tb : (c % wd != 0) = false := by simpa using hcm
                  have HP := Lib.hid (HM4.out.put k c)
                  have c0 : W2.cell? ⟨w.heap.size + 1, k, none⟩ = some (.int .i64 (st.pl.getD k 0)) := by
                    rw [blk_cell HM4.out.row k, i64Cells_map]
                    simp [List.getD, hpl, hsl, hkl]
                  have f0 := blk_frozen HM4.out.row k
                  have k1 := IntWalk.i64_in (c + wd) (by omega)
                  have HCE := Lib.hid hce
                  obtain ⟨hBl2, r0, r1, _⟩ := blk2 HP.out.rc
                  generalize st.pl.getD k 0 = old at *
                  clear hcm hce hc1 hc2
                  by_cases hal : st.al < wd
                  · have HMX : Hid (max st.al wd = wd) := Lib.hid (by omega)
                    go_wp2
                    go_roundw
                    case rel => exact ⟨k + 1, hkl, by go_num, by rw [HE.out, HCE.out], by rw [HE.out]; simp only; rw [HMX.out], by rw [HE.out, ← HCE.out]; exact HP.out⟩
                    case measure => simp [intOf]; omega
                  · have HMX : Hid (max st.al wd = st.al) := Lib.hid (by omega)
                    go_wp2
                    go_roundw
                    case rel => exact ⟨k + 1, hkl, by go_num, by rw [HE.out, HCE.out], by rw [HE.out]; simp only; rw [HMX.out], by rw [HE.out, ← HCE.out]; exact HP.out⟩
                    case measure => simp [intOf]; omega
                · have hcu := mult_up hwd hc1 hc2 hcm
                  have tb : (c % wd != 0) = true := by simpa using hcm
                  have k1 := IntWalk.i64_in (c + 1) (by omega)
                  clear hcm
                  go_wp2
                  go_roundw
                  case rel => exact ⟨c + 1, by omega, hcu, by go_num, rfl⟩
                  case measure => simp [intOf]; omega
            · have HE := Lib.hid (HST.out.trans (tabStep_no (.inr hiw)))
              have tb : (inlP ⟨fn, fk, fr, fl, fd⟩ == wd) = false := by simpa using hiw
              have hrc := HM4.out.rc
              obtain ⟨hBl2, r0, r1, _⟩ := blk2 hrc
              generalize inlP ⟨fn, fk, fr, fl, fd⟩ = q at *
              clear HST hrc
              go_wp2
              go_roundw
              case rel => exact ⟨k + 1, hkl, by go_num, by rw [HE.out], by rw [HE.out], by rw [HE.out]; exact HM4.out⟩
              case measure => simp [intOf]; omega
        · obtain rfl : k = fs.length := by omega
          have HE := Lib.hid HWA.out
          have hdv : wd / 2 = wd2 := by rw [← hzd]; exact (Int.tdiv_eq_ediv_of_nonneg (by omega)).symm
          go_wp2
          exact ⟨⟨j + 1, by omega, by rw [HZJ2.out], by rw [HE.out], by rw [HE.out], by rw [HE.out]; exact HM2.out⟩, HZN.out⟩
    · have hze : j = 4 := by omega
      have HEQ : Hid (tabAll fs th 4 = tabAll fs th j) := Lib.hid (by rw [hze])
      have hz0 : zOf j = 0 := by rw [hze]; rfl
      rw [hz0]
      clear hze hj hj4
      generalize tabAll fs th j = st at *
      have hrow : wr.ownsRow w.heap.size 3 1 (.slice (some ⟨w.heap.size + 1, 0, none⟩) fs.length fs.length) fs.length (i64Cells st.pl) := by
        refine ⟨by rw [i64Cells_length, hsl]; omega, .inr ⟨w.heap.size + 1, fs.length, _, rfl, by omega, HM1.out.row, Nat.le_refl _, by unfold maxLen; omega, by simp [i64Cells_length, hsl], ?_⟩⟩
        rw [List.toList_toArray, List.take_of_length_le (by rw [i64Cells_length, hsl]; omega)]
      have HROW := Lib.hid hrow
      clear hrow hz0
      go_wp2
      refine bodyPost_ret (v := .tuple #[.slice (some ⟨w.heap.size + 1, 0, none⟩) fs.length fs.length, .int .i64 st.size, .int .i64 st.al]) (by simp [results, Tryd.results20, go_sem]) rfl ?_
      unfold RTPost
      rw [HEQ.out, hsl]
      exact ⟨_, rfl, HROW.out, HM1.out.bel⟩
end Go.Proofs.YtcbkdohahfjbfaaDoor
