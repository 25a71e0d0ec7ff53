/-
  The package layout's Tabled. Conditions: those that each theorem names; the listed sizes lie as the row lists them.
-/
import Derived.Test.YtdlfndjgncdgfaaDoorLayITab
import Derived.Test.YtdlfndjgncdgfaaDoorLayMake
import Derived.Deep.Cut
import Derived.Deep.RegionLaw
import Derived.Deep.RegionHeld3
namespace Go.Proofs.YtdlfndjgncdgfaaDoor
open Go.ChangeShapes Go.WideShapes Go.ChangeAt Go.RowKit Go.Shelf

/-- The memory of Tabled: the struct's record, the result, the places, the Table that is made. -/
structure TM (w : World) (nm fv : Value) (n : Nat) (st : TabSt) (W : World) : Prop where
  bel : Below w.heap.size w W
  rc : W.heap[w.heap.size]? = some (.cells #[nm, fv] 35 (0, 0))
  res : W.heap[w.heap.size + 1]? = some (.cells #[.slice none 0 0, .int .i64 0, .int .i64 0] 45 (0, 0))
  row : W.heap[w.heap.size + 1 + 1]? = some (.cells (i64Cells st.pl).toArray 3 (0, 0))
  tb : W.heap[w.heap.size + 1 + 1 + 1]? = some (.cells #[.slice (some ⟨w.heap.size + 1 + 1, 0, none⟩) n n, .int .i64 st.size, .int .i64 st.al] 45 (0, 0))
theorem TM.later {w W W' : World} {nm fv : Value} {n : Nat} {st : TabSt} (h : TM w nm fv n st W) (hb : Below W.heap.size W W') : TM w nm fv n st W' :=
  ⟨h.bel.trans (hb.mono h.bel.size), blk_below h.rc hb (blk_lt h.rc), blk_below h.res hb (blk_lt h.res), blk_below h.row hb (blk_lt h.row), blk_below h.tb hb (blk_lt h.tb)⟩
theorem TM.drew {w W : World} {nm fv : Value} {n : Nat} {st : TabSt} (h : TM w nm fv n st W) : TM w nm fv n st W.drew := ⟨h.bel.drew, h.rc, h.res, h.row, h.tb⟩
theorem TM.put {w W : World} {nm fv : Value} {n : Nat} {st : TabSt} (h : TM w nm fv n st W) (k : Nat) (z : Int) : TM w nm fv n ⟨st.pl.set k z, st.size, st.al⟩ (W.setCell ⟨w.heap.size + 1 + 1, k, none⟩ (.int .i64 z)) :=
  ⟨h.bel.setCell (p := ⟨w.heap.size + 1 + 1, k, none⟩) (by show w.heap.size ≤ w.heap.size + 1 + 1; omega) _, blk_set_ne h.rc (by show w.heap.size + 1 + 1 ≠ _; omega) _, blk_set_ne h.res (by show w.heap.size + 1 + 1 ≠ _; omega) _, (blk_set h.row k _).trans (by rw [i64_set]), blk_set_ne h.tb (by show w.heap.size + 1 + 1 ≠ _; omega) _⟩
theorem TM.sized {w W : World} {nm fv : Value} {n : Nat} {st : TabSt} (h : TM w nm fv n st W) (z : Int) : TM w nm fv n ⟨st.pl, z, st.al⟩ (W.setCell ⟨w.heap.size + 1 + 1 + 1, 1, none⟩ (.int .i64 z)) :=
  ⟨h.bel.setCell (p := ⟨w.heap.size + 1 + 1 + 1, 1, none⟩) (by show w.heap.size ≤ w.heap.size + 1 + 1 + 1; omega) _, blk_set_ne h.rc (by show w.heap.size + 1 + 1 + 1 ≠ _; omega) _, blk_set_ne h.res (by show w.heap.size + 1 + 1 + 1 ≠ _; omega) _, blk_set_ne h.row (by show w.heap.size + 1 + 1 + 1 ≠ _; omega) _, (blk_set h.tb 1 _).trans rfl⟩
theorem TM.aligned {w W : World} {nm fv : Value} {n : Nat} {st : TabSt} (h : TM w nm fv n st W) (z : Int) : TM w nm fv n ⟨st.pl, st.size, z⟩ (W.setCell ⟨w.heap.size + 1 + 1 + 1, 2, none⟩ (.int .i64 z)) :=
  ⟨h.bel.setCell (p := ⟨w.heap.size + 1 + 1 + 1, 2, none⟩) (by show w.heap.size ≤ w.heap.size + 1 + 1 + 1; omega) _, blk_set_ne h.rc (by show w.heap.size + 1 + 1 + 1 ≠ _; omega) _, blk_set_ne h.res (by show w.heap.size + 1 + 1 + 1 ≠ _; omega) _, blk_set_ne h.row (by show w.heap.size + 1 + 1 + 1 ≠ _; omega) _, (blk_set h.tb 2 _).trans rfl⟩
theorem TM.start (w : World) (nm fv : Value) (n : Nat) : TM w nm fv n ⟨List.replicate n 0, 4, 4⟩ ((((w.alloc (.cells #[nm, fv] 35)).alloc (.cells #[.slice none 0 0, .int .i64 0, .int .i64 0] 45)).alloc (.cells (i64Cells (List.replicate n 0)).toArray 3)).alloc (.cells #[.slice (some ⟨w.heap.size + 1 + 1, 0, none⟩) n n, .int .i64 4, .int .i64 4] 45)) := by
  refine ⟨((((Below.refl _ _).alloc (Nat.le_refl _) _).alloc (by simp) _).alloc (by simp; omega) _).alloc (by simp; omega) _, ?_, ?_, ?_, ?_⟩
  · exact blk_alloc (blk_alloc (blk_alloc (heap_alloc_new w _) _) _) _
  · have h := heap_alloc_new (w.alloc (.cells #[nm, fv] 35)) (.cells #[.slice none 0 0, .int .i64 0, .int .i64 0] 45)
    rw [World.size_alloc] at h
    exact blk_alloc (blk_alloc h _) _
  · have h := heap_alloc_new ((w.alloc (.cells #[nm, fv] 35)).alloc (.cells #[.slice none 0 0, .int .i64 0, .int .i64 0] 45)) (.cells (i64Cells (List.replicate n 0)).toArray 3)
    rw [World.size_alloc, World.size_alloc] at h
    exact blk_alloc h _
  · have h := heap_alloc_new (((w.alloc (.cells #[nm, fv] 35)).alloc (.cells #[.slice none 0 0, .int .i64 0, .int .i64 0] 45)).alloc (.cells (i64Cells (List.replicate n 0)).toArray 3)) (.cells #[.slice (some ⟨w.heap.size + 1 + 1, 0, none⟩) n n, .int .i64 4, .int .i64 4] 45)
    rw [World.size_alloc, World.size_alloc, World.size_alloc] at h
    exact h
/-- Where the loops of Tabled are. -/
def TOut (w : World) (nm fv : Value) (fs : List SFld) (th : List Bool) (z : Value) (W : World) : Prop :=
  ∃ k : Nat, k ≤ 4 ∧ z = .int .i64 k ∧ TM w nm fv fs.length (tabAll fs th k) W
def TIn (w : World) (nm fv : Value) (fs : List SFld) (th : List Bool) (wd : Int) (s : TabSt) (i : Value) (W : World) : Prop :=
  ∃ k : Nat, k ≤ fs.length ∧ i = .int .i64 k ∧ TM w nm fv fs.length (tabUp wd fs th s k) W
/-- What Tabled hands back. -/
def TPost (fs : List SFld) (th : List Bool) (w : World) (e : Ending) (w' : World) : Prop :=
  ∃ v, e = .returned (.agg #[v, .int .i64 (tabAll fs th 4).size, .int .i64 (tabAll fs th 4).al]) ∧ w'.ownsRow w.heap.size 3 1 v (tabAll fs th 4).pl.length (i64Cells (tabAll fs th 4).pl) ∧ Below w.heap.size w w'
set_option maxRecDepth 100000 in
set_option maxHeartbeats 8000000 in
theorem tabled_any (w : World) (nm : ByteArray) (fs : List SFld) (fv : Value) (base : Nat) (h : w.ownsRow base 53 5 fv fs.length (sfldsCells fs)) (hn : fs.length ≤ 1000) (th : List Bool) (tv : Value) (tbase : Nat) (ht : w.ownsRow tbase 4 1 tv th.length (boolCells th)) (hth : th.length = fs.length) (hT : ITab w) :
    Calls Tryd.prog 14 #[.agg #[.string nm, fv], tv] w (TPost fs th w) := by
  obtain ⟨fa, fc, rfl⟩ := ownsRow_form h
  obtain ⟨ta, tc, rfl⟩ := ownsRow_form ht
  have HR := Lib.hid h
  have HTH := Lib.hid ht
  have HTL := Lib.hid hth
  have HT := Lib.hid hT
  have hfew := row_few h
  have hfew2 := row_few ht
  have hmk := make_ints fs.length (by omega)
  clear h hT ht hth
  go_enter Tryd.func14, Tryd.ntmps14
  go_upto_region 2 with (fail)
  have HM := Lib.hid (TM.start w (.string nm) (.slice fa fs.length fc) fs.length)
  generalize ((((w.alloc (.cells #[.string nm, .slice fa fs.length fc] 35)).alloc (.cells #[.slice none 0 0, .int .i64 0, .int .i64 0] 45)).alloc (.cells (i64Cells (List.replicate fs.length 0)).toArray 3)).alloc (.cells #[.slice (some ⟨w.heap.size + 1 + 1, 0, none⟩) fs.length fs.length, .int .i64 4, .int .i64 4] 45)) = W0 at *
  obtain ⟨_, q0, q1, q2, q3⟩ := HT.out.below HM.out.bel
  clear hmk
  go_wp2_with fail
  clear q0 q1 q2 q3
  go_loopw [16] (fun z wr => TOut w (.string nm) (.slice fa fs.length fc) fs th z wr) (fun z _ => 4 - (intOf z).toNat)
  case atStart => exact ⟨0, Nat.zero_le _, rfl, HM.out⟩
  case round =>
    obtain ⟨z, hz, rfl, hm⟩ := hrel
    have HM1 := Lib.hid hm
    clear hm HM
    obtain ⟨_, r0, r1, _⟩ := blk2 HM1.out.rc
    by_cases hz4 : z < 4
    · have hzi : (z : Int) < 4 := by omega
      have hix := idx4 z hz4
      have hwd := inlines_is z hz4
      have HWA : Hid (tabAll fs th (z + 1) = tabUp (inlinesL.getD z 0) fs th (tabAll fs th z) fs.length) := Lib.hid rfl
      obtain ⟨hsl, hsz0, hsz1, hal0, hal1⟩ := tabAll_facts fs th z (by omega)
      generalize inlinesL.getD z 0 = wd at *
      generalize tabAll fs th z = s at *
      have hs1 : s.size ≤ 60004 := by
        have : fs.length * z ≤ 1000 * 4 := Nat.mul_le_mul hn (by omega)
        omega
      clear hsz1
      go_wp2_with fail
      clear r0 r1
      go_loopw [22] (fun i wq => TIn w (.string nm) (.slice fa fs.length fc) fs th wd s i wq) (fun i _ => fs.length - (intOf i).toNat)
      case atStart => exact ⟨0, Nat.zero_le _, rfl, HM1.out⟩
      case round =>
        obtain ⟨k, hk, rfl, hm⟩ := hrel
        have HM2 := Lib.hid hm
        obtain ⟨hpl, hp4, hp5, ha4, ha8⟩ := tabUp_facts hwd fs th s hsz0 hal0 hal1 k
        clear hm
        by_cases hkl : k < fs.length
        · have hki : (k : Int) < fs.length := by omega
          have hkt : k < th.length := by rw [HTL.out]; exact hkl
          have hkti : (k : Int) < th.length := by omega
          have hki0 : (0 : Int) ≤ (k : Int) := by omega
          have tge : decide ((th.length : Int) ≤ (k : Int)) = false := decide_eq_false (by omega)
          obtain ⟨g, cc, hv, hcc, hg, hcell⟩ := row_el sfldCells 5 (fun _ => rfl) (row_keep HM2.out.bel HR.out) k hkl
          obtain ⟨rfl, rfl⟩ := slice_inj hv
          obtain ⟨g3, c3, hv3, _, hg3, t0⟩ := row_bool (row_keep HM2.out.bel HTH.out) k hkt
          obtain ⟨rfl, rfl⟩ := slice_inj hv3
          have x0 : wr.cell? ⟨g, k * 5, none⟩ = some (.string fs[k].name) := hcell 0 (by omega)
          have x1 : wr.cell? ⟨g, k * 5 + 1, none⟩ = some (.int .u8 (fs[k].kind : Nat)) := hcell 1 (by omega)
          have x2 : wr.cell? ⟨g, k * 5 + 2, none⟩ = some (.int .i64 (fs[k].ref : Nat)) := hcell 2 (by omega)
          have x3 : wr.cell? ⟨g, k * 5 + 3, none⟩ = some (.int .i64 (fs[k].lists : Nat)) := hcell 3 (by omega)
          have x4 : wr.cell? ⟨g, k * 5 + 4, none⟩ = some (.int .u64 (fs[k].dflt : Nat)) := hcell 4 (by omega)
          have HST := Lib.hid (tabUp_step (z := wd) (s := s) hkl hkt)
          clear hcell hv hv3
          generalize fs[k] = f at *
          generalize th[k] = b at *
          obtain ⟨fn, fk, fr, fl, fd⟩ := f
          simp only at x0 x1 x2 x3 x4
          generalize tabUp wd fs th s k = st at *
          have hmb := mult_bd hwd (show 0 ≤ st.size by omega)
          have hib := inlP_bd ⟨fn, fk, fr, fl, fd⟩
          go_upto_region 8 with (fail)
          have hba : Below wr.heap.size wr (wr.alloc (.cells #[.string fn, .int .u8 fk, .int .i64 fr, .int .i64 fl, .int .u64 fd] 53)) := (Below.refl _ _).alloc (Nat.le_refl _) _
          have hq := heap_alloc_new wr (.cells #[.string fn, .int .u8 fk, .int .i64 fr, .int .i64 fl, .int .u64 fd] 53)
          have HM3 := Lib.hid (HM2.out.later hba)
          have u0 := (hba.cell (p := ⟨g3, k, none⟩) hg3).trans t0
          clear x0 x1 x2 x3 x4 hba t0
          generalize wr.alloc (.cells #[.string fn, .int .u8 fk, .int .i64 fr, .int .i64 fl, .int .u64 fd] 53) = W1 at *
          have hWl : wr.heap.size < W1.heap.size := blk_lt hq
          have y0 := (blk_cell hq 0).trans rfl
          have y1 := (blk_cell hq 1).trans rfl
          have y2 := (blk_cell hq 2).trans rfl
          have y3 := (blk_cell hq 3).trans rfl
          have y4 := (blk_cell hq 4).trans rfl
          clear hq HM2
          cases b
          · have HE := Lib.hid (HST.out.trans (tabStep_no (.inl rfl)))
            clear HST
            go_wp2
            go_roundw
            case rel => exact ⟨k + 1, hkl, by go_num, by rw [HE.out]; exact HM3.out⟩
            case measure => simp [intOf]; omega
          · go_wp2_with fail
            refine (linline_any fn fk fr fl fd W1).mono ?_
            rintro e W2 ⟨rfl, hb2⟩
            have HM4 := Lib.hid (HM3.out.later hb2)
            clear hb2 y0 y1 y2 y3 y4 u0 HM3
            by_cases hiw : inlP ⟨fn, fk, fr, fl, fd⟩ = wd
            · have HE := Lib.hid (HST.out.trans (tabStep_yes rfl hiw))
              rw [hiw]
              have HMUL := Lib.hid (fun W => multiple_any st.size wd W (by omega) (by omega) (by omega) (by omega))
              have k1 := IntWalk.i64_in (multI st.size wd + wd) (by omega)
              generalize multI st.size wd = m at *
              clear HST hiw hib
              obtain ⟨_, p0, p1, p2, g0, g1, g2⟩ := blk3 HM4.out.tb
              have c0 : W2.cell? ⟨w.heap.size + 1 + 1, k, none⟩ = some (.int .i64 (st.pl.getD k 0)) := by
                rw [blk_cell HM4.out.row k, i64Cells_map]
                simp [List.getD, hpl, hsl, hkl]
              have f0 := blk_frozen HM4.out.row k
              have HP1 := Lib.hid (HM4.out.put k m).drew
              generalize st.pl.getD k 0 = old at *
              go_upto_region 9 with (fail)
              go_region_law (first | (go_simp; go_at_call 34; (refine (HMUL.out _).mono ?_); rintro e Wc ⟨rfl, rfl⟩))
              all_goals
                clear p0 p1 p2 g0 g1 g2 c0 f0
                simp only [Exit.then]
                generalize (W2.setCell ⟨w.heap.size + 1 + 1, k, none⟩ (.int .i64 m)).drew = W5 at *
                obtain ⟨_, p0, p1, p2, g0, g1, g2⟩ := blk3 HP1.out.tb
                have c0 : W5.cell? ⟨w.heap.size + 1 + 1, k, none⟩ = some (.int .i64 m) := by
                  rw [blk_cell HP1.out.row k, i64Cells_map]
                  simp [hpl, hsl, hkl]
                have HP2 := Lib.hid ((HP1.out.sized (m + wd)).aligned (max st.al wd))
                go_wp2
                go_roundw
                case rel => rw [show (if st.al < wd then wd else st.al) = max st.al wd from by split <;> omega]; exact ⟨k + 1, hkl, by go_num, by rw [HE.out]; exact HP2.out⟩
                case measure => simp [intOf]; omega
            · have HE := Lib.hid (HST.out.trans (tabStep_no (.inr hiw)))
              have tb : (inlP ⟨fn, fk, fr, fl, fd⟩ != wd) = true := by simpa using hiw
              generalize inlP ⟨fn, fk, fr, fl, fd⟩ = q at *
              clear HST
              go_wp2
              go_roundw
              case rel => exact ⟨k + 1, hkl, by go_num, by rw [HE.out]; exact HM4.out⟩
              case measure => simp [intOf]; omega
        · obtain rfl : k = fs.length := by omega
          have HE := Lib.hid HWA.out
          go_wp2
          go_roundw
          case rel => exact ⟨z + 1, by omega, by go_num, by rw [HE.out]; exact HM2.out⟩
          case measure => simp [intOf]; omega
    · have hze : z = 4 := by omega
      have hzi : ¬ (z : Int) < 4 := by omega
      obtain ⟨hsl, hsz0, hsz1, hal0, hal1⟩ := tabAll_facts fs th z (by omega)
      have HEQ : Hid (tabAll fs th 4 = tabAll fs th z) := Lib.hid (by rw [hze])
      clear hz hz4 hze hsz1
      generalize tabAll fs th z = st at *
      obtain ⟨_, p0, p1, p2, g0, g1, g2⟩ := blk3 HM1.out.tb
      obtain ⟨_, o0, o1, o2, i0, i1, i2⟩ := blk3 HM1.out.res
      have hrow : wr.ownsRow w.heap.size 3 1 (.slice (some ⟨w.heap.size + 1 + 1, 0, none⟩) fs.length fs.length) fs.length (i64Cells st.pl) := by
        refine ⟨by rw [i64Cells_length, hsl]; omega, .inr ⟨w.heap.size + 1 + 1, fs.length, _, rfl, by omega, HM1.out.row, Nat.le_refl _, by unfold maxLen; omega, by simp [i64Cells_length, hsl], ?_⟩⟩
        rw [List.toList_toArray, List.take_of_length_le (by rw [i64Cells_length, hsl]; omega)]
      have HROW := Lib.hid hrow
      clear hrow
      go_wp2
      refine post_gen (fun Wf => Wf.heap[w.heap.size + 1]? = some (.cells #[.slice (some ⟨w.heap.size + 1 + 1, 0, none⟩) fs.length fs.length, .int .i64 st.size, .int .i64 st.al] 45 (0, 0)) ∧ Below w.heap.size w Wf ∧ Wf.ownsRow w.heap.size 3 1 (.slice (some ⟨w.heap.size + 1 + 1, 0, none⟩) fs.length fs.length) fs.length (i64Cells st.pl)) ⟨?_, ?_, ?_⟩ ?_
      · exact blk_set3 HM1.out.res _ _ _
      · exact ((HM1.out.bel.setCell (p := ⟨w.heap.size + 1, 0, none⟩) (Nat.le_succ _) _).setCell (p := ⟨w.heap.size + 1, 1, none⟩) (Nat.le_succ _) _).setCell (p := ⟨w.heap.size + 1, 2, none⟩) (Nat.le_succ _) _
      · exact (exc_set3 wr (w.heap.size + 1) _ _ _).ownsRow HROW.out (by simp [Value.ownBlock])
      · rintro Wf ⟨e1, e2, e3⟩
        obtain ⟨_, d0, d1, d2, _⟩ := blk3 e1
        refine bodyPost_ret (v := .agg #[.slice (some ⟨w.heap.size + 1 + 1, 0, none⟩) fs.length fs.length, .int .i64 st.size, .int .i64 st.al]) (by simp [results, Tryd.results14, go_sem, d0, d1, d2]) rfl ?_
        unfold TPost
        rw [HEQ.out, hsl]
        exact ⟨_, rfl, e3, e2⟩
end Go.Proofs.YtdlfndjgncdgfaaDoor
