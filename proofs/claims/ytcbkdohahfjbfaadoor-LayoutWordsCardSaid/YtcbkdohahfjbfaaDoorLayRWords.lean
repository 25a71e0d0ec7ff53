/-
  The document's own Words. Conditions: those that each theorem names.
-/
import Derived.Test.YtcbkdohahfjbfaaDoorLayWP
import Derived.Deep.Cut
import Derived.Deep.RegionHeld3
import Derived.Laws.MakeOwn
import Derived.Test.YtcbkdohahfjbfaaDoorLayMake
namespace Go.Proofs.YtcbkdohahfjbfaaDoor
open Go.ChangeShapes Go.WideShapes Go.ChangeAt Go.RowKit Go.Shelf

/-- The memory of the document's Words: the struct's record, the places, the widths. -/
structure RWM (w : World) (nm fv : Value) (at' : List Int) (W : World) : Prop where
  bel : Below w.heap.size w W
  rc : W.heap[w.heap.size]? = some (.cells #[nm, fv] 36 (0, 0))
  row : W.heap[w.heap.size + 1]? = some (.cells (i64Cells at').toArray 3 (0, 0))
  wd : W.heap[w.heap.size + 1 + 1]? = some (.cells #[.int .i64 64, .int .i64 32, .int .i64 16, .int .i64 8, .int .i64 1] 3 (0, 0))
theorem RWM.later {w W W' : World} {nm fv : Value} {at' : List Int} (h : RWM w nm fv at' W) (hb : Below W.heap.size W W') : RWM w nm fv at' W' :=
  ⟨h.bel.trans (hb.mono h.bel.size), blk_below h.rc hb (blk_lt h.rc), blk_below h.row hb (blk_lt h.row), blk_below h.wd hb (blk_lt h.wd)⟩
theorem RWM.put {w W : World} {nm fv : Value} {at' : List Int} (h : RWM w nm fv at' W) (k : Nat) (z : Int) : RWM w nm fv (at'.set k z) (W.setCell ⟨w.heap.size + 1, k, none⟩ (.int .i64 z)) :=
  ⟨h.bel.setCell (p := ⟨w.heap.size + 1, k, none⟩) (by show w.heap.size ≤ w.heap.size + 1; omega) _, blk_set_ne h.rc (by show w.heap.size + 1 ≠ _; omega) _, (blk_set h.row k _).trans (by rw [i64_set]), blk_set_ne h.wd (by show w.heap.size + 1 ≠ _; omega) _⟩
theorem RWM.start (w : World) (nm fv : Value) (n : Nat) : RWM w nm fv (List.replicate n 0) (((w.alloc (.cells #[nm, fv] 36)).alloc (.cells (i64Cells (List.replicate n 0)).toArray 3)).alloc (.cells #[.int .i64 64, .int .i64 32, .int .i64 16, .int .i64 8, .int .i64 1] 3)) := by
  refine ⟨(((Below.refl _ _).alloc (Nat.le_refl _) _).alloc (by simp) _).alloc (by simp; omega) _, ?_, ?_, ?_⟩
  · exact blk_alloc (blk_alloc (heap_alloc_new w _) _) _
  · have h := heap_alloc_new (w.alloc (.cells #[nm, fv] 36)) (.cells (i64Cells (List.replicate n 0)).toArray 3)
    rw [World.size_alloc] at h
    exact blk_alloc h _
  · have h := heap_alloc_new ((w.alloc (.cells #[nm, fv] 36)).alloc (.cells (i64Cells (List.replicate n 0)).toArray 3)) (.cells #[.int .i64 64, .int .i64 32, .int .i64 16, .int .i64 8, .int .i64 1] 3)
    rw [World.size_alloc, World.size_alloc] at h
    exact h
/-- Where the loops of the document's Words are. -/
def RWOut (w : World) (nm fv : Value) (fs : List SFld) (b z : Value) (W : World) : Prop :=
  ∃ k : Nat, k ≤ 5 ∧ z = .int .i64 k ∧ b = .int .i64 (wAll fs k).2 ∧ RWM w nm fv (wAll fs k).1 W
def RWIn (w : World) (nm fv : Value) (fs : List SFld) (wd : Int) (s : List Int × Int) (b i : Value) (W : World) : Prop :=
  ∃ k : Nat, k ≤ fs.length ∧ i = .int .i64 k ∧ b = .int .i64 (wUpTo wd fs s k).2 ∧ RWM w nm fv (wUpTo wd fs s k).1 W
def RWPt (w : World) (nm fv : Value) (fs : List SFld) (s : List Int × Int) (p i : Value) (W : World) : Prop :=
  ∃ k : Nat, k ≤ fs.length ∧ i = .int .i64 k ∧ p = .int .i64 (pUpTo fs s k).2 ∧ RWM w nm fv (pUpTo fs s k).1 W
/-- What the document's Words hands back. -/
def RWPost (fs : List SFld) (w : World) (e : Ending) (w' : World) : Prop :=
  ∃ v, e = .returned (.tuple #[v, .int .i64 (wordsP fs), .int .i64 (ptrsP fs)]) ∧ w'.ownsRow w.heap.size 3 1 v fs.length (i64Cells (atP fs)) ∧ Below w.heap.size w w'
theorem wcell_any {W : World} {g : Nat} {cs : Array Value} {t : TypeId} (h : W.heap[g]? = some (.cells cs t (0, 0))) : g < W.heap.size := blk_lt h
theorem wcell5 {W : World} {g : Nat} {t : TypeId} (h : W.heap[g]? = some (.cells #[.int .i64 64, .int .i64 32, .int .i64 16, .int .i64 8, .int .i64 1] t (0, 0))) (z : Nat) (hz : z < 5) : W.cell? ⟨g, z, none⟩ = some (.int .i64 (widthsL.getD z 0)) := by
  rw [blk_cell h]
  have : z = 0 ∨ z = 1 ∨ z = 2 ∨ z = 3 ∨ z = 4 := by omega
  rcases this with rfl | rfl | rfl | rfl | rfl <;> rfl
set_option maxRecDepth 100000 in
set_option maxHeartbeats 8000000 in
theorem rwords_any (w : World) (nm : ByteArray) (fs : List SFld) (fv : Value) (base : Nat) (h : w.ownsRow base 52 5 fv fs.length (sfldsCells fs)) (hn : fs.length ≤ 1000) (hk : ∀ f ∈ fs, f.kind ≤ 255) :
    Calls Tryd.prog 14 #[.agg #[.string nm, fv]] w (RWPost fs w) := by
  obtain ⟨fa, fc, rfl⟩ := ownsRow_form h
  have HR := Lib.hid h
  have HKD := Lib.hid hk
  have hfew := row_few h
  have hmk := make_ints fs.length (by omega)
  clear h hk
  go_enter Tryd.func14, Tryd.ntmps14
  go_upto_region 4 with (fail)
  have HM := Lib.hid (RWM.start w (.string nm) (.slice fa fs.length fc) fs.length)
  generalize (((w.alloc (.cells #[.string nm, .slice fa fs.length fc] 36)).alloc (.cells (i64Cells (List.replicate fs.length 0)).toArray 3)).alloc (.cells #[.int .i64 64, .int .i64 32, .int .i64 16, .int .i64 8, .int .i64 1] 3)) = W0 at *
  clear hmk
  go_wp2_with fail
  go_loopw [6, 9] (fun b z wr => RWOut w (.string nm) (.slice fa fs.length fc) fs b z wr) (fun _ z _ => 5 - (intOf z).toNat)
  case atStart => exact ⟨0, Nat.zero_le _, rfl, rfl, HM.out⟩
  case round =>
    obtain ⟨z, hz, rfl, rfl, hm⟩ := hrel
    have HM1 := Lib.hid hm
    clear hm HM
    by_cases hz5 : z < 5
    · have hzi : (z : Int) < 5 := by omega
      have HWC := Lib.hid (fun (W : World) (g : Nat) (h : W.heap[g]? = some (.cells #[.int .i64 64, .int .i64 32, .int .i64 16, .int .i64 8, .int .i64 1] 3 (0, 0))) => wcell5 h z hz5)
      have hwd := widths_bd z hz5
      have HWA : Hid (wAll fs (z + 1) = wUpTo (widthsL.getD z 0) fs (wAll fs z) fs.length) := Lib.hid rfl
      have hsb := wAll_bd fs hn z (by omega)
      generalize widthsL.getD z 0 = wd at *
      have HSL := Lib.hid (wAll_len fs z)
      generalize wAll fs z = s at *
      have hs0 : 0 ≤ s.2 := hsb.1
      have hs1 : s.2 ≤ 320000 := by omega
      go_wp2_with fail
      go_loopw [6, 10] (fun b i wq => RWIn w (.string nm) (.slice fa fs.length fc) fs wd s b i wq) (fun _ i _ => fs.length - (intOf i).toNat)
      case atStart => exact ⟨0, Nat.zero_le _, rfl, rfl, HM1.out⟩
      case round =>
        obtain ⟨k, hk, rfl, rfl, hm⟩ := hrel
        have HM2 := Lib.hid hm
        have hub := wUpTo_bd wd (by omega) hwd.2 fs s k
        have hlen := wUpTo_len wd fs s k
        have hsl : s.1.length = fs.length := HSL.out
        clear hm
        obtain ⟨hBl, r0, r1, _⟩ := blk2 HM2.out.rc
        by_cases hkl : k < fs.length
        · have hki : (k : Int) < fs.length := by omega
          obtain ⟨g, cc, hv, hcc, hg, hcell⟩ := row_el sfldCells 5 (fun _ => rfl) (row_keep HM2.out.bel HR.out) k hkl
          obtain ⟨rfl, rfl⟩ := slice_inj hv
          have x1 : wr.cell? ⟨g, k * 5 + 1, none⟩ = some (.int .u8 (fs[k].kind : Nat)) := hcell 1 (by omega)
          have x2 : wr.cell? ⟨g, k * 5 + 2, none⟩ = some (.int .i64 (fs[k].ref : Nat)) := hcell 2 (by omega)
          have x3 : wr.cell? ⟨g, k * 5 + 3, none⟩ = some (.int .i64 (fs[k].lists : Nat)) := hcell 3 (by omega)
          have x4 := HWC.out wr _ HM2.out.wd
          have hwl : w.heap.size + 1 + 1 < wr.heap.size := blk_lt HM2.out.wd
          have HY := Lib.hid (fun (a' : List Int) (b' : Int) (h : wUpTo wd fs s k = (a', b')) => wUpTo_yes (f := fs[k]) h hkl rfl)
          have HN := Lib.hid (wUpTo_no (z := wd) (s := s) (f := fs[k]) hkl rfl)
          have h255 := HKD.out fs[k] (List.getElem_mem hkl)
          clear hcell hv
          generalize fs[k] = f at *
          obtain ⟨fn, fk, fr, fl, fd⟩ := f
          simp only at x1 x2 x3 h255
          obtain ⟨a1, b1, hab⟩ : ∃ a1 b1, wUpTo wd fs s k = (a1, b1) := ⟨_, _, rfl⟩
          have HY2 := Lib.hid (HY.out a1 b1 hab)
          have HN2 := Lib.hid HN.out
          rw [hab] at HM2 hub hlen HN2 ⊢
          simp only at HM2 hub hlen ⊢
          have HI := Lib.hid (fun W => isnum_any fk fr fl W h255)
          have HBI := Lib.hid (fun W => rbits_any fk W (by omega) (by omega))
          clear HY HN hab
          go_upto_region 10 with (fail)
          cases hnum : isNumP fk fl
          · have HE := Lib.hid (HN2.out (by unfold fwI; rw [hnum]; simp; omega))
            simp only [hnum] at HI
            clear HN2 HY2 hnum HBI
            refine wp_region_held_drew (S := (fun w' => w'.cell? ⟨w.heap.size, 1, none⟩ = some (.slice (some ⟨g, 0, none⟩) fs.length fc) ∧ w'.cell? ⟨g, k * 5 + 1, none⟩ = some (.int .u8 fk) ∧ w'.cell? ⟨g, k * 5 + 2, none⟩ = some (.int .i64 fr) ∧ w'.cell? ⟨g, k * 5 + 3, none⟩ = some (.int .i64 fl) ∧ w'.cell? ⟨w.heap.size + 1 + 1, z, none⟩ = some (.int .i64 wd))) (by kernel_rfl) ⟨r1, x1, x2, x3, x4⟩ ?_
            intro hS
            refine wpAnyH_take (i := 0) (v := .pointer (some ⟨w.heap.size, 1, none⟩)) rfl (by kernel_rfl) (by kernel_rfl) (by kernel_rfl) (fun _ _ _ h => h) (Or.inl ⟨by rfl, ?_⟩) hS ?_
            · intro w' hSw
              obtain ⟨s0, s1, s2, s3, s4⟩ := hSw
              go_simp
            simp only [Act.put, List.getElem_toArray, List.getElem_cons_zero, List.setIfInBounds_toArray, List.set_cons_zero, List.set_cons_succ]
            refine wpAnyH_take (i := 1) (v := .slice (some ⟨g, 0, none⟩) fs.length fc) rfl (by kernel_rfl) (by kernel_rfl) (by kernel_rfl) (fun _ _ _ h => h) (Or.inl ⟨by rfl, ?_⟩) hS ?_
            · intro w' hSw
              obtain ⟨s0, s1, s2, s3, s4⟩ := hSw
              go_simp
            simp only [Act.put, List.getElem_toArray, List.getElem_cons_succ, List.getElem_cons_zero, List.setIfInBounds_toArray, List.set_cons_zero, List.set_cons_succ]
            refine wpAnyH_take (i := 2) (v := .int .i64 k) rfl (by kernel_rfl) (by kernel_rfl) (by kernel_rfl) (fun _ _ _ h => h) (Or.inl ⟨by rfl, ?_⟩) hS ?_
            · intro w' hSw
              obtain ⟨s0, s1, s2, s3, s4⟩ := hSw
              go_simp
            simp only [Act.put, List.getElem_toArray, List.getElem_cons_succ, List.getElem_cons_zero, List.setIfInBounds_toArray, List.set_cons_zero, List.set_cons_succ]
            refine wpAnyH_take (i := 3) (v := .pointer (some ⟨g, k * 5, none⟩)) rfl (by kernel_rfl) (by kernel_rfl) (by kernel_rfl) (fun _ _ _ h => h) (Or.inl ⟨by rfl, ?_⟩) hS ?_
            · intro w' hSw
              obtain ⟨s0, s1, s2, s3, s4⟩ := hSw
              go_simp
            simp only [Act.put, List.getElem_toArray, List.getElem_cons_succ, List.getElem_cons_zero, List.setIfInBounds_toArray, List.set_cons_zero, List.set_cons_succ]
            refine wpAnyH_take (i := 4) (v := .pointer (some ⟨g, k * 5 + 1, none⟩)) rfl (by kernel_rfl) (by kernel_rfl) (by kernel_rfl) (fun _ _ _ h => h) (Or.inl ⟨by rfl, ?_⟩) hS ?_
            · intro w' hSw
              obtain ⟨s0, s1, s2, s3, s4⟩ := hSw
              go_simp
            simp only [Act.put, List.getElem_toArray, List.getElem_cons_succ, List.getElem_cons_zero, List.setIfInBounds_toArray, List.set_cons_zero, List.set_cons_succ]
            refine wpAnyH_take (i := 5) (v := .agg #[.int .u8 fk, .int .i64 fr, .int .i64 fl]) rfl (by kernel_rfl) (by kernel_rfl) (by kernel_rfl) (fun _ _ _ h => h) (Or.inl ⟨by rfl, ?_⟩) hS ?_
            · intro w' hSw
              obtain ⟨s0, s1, s2, s3, s4⟩ := hSw
              go_simp
            simp only [Act.put, List.getElem_toArray, List.getElem_cons_succ, List.getElem_cons_zero, List.setIfInBounds_toArray, List.set_cons_zero, List.set_cons_succ]
            refine wpAnyH_ready (rs := [6]) (by kernel_rfl) (by decide) (AllReadyH.cons rfl (fun K hK => ?_) AllReadyH.nil)
            rw [if_pos (by kernel_rfl)]
            go_simp
            refine (HI.out wr.drew).mono ?_
            rintro e W3 ⟨rfl, hb3⟩
            have hx3 : Below wr.heap.size wr W3 := (Below.refl _ wr).drew.trans hb3
            have k1 := (hx3.cell (p := ⟨w.heap.size, 1, none⟩) hBl).trans r1
            have k2 := (hx3.cell (p := ⟨g, k * 5 + 1, none⟩) hg).trans x1
            have k3 := (hx3.cell (p := ⟨g, k * 5 + 2, none⟩) hg).trans x2
            have k4 := (hx3.cell (p := ⟨g, k * 5 + 3, none⟩) hg).trans x3
            have k5 := (hx3.cell (p := ⟨w.heap.size + 1 + 1, z, none⟩) hwl).trans x4
            have HM4 := Lib.hid (HM2.out.later hx3)
            refine hK.out _ _ ⟨k1, k2, k3, k4, k5⟩ (fun hS => ?_)
            refine wpAnyH_take (i := 7) (v := .bool false) rfl (by kernel_rfl) (by kernel_rfl) (by kernel_rfl) (fun _ _ _ h => h) (Or.inl ⟨by rfl, ?_⟩) hS ?_
            · intro w' hSw
              obtain ⟨s0, s1, s2, s3, s4⟩ := hSw
              go_simp
            simp only [Act.put, List.getElem_toArray, List.getElem_cons_succ, List.getElem_cons_zero, List.setIfInBounds_toArray, List.set_cons_zero, List.set_cons_succ]
            refine wpAnyH_take (i := 8) (v := undef) rfl (by kernel_rfl) (by kernel_rfl) (by kernel_rfl) (fun _ _ _ h => h) (Or.inr ⟨by kernel_rfl, rfl⟩) hS ?_
            simp only [Act.put, List.getElem_toArray, List.getElem_cons_succ, List.getElem_cons_zero, List.setIfInBounds_toArray, List.set_cons_zero, List.set_cons_succ]
            refine wpAnyH_take (i := 9) (v := undef) rfl (by kernel_rfl) (by kernel_rfl) (by kernel_rfl) (fun _ _ _ h => h) (Or.inr ⟨by kernel_rfl, rfl⟩) hS ?_
            simp only [Act.put, List.getElem_toArray, List.getElem_cons_succ, List.getElem_cons_zero, List.setIfInBounds_toArray, List.set_cons_zero, List.set_cons_succ]
            refine wpAnyH_take (i := 10) (v := undef) rfl (by kernel_rfl) (by kernel_rfl) (by kernel_rfl) (fun _ _ _ h => h) (Or.inr ⟨by kernel_rfl, rfl⟩) hS ?_
            simp only [Act.put, List.getElem_toArray, List.getElem_cons_succ, List.getElem_cons_zero, List.setIfInBounds_toArray, List.set_cons_zero, List.set_cons_succ]
            refine wpAnyH_take (i := 11) (v := undef) rfl (by kernel_rfl) (by kernel_rfl) (by kernel_rfl) (fun _ _ _ h => h) (Or.inr ⟨by kernel_rfl, rfl⟩) hS ?_
            simp only [Act.put, List.getElem_toArray, List.getElem_cons_succ, List.getElem_cons_zero, List.setIfInBounds_toArray, List.set_cons_zero, List.set_cons_succ]
            refine wpAnyH_take (i := 12) (v := undef) rfl (by kernel_rfl) (by kernel_rfl) (by kernel_rfl) (fun _ _ _ h => h) (Or.inr ⟨by kernel_rfl, rfl⟩) hS ?_
            simp only [Act.put, List.getElem_toArray, List.getElem_cons_succ, List.getElem_cons_zero, List.setIfInBounds_toArray, List.set_cons_zero, List.set_cons_succ]
            refine wpAnyH_take (i := 13) (v := undef) rfl (by kernel_rfl) (by kernel_rfl) (by kernel_rfl) (fun _ _ _ h => h) (Or.inr ⟨by kernel_rfl, rfl⟩) hS ?_
            simp only [Act.put, List.getElem_toArray, List.getElem_cons_succ, List.getElem_cons_zero, List.setIfInBounds_toArray, List.set_cons_zero, List.set_cons_succ]
            refine wpAnyH_take (i := 14) (v := undef) rfl (by kernel_rfl) (by kernel_rfl) (by kernel_rfl) (fun _ _ _ h => h) (Or.inr ⟨by kernel_rfl, rfl⟩) hS ?_
            simp only [Act.put, List.getElem_toArray, List.getElem_cons_succ, List.getElem_cons_zero, List.setIfInBounds_toArray, List.set_cons_zero, List.set_cons_succ]
            refine wpAnyH_take (i := 15) (v := undef) rfl (by kernel_rfl) (by kernel_rfl) (by kernel_rfl) (fun _ _ _ h => h) (Or.inr ⟨by kernel_rfl, rfl⟩) hS ?_
            simp only [Act.put, List.getElem_toArray, List.getElem_cons_succ, List.getElem_cons_zero, List.setIfInBounds_toArray, List.set_cons_zero, List.set_cons_succ]
            refine wpAnyH_take (i := 16) (v := undef) rfl (by kernel_rfl) (by kernel_rfl) (by kernel_rfl) (fun _ _ _ h => h) (Or.inr ⟨by kernel_rfl, rfl⟩) hS ?_
            simp only [Act.put, List.getElem_toArray, List.getElem_cons_succ, List.getElem_cons_zero, List.setIfInBounds_toArray, List.set_cons_zero, List.set_cons_succ]
            refine wpAnyH_take (i := 17) (v := undef) rfl (by kernel_rfl) (by kernel_rfl) (by kernel_rfl) (fun _ _ _ h => h) (Or.inr ⟨by kernel_rfl, rfl⟩) hS ?_
            simp only [Act.put, List.getElem_toArray, List.getElem_cons_succ, List.getElem_cons_zero, List.setIfInBounds_toArray, List.set_cons_zero, List.set_cons_succ]
            refine wpAnyH_take (i := 18) (v := undef) rfl (by kernel_rfl) (by kernel_rfl) (by kernel_rfl) (fun _ _ _ h => h) (Or.inr ⟨by kernel_rfl, rfl⟩) hS ?_
            simp only [Act.put, List.getElem_toArray, List.getElem_cons_succ, List.getElem_cons_zero, List.setIfInBounds_toArray, List.set_cons_zero, List.set_cons_succ]
            refine wpAnyH_take (i := 19) (v := undef) rfl (by kernel_rfl) (by kernel_rfl) (by kernel_rfl) (fun _ _ _ h => h) (Or.inr ⟨by kernel_rfl, rfl⟩) hS ?_
            simp only [Act.put, List.getElem_toArray, List.getElem_cons_succ, List.getElem_cons_zero, List.setIfInBounds_toArray, List.set_cons_zero, List.set_cons_succ]
            refine wpAnyH_take (i := 20) (v := undef) rfl (by kernel_rfl) (by kernel_rfl) (by kernel_rfl) (fun _ _ _ h => h) (Or.inr ⟨by kernel_rfl, rfl⟩) hS ?_
            simp only [Act.put, List.getElem_toArray, List.getElem_cons_succ, List.getElem_cons_zero, List.setIfInBounds_toArray, List.set_cons_zero, List.set_cons_succ]
            refine wpAnyH_take (i := 21) (v := .bool false) rfl (by kernel_rfl) (by kernel_rfl) (by kernel_rfl) (fun _ _ _ h => h) (Or.inl ⟨by rfl, ?_⟩) hS ?_
            · intro w' hSw
              obtain ⟨s0, s1, s2, s3, s4⟩ := hSw
              go_simp
            simp only [Act.put, List.getElem_toArray, List.getElem_cons_succ, List.getElem_cons_zero, List.setIfInBounds_toArray, List.set_cons_zero, List.set_cons_succ]
            refine wpAnyH_done (by kernel_rfl) ?_ _
            simp only [Exit.then]
            go_wp2
            go_roundw
            case rel => exact ⟨k + 1, hkl, by go_num, by rw [HE.out], by rw [HE.out]; exact HM4.out⟩
            case measure => simp [intOf]; omega
          · have HF : Hid (fwI ⟨fn, fk, fr, fl, fd⟩ = bitsK fk) := Lib.hid (by unfold fwI; rw [hnum]; rfl)
            simp only [hnum] at HI
            clear hnum
            generalize hq : bitsK (fk : Int) = q at *
            have HQ := Lib.hid hq
            clear hq
            go_region_held3 (fun w' => w'.cell? ⟨w.heap.size, 1, none⟩ = some (.slice (some ⟨g, 0, none⟩) fs.length fc) ∧ w'.cell? ⟨g, k * 5 + 1, none⟩ = some (.int .u8 fk) ∧ w'.cell? ⟨g, k * 5 + 2, none⟩ = some (.int .i64 fr) ∧ w'.cell? ⟨g, k * 5 + 3, none⟩ = some (.int .i64 fl) ∧ w'.cell? ⟨w.heap.size + 1 + 1, z, none⟩ = some (.int .i64 wd)) (first | assumption | (with_reducible exact ⟨k1, k2, k3, k4, k5⟩) | go_keep) (first | (go_at_call 33; (first | (with_reducible refine (HI.out wr).mono ?_) | (with_reducible refine (HI.out wr.drew).mono ?_)); rintro e W3 ⟨rfl, hb3⟩; have hx3 : Below wr.heap.size wr W3 := (by first | exact (Below.refl _ wr).drew.trans hb3 | exact hb3); clear hb3; have k1 := (hx3.cell (p := ⟨w.heap.size, 1, none⟩) hBl).trans r1; have k2 := (hx3.cell (p := ⟨g, k * 5 + 1, none⟩) hg).trans x1; have k3 := (hx3.cell (p := ⟨g, k * 5 + 2, none⟩) hg).trans x2; have k4 := (hx3.cell (p := ⟨g, k * 5 + 3, none⟩) hg).trans x3; have k5 := (hx3.cell (p := ⟨w.heap.size + 1 + 1, z, none⟩) hwl).trans x4) | (go_at_call 10; (first | (with_reducible refine (HBI.out W3).mono ?_) | (with_reducible refine (HBI.out W3.drew).mono ?_)); rintro e W4 ⟨rfl, rfl⟩))
            all_goals
              have HM3 := Lib.hid (HM2.out.later hx3)
              clear hx3 k1 k2 k3 k4 k5 x1 x2 x3 x4 r0 r1
              simp only [Exit.then]
              apply_assumption
              have HSP := Lib.hid (wcell_any HM3.out.wd)
              by_cases hbw : q = wd
              · have HE := Lib.hid (HY2.out (HF.out.trans hbw))
                have tb : (q == wd) = true := by simpa using hbw
                have hd : decide (q = wd) = true := decide_eq_true hbw
                have c0 : W4.cell? ⟨w.heap.size + 1, k, none⟩ = some (.int .i64 (a1.getD k 0)) := by
                  rw [blk_cell HM3.out.row k, i64Cells_map]
                  simp [List.getD, hlen, hsl, hkl]
                have f0 := blk_frozen HM3.out.row k
                have HP := Lib.hid (HM3.out.put k b1)
                have hz0 : (0 : Int) ≤ (z : Int) := by omega
                have x5 := HWC.out _ _ HP.out.wd
                have x6 := HWC.out _ _ HM3.out.wd
                have ha1 := IntWalk.i64_in (b1 + wd) (by omega)
                subst hbw
                clear HN2 HY2 HF HI HBI hd
                generalize a1.getD k 0 = old at *
                go_wp2
                go_roundw
                case rel => exact ⟨k + 1, hkl, by go_num, by rw [HE.out], by rw [HE.out]; exact HP.out⟩
                case measure => simp [intOf]; omega
              · have HE := Lib.hid (HN2.out (by rw [HF.out]; exact hbw))
                have tb : (q == wd) = false := by simpa using hbw
                clear HY2 HF HN2
                go_wp2
                go_roundw
                case rel => exact ⟨k + 1, hkl, by go_num, by rw [HE.out], by rw [HE.out]; exact HM3.out⟩
                case measure => simp [intOf]; omega
        · obtain rfl : k = fs.length := by omega
          have HE := Lib.hid HWA.out
          go_wp2
          go_roundw
          case rel => exact ⟨z + 1, by omega, by go_num, by rw [HE.out], by rw [HE.out]; exact HM2.out⟩
          case measure => simp [intOf]; omega
    · have hze : z = 5 := by omega
      have hzi : ¬ (z : Int) < 5 := by omega
      have hsb := wAll_bd fs hn 5 (Nat.le_refl _)
      have HSL := Lib.hid (wAll_len fs z)
      have HAT : Hid (atP fs = (pUpTo fs ((wAll fs z).1, 0) fs.length).1) := Lib.hid (by rw [hze]; rfl)
      have HPT : Hid (ptrsP fs = (pUpTo fs ((wAll fs z).1, 0) fs.length).2) := Lib.hid (by rw [hze]; rfl)
      have HWT : Hid (wordsP fs = ((wAll fs z).2 + 63) / 64) := Lib.hid (by rw [hze]; rfl)
      rw [← hze] at hsb
      have hs1 : (wAll fs z).2 ≤ 320000 := by omega
      clear hz hz5 hze
      have HSL := Lib.hid (wAll_len fs z)
      generalize wAll fs z = s at *
      have hs0 : 0 ≤ s.2 := hsb.1
      go_wp2_with fail
      go_loopw [7, 11] (fun p i wq => RWPt w (.string nm) (.slice fa fs.length fc) fs (s.1, 0) p i wq) (fun _ i _ => fs.length - (intOf i).toNat)
      case atStart => exact ⟨0, Nat.zero_le _, rfl, rfl, HM1.out⟩
      case round =>
        obtain ⟨k, hk, rfl, rfl, hm⟩ := hrel
        have HM2 := Lib.hid hm
        have hub := pUpTo_bd fs (s.1, 0) k
        have hlen := pUpTo_len fs (s.1, 0) k
        have hsl : s.1.length = fs.length := HSL.out
        clear hm
        obtain ⟨hBl, r0, r1, _⟩ := blk2 HM2.out.rc
        by_cases hkl : k < fs.length
        · have hki : (k : Int) < fs.length := by omega
          obtain ⟨g, cc, hv, hcc, hg, hcell⟩ := row_el sfldCells 5 (fun _ => rfl) (row_keep HM2.out.bel HR.out) k hkl
          obtain ⟨rfl, rfl⟩ := slice_inj hv
          have x1 : wr.cell? ⟨g, k * 5 + 1, none⟩ = some (.int .u8 (fs[k].kind : Nat)) := hcell 1 (by omega)
          have x2 : wr.cell? ⟨g, k * 5 + 2, none⟩ = some (.int .i64 (fs[k].ref : Nat)) := hcell 2 (by omega)
          have x3 : wr.cell? ⟨g, k * 5 + 3, none⟩ = some (.int .i64 (fs[k].lists : Nat)) := hcell 3 (by omega)
          have HY := Lib.hid (pUpTo_yes (s := (s.1, 0)) (f := fs[k]) hkl rfl)
          have HN := Lib.hid (fun (a' : List Int) (b' : Int) (h : pUpTo fs (s.1, 0) k = (a', b')) => pUpTo_no (f := fs[k]) h hkl rfl)
          have h255 := HKD.out fs[k] (List.getElem_mem hkl)
          clear hcell hv
          generalize fs[k] = f at *
          obtain ⟨fn, fk, fr, fl, fd⟩ := f
          simp only at x1 x2 x3 h255
          obtain ⟨a1, b1, hab⟩ : ∃ a1 b1, pUpTo fs (s.1, 0) k = (a1, b1) := ⟨_, _, rfl⟩
          have HN2 := Lib.hid (HN.out a1 b1 hab)
          have HY2 := Lib.hid HY.out
          rw [hab] at HM2 hub hlen HY2 ⊢
          simp only at HM2 hub hlen HY2 HN2 ⊢
          clear HY HN hab
          go_wp2_with fail
          refine (isnum_any fk fr fl wr h255).mono ?_
          rintro e W3 ⟨rfl, hb3⟩
          have HM3 := Lib.hid (HM2.out.later hb3)
          clear hb3 x1 x2 x3 r0 r1
          cases hnum : isNumP fk fl
          · have HE := Lib.hid (HN2.out hnum)
            have c0 : W3.cell? ⟨w.heap.size + 1, k, none⟩ = some (.int .i64 (a1.getD k 0)) := by
              rw [blk_cell HM3.out.row k, i64Cells_map]
              simp [List.getD, hlen, hsl, hkl]
            have f0 := blk_frozen HM3.out.row k
            have HP := Lib.hid (HM3.out.put k b1)
            obtain ⟨hBl3, r0, r1, _⟩ := blk2 HP.out.rc
            have ha1 := IntWalk.i64_in (b1 + 1) (by omega)
            clear HN2 HY2 hnum
            generalize a1.getD k 0 = old at *
            go_wp2
            go_roundw
            case rel => exact ⟨k + 1, hkl, by go_num, by rw [HE.out], by rw [HE.out]; exact HP.out⟩
            case measure => simp [intOf]; omega
          · have HE := Lib.hid (HY2.out hnum)
            clear HN2 HY2 hnum
            go_wp2
            go_roundw
            case rel => exact ⟨k + 1, hkl, by go_num, by rw [HE.out], by rw [HE.out]; exact HM3.out⟩
            case measure => simp [intOf]; omega
        · obtain rfl : k = fs.length := by omega
          have hpb := hub.2
          have hpb0 := hub.1
          have hal : (pUpTo fs (s.1, 0) fs.length).1.length = fs.length := hlen.trans hsl
          have HAP := Lib.hid HAT.out
          have HPP := Lib.hid HPT.out
          generalize pUpTo fs (s.1, 0) fs.length = t at *
          have hrow : wr.ownsRow w.heap.size 3 1 (.slice (some ⟨w.heap.size + 1, 0, none⟩) fs.length fs.length) fs.length (i64Cells t.1) := by
            refine ⟨by rw [i64Cells_length, hal]; omega, .inr ⟨w.heap.size + 1, fs.length, _, rfl, by omega, HM2.out.row, Nat.le_refl _, by unfold maxLen; omega, by simp [i64Cells_length, hal], ?_⟩⟩
            rw [List.toList_toArray, List.take_of_length_le (by rw [i64Cells_length, hal]; omega)]
          have HROW := Lib.hid hrow
          have k1 := IntWalk.i64_in (s.2 + 63) (by omega)
          have k2 : (s.2 + 63).tdiv 64 = (s.2 + 63) / 64 := Int.tdiv_eq_ediv_of_nonneg (by omega)
          have k3 : 0 ≤ (s.2 + 63) / 64 ∧ (s.2 + 63) / 64 ≤ 10000 := by omega
          have HWT2 := Lib.hid HWT.out
          generalize (s.2 + 63) / 64 = q at *
          clear hrow hub hlen hal HAT HPT HWT
          go_wp2
          refine bodyPost_ret (v := .tuple #[.slice (some ⟨w.heap.size + 1, 0, none⟩) fs.length fs.length, .int .i64 q, .int .i64 t.2]) (by simp [results, Tryd.results14, go_sem]) rfl ?_
          exact ⟨_, by rw [HWT2.out, HPP.out], by rw [HAP.out]; exact HROW.out, HM2.out.bel⟩
end Go.Proofs.YtcbkdohahfjbfaaDoor
