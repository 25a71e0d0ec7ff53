/-
  The package schema's maker: its last step, which struct is the whole. Conditions: those that each theorem names.
-/
import Derived.Test.YtgbcchiheddfpaaGreatDoorPkL36
namespace Go.Proofs.YtgbcchiheddfpaaGreatDoor
open Go.ChangeShapes Go.WideShapes Go.ChangeAt Go.RowKit Go.Shelf

def RtPost (w : World) (M b : Nat) (sv ev rv ssv esv : Value) (m : List NEnt) (l : List Tok) (e : Ending) (w' : World) : Prop :=
  match rootM m l with
  | .no c p => e = .returned (.agg #[.int .i64 c, .int .i64 (p : Nat)]) ∧ Exc M w.heap.size w w'
  | .ok r => e = .returned (.agg #[.int .i64 0, .int .i64 0]) ∧ Exc M w.heap.size w w' ∧ w'.heap[M]? = some (.cells #[sv, ev, rv, .map (some b), ssv, esv, .int .i64 r] 244 (0, 0))
theorem rt_fault {w w' : World} {M b : Nat} {sv ev rv ssv esv : Value} {m : List NEnt} {l : List Tok} {c : Int} {p : Nat} (h : rootM m l = .no c p) (hx : Exc M w.heap.size w w') : RtPost w M b sv ev rv ssv esv m l (.returned (.agg #[.int .i64 c, .int .i64 (p : Nat)])) w' := by
  unfold RtPost
  rw [h]
  exact ⟨rfl, hx⟩
set_option maxRecDepth 100000 in
set_option maxHeartbeats 4000000 in
theorem root_any' (w : World) {M b root rb : Nat} {sv ev rv ssv esv : Value} {m : List NEnt} {l : List Tok} (hM : MAt w M b sv ev rv m ssv esv root) (hrow : w.ownsRow rb 282 3 rv l.length (toksCells l)) :
    Calls Tryz.prog 124 #[.pointer (some ⟨M, 0, none⟩)] w (RtPost w M b sv ev rv ssv esv m l) := by
  obtain ⟨ra, rc, rfl⟩ := ownsRow_form hrow
  have hfew := row_few hrow
  have hb0 : Below w.heap.size w (w.alloc (.cells #[.int .i64 0, .int .i64 0] 125)) := (Below.refl _ _).alloc (Nat.le_refl _) _
  have HB0 := Lib.hid hb0
  have HM0 := Lib.hid (hM.fell hb0)
  have HR0 := Lib.hid (heap_alloc_new w (.cells #[.int .i64 0, .int .i64 0] 125))
  have HROW0 := Lib.hid (row_keep hb0 hrow)
  have hMw : M < w.heap.size := blk_lt hM.blk
  clear hb0 hM hrow
  go_enter Tryz.func124, Tryz.ntmps124
  go_upto_region 1 with (fail)
  generalize w.alloc (.cells #[.int .i64 0, .int .i64 0] 125) = W0 at *
  obtain ⟨hMl, z0, z1, z2, z3, z4, z5, z6, k4, k5, k6⟩ := HM0.out.cells
  obtain ⟨hRl, r0, r1, p0, p1⟩ := blk2 HR0.out
  cases l with
  | nil =>
    have HS : Hid (rootM m [] = .no 17 0) := Lib.hid rfl
    simp only [List.length_nil] at *
    go_wp2
    refine post_gen (fun Wf => Wf.heap[w.heap.size]? = some (.cells #[.int .i64 17, .int .i64 0] 125 (0, 0)) ∧ Exc M w.heap.size w Wf) ⟨blk_set2 HR0.out _ _, ((Exc.of_below HB0.out).setCell (p := ⟨w.heap.size, 0, none⟩) (.inr (Nat.le_refl _)) _).setCell (p := ⟨w.heap.size, 1, none⟩) (.inr (Nat.le_refl _)) _⟩ ?_
    rintro Wf ⟨e1, e2⟩
    obtain ⟨_, c0, c1, _⟩ := blk2 e1
    exact bodyPost_ret (v := .agg #[.int .i64 17, .int .i64 0]) (by simp [results, Tryz.results124, go_sem, c0, c1]) rfl (rt_fault HS.out e2)
  | cons t r =>
    cases r with
    | cons t2 r2 =>
      obtain ⟨g, c, hv, hc, hg, hcell⟩ := row_el tokCells 3 (fun _ => rfl) HROW0.out 1 (by simp)
      obtain ⟨rfl, rfl⟩ := slice_inj hv
      have x2 : W0.cell? ⟨g, 5, none⟩ = some (.int .i64 t2.place) := hcell 2 (by omega)
      have HS : Hid (rootM m (t :: t2 :: r2) = .no 13 t2.place) := Lib.hid rfl
      obtain ⟨n, hn⟩ : ∃ n, (t :: t2 :: r2).length = n + 2 := ⟨r2.length, by simp⟩
      rw [hn] at *
      generalize t2.place = pl at *
      have hn1 : (1 : Int) < ((n + 2 : Nat) : Int) := by omega
      have hn0 : ¬ ((n + 2 : Nat) : Int) = 0 := by omega
      have hnb : (((n + 2 : Nat) : Int) == 0) = false := by simp; omega
      clear hv hcell HROW0 hn
      go_wp2
      refine post_gen (fun Wf => Wf.heap[w.heap.size]? = some (.cells #[.int .i64 13, .int .i64 pl] 125 (0, 0)) ∧ Exc M w.heap.size w Wf) ⟨blk_set2 HR0.out _ _, ((Exc.of_below HB0.out).setCell (p := ⟨w.heap.size, 0, none⟩) (.inr (Nat.le_refl _)) _).setCell (p := ⟨w.heap.size, 1, none⟩) (.inr (Nat.le_refl _)) _⟩ ?_
      rintro Wf ⟨e1, e2⟩
      obtain ⟨_, c0, c1, _⟩ := blk2 e1
      exact bodyPost_ret (v := .agg #[.int .i64 13, .int .i64 pl]) (by simp [results, Tryz.results124, go_sem, c0, c1]) rfl (rt_fault HS.out e2)
    | nil =>
      obtain ⟨g, c, hv, hc, hg, hcell⟩ := row_el tokCells 3 (fun _ => rfl) HROW0.out 0 (by simp)
      obtain ⟨rfl, rfl⟩ := slice_inj hv
      have x1 : W0.cell? ⟨g, 1, none⟩ = some (.string (tokT t)) := hcell 1 (by omega)
      have x2 : W0.cell? ⟨g, 2, none⟩ = some (.int .i64 t.place) := hcell 2 (by omega)
      have HS : Hid (rootM m [t] = match lookN m (tokT t) with
        | none => .no 17 t.place
        | some q => if q.1 = 13 then .ok q.2 else .no 17 t.place) := Lib.hid rfl
      obtain ⟨kd, hkd⟩ : ∃ kd, ((lookN m (tokT t)).map Prod.fst).getD 0 = kd := ⟨_, rfl⟩
      obtain ⟨rf, hrf⟩ : ∃ rf, ((lookN m (tokT t)).map Prod.snd).getD 0 = rf := ⟨_, rfl⟩
      have hlk : ∀ w', MapAt w' b (m.map entP) → (Instr.lookup 241 (.map (some b)) (.string (tokT t)) false).run Tryz.prog w' = .ok (.agg #[.int .u8 kd, .int .i64 rf, .int .i64 0]) w' := fun w' h' => by rw [← hkd, ← hrf]; exact ents_look1 h' _
      have hl0 := hlk W0 HM0.out.map
      have hl1 := hlk W0.drew HM0.out.map
      have hl2 := hlk (W0.alloc (.cells #[.int .u8 0, .int .i64 0, .int .i64 0] 62)) (HM0.out.map.alloc _)
      have hl3 := hlk (W0.alloc (.cells #[.int .u8 0, .int .i64 0, .int .i64 0] 62)).drew (HM0.out.map.alloc _)
      have HKD := Lib.hid hkd
      have HRF := Lib.hid hrf
      simp only [List.length_singleton] at *
      clear hlk hkd hrf hv hcell HROW0
      go_upto_region 6 with (fail)
      go_region
      all_goals
        simp only [Exit.then]
        apply_assumption
        clear hl0 hl1 hl2 hl3
        have hb1 : Below W0.heap.size W0 (W0.alloc (.cells #[.int .u8 kd, .int .i64 rf, .int .i64 0] 62)).drew := ((Below.refl _ _).alloc (Nat.le_refl _) _).drew
        have ht1 : (W0.alloc (.cells #[.int .u8 kd, .int .i64 rf, .int .i64 0] 62)).drew.heap[W0.heap.size]? = some (.cells #[.int .u8 kd, .int .i64 rf, .int .i64 0] 62 (0, 0)) := heap_alloc_new W0 _
        have HB1 := Lib.hid (HB0.out.trans (hb1.mono HB0.out.size))
        have hr1 := blk_below HR0.out hb1 hRl
        have HR1 := Lib.hid hr1
        have hm1 := blk_below HM0.out.blk hb1 hMl
        have HM1 := Lib.hid hm1
        have y2 := (hb1.cell (p := ⟨g, 2, none⟩) hg).trans x2
        clear z0 z1 z2 z3 z4 z5 z6 k4 k5 k6 r0 r1 p0 p1 x1 x2 hb1
        generalize (W0.alloc (.cells #[.int .u8 kd, .int .i64 rf, .int .i64 0] 62)).drew = W1 at *
        obtain ⟨hMl1, z0, z1, z2, z3, z4, z5, z6, k4, k5, k6⟩ := maker_cells hm1
        obtain ⟨hRl1, r0, r1, p0, p1⟩ := blk2 hr1
        obtain ⟨_, t0, t1, t2, _⟩ := blk3 ht1
        clear hm1 hr1 ht1
        by_cases hk : kd = 13
        · have HV : Hid (rootM m [t] = .ok rf) := Lib.hid (by
            rw [HS.out]
            cases hl : lookN m (tokT t) with
            | none =>
              have h1 := HKD.out
              rw [hl, hk] at h1
              exact absurd h1 (by decide)
            | some q =>
              have h1 : q.1 = kd := by rw [← HKD.out, hl]; rfl
              have h2 : q.2 = rf := by rw [← HRF.out, hl]; rfl
              show (if q.1 = 13 then _ else _) = _
              rw [if_pos (by rw [h1, hk]), h2])
          subst hk
          go_wp2
          refine post_gen (fun Wf => Wf.heap[w.heap.size]? = some (.cells #[.int .i64 0, .int .i64 0] 125 (0, 0)) ∧ Exc M w.heap.size w Wf ∧ Wf.heap[M]? = some (.cells #[sv, ev, .slice (some ⟨g, 0, none⟩) 1 rc, .map (some b), ssv, esv, .int .i64 rf] 244 (0, 0))) ⟨?_, ?_, ?_⟩ ?_
          · exact blk_set2 (blk_set_ne HR1.out (p := ⟨M, 6, none⟩) (by show M ≠ _; omega) _) _ _
          · exact (((Exc.of_below HB1.out).setCell (p := ⟨M, 6, none⟩) (.inl rfl) _).setCell (p := ⟨w.heap.size, 0, none⟩) (.inr (Nat.le_refl _)) _).setCell (p := ⟨w.heap.size, 1, none⟩) (.inr (Nat.le_refl _)) _
          · exact blk_set_ne (blk_set_ne ((blk_set HM1.out 6 _).trans rfl) (by show w.heap.size ≠ M; omega) _) (by show w.heap.size ≠ M; omega) _
          · rintro Wf ⟨e1, e2, e3⟩
            obtain ⟨_, c0, c1, _⟩ := blk2 e1
            exact bodyPost_ret (v := .agg #[.int .i64 0, .int .i64 0]) (by simp [results, Tryz.results124, go_sem, c0, c1]) rfl (by unfold RtPost; rw [HV.out]; exact ⟨rfl, e2, e3⟩)
        · have HV : Hid (rootM m [t] = .no 17 t.place) := Lib.hid (by
            rw [HS.out]
            cases hl : lookN m (tokT t) with
            | none => rfl
            | some q =>
              have h1 : q.1 = kd := by rw [← HKD.out, hl]; rfl
              show (if q.1 = 13 then _ else _) = _
              rw [if_neg (by rw [h1]; exact hk)])
          have hkb : ((kd : Int) == 13) = false := by simp; omega
          have hkb2 : ((kd : Int) != 13) = true := by simp; omega
          have hkn : ¬ (kd : Int) = 13 := by omega
          go_wp2
          refine post_gen (fun Wf => Wf.heap[w.heap.size]? = some (.cells #[.int .i64 17, .int .i64 t.place] 125 (0, 0)) ∧ Exc M w.heap.size w Wf) ⟨blk_set2 HR1.out _ _, ((Exc.of_below HB1.out).setCell (p := ⟨w.heap.size, 0, none⟩) (.inr (Nat.le_refl _)) _).setCell (p := ⟨w.heap.size, 1, none⟩) (.inr (Nat.le_refl _)) _⟩ ?_
          rintro Wf ⟨e1, e2⟩
          obtain ⟨_, c0, c1, _⟩ := blk2 e1
          exact bodyPost_ret (v := .agg #[.int .i64 17, .int .i64 t.place]) (by simp [results, Tryz.results124, go_sem, c0, c1]) rfl (rt_fault HV.out e2)
end Go.Proofs.YtgbcchiheddfpaaGreatDoor
