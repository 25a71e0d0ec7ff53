/-
  The package schema's maker: its last step, which struct is the whole. Conditions: those that each theorem names.
-/
import Derived.Test.YtleclhnlojalbaaGreatDoorPkL33
import Derived.Test.YtleclhnlojalbaaGreatDoorPkL36
namespace Go.Proofs.YtleclhnlojalbaaGreatDoor
open Go.ChangeShapes Go.WideShapes Go.ChangeAt Go.RowKit Go.Shelf

set_option maxRecDepth 100000 in
set_option maxHeartbeats 4000000 in
theorem rmb3_wp {Q : Exit → Act → World → Prop} {c : Act} {w0 : World} {q n e i E k nc rb : Nat} {a na : Option Addr} {name pl : Value} {l : List RField} (hc : RmB3 q a n e i E k 0 c) (hk : k < l.length)
    (hE : w0.heap[E]? = some (.cells #[name, pl, .slice na l.length nc] 114 (0, 0))) (hEq : q + 1 < E) (hrow : w0.ownsRow rb 135 8 (.slice na l.length nc) l.length (fieldsCells l)) (hrq : ∀ g, na = some g → g.block ≠ q + 1) (hres : noRes w0 (q + 1))
    (hQ : ∀ c' w', hasS ((l.map fldT).take k) (fldT l[k]) = false → RmB3 q a n e i E k k c' → Below w0.heap.size w0 w' → Q (.exit 10) c' w')
    (hB : ∀ c' w', hasS ((l.map fldT).take k) (fldT l[k]) = true → RmR q 13 l[k].place c' → noRes w' (q + 1) → Below (q + 1) w0 w' → Q .ret c' w') :
    Code.wp Tryz.prog (Code.loop (loopsRm 5)) Q c w0 := by
  refine wp_loop (fun c' w' => ∃ x : Nat, x ≤ k ∧ RmB3 q a n e i E k x c' ∧ Below w0.heap.size w0 w' ∧ hasS ((l.map fldT).take x) (fldT l[k]) = false) (fun c' _ => k - (intOf (c'.tmps.getD 13 undef)).toNat) ⟨0, Nat.zero_le _, hc, Below.refl _ _, rfl⟩ ?_
  clear hc
  rintro c wr ⟨x, hx, hc, hb, hi⟩
  have HQ := Lib.hid hQ
  have HBAD := Lib.hid hB
  have HRES := Lib.hid (hres.below hb (blk_lt hres))
  have HB := Lib.hid hb
  have HEB := Lib.hid (blk_below hE hb (blk_lt hE))
  have HROW := Lib.hid (row_keep hb hrow)
  have HRQ := Lib.hid hrq
  have hfew := row_few hrow
  have hql : q + 1 < w0.heap.size := blk_lt hres
  obtain ⟨u, rfl⟩ := hc.lit
  clear hc hQ hB hb hE hrow hres hrq
  obtain ⟨_, z0, z1, z2, _⟩ := blk3 HEB.out
  conv => arg 2; whnf
  by_cases hlt : x < k
  · obtain ⟨g, cc, hv, hcc, hg, hcell⟩ := row_el fieldCells 8 (fun _ => rfl) HROW.out x (by omega)
    obtain ⟨g2, cc2, hv2, _, _, hcell2⟩ := row_el fieldCells 8 (fun _ => rfl) HROW.out k hk
    obtain ⟨rfl, rfl⟩ := slice_inj hv
    obtain ⟨hgg, hcc'⟩ := slice_inj hv2
    cases hgg
    subst hcc'
    have x1 : wr.cell? ⟨g, x * 8, none⟩ = some (.string (fldT l[x])) := hcell 0 (by omega)
    have y1 : wr.cell? ⟨g, k * 8, none⟩ = some (.string (fldT l[k])) := hcell2 0 (by omega)
    have y2 : wr.cell? ⟨g, k * 8 + 1, none⟩ = some (.int .i64 l[k].place) := hcell2 1 (by omega)
    have hmx : (l.map fldT)[x]'(by rw [List.length_map]; omega) = fldT l[x] := by rw [List.getElem_map]
    have hst := has_take_succ (l.map fldT) (fldT l[k]) x (by rw [List.length_map]; omega)
    have hgq : g ≠ q + 1 := HRQ.out _ rfl
    rw [hmx] at hst
    have hxl : (x : Int) < l.length := by omega
    have hkl : (k : Int) < l.length := by omega
    by_cases hq : fldT l[x] = fldT l[k]
    · have HT := Lib.hid (show hasS ((l.map fldT).take k) (fldT l[k]) = true by
        have hT := hst
        rw [decide_eq_true hq.symm, Bool.or_true] at hT
        have hsplit : (l.map fldT).take k = (l.map fldT).take (x + 1) ++ ((l.map fldT).drop (x + 1)).take (k - (x + 1)) := by
          rw [← List.take_add]
          congr 1
          omega
        rw [hsplit, hasS_append, hT, Bool.true_or])
      have t3 : ((fldT l[x]).toList == (fldT l[k]).toList) = true := ba_yes hq
      obtain ⟨_, _, _, _, f0, f1, f2⟩ := blk3 HRES.out
      clear hq hi hst hmx hcell hcell2 hv hv2
      generalize fldT l[x] = sx at *
      generalize fldT l[k] = sk at *
      generalize l[k].place = pk at *
      go_wp2_with fail
      go_quiet (fail)
      have HW2 := Lib.hid (bel_drewN (Below.refl wr.heap.size wr) nq)
      have k0 : (wr.drewN nq).cell? ⟨E, 2, none⟩ = some (.slice (some ⟨g, 0, none⟩) l.length nc) := (World.cell?_drewN ..).trans z2
      have k1 : (wr.drewN nq).cell? ⟨g, k * 8 + 1, none⟩ = some (.int .i64 pk) := (World.cell?_drewN ..).trans y2
      obtain ⟨_, _, _, _, f0, f1, f2⟩ := blk3 (HRES.out.below HW2.out (blk_lt HRES.out))
      have HR2 := Lib.hid (HRES.out.below HW2.out (blk_lt HRES.out))
      have hEne : (⟨E, 2, none⟩ : Addr).block ≠ q + 1 := by show E ≠ q + 1; omega
      have hgne : (⟨g, k * 8 + 1, none⟩ : Addr).block ≠ q + 1 := hgq
      generalize wr.drewN nq = W2 at *
      clear z0 z1 z2 x1 y1 y2
      go_upto_region 35 with (fail)
      go_region_held3 (fun w' => w'.cell? ⟨E, 2, none⟩ = some (.slice (some ⟨g, 0, none⟩) l.length nc) ∧ w'.cell? ⟨g, k * 8 + 1, none⟩ = some (.int .i64 pk)) (first | assumption | (with_reducible exact ⟨keep3 k0 hEne, keep3 k1 hgne⟩) | (with_reducible exact ⟨keep3d k0 hEne, keep3d k1 hgne⟩) | (with_reducible exact ⟨keep3o k0 hEne, keep3o k1 hgne⟩) | go_keep) (first | fail)
      all_goals
        simp only [Exit.then]
        apply_assumption
        go_wp2
        exact HBAD.out _ _ HT.out ⟨rfl, rfl, rfl, rfl, rfl⟩ HR2.out.put (bel_put (show Below (q + 1) w0 W2 from (HB.out.trans (HW2.out.mono HB.out.size)).mono (Nat.le_of_lt hql)) (Nat.le_refl _) _ _ _).drew
    · have HI := Lib.hid (show hasS ((l.map fldT).take (x + 1)) (fldT l[k]) = false by rw [hst, hi, Bool.false_or]; exact decide_eq_false fun e => hq e.symm)
      have t3 : ((fldT l[x]).toList == (fldT l[k]).toList) = false := ba_no hq
      clear hq hi hst hmx hcell hcell2 hv hv2
      generalize fldT l[x] = sx at *
      generalize fldT l[k] = sk at *
      go_wp2_with fail
      go_quiet (fail)
      go_wp2_with fail
      refine ⟨⟨x + 1, by omega, ⟨rfl, rfl, rfl, rfl, rfl, rfl, rfl, rfl, rfl⟩, bel_drewN HB.out _, HI.out⟩, ?_⟩
      show k - (intOf (.int .i64 ((x : Int) + 1))).toNat < k - (intOf (.int .i64 (x : Int))).toNat
      simp [intOf]; omega
  · obtain rfl : x = k := by omega
    have HI := Lib.hid hi
    clear hi hlt
    go_wp2
    exact HQ.out _ _ HI.out ⟨rfl, rfl, rfl, rfl, rfl, rfl, rfl, rfl, rfl⟩ HB.out
set_option maxRecDepth 100000 in
set_option maxHeartbeats 4000000 in
theorem rmb2_wp {Q : Exit → Act → World → Prop} {c : Act} {w0 : World} {q n e i E nc rb : Nat} {a na : Option Addr} {name pl : Value} {l : List RField} (hc : RmB2 q a n e i E 0 c)
    (hE : w0.heap[E]? = some (.cells #[name, pl, .slice na l.length nc] 114 (0, 0))) (hEq : q + 1 < E) (hrow : w0.ownsRow rb 135 8 (.slice na l.length nc) l.length (fieldsCells l)) (hrq : ∀ g, na = some g → g.block ≠ q + 1) (hres : noRes w0 (q + 1))
    (hQ : ∀ c' w', dup (l.map fldT) = none → RmB2 q a n e i E l.length c' → Below w0.heap.size w0 w' → Q (.exit 8) c' w')
    (hB : ∀ c' w' j (hj : j < l.length), dup (l.map fldT) = some j → RmR q 13 l[j].place c' → noRes w' (q + 1) → Below (q + 1) w0 w' → Q .ret c' w') :
    Code.wp Tryz.prog (Code.loop (loopsRm 4)) Q c w0 := by
  refine wp_loop (fun c' w' => ∃ k : Nat, k ≤ l.length ∧ RmB2 q a n e i E k c' ∧ Below w0.heap.size w0 w' ∧ dup (l.map fldT) = dupFrom ((l.map fldT).take k) ((l.map fldT).drop k)) (fun c' _ => l.length - (intOf (c'.tmps.getD 12 undef)).toNat) ⟨0, Nat.zero_le _, hc, Below.refl _ _, rfl⟩ ?_
  clear hc
  rintro c wr ⟨k, hk, hc, hb, hd⟩
  have HQ := Lib.hid hQ
  have HBAD := Lib.hid hB
  have HRES := Lib.hid (hres.below hb (blk_lt hres))
  have HB := Lib.hid hb
  have HEB := Lib.hid (blk_below hE hb (blk_lt hE))
  have HROW := Lib.hid (row_keep hb hrow)
  have HRQ := Lib.hid hrq
  have HD := Lib.hid hd
  have hfew := row_few hrow
  have hql : q + 1 < w0.heap.size := blk_lt hres
  obtain ⟨u, rfl⟩ := hc.lit
  clear hc hQ hB hb hE hrow hres hrq hd
  obtain ⟨_, z0, z1, z2, _⟩ := blk3 HEB.out
  conv => arg 2; whnf
  by_cases hlt : k < l.length
  · have HST := Lib.hid (HD.out.trans (dupD_step (l.map fldT) k (by rw [List.length_map]; exact hlt)))
    rw [List.getElem_map] at HST
    clear HD
    go_wp2_with fail
    refine rmb3_wp (k := k) ⟨rfl, rfl, rfl, rfl, rfl, rfl, rfl, rfl, rfl⟩ hlt HEB.out hEq HROW.out HRQ.out HRES.out ?_ ?_
    · intro c2 w2 hf hc2 hb2
      have HI := Lib.hid (HST.out.trans (if_neg (by rw [hf]; decide)))
      have HB2 := Lib.hid (HB.out.trans (hb2.mono HB.out.size))
      obtain ⟨u2, rfl⟩ := hc2.lit
      clear hc2 hb2 hf z0 z1 z2
      simp only [Exit.inBlock, Exit.then]
      apply_assumption
      go_wp2
      refine ⟨⟨k + 1, by omega, ⟨rfl, rfl, rfl, rfl, rfl, rfl, rfl, rfl⟩, HB2.out, HI.out⟩, ?_⟩
      show l.length - (intOf (.int .i64 ((k : Int) + 1))).toNat < l.length - (intOf (.int .i64 (k : Int))).toNat
      simp [intOf]; omega
    · intro c2 w2 ht hc2 hr2 hb2
      have HT := Lib.hid (HST.out.trans (if_pos ht))
      simp only [Exit.inBlock, Exit.then]
      exact HBAD.out _ _ k hlt HT.out hc2 hr2 ((HB.out.mono (Nat.le_of_lt hql)).trans hb2)
  · obtain rfl : k = l.length := by omega
    have HI := Lib.hid (show dup (l.map fldT) = none by rw [HD.out, ← List.length_map (f := fldT), List.drop_length]; rfl)
    clear hlt HD
    go_wp2
    exact HQ.out _ _ HI.out ⟨rfl, rfl, rfl, rfl, rfl, rfl, rfl, rfl⟩ HB.out
end Go.Proofs.YtleclhnlojalbaaGreatDoor
namespace Go.Proofs.YtleclhnlojalbaaGreatDoor
open Go.ChangeShapes Go.WideShapes Go.ChangeAt Go.RowKit Go.Shelf

def RtPost (w : World) (M b : Nat) (sv ev rv ssv esv : Value) (m : List NEnt) (l : List Tok) (e : Ending) (w' : World) : Prop :=
  match rootM m l with
  | .no c p => e = .returned (.agg #[.int .i64 c, .int .i64 (p : Nat)]) ∧ Exc M w.heap.size w w'
  | .ok r => e = .returned (.agg #[.int .i64 0, .int .i64 0]) ∧ Exc M w.heap.size w w' ∧ w'.heap[M]? = some (.cells #[sv, ev, rv, .map (some b), ssv, esv, .int .i64 r] 126 (0, 0))
theorem rt_fault {w w' : World} {M b : Nat} {sv ev rv ssv esv : Value} {m : List NEnt} {l : List Tok} {c : Int} {p : Nat} (h : rootM m l = .no c p) (hx : Exc M w.heap.size w w') : RtPost w M b sv ev rv ssv esv m l (.returned (.agg #[.int .i64 c, .int .i64 (p : Nat)])) w' := by
  unfold RtPost
  rw [h]
  exact ⟨rfl, hx⟩
set_option maxRecDepth 100000 in
set_option maxHeartbeats 4000000 in
theorem root_any' (w : World) {M b root rb : Nat} {sv ev rv ssv esv : Value} {m : List NEnt} {l : List Tok} (hM : MAt w M b sv ev rv m ssv esv root) (hrow : w.ownsRow rb 109 3 rv l.length (toksCells l)) :
    Calls Tryz.prog 61 #[.pointer (some ⟨M, 0, none⟩)] w (RtPost w M b sv ev rv ssv esv m l) := by
  obtain ⟨ra, rc, rfl⟩ := ownsRow_form hrow
  have hfew := row_few hrow
  have hb0 : Below w.heap.size w (w.alloc (.cells #[.int .i64 0, .int .i64 0] 43)) := (Below.refl _ _).alloc (Nat.le_refl _) _
  have HB0 := Lib.hid hb0
  have HM0 := Lib.hid (hM.fell hb0)
  have HR0 := Lib.hid (heap_alloc_new w (.cells #[.int .i64 0, .int .i64 0] 43))
  have HROW0 := Lib.hid (row_keep hb0 hrow)
  have hMw : M < w.heap.size := blk_lt hM.blk
  clear hb0 hM hrow
  go_enter Tryz.func61, Tryz.ntmps61
  go_upto_region 1 with (fail)
  generalize w.alloc (.cells #[.int .i64 0, .int .i64 0] 43) = W0 at *
  obtain ⟨hMl, z0, z1, z2, z3, z4, z5, z6, k4, k5, k6⟩ := HM0.out.cells
  obtain ⟨hRl, r0, r1, p0, p1⟩ := blk2 HR0.out
  cases l with
  | nil =>
    have HS : Hid (rootM m [] = .no 17 0) := Lib.hid rfl
    simp only [List.length_nil] at *
    go_wp2
    refine post_gen (fun Wf => Wf.heap[w.heap.size]? = some (.cells #[.int .i64 17, .int .i64 0] 43 (0, 0)) ∧ Exc M w.heap.size w Wf) ⟨blk_set2 HR0.out _ _, ((Exc.of_below HB0.out).setCell (p := ⟨w.heap.size, 0, none⟩) (.inr (Nat.le_refl _)) _).setCell (p := ⟨w.heap.size, 1, none⟩) (.inr (Nat.le_refl _)) _⟩ ?_
    rintro Wf ⟨e1, e2⟩
    obtain ⟨_, c0, c1, _⟩ := blk2 e1
    exact bodyPost_ret (v := .agg #[.int .i64 17, .int .i64 0]) (by simp [results, Tryz.results61, go_sem, c0, c1]) rfl (rt_fault HS.out e2)
  | cons t r =>
    cases r with
    | cons t2 r2 =>
      obtain ⟨g, c, hv, hc, hg, hcell⟩ := row_el tokCells 3 (fun _ => rfl) HROW0.out 1 (by simp)
      obtain ⟨rfl, rfl⟩ := slice_inj hv
      have x2 : W0.cell? ⟨g, 5, none⟩ = some (.int .i64 t2.place) := hcell 2 (by omega)
      have HS : Hid (rootM m (t :: t2 :: r2) = .no 13 t2.place) := Lib.hid rfl
      obtain ⟨n, hn⟩ : ∃ n, (t :: t2 :: r2).length = n + 2 := ⟨r2.length, by simp⟩
      rw [hn] at *
      generalize t2.place = pl at *
      have hn1 : (1 : Int) < ((n + 2 : Nat) : Int) := by omega
      have hn0 : ¬ ((n + 2 : Nat) : Int) = 0 := by omega
      have hnb : (((n + 2 : Nat) : Int) == 0) = false := by simp; omega
      clear hv hcell HROW0 hn
      go_wp2
      refine post_gen (fun Wf => Wf.heap[w.heap.size]? = some (.cells #[.int .i64 13, .int .i64 pl] 43 (0, 0)) ∧ Exc M w.heap.size w Wf) ⟨blk_set2 HR0.out _ _, ((Exc.of_below HB0.out).setCell (p := ⟨w.heap.size, 0, none⟩) (.inr (Nat.le_refl _)) _).setCell (p := ⟨w.heap.size, 1, none⟩) (.inr (Nat.le_refl _)) _⟩ ?_
      rintro Wf ⟨e1, e2⟩
      obtain ⟨_, c0, c1, _⟩ := blk2 e1
      exact bodyPost_ret (v := .agg #[.int .i64 13, .int .i64 pl]) (by simp [results, Tryz.results61, go_sem, c0, c1]) rfl (rt_fault HS.out e2)
    | nil =>
      obtain ⟨g, c, hv, hc, hg, hcell⟩ := row_el tokCells 3 (fun _ => rfl) HROW0.out 0 (by simp)
      obtain ⟨rfl, rfl⟩ := slice_inj hv
      have x1 : W0.cell? ⟨g, 1, none⟩ = some (.string (tokT t)) := hcell 1 (by omega)
      have x2 : W0.cell? ⟨g, 2, none⟩ = some (.int .i64 t.place) := hcell 2 (by omega)
      have HS : Hid (rootM m [t] = match lookN m (tokT t) with
        | none => .no 17 t.place
        | some q => if q.1 = 13 then .ok q.2 else .no 17 t.place) := Lib.hid rfl
      obtain ⟨kd, hkd⟩ : ∃ kd, ((lookN m (tokT t)).map Prod.fst).getD 0 = kd := ⟨_, rfl⟩
      obtain ⟨rf, hrf⟩ : ∃ rf, ((lookN m (tokT t)).map Prod.snd).getD 0 = rf := ⟨_, rfl⟩
      have hlk : ∀ w', MapAt w' b (m.map entP) → (Instr.lookup 123 (.map (some b)) (.string (tokT t)) false).run Tryz.prog w' = .ok (.agg #[.int .u8 kd, .int .i64 rf, .int .i64 0]) w' := fun w' h' => by rw [← hkd, ← hrf]; exact ents_look1 h' _
      have hl0 := hlk W0 HM0.out.map
      have hl1 := hlk W0.drew HM0.out.map
      have hl2 := hlk (W0.alloc (.cells #[.int .u8 0, .int .i64 0, .int .i64 0] 53)) (HM0.out.map.alloc _)
      have hl3 := hlk (W0.alloc (.cells #[.int .u8 0, .int .i64 0, .int .i64 0] 53)).drew (HM0.out.map.alloc _)
      have HKD := Lib.hid hkd
      have HRF := Lib.hid hrf
      simp only [List.length_singleton] at *
      clear hlk hkd hrf hv hcell HROW0
      go_upto_region 6 with (fail)
      go_region
      all_goals
        simp only [Exit.then]
        apply_assumption
        clear hl0 hl1 hl2 hl3
        have hb1 : Below W0.heap.size W0 (W0.alloc (.cells #[.int .u8 kd, .int .i64 rf, .int .i64 0] 53)).drew := ((Below.refl _ _).alloc (Nat.le_refl _) _).drew
        have ht1 : (W0.alloc (.cells #[.int .u8 kd, .int .i64 rf, .int .i64 0] 53)).drew.heap[W0.heap.size]? = some (.cells #[.int .u8 kd, .int .i64 rf, .int .i64 0] 53 (0, 0)) := heap_alloc_new W0 _
        have HB1 := Lib.hid (HB0.out.trans (hb1.mono HB0.out.size))
        have hr1 := blk_below HR0.out hb1 hRl
        have HR1 := Lib.hid hr1
        have hm1 := blk_below HM0.out.blk hb1 hMl
        have HM1 := Lib.hid hm1
        have y2 := (hb1.cell (p := ⟨g, 2, none⟩) hg).trans x2
        clear z0 z1 z2 z3 z4 z5 z6 k4 k5 k6 r0 r1 p0 p1 x1 x2 hb1
        generalize (W0.alloc (.cells #[.int .u8 kd, .int .i64 rf, .int .i64 0] 53)).drew = W1 at *
        obtain ⟨hMl1, z0, z1, z2, z3, z4, z5, z6, k4, k5, k6⟩ := maker_cells hm1
        obtain ⟨hRl1, r0, r1, p0, p1⟩ := blk2 hr1
        obtain ⟨_, t0, t1, t2, _⟩ := blk3 ht1
        clear hm1 hr1 ht1
        by_cases hk : kd = 13
        · have HV : Hid (rootM m [t] = .ok rf) := Lib.hid (by
            rw [HS.out]
            cases hl : lookN m (tokT t) with
            | none =>
              have h1 := HKD.out
              rw [hl, hk] at h1
              exact absurd h1 (by decide)
            | some q =>
              have h1 : q.1 = kd := by rw [← HKD.out, hl]; rfl
              have h2 : q.2 = rf := by rw [← HRF.out, hl]; rfl
              show (if q.1 = 13 then _ else _) = _
              rw [if_pos (by rw [h1, hk]), h2])
          subst hk
          go_wp2
          refine post_gen (fun Wf => Wf.heap[w.heap.size]? = some (.cells #[.int .i64 0, .int .i64 0] 43 (0, 0)) ∧ Exc M w.heap.size w Wf ∧ Wf.heap[M]? = some (.cells #[sv, ev, .slice (some ⟨g, 0, none⟩) 1 rc, .map (some b), ssv, esv, .int .i64 rf] 126 (0, 0))) ⟨?_, ?_, ?_⟩ ?_
          · exact blk_set2 (blk_set_ne HR1.out (p := ⟨M, 6, none⟩) (by show M ≠ _; omega) _) _ _
          · exact (((Exc.of_below HB1.out).setCell (p := ⟨M, 6, none⟩) (.inl rfl) _).setCell (p := ⟨w.heap.size, 0, none⟩) (.inr (Nat.le_refl _)) _).setCell (p := ⟨w.heap.size, 1, none⟩) (.inr (Nat.le_refl _)) _
          · exact blk_set_ne (blk_set_ne ((blk_set HM1.out 6 _).trans rfl) (by show w.heap.size ≠ M; omega) _) (by show w.heap.size ≠ M; omega) _
          · rintro Wf ⟨e1, e2, e3⟩
            obtain ⟨_, c0, c1, _⟩ := blk2 e1
            exact bodyPost_ret (v := .agg #[.int .i64 0, .int .i64 0]) (by simp [results, Tryz.results61, go_sem, c0, c1]) rfl (by unfold RtPost; rw [HV.out]; exact ⟨rfl, e2, e3⟩)
        · have HV : Hid (rootM m [t] = .no 17 t.place) := Lib.hid (by
            rw [HS.out]
            cases hl : lookN m (tokT t) with
            | none => rfl
            | some q =>
              have h1 : q.1 = kd := by rw [← HKD.out, hl]; rfl
              show (if q.1 = 13 then _ else _) = _
              rw [if_neg (by rw [h1]; exact hk)])
          have hkb : ((kd : Int) == 13) = false := by simp; omega
          have hkb2 : ((kd : Int) != 13) = true := by simp; omega
          have hkn : ¬ (kd : Int) = 13 := by omega
          go_wp2
          refine post_gen (fun Wf => Wf.heap[w.heap.size]? = some (.cells #[.int .i64 17, .int .i64 t.place] 43 (0, 0)) ∧ Exc M w.heap.size w Wf) ⟨blk_set2 HR1.out _ _, ((Exc.of_below HB1.out).setCell (p := ⟨w.heap.size, 0, none⟩) (.inr (Nat.le_refl _)) _).setCell (p := ⟨w.heap.size, 1, none⟩) (.inr (Nat.le_refl _)) _⟩ ?_
          rintro Wf ⟨e1, e2⟩
          obtain ⟨_, c0, c1, _⟩ := blk2 e1
          exact bodyPost_ret (v := .agg #[.int .i64 17, .int .i64 t.place]) (by simp [results, Tryz.results61, go_sem, c0, c1]) rfl (rt_fault HV.out e2)
end Go.Proofs.YtleclhnlojalbaaGreatDoor
