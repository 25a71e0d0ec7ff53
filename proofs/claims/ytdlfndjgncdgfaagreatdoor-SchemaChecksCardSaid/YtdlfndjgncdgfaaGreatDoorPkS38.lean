/-
  The package schema's choice, record: are an enum's values, a struct's fields right? Conditions: those that each theorem names; the library's tables hold what the row lists.
-/
import Derived.Test.YtdlfndjgncdgfaaGreatDoorPkS3
import Derived.Test.YtdlfndjgncdgfaaGreatDoorPkS5
import Derived.Test.YtdlfndjgncdgfaaGreatDoorPkS29
import Derived.Test.YtdlfndjgncdgfaaGreatDoorPkS34
import Derived.Test.YtdlfndjgncdgfaaGreatDoorPkS35
namespace Go.Proofs.YtdlfndjgncdgfaaGreatDoor
open Go.ChangeShapes Go.WideShapes Go.ChangeAt Go.RowKit Go.Shelf

theorem blank_no {s : ByteArray} {k : Nat} (h : k < s.size) (hb : stA (bts s) isBlank k = false) : ((s[k].toNat : Int) == 32) = false ∧ ((s[k].toNat : Int) == 9) = false ∧ ((s[k].toNat : Int) == 10) = false ∧ ((s[k].toNat : Int) == 13) = false := by
  rw [stA_of (by rw [bts_length]; exact h), bts_get h] at hb
  have hc := of_decide_eq_false hb
  simp only [beq_eq_false_iff_ne, ne_eq]
  omega
theorem slash_no {s : ByteArray} {k : Nat} (h : k < s.size) (hc : (s[k].toNat : Int) = 47) (h2 : slash2 (bts s) k = false) : ((bts s).getD (k + 1) 0 == 47) = false := by
  unfold slash2 at h2
  rw [stA_of (by rw [bts_length]; exact h), bts_get h, hc, show isC 47 47 = true from rfl, Bool.true_and] at h2
  by_cases h3 : k + 1 < s.size
  · rw [stA_of (by rw [bts_length]; exact h3)] at h2
    exact h2
  · rw [bts_end (by omega)]
    rfl
theorem slash_yes {s : ByteArray} {k : Nat} (h : k < s.size) (h2 : slash2 (bts s) k = true) : ((s[k].toNat : Int) == 47) = true ∧ ((bts s).getD (k + 1) 0 == 47) = true := by
  unfold slash2 at h2
  rw [Bool.and_eq_true] at h2
  rw [← bts_get h]
  exact ⟨stA_p h2.1, stA_p h2.2⟩
set_option maxRecDepth 100000 in
set_option maxHeartbeats 800000 in
theorem behind_any (s : ByteArray) (x : Int) (i : Nat) (w : World) (hx : x = i) (hs : s.size ≤ 281474976710656) (hi : i ≤ s.size) :
    Calls Tryz.prog 75 #[.string s, .int .i64 x] w fun e w' => e = .returned (.int .i64 (gap (bts s) i : Nat)) ∧ w = w' := by
  subst hx
  obtain ⟨r, hr⟩ : ∃ r, gap (bts s) i = r := ⟨_, rfl⟩
  have HR := Lib.hid hr
  rw [hr]
  clear hr
  go_enter Tryz.func75, Tryz.ntmps75
  go_wp2
  go_loop [1] (fun j => ∃ k : Nat, k ≤ s.size ∧ j = .int .i64 k ∧ r = gap (bts s) k) (fun j => s.size - (intOf j).toNat)
  case atStart => exact ⟨i, hi, rfl, HR.out.symm⟩
  case round =>
    obtain ⟨k, hk, rfl, hj⟩ := hrel
    have HJ := Lib.hid hj
    clear hj
    by_cases hlt : k < s.size
    · have hgk := bts_get hlt
      cases hb : stA (bts s) isBlank k
      · cases h2 : slash2 (bts s) k
        · have HG := Lib.hid (gap_stop hb h2)
          obtain ⟨t32, t9, t10, t13⟩ := blank_no hlt hb
          by_cases c47 : (s[k].toNat : Int) = 47
          · have hd := slash_no hlt c47 h2
            have t47 : ((s[k].toNat : Int) == 47) = true := beq_iff_eq.2 c47
            clear hb h2 c47 hgk
            go_wp2_with fail
            refine (at_any s _ (k + 1) _ (by omega)).mono ?_
            rintro e w2 ⟨rfl, rfl⟩
            generalize (bts s).getD (k + 1) 0 = z at hd ⊢
            go_wp2
            go_ret
            exact ⟨ret_int (by rw [HJ.out, HG.out]), rfl⟩
          · have t47 : ((s[k].toNat : Int) == 47) = false := beq_eq_false_iff_ne.2 c47
            clear hb h2 c47 hgk
            go_wp2
            go_ret
            exact ⟨ret_int (by rw [HJ.out, HG.out]), rfl⟩
        · have HG := Lib.hid (gap_remark h2)
          obtain ⟨t32, t9, t10, t13⟩ := blank_no hlt hb
          obtain ⟨t47, hd⟩ := slash_yes hlt h2
          have hrl := runTo_le (bts s) notLf k (by rw [bts_length]; exact hk)
          have hrg := slash2_run h2
          rw [bts_length] at hrl
          clear hb h2 hgk
          go_wp2_with fail
          refine (at_any s _ (k + 1) _ (by omega)).mono ?_
          rintro e w2 ⟨rfl, rfl⟩
          generalize (bts s).getD (k + 1) 0 = z at hd ⊢
          go_wp2
          go_loop [1] (fun j => ∃ m : Nat, k ≤ m ∧ m ≤ s.size ∧ j = .int .i64 m ∧ runTo (bts s) notLf k = runTo (bts s) notLf m) (fun j => s.size - (intOf j).toNat)
          case atStart => exact ⟨k, Nat.le_refl _, hk, rfl, rfl⟩
          case round =>
            obtain ⟨m, hkm, hm, rfl, hq⟩ := hrel
            have HQ := Lib.hid hq
            clear hq
            by_cases hml : m < s.size
            · have hgm := bts_get hml
              by_cases c10 : (s[m].toNat : Int) = 10
              · have HS := Lib.hid (runTo_stop (zs := bts s) (p := notLf) (i := m) (by rw [stA_of (by rw [bts_length]; exact hml), hgm, c10]; rfl))
                have tm : ((s[m].toNat : Int) != 10) = false := by rw [c10]; rfl
                have hkm2 : k + 2 ≤ m := by have h1 := HQ.out; rw [HS.out] at h1; omega
                clear c10 hgm
                go_wp2
                go_round
                case rel => exact ⟨m, hm, rfl, by rw [HJ.out, HG.out, HQ.out, HS.out]⟩
                case measure => simp [intOf]; omega
              · have HS := Lib.hid (runTo_step (zs := bts s) (p := notLf) (i := m) (by rw [stA_of (by rw [bts_length]; exact hml), hgm]; exact decide_eq_true c10))
                have tm : ((s[m].toNat : Int) != 10) = true := by rw [bne_iff_ne]; exact c10
                clear c10 hgm
                go_wp2
                go_round
                case rel => exact ⟨m + 1, by omega, by omega, by go_num, by rw [HQ.out, HS.out]⟩
                case measure => simp [intOf]; omega
            · have HS := Lib.hid (runTo_stop (zs := bts s) (p := notLf) (i := m) (stA_ge (by rw [bts_length]; omega)))
              have hkm2 : k + 2 ≤ m := by have h1 := HQ.out; rw [HS.out] at h1; omega
              go_wp2
              go_round
              case rel => exact ⟨m, hm, rfl, by rw [HJ.out, HG.out, HQ.out, HS.out]⟩
              case measure => simp [intOf]; omega
      · have HG := Lib.hid (gap_blank hb)
        have hc : (s[k].toNat : Int) = 32 ∨ (s[k].toNat : Int) = 9 ∨ (s[k].toNat : Int) = 10 ∨ (s[k].toNat : Int) = 13 := by
          rw [← hgk]
          exact of_decide_eq_true (stA_p hb)
        clear hb hgk
        rcases hc with hc | hc | hc | hc
        · have t32 : ((s[k].toNat : Int) == 32) = true := by simp only [beq_iff_eq]; omega
          clear hc
          go_wp2
          go_round
          case rel => exact ⟨k + 1, by omega, by go_num, HJ.out.trans HG.out⟩
          case measure => simp [intOf]; omega
        · have t32 : ((s[k].toNat : Int) == 32) = false := by simp only [beq_eq_false_iff_ne, ne_eq]; omega
          have t9 : ((s[k].toNat : Int) == 9) = true := by simp only [beq_iff_eq]; omega
          clear hc
          go_wp2
          go_round
          case rel => exact ⟨k + 1, by omega, by go_num, HJ.out.trans HG.out⟩
          case measure => simp [intOf]; omega
        · have t32 : ((s[k].toNat : Int) == 32) = false := by simp only [beq_eq_false_iff_ne, ne_eq]; omega
          have t9 : ((s[k].toNat : Int) == 9) = false := by simp only [beq_eq_false_iff_ne, ne_eq]; omega
          have t10 : ((s[k].toNat : Int) == 10) = true := by simp only [beq_iff_eq]; omega
          clear hc
          go_wp2
          go_round
          case rel => exact ⟨k + 1, by omega, by go_num, HJ.out.trans HG.out⟩
          case measure => simp [intOf]; omega
        · have t32 : ((s[k].toNat : Int) == 32) = false := by simp only [beq_eq_false_iff_ne, ne_eq]; omega
          have t9 : ((s[k].toNat : Int) == 9) = false := by simp only [beq_eq_false_iff_ne, ne_eq]; omega
          have t10 : ((s[k].toNat : Int) == 10) = false := by simp only [beq_eq_false_iff_ne, ne_eq]; omega
          have t13 : ((s[k].toNat : Int) == 13) = true := by simp only [beq_iff_eq]; omega
          clear hc
          go_wp2
          go_round
          case rel => exact ⟨k + 1, by omega, by go_num, HJ.out.trans HG.out⟩
          case measure => simp [intOf]; omega
    · have HG := Lib.hid (gap_end (zs := bts s) (i := k) (by rw [bts_length]; omega))
      go_wp2
      go_ret
      exact ⟨ret_int (by rw [HJ.out, HG.out]), rfl⟩
end Go.Proofs.YtdlfndjgncdgfaaGreatDoor
namespace Go.Proofs.YtdlfndjgncdgfaaGreatDoor
open Go.ChangeShapes Go.WideShapes Go.ChangeAt Go.RowKit Go.Shelf

def RtPost (w : World) (M b : Nat) (sv ev rv ssv esv : Value) (m : List NEnt) (l : List Tok) (e : Ending) (w' : World) : Prop :=
  match rootM m l with
  | .no c p => e = .returned (.agg #[.int .i64 c, .int .i64 (p : Nat)]) ∧ Exc M w.heap.size w w'
  | .ok r => e = .returned (.agg #[.int .i64 0, .int .i64 0]) ∧ Exc M w.heap.size w w' ∧ w'.heap[M]? = some (.cells #[sv, ev, rv, .map (some b), ssv, esv, .int .i64 r] 140 (0, 0))
theorem rt_fault {w w' : World} {M b : Nat} {sv ev rv ssv esv : Value} {m : List NEnt} {l : List Tok} {c : Int} {p : Nat} (h : rootM m l = .no c p) (hx : Exc M w.heap.size w w') : RtPost w M b sv ev rv ssv esv m l (.returned (.agg #[.int .i64 c, .int .i64 (p : Nat)])) w' := by
  unfold RtPost
  rw [h]
  exact ⟨rfl, hx⟩
set_option maxRecDepth 100000 in
set_option maxHeartbeats 4000000 in
theorem root_any' (w : World) {M b root rb : Nat} {sv ev rv ssv esv : Value} {m : List NEnt} {l : List Tok} (hM : MAt w M b sv ev rv m ssv esv root) (hrow : w.ownsRow rb 108 3 rv l.length (toksCells l)) :
    Calls Tryz.prog 64 #[.pointer (some ⟨M, 0, none⟩)] w (RtPost w M b sv ev rv ssv esv m l) := by
  obtain ⟨ra, rc, rfl⟩ := ownsRow_form hrow
  have hfew := row_few hrow
  have hb0 : Below w.heap.size w (w.alloc (.cells #[.int .i64 0, .int .i64 0] 38)) := (Below.refl _ _).alloc (Nat.le_refl _) _
  have HB0 := Lib.hid hb0
  have HM0 := Lib.hid (hM.fell hb0)
  have HR0 := Lib.hid (heap_alloc_new w (.cells #[.int .i64 0, .int .i64 0] 38))
  have HROW0 := Lib.hid (row_keep hb0 hrow)
  have hMw : M < w.heap.size := blk_lt hM.blk
  clear hb0 hM hrow
  go_enter Tryz.func64, Tryz.ntmps64
  go_upto_region 1 with (fail)
  generalize w.alloc (.cells #[.int .i64 0, .int .i64 0] 38) = W0 at *
  obtain ⟨hMl, z0, z1, z2, z3, z4, z5, z6, k4, k5, k6⟩ := HM0.out.cells
  obtain ⟨hRl, r0, r1, p0, p1⟩ := blk2 HR0.out
  cases l with
  | nil =>
    have HS : Hid (rootM m [] = .no 17 0) := Lib.hid rfl
    simp only [List.length_nil] at *
    go_wp2
    refine post_gen (fun Wf => Wf.heap[w.heap.size]? = some (.cells #[.int .i64 17, .int .i64 0] 38 (0, 0)) ∧ Exc M w.heap.size w Wf) ⟨blk_set2 HR0.out _ _, ((Exc.of_below HB0.out).setCell (p := ⟨w.heap.size, 0, none⟩) (.inr (Nat.le_refl _)) _).setCell (p := ⟨w.heap.size, 1, none⟩) (.inr (Nat.le_refl _)) _⟩ ?_
    rintro Wf ⟨e1, e2⟩
    obtain ⟨_, c0, c1, _⟩ := blk2 e1
    exact bodyPost_ret (v := .agg #[.int .i64 17, .int .i64 0]) (by simp [results, Tryz.results64, go_sem, c0, c1]) rfl (rt_fault HS.out e2)
  | cons t r =>
    cases r with
    | cons t2 r2 =>
      obtain ⟨g, c, hv, hc, hg, hcell⟩ := row_el tokCells 3 (fun _ => rfl) HROW0.out 1 (by simp)
      obtain ⟨rfl, rfl⟩ := slice_inj hv
      have x2 : W0.cell? ⟨g, 5, none⟩ = some (.int .i64 t2.place) := hcell 2 (by omega)
      have HS : Hid (rootM m (t :: t2 :: r2) = .no 13 t2.place) := Lib.hid rfl
      obtain ⟨n, hn⟩ : ∃ n, (t :: t2 :: r2).length = n + 2 := ⟨r2.length, by simp⟩
      rw [hn] at *
      generalize t2.place = pl at *
      have hn1 : (1 : Int) < ((n + 2 : Nat) : Int) := by omega
      have hn0 : ¬ ((n + 2 : Nat) : Int) = 0 := by omega
      have hnb : (((n + 2 : Nat) : Int) == 0) = false := by simp; omega
      clear hv hcell HROW0 hn
      go_wp2
      refine post_gen (fun Wf => Wf.heap[w.heap.size]? = some (.cells #[.int .i64 13, .int .i64 pl] 38 (0, 0)) ∧ Exc M w.heap.size w Wf) ⟨blk_set2 HR0.out _ _, ((Exc.of_below HB0.out).setCell (p := ⟨w.heap.size, 0, none⟩) (.inr (Nat.le_refl _)) _).setCell (p := ⟨w.heap.size, 1, none⟩) (.inr (Nat.le_refl _)) _⟩ ?_
      rintro Wf ⟨e1, e2⟩
      obtain ⟨_, c0, c1, _⟩ := blk2 e1
      exact bodyPost_ret (v := .agg #[.int .i64 13, .int .i64 pl]) (by simp [results, Tryz.results64, go_sem, c0, c1]) rfl (rt_fault HS.out e2)
    | nil =>
      obtain ⟨g, c, hv, hc, hg, hcell⟩ := row_el tokCells 3 (fun _ => rfl) HROW0.out 0 (by simp)
      obtain ⟨rfl, rfl⟩ := slice_inj hv
      have x1 : W0.cell? ⟨g, 1, none⟩ = some (.string (tokT t)) := hcell 1 (by omega)
      have x2 : W0.cell? ⟨g, 2, none⟩ = some (.int .i64 t.place) := hcell 2 (by omega)
      have HS : Hid (rootM m [t] = match lookN m (tokT t) with
        | none => .no 17 t.place
        | some q => if q.1 = 13 then .ok q.2 else .no 17 t.place) := Lib.hid rfl
      obtain ⟨kd, hkd⟩ : ∃ kd, ((lookN m (tokT t)).map Prod.fst).getD 0 = kd := ⟨_, rfl⟩
      obtain ⟨rf, hrf⟩ : ∃ rf, ((lookN m (tokT t)).map Prod.snd).getD 0 = rf := ⟨_, rfl⟩
      have hlk : ∀ w', MapAt w' b (m.map entP) → (Instr.lookup 137 (.map (some b)) (.string (tokT t)) false).run Tryz.prog w' = .ok (.agg #[.int .u8 kd, .int .i64 rf, .int .i64 0]) w' := fun w' h' => by rw [← hkd, ← hrf]; exact ents_look1 h' _
      have hl0 := hlk W0 HM0.out.map
      have hl1 := hlk W0.drew HM0.out.map
      have hl2 := hlk (W0.alloc (.cells #[.int .u8 0, .int .i64 0, .int .i64 0] 49)) (HM0.out.map.alloc _)
      have hl3 := hlk (W0.alloc (.cells #[.int .u8 0, .int .i64 0, .int .i64 0] 49)).drew (HM0.out.map.alloc _)
      have HKD := Lib.hid hkd
      have HRF := Lib.hid hrf
      simp only [List.length_singleton] at *
      clear hlk hkd hrf hv hcell HROW0
      go_upto_region 6 with (fail)
      go_region
      all_goals
        simp only [Exit.then]
        apply_assumption
        clear hl0 hl1 hl2 hl3
        have hb1 : Below W0.heap.size W0 (W0.alloc (.cells #[.int .u8 kd, .int .i64 rf, .int .i64 0] 49)).drew := ((Below.refl _ _).alloc (Nat.le_refl _) _).drew
        have ht1 : (W0.alloc (.cells #[.int .u8 kd, .int .i64 rf, .int .i64 0] 49)).drew.heap[W0.heap.size]? = some (.cells #[.int .u8 kd, .int .i64 rf, .int .i64 0] 49 (0, 0)) := heap_alloc_new W0 _
        have HB1 := Lib.hid (HB0.out.trans (hb1.mono HB0.out.size))
        have hr1 := blk_below HR0.out hb1 hRl
        have HR1 := Lib.hid hr1
        have hm1 := blk_below HM0.out.blk hb1 hMl
        have HM1 := Lib.hid hm1
        have y2 := (hb1.cell (p := ⟨g, 2, none⟩) hg).trans x2
        clear z0 z1 z2 z3 z4 z5 z6 k4 k5 k6 r0 r1 p0 p1 x1 x2 hb1
        generalize (W0.alloc (.cells #[.int .u8 kd, .int .i64 rf, .int .i64 0] 49)).drew = W1 at *
        obtain ⟨hMl1, z0, z1, z2, z3, z4, z5, z6, k4, k5, k6⟩ := maker_cells hm1
        obtain ⟨hRl1, r0, r1, p0, p1⟩ := blk2 hr1
        obtain ⟨_, t0, t1, t2, _⟩ := blk3 ht1
        clear hm1 hr1 ht1
        by_cases hk : kd = 13
        · have HV : Hid (rootM m [t] = .ok rf) := Lib.hid (by
            rw [HS.out]
            cases hl : lookN m (tokT t) with
            | none =>
              have h1 := HKD.out
              rw [hl, hk] at h1
              exact absurd h1 (by decide)
            | some q =>
              have h1 : q.1 = kd := by rw [← HKD.out, hl]; rfl
              have h2 : q.2 = rf := by rw [← HRF.out, hl]; rfl
              show (if q.1 = 13 then _ else _) = _
              rw [if_pos (by rw [h1, hk]), h2])
          subst hk
          go_wp2
          refine post_gen (fun Wf => Wf.heap[w.heap.size]? = some (.cells #[.int .i64 0, .int .i64 0] 38 (0, 0)) ∧ Exc M w.heap.size w Wf ∧ Wf.heap[M]? = some (.cells #[sv, ev, .slice (some ⟨g, 0, none⟩) 1 rc, .map (some b), ssv, esv, .int .i64 rf] 140 (0, 0))) ⟨?_, ?_, ?_⟩ ?_
          · exact blk_set2 (blk_set_ne HR1.out (p := ⟨M, 6, none⟩) (by show M ≠ _; omega) _) _ _
          · exact (((Exc.of_below HB1.out).setCell (p := ⟨M, 6, none⟩) (.inl rfl) _).setCell (p := ⟨w.heap.size, 0, none⟩) (.inr (Nat.le_refl _)) _).setCell (p := ⟨w.heap.size, 1, none⟩) (.inr (Nat.le_refl _)) _
          · exact blk_set_ne (blk_set_ne ((blk_set HM1.out 6 _).trans rfl) (by show w.heap.size ≠ M; omega) _) (by show w.heap.size ≠ M; omega) _
          · rintro Wf ⟨e1, e2, e3⟩
            obtain ⟨_, c0, c1, _⟩ := blk2 e1
            exact bodyPost_ret (v := .agg #[.int .i64 0, .int .i64 0]) (by simp [results, Tryz.results64, go_sem, c0, c1]) rfl (by unfold RtPost; rw [HV.out]; exact ⟨rfl, e2, e3⟩)
        · have HV : Hid (rootM m [t] = .no 17 t.place) := Lib.hid (by
            rw [HS.out]
            cases hl : lookN m (tokT t) with
            | none => rfl
            | some q =>
              have h1 : q.1 = kd := by rw [← HKD.out, hl]; rfl
              show (if q.1 = 13 then _ else _) = _
              rw [if_neg (by rw [h1]; exact hk)])
          have hkb : ((kd : Int) == 13) = false := by simp; omega
          have hkb2 : ((kd : Int) != 13) = true := by simp; omega
          have hkn : ¬ (kd : Int) = 13 := by omega
          go_wp2
          refine post_gen (fun Wf => Wf.heap[w.heap.size]? = some (.cells #[.int .i64 17, .int .i64 t.place] 38 (0, 0)) ∧ Exc M w.heap.size w Wf) ⟨blk_set2 HR1.out _ _, ((Exc.of_below HB1.out).setCell (p := ⟨w.heap.size, 0, none⟩) (.inr (Nat.le_refl _)) _).setCell (p := ⟨w.heap.size, 1, none⟩) (.inr (Nat.le_refl _)) _⟩ ?_
          rintro Wf ⟨e1, e2⟩
          obtain ⟨_, c0, c1, _⟩ := blk2 e1
          exact bodyPost_ret (v := .agg #[.int .i64 17, .int .i64 t.place]) (by simp [results, Tryz.results64, go_sem, c0, c1]) rfl (rt_fault HV.out e2)
end Go.Proofs.YtdlfndjgncdgfaaGreatDoor
namespace Go.Proofs.YtdlfndjgncdgfaaGreatDoor
open Go.ChangeShapes Go.WideShapes Go.ChangeAt Go.RowKit Go.Shelf

theorem tells_named (l : List ByteArray) (w : World) (hT : Tabs w) (hs : ∀ s ∈ l, s.size ≤ 281474976710656) : Tells w 65 #[] Value.string l namedB :=
  ⟨enters_of Tryz.func65 (by kernel_rfl) rfl, fun W x hx hb => snamed_any x W (hT.below (Nat.le_refl _) hb) (hs x hx)⟩
theorem tells_free (l : List ByteArray) (w : World) (hT : Tabs w) (hs : ∀ s ∈ l, s.size ≤ 281474976710656) : Tells w 28 #[] Value.string l freeB :=
  ⟨enters_of Tryz.func28 (by kernel_rfl) rfl, fun W x hx hb => sfree_any x W (hT.below (Nat.le_refl _) hb) (hs x hx)⟩
theorem dupI_neg (o : Option Nat) : (decide (dupI o < 0)) = decide (o = none) := by
  cases o with
  | none => rfl
  | some k =>
    show decide ((k : Int) < 0) = _
    rw [decide_eq_false (by omega), decide_eq_false (by simp)]
set_option maxRecDepth 100000 in
set_option maxHeartbeats 4000000 in
theorem schoice_any (c : SCho) (v : Value) (base : Nat) (w : World) (h : w.ownsRow base 9 1 v c.names.length (strsCells c.names)) (hT : Tabs w) (hs : ∀ s ∈ c.names, s.size ≤ 281474976710656) :
    Calls Tryz.prog 32 #[.agg #[.string c.name, v]] w fun e w' => e = .returned (.bool (choiceB c)) ∧ Below w.heap.size w w' := by
  obtain ⟨a, cp, rfl⟩ := ownsRow_form h
  have hfew := row_few h
  obtain ⟨res, hres⟩ : ∃ res, choiceB c = res := ⟨_, rfl⟩
  rw [hres]
  unfold choiceB at hres
  have HN := Lib.hid hres
  have h0 := heap_alloc_new w (.cells #[.string c.name, .slice a c.names.length cp] 57)
  have hb := (Below.refl w.heap.size w).alloc (Nat.le_refl _) (.cells #[.string c.name, .slice a c.names.length cp] 57)
  have HB := Lib.hid hb
  have HQ := Lib.hid h0
  have HR := Lib.hid (row_keep hb h)
  have HT := Lib.hid (hT.below (Nat.le_refl _) hb)
  have HS := Lib.hid hs
  obtain ⟨_, p0, p1, _⟩ := blk2 h0
  clear h0 hb h hT hs hres
  go_enter Tryz.func32, Tryz.ntmps32
  go_upto_region 1 with (fail)
  generalize (w.alloc (.cells #[.string c.name, .slice a c.names.length cp] 57)) = W0 at *
  go_wp2_with fail
  by_cases hl : 1 ≤ c.names.length ∧ c.names.length ≤ 32
  · refine (samong_any ((c.names.length : Int) - 1) 32 true (decide_eq_true (by omega)) _).mono ?_
    rintro e W1 ⟨rfl, rfl⟩
    have HN2 := Lib.hid (show res = _ from HN.out.symm.trans (by rw [decide_eq_true hl, Bool.true_and]))
    clear HN hl
    go_wp2_with fail
    refine (all_str c.names namedB _ _ W0 65 #[] HR.out (tells_named c.names W0 HT.out HS.out)).mono ?_
    rintro e W1 ⟨rfl, hb1⟩
    have HB1 := Lib.hid (HB.out.trans (hb1.mono HB.out.size))
    have HR1 := Lib.hid (row_keep hb1 HR.out)
    obtain ⟨_, r0, r1, _⟩ := blk2 (blk_below HQ.out hb1 (blk_lt HQ.out))
    clear hb1 p0 p1 HB HR
    cases ha : c.names.all namedB
    · have HE := Lib.hid (show res = false by rw [HN2.out, ha, Bool.false_and])
      clear HN2 ha
      go_wp2
      go_ret
      exact ⟨ret_bool HE.out.symm, HB1.out⟩
    have HE := Lib.hid (show res = decide (dup c.names = none) by rw [HN2.out, ha, Bool.true_and])
    clear HN2 ha
    go_wp2_with fail
    refine (again_strS c.names _ _ W1 HR1.out).mono ?_
    rintro e W2 ⟨rfl, hb2⟩
    have HB2 := Lib.hid (HB1.out.trans (hb2.mono HB1.out.size))
    clear hb2
    rw [List.map_id]
    have HD := Lib.hid (dupI_neg (dup c.names))
    generalize dupI (dup c.names) = d at *
    go_wp2
    go_ret
    exact ⟨ret_bool (by rw [HE.out]; exact HD.out), HB2.out⟩
  · refine (samong_any ((c.names.length : Int) - 1) 32 false (decide_eq_false (by omega)) _).mono ?_
    rintro e W1 ⟨rfl, rfl⟩
    have HE := Lib.hid (show res = false by rw [← HN.out, decide_eq_false hl, Bool.false_and])
    clear HN hl
    go_wp2
    go_ret
    exact ⟨ret_bool HE.out.symm, HB.out⟩
def FldFit (f : CFld) : Prop := f.kind ≤ 255 ∧ f.dflt ≤ 18446744073709551615 ∧ f.name.size ≤ 281474976710656
set_option maxRecDepth 100000 in
set_option maxHeartbeats 4000000 in
theorem rec1_any (w : World) (S : Nat) {base : Nat} {ss : List (CRec × Value)} {es : List (SCho × Value)} {sv ev : Value} (root : Int) (h : CRows base w ss es sv ev) (hS : w.heap[S]? = some (.cells #[sv, ev, .int .i64 root] 30 (0, 0))) (f : CFld) (hf : FldFit f) (hT : Tabs w) :
    Calls Tryz.prog 67 #[.agg #[.string f.name, .int .u8 (f.kind : Nat), .int .i64 f.ref, .int .i64 f.lists, .int .u64 (f.dflt : Nat)], .pointer (some ⟨S, 0, none⟩)] w fun e w' => e = .returned (.bool (fieldB ss.length (es.map Prod.fst) f)) ∧ Below w.heap.size w w' := by
  obtain ⟨sa, sc, ea, ec, rfl, rfl⟩ := h.forms
  have h0 := heap_alloc_new w (.cells #[.string f.name, .int .u8 (f.kind : Nat), .int .i64 f.ref, .int .i64 f.lists, .int .u64 (f.dflt : Nat)] 51)
  have hb := (Below.refl w.heap.size w).alloc (Nat.le_refl _) (.cells #[.string f.name, .int .u8 (f.kind : Nat), .int .i64 f.ref, .int .i64 f.lists, .int .u64 (f.dflt : Nat)] 51)
  have HB := Lib.hid hb
  have HC := Lib.hid (sfield_any _ root (h.below hb) f hf.1 hf.2.1 hf.2.2 (hT.below (Nat.le_refl _) hb))
  obtain ⟨_, p0, p1, p2, _⟩ := blk3 (blk_below hS hb (blk_lt hS))
  obtain ⟨_, q0, q1, q2, q3, q4, _⟩ := blk5c h0
  clear h0 hb h hT hS
  go_enter Tryz.func67, Tryz.ntmps67
  go_upto_region 1 with (fail)
  generalize (w.alloc (.cells #[.string f.name, .int .u8 (f.kind : Nat), .int .i64 f.ref, .int .i64 f.lists, .int .u64 (f.dflt : Nat)] 51)) = W0 at *
  go_wp2_with fail
  refine HC.out.mono ?_
  rintro e W1 ⟨rfl, hb1⟩
  have HB1 := Lib.hid (HB.out.trans (hb1.mono HB.out.size))
  clear hb1 p0 p1 p2 q0 q1 q2 q3 q4
  go_wp2
  go_ret
  exact ⟨rfl, HB1.out⟩
theorem tells_rec1 (w : World) (S : Nat) {base : Nat} {ss : List (CRec × Value)} {es : List (SCho × Value)} {sv ev : Value} (root : Int) (h : CRows base w ss es sv ev) (hS : w.heap[S]? = some (.cells #[sv, ev, .int .i64 root] 30 (0, 0))) (l : List CFld) (hf : ∀ f ∈ l, FldFit f) (hT : Tabs w) :
    Tells w 67 #[.pointer (some ⟨S, 0, none⟩)] (fun f : CFld => Value.agg #[.string f.name, .int .u8 (f.kind : Nat), .int .i64 f.ref, .int .i64 f.lists, .int .u64 (f.dflt : Nat)]) l (fieldB ss.length (es.map Prod.fst)) :=
  ⟨enters_of Tryz.func67 (by kernel_rfl) rfl, fun W x hx hb => rec1_any W S root (h.below hb) (blk_below hS hb (blk_lt hS)) x (hf x hx) (hT.below (Nat.le_refl _) hb)⟩
set_option maxRecDepth 100000 in
set_option maxHeartbeats 4000000 in
theorem srecord_any (w : World) {base : Nat} {ss : List (CRec × Value)} {es : List (SCho × Value)} {sv ev : Value} (root : Int) (h : CRows base w ss es sv ev) (r : CRec) (v : Value) (hr : w.ownsRow base 51 5 v r.fields.length (cfldsCells r.fields)) (hf : ∀ f ∈ r.fields, FldFit f) (hT : Tabs w) :
    Calls Tryz.prog 35 #[.agg #[sv, ev, .int .i64 root], .agg #[.string r.name, v]] w fun e w' => e = .returned (.bool (recordB ss.length (es.map Prod.fst) r)) ∧ Below w.heap.size w w' := by
  obtain ⟨sa, sc, ea, ec, rfl, rfl⟩ := h.forms
  obtain ⟨a, cp, rfl⟩ := ownsRow_form hr
  have hfew := row_few hr
  obtain ⟨hb, hq1, hq2⟩ := two_blk w #[.slice sa ss.length sc, .slice ea es.length ec, .int .i64 root] #[.string r.name, .slice a r.fields.length cp] 30 54
  obtain ⟨res, hres⟩ : ∃ res, recordB ss.length (es.map Prod.fst) r = res := ⟨_, rfl⟩
  rw [hres]
  unfold recordB at hres
  have HN := Lib.hid hres
  have HB := Lib.hid hb
  have HT := Lib.hid (tells_rec1 _ w.heap.size root (h.below hb) hq1 r.fields hf (hT.below (Nat.le_refl _) hb))
  have HR := Lib.hid (row_keep hb hr)
  have HQ2 := Lib.hid hq2
  obtain ⟨_, q0, q1, _⟩ := blk2 hq2
  clear hq1 hq2 hb h hres hr hf hT
  go_enter Tryz.func35, Tryz.ntmps35
  go_upto_region 1 with (fail)
  generalize ((w.alloc (.cells #[.slice sa ss.length sc, .slice ea es.length ec, .int .i64 root] 30)).alloc (.cells #[.string r.name, .slice a r.fields.length cp] 54)) = W0 at *
  go_wp2_with fail
  by_cases hl : 1 ≤ r.fields.length ∧ r.fields.length ≤ 16
  · refine (samong_any ((r.fields.length : Int) - 1) 16 true (decide_eq_true (by omega)) _).mono ?_
    rintro e W1 ⟨rfl, rfl⟩
    have HN2 := Lib.hid (show res = _ from HN.out.symm.trans (by rw [decide_eq_true hl, Bool.true_and]))
    clear HN hl
    go_wp2_with fail
    refine (all_cfld r.fields (fieldB ss.length (es.map Prod.fst)) _ _ W0 67 _ HR.out HT.out).mono ?_
    rintro e W1 ⟨rfl, hb1⟩
    have HB1 := Lib.hid (HB.out.trans (hb1.mono HB.out.size))
    have HR1 := Lib.hid (row_keep hb1 HR.out)
    obtain ⟨_, r0, r1, _⟩ := blk2 (blk_below HQ2.out hb1 (blk_lt HQ2.out))
    clear hb1 q0 q1 HB HR HT
    cases ha : r.fields.all (fieldB ss.length (es.map Prod.fst))
    · have HE := Lib.hid (show res = false by rw [HN2.out, ha, Bool.false_and])
      clear HN2 ha
      go_wp2
      go_ret
      exact ⟨ret_bool HE.out.symm, HB1.out⟩
    have HE := Lib.hid (show res = decide (dup (r.fields.map CFld.name) = none) by rw [HN2.out, ha, Bool.true_and])
    clear HN2 ha
    go_wp2_with fail
    refine (again_cfldS r.fields _ _ W1 HR1.out).mono ?_
    rintro e W2 ⟨rfl, hb2⟩
    have HB2 := Lib.hid (HB1.out.trans (hb2.mono HB1.out.size))
    clear hb2
    have HD := Lib.hid (dupI_neg (dup (r.fields.map CFld.name)))
    generalize dupI (dup (r.fields.map CFld.name)) = d at *
    go_wp2
    go_ret
    exact ⟨ret_bool (by rw [HE.out]; exact HD.out), HB2.out⟩
  · refine (samong_any ((r.fields.length : Int) - 1) 16 false (decide_eq_false (by omega)) _).mono ?_
    rintro e W1 ⟨rfl, rfl⟩
    have HE := Lib.hid (show res = false by rw [← HN.out, decide_eq_false hl, Bool.false_and])
    clear HN hl
    go_wp2
    go_ret
    exact ⟨ret_bool HE.out.symm, HB.out⟩
end Go.Proofs.YtdlfndjgncdgfaaGreatDoor
