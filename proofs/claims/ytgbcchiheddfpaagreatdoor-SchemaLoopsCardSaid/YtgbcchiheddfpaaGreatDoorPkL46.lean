/-
  The package schema's Make: of what is written the schema, or the first fault and its place. Conditions: those that each theorem names.
-/
import Derived.Test.YtgbcchiheddfpaaGreatDoorPkL45
namespace Go.Proofs.YtgbcchiheddfpaaGreatDoor
open Go.ChangeShapes Go.WideShapes Go.ChangeAt Go.RowKit Go.Shelf

structure MEnd (w : World) (x y z u v : Value) (Wf : World) : Prop where
  sch : Wf.heap[w.heap.size + 1]? = some (.cells #[x, y, z] 30 (0, 0))
  flt : Wf.heap[w.heap.size + 2]? = some (.cells #[u, v] 125 (0, 0))
  bel : Below w.heap.size w Wf
def MakePost (w : World) (x : RRaw) (e : Ending) (w' : World) : Prop :=
  Below w.heap.size w w' ∧ match makeM x with
  | .no c p => e = .returned (.tuple #[.agg #[.slice none 0 0, .slice none 0 0, .int .i64 0], .agg #[.int .i64 c, .int .i64 (p : Nat)]])
  | .ok S => ∃ ss es sv ev, e = .returned (.tuple #[.agg #[sv, ev, .int .i64 S.root], .agg #[.int .i64 0, .int .i64 0]]) ∧ S.structs = ss.map Prod.fst ∧ S.enums = es.map Prod.fst ∧ SchRows w.heap.size w' ss es sv ev
theorem mend1 {w W : World} {a b c u v : Value} (h1 : W.heap[w.heap.size + 1]? = some (.cells #[a, b, c] 30 (0, 0))) (h2 : W.heap[w.heap.size + 2]? = some (.cells #[u, v] 125 (0, 0))) (hb : Below w.heap.size w W) (x y z r s : Value) :
    MEnd w x y z r s (((((W.setCell ⟨w.heap.size + 1, 0, none⟩ x).setCell ⟨w.heap.size + 1, 1, none⟩ y).setCell ⟨w.heap.size + 1, 2, none⟩ z).setCell ⟨w.heap.size + 2, 0, none⟩ r).setCell ⟨w.heap.size + 2, 1, none⟩ s) :=
  have far : ∀ (W : World) (g k i : Nat) (x : Value), k ≠ g → (W.setCell ⟨g, i, none⟩ x).heap[k]? = W.heap[k]? := fun W g k i x h => Below.heap_setCell _ _ _ _ h
  ⟨by rw [far _ _ _ _ _ (by omega), far _ _ _ _ _ (by omega)]; exact blk_set3 h1 _ _ _, blk_set2 (by rw [far _ _ _ _ _ (by omega), far _ _ _ _ _ (by omega), far _ _ _ _ _ (by omega)]; exact h2) _ _,
    ((((hb.setCell (p := ⟨w.heap.size + 1, 0, none⟩) (by show _ ≤ w.heap.size + 1; omega) _).setCell (p := ⟨w.heap.size + 1, 1, none⟩) (by show _ ≤ w.heap.size + 1; omega) _).setCell (p := ⟨w.heap.size + 1, 2, none⟩) (by show _ ≤ w.heap.size + 1; omega) _).setCell (p := ⟨w.heap.size + 2, 0, none⟩) (by show _ ≤ w.heap.size + 2; omega) _).setCell (p := ⟨w.heap.size + 2, 1, none⟩) (by show _ ≤ w.heap.size + 2; omega) _⟩
theorem mend2 {w W : World} {a b c u v : Value} (h1 : W.heap[w.heap.size + 1]? = some (.cells #[a, b, c] 30 (0, 0))) (h2 : W.heap[w.heap.size + 2]? = some (.cells #[u, v] 125 (0, 0))) (hb : Below w.heap.size w W) (x y z r s : Value) :
    MEnd w x y z r s (((((W.setCell ⟨w.heap.size + 2, 0, none⟩ r).setCell ⟨w.heap.size + 2, 1, none⟩ s).setCell ⟨w.heap.size + 1, 0, none⟩ x).setCell ⟨w.heap.size + 1, 1, none⟩ y).setCell ⟨w.heap.size + 1, 2, none⟩ z) :=
  have far : ∀ (W : World) (g k i : Nat) (x : Value), k ≠ g → (W.setCell ⟨g, i, none⟩ x).heap[k]? = W.heap[k]? := fun W g k i x h => Below.heap_setCell _ _ _ _ h
  ⟨blk_set3 (by rw [far _ _ _ _ _ (by omega), far _ _ _ _ _ (by omega)]; exact h1) _ _ _, by rw [far _ _ _ _ _ (by omega), far _ _ _ _ _ (by omega), far _ _ _ _ _ (by omega)]; exact blk_set2 h2 _ _,
    ((((hb.setCell (p := ⟨w.heap.size + 2, 0, none⟩) (by show _ ≤ w.heap.size + 2; omega) _).setCell (p := ⟨w.heap.size + 2, 1, none⟩) (by show _ ≤ w.heap.size + 2; omega) _).setCell (p := ⟨w.heap.size + 1, 0, none⟩) (by show _ ≤ w.heap.size + 1; omega) _).setCell (p := ⟨w.heap.size + 1, 1, none⟩) (by show _ ≤ w.heap.size + 1; omega) _).setCell (p := ⟨w.heap.size + 1, 2, none⟩) (by show _ ≤ w.heap.size + 1; omega) _⟩
theorem MEnd.drew {w Wf : World} {x y z u v : Value} (h : MEnd w x y z u v Wf) : MEnd w x y z u v Wf.drew := ⟨h.sch, h.flt, h.bel.drew⟩
theorem stg_below {M b k : Nat} {sv ev rv : Value} {rs : List (RRec × Value)} {re : List (RCho × Value)} {rt : List Tok} {W W' : World} (h : StgAt M b sv ev rv rs re rt k W) (hb : Below W.heap.size W W') : StgAt M b sv ev rv rs re rt k W' := by
  unfold StgAt at h ⊢
  split at h
  · exact h.fell hb
  · obtain ⟨m1, es, esv, h1, h2, h3, h4⟩ := h
    exact ⟨m1, es, esv, h1, h2.fell hb, h3.below hb, h4⟩
  · obtain ⟨m1, m, es, esv, ssv, h1, h2, h3, h4, h5, h6⟩ := h
    exact ⟨m1, m, es, esv, ssv, h1, h2, h3.fell hb, h4.below hb, h5, row_keep hb h6⟩
  · obtain ⟨m1, m, L, es, esv, ssv, h1, h2, h3, h4, h5, h6⟩ := h
    exact ⟨m1, m, L, es, esv, ssv, h1, h2, h3, h4.fell hb, h5, h6.below hb⟩
  · obtain ⟨m1, m, L, es, esv, ssv, r, h1, h2, h3, h4, h5, h6, h7⟩ := h
    exact ⟨m1, m, L, es, esv, ssv, r, h1, h2, h3, h4, h5, h6.below hb, blk_below h7 hb (blk_lt h7)⟩
theorem make_no {w Wf : World} {x : RRaw} {c : Int} {p : Nat} (h : makeM x = .no c p) (hb : Below w.heap.size w Wf) : MakePost w x (.returned (.tuple #[.agg #[.slice none 0 0, .slice none 0 0, .int .i64 0], .agg #[.int .i64 c, .int .i64 (p : Nat)]])) Wf := by
  unfold MakePost
  rw [h]
  exact ⟨hb, rfl⟩
def mkFns (M : Nat) : Array Value := #[.func (.func 121) #[.pointer (some ⟨M, 0, none⟩)] #[], .func (.func 122) #[.pointer (some ⟨M, 0, none⟩)] #[], .func (.func 123) #[.pointer (some ⟨M, 0, none⟩)] #[], .func (.func 124) #[.pointer (some ⟨M, 0, none⟩)] #[]]
set_option maxRecDepth 100000 in
set_option maxHeartbeats 8000000 in
theorem make_any_raw (w : World) {rb : Nat} {rs : List (RRec × Value)} {re : List (RCho × Value)} {rt : List Tok} {sv ev rv : Value} (h : RawRows rb w rs re rt sv ev rv) (hE : ErrV w) (hok : RawOk (rawOf rs re rt)) :
    Calls Tryz.prog 87 #[.agg #[sv, ev, rv]] w (MakePost w (rawOf rs re rt)) := by
  obtain ⟨hb, hq0, hq1, hq2⟩ := three_blk w #[sv, ev, rv] #[.slice none 0 0, .slice none 0 0, .int .i64 0] #[.int .i64 0, .int .i64 0] 188 30 125
  have HRAW := Lib.hid h
  have HE := Lib.hid hE
  have HOK := Lib.hid hok
  have HB := Lib.hid hb
  have HQ0 := Lib.hid hq0
  have HQ1 := Lib.hid hq1
  have HQ2 := Lib.hid hq2
  obtain ⟨sa, sc, ea, ec, ra, rc, rfl, rfl, rfl⟩ := h.forms
  clear h hE hok hb hq0 hq1 hq2
  go_enter Tryz.func87, Tryz.ntmps87
  go_upto_region 1 with (fail)
  generalize (((w.alloc (.cells #[.slice sa rs.length sc, .slice ea re.length ec, .slice ra rt.length rc] 188)).alloc (.cells #[.slice none 0 0, .slice none 0 0, .int .i64 0] 30)).alloc (.cells #[.int .i64 0, .int .i64 0] 125)) = W0 at *
  obtain ⟨hAl, y0, y1, y2, _⟩ := blk3 HQ0.out
  have HCC := Lib.hid (show ∀ w', Below W0.heap.size W0 w' → w'.cell? ⟨w.heap.size, 0, none⟩ = some (.slice sa rs.length sc) ∧ w'.cell? ⟨w.heap.size, 1, none⟩ = some (.slice ea re.length ec) ∧ w'.cell? ⟨w.heap.size, 2, none⟩ = some (.slice ra rt.length rc) from fun w' hw => ⟨(hw.cell (p := ⟨w.heap.size, 0, none⟩) hAl).trans y0, (hw.cell (p := ⟨w.heap.size, 1, none⟩) hAl).trans y1, (hw.cell (p := ⟨w.heap.size, 2, none⟩) hAl).trans y2⟩)
  go_region_held3 (fun w' => w'.cell? ⟨w.heap.size, 0, none⟩ = some (.slice sa rs.length sc) ∧ w'.cell? ⟨w.heap.size, 1, none⟩ = some (.slice ea re.length ec) ∧ w'.cell? ⟨w.heap.size, 2, none⟩ = some (.slice ra rt.length rc)) (first | assumption | go_keep) (first | (go_at_call 120; (with_reducible refine (basic_any W0.drew).mono ?_); rintro e W1 ⟨b, rfl, hm1, hb1, hbl⟩; have hbw := drew_below hb1; obtain ⟨k0, k1, k2⟩ := HCC.out W1 hbw; have HB1 := Lib.hid hbw; have HM1 := Lib.hid hm1; have hbl0 : W0.heap.size ≤ b := hbl; clear hm1 hb1 hbw hbl))
  all_goals
    simp only [Exit.then]
    apply_assumption
    go_upto_region 2 with (fail)
    have hMne : b ≠ W1.heap.size := by have := HM1.out.lt; omega
    have HBM := Lib.hid (show Below W0.heap.size W0 (W1.alloc (.cells #[.slice sa rs.length sc, .slice ea re.length ec, .slice ra rt.length rc, .map (some b), .slice none 0 0, .slice none 0 0, .int .i64 0] 244)) from HB1.out.alloc HB1.out.size _)
    have HMA := Lib.hid (show MAt (W1.alloc (.cells #[.slice sa rs.length sc, .slice ea re.length ec, .slice ra rt.length rc, .map (some b), .slice none 0 0, .slice none 0 0, .int .i64 0] 244)) W1.heap.size b (.slice sa rs.length sc) (.slice ea re.length ec) (.slice ra rt.length rc) basicN (.slice none 0 0) (.slice none 0 0) 0 from ⟨heap_alloc_new W1 _, HM1.out.alloc _, fun e => hMne e.symm⟩)
    have hMs : W0.heap.size ≤ W1.heap.size := HB1.out.size
    have hbs : b < W1.heap.size := HM1.out.lt
    have hS2 : (W1.alloc (.cells #[.slice sa rs.length sc, .slice ea re.length ec, .slice ra rt.length rc, .map (some b), .slice none 0 0, .slice none 0 0, .int .i64 0] 244)).heap.size = W1.heap.size + 1 := World.size_alloc _ _
    generalize hM : W1.heap.size = M at *
    generalize W1.alloc (.cells #[.slice sa rs.length sc, .slice ea re.length ec, .slice ra rt.length rc, .map (some b), .slice none 0 0, .slice none 0 0, .int .i64 0] 244) = W2 at *
    have HS2 := Lib.hid hS2
    have hbl0 := hbl0
    clear hM k0 k1 k2 HB1 HM1 y0 y1 y2 HCC hS2
    go_wp2_with fail
    have hb3 : Below W2.heap.size W2 (W2.alloc (.cells (mkFns M) 245)) := (Below.refl _ _).alloc (Nat.le_refl _) _
    have hn3 := heap_alloc_new W2 (.cells (mkFns M) 245)
    change Code.wp _ _ _ _ (W2.alloc (.cells (mkFns M) 245))
    have hwq : w.heap.size + 2 < W0.heap.size := blk_lt HQ2.out
    rw [HS2.out] at hn3 ⊢
    have HW0 := Lib.hid (HBM.out.trans (hb3.mono HBM.out.size))
    have HK : Hid (MkKeep w M b (mkFns M) (W2.alloc (.cells (mkFns M) 245))) := Lib.hid ⟨HB.out.trans (HW0.out.mono HB.out.size), by have := HW0.out.size; omega, blk_below HQ1.out HW0.out (by omega), blk_below HQ2.out HW0.out hwq, ⟨_, hn3⟩, by omega, by omega⟩
    have HS : Hid (StgAt M b (.slice sa rs.length sc) (.slice ea re.length ec) (.slice ra rt.length rc) rs re rt 0 (W2.alloc (.cells (mkFns M) 245))) := Lib.hid (show MAt _ _ _ _ _ _ _ _ _ _ from HMA.out.fell hb3)
    generalize W2.alloc (.cells (mkFns M) 245) = W3 at *
    clear hb3 hn3 HBM HMA HW0 HS2
    refine wp_loop (fun c' w' => ∃ k : Nat, k ≤ 4 ∧ MfO w.heap.size M k c' ∧ MkKeep w M b (mkFns M) w' ∧ StgAt M b (.slice sa rs.length sc) (.slice ea re.length ec) (.slice ra rt.length rc) rs re rt k w') (fun c' _ => 4 - (intOf (c'.tmps.getD 22 undef)).toNat) ⟨0, Nat.zero_le _, ⟨rfl, rfl, rfl, rfl, rfl, rfl, rfl, rfl⟩, HK.out, HS.out⟩ ?_
    clear HK HS
    rintro cf wr ⟨k, hk, hcf, hK, hS⟩
    obtain ⟨u, rfl⟩ := hcf.lit
    clear hcf
    conv => arg 2; whnf
    by_cases hkl : k < 4
    · obtain ⟨tt, hfn⟩ := hK.fns
      obtain ⟨fk, hcell, hent, hst⟩ : ∃ fk, wr.cell? ⟨M + 1, k, none⟩ = some (.func (.func fk) #[.pointer (some ⟨M, 0, none⟩)] #[]) ∧ (∀ args w, (callFunc fk args).run Tryz.prog w = .ok (.enter fk args) w) ∧ Calls Tryz.prog fk #[.pointer (some ⟨M, 0, none⟩)] wr (StpPost w M b (mkFns M) (.slice sa rs.length sc) (.slice ea re.length ec) (.slice ra rt.length rc) rs re rt k) := by
        have h4 : k = 0 ∨ k = 1 ∨ k = 2 ∨ k = 3 := by omega
        rcases h4 with rfl | rfl | rfl | rfl
        · exact ⟨_, (blk_cell hfn 0).trans rfl, enters_of Tryz.func121 (by kernel_rfl) rfl, mkstep0 HRAW.out HOK.out hK hS⟩
        · exact ⟨_, (blk_cell hfn 1).trans rfl, enters_of Tryz.func122 (by kernel_rfl) rfl, mkstep1 HRAW.out HOK.out hK hS⟩
        · exact ⟨_, (blk_cell hfn 2).trans rfl, enters_of Tryz.func123 (by kernel_rfl) rfl, mkstep2 HRAW.out HE.out HOK.out hK hS⟩
        · exact ⟨_, (blk_cell hfn 3).trans rfl, enters_of Tryz.func124 (by kernel_rfl) rfl, mkstep3 HRAW.out hK hS⟩
      have HST := Lib.hid hst
      have hML : M + 1 < wr.heap.size := blk_lt hfn
      have hki : (k : Int) < 4 := by omega
      clear hst hfn hK hS
      go_wp2_with fail
      refine HST.out.mono ?_
      rintro e W4 ⟨hk4, h⟩
      have HK4 := Lib.hid hk4
      clear hk4 hcell
      rcases h with ⟨c, p, hc0, hno, rfl⟩ | ⟨rfl, hs4⟩
      · have HNO := Lib.hid hno
        have t1 : (c == 0) = false := by simpa using hc0
        have t2 : (c != 0) = true := by simpa using hc0
        clear hno
        go_upto_region 6 with (fail)
        have hb5 : Below W4.heap.size W4 (W4.alloc (.cells #[.int .i64 c, .int .i64 (p : Nat)] 125)) := (Below.refl _ _).alloc (Nat.le_refl _) _
        have HF5 := Lib.hid (heap_alloc_new W4 (.cells #[.int .i64 c, .int .i64 (p : Nat)] 125))
        have HB5 := Lib.hid (HK4.out.bel.trans (hb5.mono HK4.out.bel.size))
        have HR5 := Lib.hid (blk_below HK4.out.sch hb5 (blk_lt HK4.out.sch))
        have HG5 := Lib.hid (blk_below HK4.out.flt hb5 (blk_lt HK4.out.flt))
        have hne1 : W4.heap.size ≠ w.heap.size + 1 := by have := blk_lt HK4.out.sch; omega
        have hne2 : W4.heap.size ≠ w.heap.size + 2 := by have := blk_lt HK4.out.flt; omega
        generalize W4.alloc (.cells #[.int .i64 c, .int .i64 (p : Nat)] 125) = W5 at *
        generalize W4.heap.size = F at *
        obtain ⟨_, k0, k1, _⟩ := blk2 HF5.out
        obtain ⟨_, _, _, _, r0, r1, r2⟩ := blk3 HR5.out
        obtain ⟨_, _, _, g0, g1⟩ := blk2 HG5.out
        go_wp2_with fail
        go_region
        all_goals
          simp only [Exit.then]
          apply_assumption
          go_wp2
          refine post_gen (fun Wf => MEnd w (.slice none 0 0) (.slice none 0 0) (.int .i64 0) (.int .i64 c) (.int .i64 p) Wf) (by first | exact (mend1 HR5.out HG5.out HB5.out _ _ _ _ _).drew | exact (mend2 HR5.out HG5.out HB5.out _ _ _ _ _).drew) ?_
          rintro Wf ⟨e1, e2, e3⟩
          obtain ⟨_, c0, c1, c2, _⟩ := blk3 e1
          obtain ⟨_, d0, d1, _⟩ := blk2 e2
          exact bodyPost_ret (v := .tuple #[.agg #[.slice none 0 0, .slice none 0 0, .int .i64 0], .agg #[.int .i64 c, .int .i64 p]]) (by simp [results, Tryz.results87, go_sem, c0, c1, c2, d0, d1]) rfl (make_no HNO.out e3)
      · have HS4 := Lib.hid hs4
        clear hs4
        go_upto_region 6 with (fail)
        have hb5 : Below W4.heap.size W4 (W4.alloc (.cells #[.int .i64 0, .int .i64 0] 125)) := (Below.refl _ _).alloc (Nat.le_refl _) _
        have HF5 := Lib.hid (heap_alloc_new W4 (.cells #[.int .i64 0, .int .i64 0] 125))
        have HK5 := Lib.hid (HK4.out.ex2 (.of_below hb5))
        have HS5 := Lib.hid (stg_below HS4.out hb5)
        generalize W4.alloc (.cells #[.int .i64 0, .int .i64 0] 125) = W5 at *
        generalize W4.heap.size = F at *
        obtain ⟨_, k0, k1, _⟩ := blk2 HF5.out
        clear hb5
        go_wp2
        refine ⟨⟨k + 1, by omega, ⟨rfl, rfl, rfl, rfl, rfl, rfl, rfl, rfl⟩, HK5.out, HS5.out⟩, ?_⟩
        show 4 - (intOf (.int .i64 ((k : Int) + 1))).toNat < 4 - (intOf (.int .i64 (k : Int))).toNat
        simp [intOf]; omega
    · obtain rfl : k = 4 := by omega
      obtain ⟨L, es, esv, ssv, r, hmk, hrows, hblk⟩ := stg4_make hS
      obtain ⟨la, lc, va, vc, rfl, rfl⟩ := hrows.forms
      obtain ⟨hMl, m0, m1, m2, m3, m4, m5, m6, _⟩ := maker_cells hblk
      have HMK := Lib.hid hmk
      have HROWS := Lib.hid hrows
      have HK4 := Lib.hid hK
      obtain ⟨_, _, _, _, r0, r1, r2⟩ := blk3 hK.sch
      obtain ⟨_, _, _, g0, g1⟩ := blk2 hK.flt
      clear hmk hrows hblk hK hS
      go_wp2
      refine post_gen (fun Wf => MEnd w (.slice la L.length lc) (.slice va es.length vc) (.int .i64 r) (.int .i64 0) (.int .i64 0) Wf ∧ SchRows w.heap.size Wf L es (.slice la L.length lc) (.slice va es.length vc)) ⟨mend1 HK4.out.sch HK4.out.flt HK4.out.bel _ _ _ _ _, ?_⟩ ?_
      · have hq := HK4.out.hb
        have hq2 := HK4.out.hM
        have key : ∀ {e : TypeId} {s : Nat} {v : Value} {n : Nat} {xs : List Value} (x y z u v' : Value), wr.ownsRow (M + 2) e s v n xs → World.ownsRow (((((wr.setCell ⟨w.heap.size + 1, 0, none⟩ x).setCell ⟨w.heap.size + 1, 1, none⟩ y).setCell ⟨w.heap.size + 1, 2, none⟩ z).setCell ⟨w.heap.size + 2, 0, none⟩ u).setCell ⟨w.heap.size + 2, 1, none⟩ v') w.heap.size e s v n xs := fun x y z u v' ho =>
          ownsRow_base (ownsRow_setCell_below (ownsRow_setCell_below (ownsRow_setCell_below (ownsRow_setCell_below (ownsRow_setCell_below ho (by show w.heap.size + 1 < _; omega) _) (by show w.heap.size + 1 < _; omega) _) (by show w.heap.size + 1 < _; omega) _) (by show w.heap.size + 2 < _; omega) _) (by show w.heap.size + 2 < _; omega) _) (by omega)
        exact ⟨key _ _ _ _ _ HROWS.out.structs, key _ _ _ _ _ HROWS.out.enums, fun q hq => key _ _ _ _ _ (HROWS.out.fields q hq), fun q hq => key _ _ _ _ _ (HROWS.out.names q hq)⟩
      · rintro Wf ⟨⟨e1, e2, e3⟩, e4⟩
        obtain ⟨_, c0, c1, c2, _⟩ := blk3 e1
        obtain ⟨_, d0, d1, _⟩ := blk2 e2
        refine bodyPost_ret (v := .tuple #[.agg #[.slice la L.length lc, .slice va es.length vc, .int .i64 r], .agg #[.int .i64 0, .int .i64 0]]) (by simp [results, Tryz.results87, go_sem, c0, c1, c2, d0, d1]) rfl ⟨e3, ?_⟩
        rw [HMK.out]
        exact ⟨L, es, _, _, rfl, rfl, rfl, e4⟩
end Go.Proofs.YtgbcchiheddfpaaGreatDoor
