/-
  The package schema's Read: of a text the schema, or the first fault and its place. Conditions: those that each theorem names.
-/
import Derived.Test.YtleclhnlojalbaaGreatDoorPkW1
import Derived.Test.YtleclhnlojalbaaGreatDoorPkW3
import Derived.Test.YtleclhnlojalbaaGreatDoorPkW35
import Derived.Test.YtleclhnlojalbaaGreatDoorPkW38
namespace Go.Proofs.YtleclhnlojalbaaGreatDoor
open Go.ChangeShapes Go.WideShapes Go.ChangeAt Go.RowKit Go.Shelf

structure MEnd (w : World) (x y z u v : Value) (Wf : World) : Prop where
  sch : Wf.heap[w.heap.size + 1]? = some (.cells #[x, y, z] 32 (0, 0))
  flt : Wf.heap[w.heap.size + 2]? = some (.cells #[u, v] 43 (0, 0))
  bel : Below w.heap.size w Wf
def MakePost (w : World) (x : RRaw) (e : Ending) (w' : World) : Prop :=
  Below w.heap.size w w' ∧ match makeM x with
  | .no c p => e = .returned (.tuple #[.agg #[.slice none 0 0, .slice none 0 0, .int .i64 0], .agg #[.int .i64 c, .int .i64 (p : Nat)]])
  | .ok S => ∃ ss es sv ev, e = .returned (.tuple #[.agg #[sv, ev, .int .i64 S.root], .agg #[.int .i64 0, .int .i64 0]]) ∧ S.structs = ss.map Prod.fst ∧ S.enums = es.map Prod.fst ∧ SchRows w.heap.size w' ss es sv ev
theorem mend1 {w W : World} {a b c u v : Value} (h1 : W.heap[w.heap.size + 1]? = some (.cells #[a, b, c] 32 (0, 0))) (h2 : W.heap[w.heap.size + 2]? = some (.cells #[u, v] 43 (0, 0))) (hb : Below w.heap.size w W) (x y z r s : Value) :
    MEnd w x y z r s (((((W.setCell ⟨w.heap.size + 1, 0, none⟩ x).setCell ⟨w.heap.size + 1, 1, none⟩ y).setCell ⟨w.heap.size + 1, 2, none⟩ z).setCell ⟨w.heap.size + 2, 0, none⟩ r).setCell ⟨w.heap.size + 2, 1, none⟩ s) :=
  have far : ∀ (W : World) (g k i : Nat) (x : Value), k ≠ g → (W.setCell ⟨g, i, none⟩ x).heap[k]? = W.heap[k]? := fun W g k i x h => Below.heap_setCell _ _ _ _ h
  ⟨by rw [far _ _ _ _ _ (by omega), far _ _ _ _ _ (by omega)]; exact blk_set3 h1 _ _ _, blk_set2 (by rw [far _ _ _ _ _ (by omega), far _ _ _ _ _ (by omega), far _ _ _ _ _ (by omega)]; exact h2) _ _,
    ((((hb.setCell (p := ⟨w.heap.size + 1, 0, none⟩) (by show _ ≤ w.heap.size + 1; omega) _).setCell (p := ⟨w.heap.size + 1, 1, none⟩) (by show _ ≤ w.heap.size + 1; omega) _).setCell (p := ⟨w.heap.size + 1, 2, none⟩) (by show _ ≤ w.heap.size + 1; omega) _).setCell (p := ⟨w.heap.size + 2, 0, none⟩) (by show _ ≤ w.heap.size + 2; omega) _).setCell (p := ⟨w.heap.size + 2, 1, none⟩) (by show _ ≤ w.heap.size + 2; omega) _⟩
theorem mend2 {w W : World} {a b c u v : Value} (h1 : W.heap[w.heap.size + 1]? = some (.cells #[a, b, c] 32 (0, 0))) (h2 : W.heap[w.heap.size + 2]? = some (.cells #[u, v] 43 (0, 0))) (hb : Below w.heap.size w W) (x y z r s : Value) :
    MEnd w x y z r s (((((W.setCell ⟨w.heap.size + 2, 0, none⟩ r).setCell ⟨w.heap.size + 2, 1, none⟩ s).setCell ⟨w.heap.size + 1, 0, none⟩ x).setCell ⟨w.heap.size + 1, 1, none⟩ y).setCell ⟨w.heap.size + 1, 2, none⟩ z) :=
  have far : ∀ (W : World) (g k i : Nat) (x : Value), k ≠ g → (W.setCell ⟨g, i, none⟩ x).heap[k]? = W.heap[k]? := fun W g k i x h => Below.heap_setCell _ _ _ _ h
  ⟨blk_set3 (by rw [far _ _ _ _ _ (by omega), far _ _ _ _ _ (by omega)]; exact h1) _ _ _, by rw [far _ _ _ _ _ (by omega), far _ _ _ _ _ (by omega), far _ _ _ _ _ (by omega)]; exact blk_set2 h2 _ _,
    ((((hb.setCell (p := ⟨w.heap.size + 2, 0, none⟩) (by show _ ≤ w.heap.size + 2; omega) _).setCell (p := ⟨w.heap.size + 2, 1, none⟩) (by show _ ≤ w.heap.size + 2; omega) _).setCell (p := ⟨w.heap.size + 1, 0, none⟩) (by show _ ≤ w.heap.size + 1; omega) _).setCell (p := ⟨w.heap.size + 1, 1, none⟩) (by show _ ≤ w.heap.size + 1; omega) _).setCell (p := ⟨w.heap.size + 1, 2, none⟩) (by show _ ≤ w.heap.size + 1; omega) _⟩
theorem MEnd.drew {w Wf : World} {x y z u v : Value} (h : MEnd w x y z u v Wf) : MEnd w x y z u v Wf.drew := ⟨h.sch, h.flt, h.bel.drew⟩
theorem stg_below {M b k : Nat} {sv ev rv : Value} {rs : List (RRec × Value)} {re : List (RCho × Value)} {rt : List Tok} {W W' : World} (h : StgAt M b sv ev rv rs re rt k W) (hb : Below W.heap.size W W') : StgAt M b sv ev rv rs re rt k W' := by
  unfold StgAt at h ⊢
  split at h
  · exact h.fell hb
  · obtain ⟨m1, es, esv, h1, h2, h3, h4⟩ := h
    exact ⟨m1, es, esv, h1, h2.fell hb, h3.below hb, h4⟩
  · obtain ⟨m1, m, es, esv, ssv, h1, h2, h3, h4, h5, h6⟩ := h
    exact ⟨m1, m, es, esv, ssv, h1, h2, h3.fell hb, h4.below hb, h5, row_keep hb h6⟩
  · obtain ⟨m1, m, L, es, esv, ssv, h1, h2, h3, h4, h5, h6⟩ := h
    exact ⟨m1, m, L, es, esv, ssv, h1, h2, h3, h4.fell hb, h5, h6.below hb⟩
  · obtain ⟨m1, m, L, es, esv, ssv, r, h1, h2, h3, h4, h5, h6, h7⟩ := h
    exact ⟨m1, m, L, es, esv, ssv, r, h1, h2, h3, h4, h5, h6.below hb, blk_below h7 hb (blk_lt h7)⟩
theorem make_no {w Wf : World} {x : RRaw} {c : Int} {p : Nat} (h : makeM x = .no c p) (hb : Below w.heap.size w Wf) : MakePost w x (.returned (.tuple #[.agg #[.slice none 0 0, .slice none 0 0, .int .i64 0], .agg #[.int .i64 c, .int .i64 (p : Nat)]])) Wf := by
  unfold MakePost
  rw [h]
  exact ⟨hb, rfl⟩
def mkFns (M : Nat) : Array Value := #[.func (.func 58) #[.pointer (some ⟨M, 0, none⟩)] #[], .func (.func 59) #[.pointer (some ⟨M, 0, none⟩)] #[], .func (.func 60) #[.pointer (some ⟨M, 0, none⟩)] #[], .func (.func 61) #[.pointer (some ⟨M, 0, none⟩)] #[]]
set_option maxRecDepth 100000 in
set_option maxHeartbeats 8000000 in
theorem make_any_raw (w : World) {rb : Nat} {rs : List (RRec × Value)} {re : List (RCho × Value)} {rt : List Tok} {sv ev rv : Value} (h : RawRows rb w rs re rt sv ev rv) (hE : ErrV w) (hok : RawOk (rawOf rs re rt)) :
    Calls Tryz.prog 22 #[.agg #[sv, ev, rv]] w (MakePost w (rawOf rs re rt)) := by
  obtain ⟨hb, hq0, hq1, hq2⟩ := three_blk w #[sv, ev, rv] #[.slice none 0 0, .slice none 0 0, .int .i64 0] #[.int .i64 0, .int .i64 0] 69 32 43
  have HRAW := Lib.hid h
  have HE := Lib.hid hE
  have HOK := Lib.hid hok
  have HB := Lib.hid hb
  have HQ0 := Lib.hid hq0
  have HQ1 := Lib.hid hq1
  have HQ2 := Lib.hid hq2
  obtain ⟨sa, sc, ea, ec, ra, rc, rfl, rfl, rfl⟩ := h.forms
  clear h hE hok hb hq0 hq1 hq2
  go_enter Tryz.func22, Tryz.ntmps22
  go_upto_region 1 with (fail)
  generalize (((w.alloc (.cells #[.slice sa rs.length sc, .slice ea re.length ec, .slice ra rt.length rc] 69)).alloc (.cells #[.slice none 0 0, .slice none 0 0, .int .i64 0] 32)).alloc (.cells #[.int .i64 0, .int .i64 0] 43)) = W0 at *
  obtain ⟨hAl, y0, y1, y2, _⟩ := blk3 HQ0.out
  have HCC := Lib.hid (show ∀ w', Below W0.heap.size W0 w' → w'.cell? ⟨w.heap.size, 0, none⟩ = some (.slice sa rs.length sc) ∧ w'.cell? ⟨w.heap.size, 1, none⟩ = some (.slice ea re.length ec) ∧ w'.cell? ⟨w.heap.size, 2, none⟩ = some (.slice ra rt.length rc) from fun w' hw => ⟨(hw.cell (p := ⟨w.heap.size, 0, none⟩) hAl).trans y0, (hw.cell (p := ⟨w.heap.size, 1, none⟩) hAl).trans y1, (hw.cell (p := ⟨w.heap.size, 2, none⟩) hAl).trans y2⟩)
  go_region_held3 (fun w' => w'.cell? ⟨w.heap.size, 0, none⟩ = some (.slice sa rs.length sc) ∧ w'.cell? ⟨w.heap.size, 1, none⟩ = some (.slice ea re.length ec) ∧ w'.cell? ⟨w.heap.size, 2, none⟩ = some (.slice ra rt.length rc)) (first | assumption | go_keep) (first | (go_at_call 57; (with_reducible refine (basic_any W0.drew).mono ?_); rintro e W1 ⟨b, rfl, hm1, hb1, hbl⟩; have hbw := drew_below hb1; obtain ⟨k0, k1, k2⟩ := HCC.out W1 hbw; have HB1 := Lib.hid hbw; have HM1 := Lib.hid hm1; have hbl0 : W0.heap.size ≤ b := hbl; clear hm1 hb1 hbw hbl))
  all_goals
    simp only [Exit.then]
    apply_assumption
    go_upto_region 2 with (fail)
    have hMne : b ≠ W1.heap.size := by have := HM1.out.lt; omega
    have HBM := Lib.hid (show Below W0.heap.size W0 (W1.alloc (.cells #[.slice sa rs.length sc, .slice ea re.length ec, .slice ra rt.length rc, .map (some b), .slice none 0 0, .slice none 0 0, .int .i64 0] 126)) from HB1.out.alloc HB1.out.size _)
    have HMA := Lib.hid (show MAt (W1.alloc (.cells #[.slice sa rs.length sc, .slice ea re.length ec, .slice ra rt.length rc, .map (some b), .slice none 0 0, .slice none 0 0, .int .i64 0] 126)) W1.heap.size b (.slice sa rs.length sc) (.slice ea re.length ec) (.slice ra rt.length rc) basicN (.slice none 0 0) (.slice none 0 0) 0 from ⟨heap_alloc_new W1 _, HM1.out.alloc _, fun e => hMne e.symm⟩)
    have hMs : W0.heap.size ≤ W1.heap.size := HB1.out.size
    have hbs : b < W1.heap.size := HM1.out.lt
    have hS2 : (W1.alloc (.cells #[.slice sa rs.length sc, .slice ea re.length ec, .slice ra rt.length rc, .map (some b), .slice none 0 0, .slice none 0 0, .int .i64 0] 126)).heap.size = W1.heap.size + 1 := World.size_alloc _ _
    generalize hM : W1.heap.size = M at *
    generalize W1.alloc (.cells #[.slice sa rs.length sc, .slice ea re.length ec, .slice ra rt.length rc, .map (some b), .slice none 0 0, .slice none 0 0, .int .i64 0] 126) = W2 at *
    have HS2 := Lib.hid hS2
    have hbl0 := hbl0
    clear hM k0 k1 k2 HB1 HM1 y0 y1 y2 HCC hS2
    go_wp2_with fail
    have hb3 : Below W2.heap.size W2 (W2.alloc (.cells (mkFns M) 127)) := (Below.refl _ _).alloc (Nat.le_refl _) _
    have hn3 := heap_alloc_new W2 (.cells (mkFns M) 127)
    change Code.wp _ _ _ _ (W2.alloc (.cells (mkFns M) 127))
    have hwq : w.heap.size + 2 < W0.heap.size := blk_lt HQ2.out
    rw [HS2.out] at hn3 ⊢
    have HW0 := Lib.hid (HBM.out.trans (hb3.mono HBM.out.size))
    have HK : Hid (MkKeep w M b (mkFns M) (W2.alloc (.cells (mkFns M) 127))) := Lib.hid ⟨HB.out.trans (HW0.out.mono HB.out.size), by have := HW0.out.size; omega, blk_below HQ1.out HW0.out (by omega), blk_below HQ2.out HW0.out hwq, ⟨_, hn3⟩, by omega, by omega⟩
    have HS : Hid (StgAt M b (.slice sa rs.length sc) (.slice ea re.length ec) (.slice ra rt.length rc) rs re rt 0 (W2.alloc (.cells (mkFns M) 127))) := Lib.hid (show MAt _ _ _ _ _ _ _ _ _ _ from HMA.out.fell hb3)
    generalize W2.alloc (.cells (mkFns M) 127) = W3 at *
    clear hb3 hn3 HBM HMA HW0 HS2
    refine wp_loop (fun c' w' => ∃ k : Nat, k ≤ 4 ∧ MfO w.heap.size M k c' ∧ MkKeep w M b (mkFns M) w' ∧ StgAt M b (.slice sa rs.length sc) (.slice ea re.length ec) (.slice ra rt.length rc) rs re rt k w') (fun c' _ => 4 - (intOf (c'.tmps.getD 22 undef)).toNat) ⟨0, Nat.zero_le _, ⟨rfl, rfl, rfl, rfl, rfl, rfl, rfl, rfl⟩, HK.out, HS.out⟩ ?_
    clear HK HS
    rintro cf wr ⟨k, hk, hcf, hK, hS⟩
    obtain ⟨u, rfl⟩ := hcf.lit
    clear hcf
    conv => arg 2; whnf
    by_cases hkl : k < 4
    · obtain ⟨tt, hfn⟩ := hK.fns
      obtain ⟨fk, hcell, hent, hst⟩ : ∃ fk, wr.cell? ⟨M + 1, k, none⟩ = some (.func (.func fk) #[.pointer (some ⟨M, 0, none⟩)] #[]) ∧ (∀ args w, (callFunc fk args).run Tryz.prog w = .ok (.enter fk args) w) ∧ Calls Tryz.prog fk #[.pointer (some ⟨M, 0, none⟩)] wr (StpPost w M b (mkFns M) (.slice sa rs.length sc) (.slice ea re.length ec) (.slice ra rt.length rc) rs re rt k) := by
        have h4 : k = 0 ∨ k = 1 ∨ k = 2 ∨ k = 3 := by omega
        rcases h4 with rfl | rfl | rfl | rfl
        · exact ⟨_, (blk_cell hfn 0).trans rfl, enters_of Tryz.func58 (by kernel_rfl) rfl, mkstep0 HRAW.out HOK.out hK hS⟩
        · exact ⟨_, (blk_cell hfn 1).trans rfl, enters_of Tryz.func59 (by kernel_rfl) rfl, mkstep1 HRAW.out HOK.out hK hS⟩
        · exact ⟨_, (blk_cell hfn 2).trans rfl, enters_of Tryz.func60 (by kernel_rfl) rfl, mkstep2 HRAW.out HE.out HOK.out hK hS⟩
        · exact ⟨_, (blk_cell hfn 3).trans rfl, enters_of Tryz.func61 (by kernel_rfl) rfl, mkstep3 HRAW.out hK hS⟩
      have HST := Lib.hid hst
      have hML : M + 1 < wr.heap.size := blk_lt hfn
      have hki : (k : Int) < 4 := by omega
      clear hst hfn hK hS
      go_wp2_with fail
      refine HST.out.mono ?_
      rintro e W4 ⟨hk4, h⟩
      have HK4 := Lib.hid hk4
      clear hk4 hcell
      rcases h with ⟨c, p, hc0, hno, rfl⟩ | ⟨rfl, hs4⟩
      · have HNO := Lib.hid hno
        have t1 : (c == 0) = false := by simpa using hc0
        have t2 : (c != 0) = true := by simpa using hc0
        clear hno
        go_upto_region 6 with (fail)
        have hb5 : Below W4.heap.size W4 (W4.alloc (.cells #[.int .i64 c, .int .i64 (p : Nat)] 43)) := (Below.refl _ _).alloc (Nat.le_refl _) _
        have HF5 := Lib.hid (heap_alloc_new W4 (.cells #[.int .i64 c, .int .i64 (p : Nat)] 43))
        have HB5 := Lib.hid (HK4.out.bel.trans (hb5.mono HK4.out.bel.size))
        have HR5 := Lib.hid (blk_below HK4.out.sch hb5 (blk_lt HK4.out.sch))
        have HG5 := Lib.hid (blk_below HK4.out.flt hb5 (blk_lt HK4.out.flt))
        have hne1 : W4.heap.size ≠ w.heap.size + 1 := by have := blk_lt HK4.out.sch; omega
        have hne2 : W4.heap.size ≠ w.heap.size + 2 := by have := blk_lt HK4.out.flt; omega
        generalize W4.alloc (.cells #[.int .i64 c, .int .i64 (p : Nat)] 43) = W5 at *
        generalize W4.heap.size = F at *
        obtain ⟨_, k0, k1, _⟩ := blk2 HF5.out
        obtain ⟨_, _, _, _, r0, r1, r2⟩ := blk3 HR5.out
        obtain ⟨_, _, _, g0, g1⟩ := blk2 HG5.out
        go_wp2_with fail
        go_region
        all_goals
          simp only [Exit.then]
          apply_assumption
          go_wp2
          refine post_gen (fun Wf => MEnd w (.slice none 0 0) (.slice none 0 0) (.int .i64 0) (.int .i64 c) (.int .i64 p) Wf) (by first | exact (mend1 HR5.out HG5.out HB5.out _ _ _ _ _).drew | exact (mend2 HR5.out HG5.out HB5.out _ _ _ _ _).drew) ?_
          rintro Wf ⟨e1, e2, e3⟩
          obtain ⟨_, c0, c1, c2, _⟩ := blk3 e1
          obtain ⟨_, d0, d1, _⟩ := blk2 e2
          exact bodyPost_ret (v := .tuple #[.agg #[.slice none 0 0, .slice none 0 0, .int .i64 0], .agg #[.int .i64 c, .int .i64 p]]) (by simp [results, Tryz.results22, go_sem, c0, c1, c2, d0, d1]) rfl (make_no HNO.out e3)
      · have HS4 := Lib.hid hs4
        clear hs4
        go_upto_region 6 with (fail)
        have hb5 : Below W4.heap.size W4 (W4.alloc (.cells #[.int .i64 0, .int .i64 0] 43)) := (Below.refl _ _).alloc (Nat.le_refl _) _
        have HF5 := Lib.hid (heap_alloc_new W4 (.cells #[.int .i64 0, .int .i64 0] 43))
        have HK5 := Lib.hid (HK4.out.ex2 (.of_below hb5))
        have HS5 := Lib.hid (stg_below HS4.out hb5)
        generalize W4.alloc (.cells #[.int .i64 0, .int .i64 0] 43) = W5 at *
        generalize W4.heap.size = F at *
        obtain ⟨_, k0, k1, _⟩ := blk2 HF5.out
        clear hb5
        go_wp2
        refine ⟨⟨k + 1, by omega, ⟨rfl, rfl, rfl, rfl, rfl, rfl, rfl, rfl⟩, HK5.out, HS5.out⟩, ?_⟩
        show 4 - (intOf (.int .i64 ((k : Int) + 1))).toNat < 4 - (intOf (.int .i64 (k : Int))).toNat
        simp [intOf]; omega
    · obtain rfl : k = 4 := by omega
      obtain ⟨L, es, esv, ssv, r, hmk, hrows, hblk⟩ := stg4_make hS
      obtain ⟨la, lc, va, vc, rfl, rfl⟩ := hrows.forms
      obtain ⟨hMl, m0, m1, m2, m3, m4, m5, m6, _⟩ := maker_cells hblk
      have HMK := Lib.hid hmk
      have HROWS := Lib.hid hrows
      have HK4 := Lib.hid hK
      obtain ⟨_, _, _, _, r0, r1, r2⟩ := blk3 hK.sch
      obtain ⟨_, _, _, g0, g1⟩ := blk2 hK.flt
      clear hmk hrows hblk hK hS
      go_wp2
      refine post_gen (fun Wf => MEnd w (.slice la L.length lc) (.slice va es.length vc) (.int .i64 r) (.int .i64 0) (.int .i64 0) Wf ∧ SchRows w.heap.size Wf L es (.slice la L.length lc) (.slice va es.length vc)) ⟨mend1 HK4.out.sch HK4.out.flt HK4.out.bel _ _ _ _ _, ?_⟩ ?_
      · have hq := HK4.out.hb
        have hq2 := HK4.out.hM
        have key : ∀ {e : TypeId} {s : Nat} {v : Value} {n : Nat} {xs : List Value} (x y z u v' : Value), wr.ownsRow (M + 2) e s v n xs → World.ownsRow (((((wr.setCell ⟨w.heap.size + 1, 0, none⟩ x).setCell ⟨w.heap.size + 1, 1, none⟩ y).setCell ⟨w.heap.size + 1, 2, none⟩ z).setCell ⟨w.heap.size + 2, 0, none⟩ u).setCell ⟨w.heap.size + 2, 1, none⟩ v') w.heap.size e s v n xs := fun x y z u v' ho =>
          ownsRow_base (ownsRow_setCell_below (ownsRow_setCell_below (ownsRow_setCell_below (ownsRow_setCell_below (ownsRow_setCell_below ho (by show w.heap.size + 1 < _; omega) _) (by show w.heap.size + 1 < _; omega) _) (by show w.heap.size + 1 < _; omega) _) (by show w.heap.size + 2 < _; omega) _) (by show w.heap.size + 2 < _; omega) _) (by omega)
        exact ⟨key _ _ _ _ _ HROWS.out.structs, key _ _ _ _ _ HROWS.out.enums, fun q hq => key _ _ _ _ _ (HROWS.out.fields q hq), fun q hq => key _ _ _ _ _ (HROWS.out.names q hq)⟩
      · rintro Wf ⟨⟨e1, e2, e3⟩, e4⟩
        obtain ⟨_, c0, c1, c2, _⟩ := blk3 e1
        obtain ⟨_, d0, d1, _⟩ := blk2 e2
        refine bodyPost_ret (v := .tuple #[.agg #[.slice la L.length lc, .slice va es.length vc, .int .i64 r], .agg #[.int .i64 0, .int .i64 0]]) (by simp [results, Tryz.results22, go_sem, c0, c1, c2, d0, d1]) rfl ⟨e3, ?_⟩
        rw [HMK.out]
        exact ⟨L, es, _, _, rfl, rfl, rfl, e4⟩
end Go.Proofs.YtleclhnlojalbaaGreatDoor
namespace Go.Proofs.YtleclhnlojalbaaGreatDoor
open Go.RowKit

def AllB (r : List Tok) : Prop := ∀ t ∈ r, t.text.length ≤ 281474976710656
theorem AllB.tail {r : List Tok} (h : AllB r) : AllB r.tail := fun t ht => h t (List.mem_of_mem_tail ht)
theorem AllB.hd {r : List Tok} (h : AllB r) : (hd r).text.length ≤ 281474976710656 := by
  cases r with
  | nil => exact Nat.zero_le _
  | cons t q => exact h t List.mem_cons_self
def Gv {α : Type} (P : α → Prop) : Res α → Prop
  | .ok a r => P a ∧ AllB r
  | .no _ _ => True
theorem gv_bind {α β : Type} {P : α → Prop} {Q : β → Prop} {x : Res α} {f : α → List Tok → Res β} (h : Gv P x) (hf : ∀ a r, P a → AllB r → Gv Q (f a r)) : Gv Q (x.bind f) := by
  cases x with
  | no c p => trivial
  | ok a r => exact hf a r h.1 h.2
theorem gv_bad {α : Type} {P : α → Prop} (c : Int) (r : List Tok) : Gv P (bad c r : Res α) := trivial
def Short (t : Tok) : Prop := t.text.length ≤ 40
theorem gv_want {s : List Int} {r : List Tok} (h : AllB r) : Gv (fun _ => True) (wantR s r) := by
  unfold wantR
  split
  · exact ⟨trivial, h.tail⟩
  · exact gv_bad _ _
theorem gv_sized {r : List Tok} (h : AllB r) : Gv Short (sizedR r) := by
  unfold sizedR
  split
  · exact gv_bad _ _
  · rename_i hn
    exact ⟨Nat.le_of_not_lt fun hc => hn (.inr hc), h.tail⟩
theorem gv_name {r : List Tok} (h : AllB r) : Gv Short (nameR r) := by
  unfold nameR
  split
  · exact gv_sized h
  · exact gv_bad _ _
theorem gv_label {r : List Tok} (h : AllB r) : Gv Short (labelR r) := by
  unfold labelR
  split
  · exact gv_sized h
  · exact gv_bad _ _
theorem gv_value {r : List Tok} (h : AllB r) : Gv (fun t : Tok => t.text.length ≤ 281474976710656) (valueR r) := by
  unfold valueR
  split
  · exact ⟨h.hd, h.tail⟩
  · exact gv_bad _ _
theorem gv_lists : ∀ (f n : Nat) {r : List Tok}, AllB r → Gv (fun _ => True) (listsR f n r)
  | 0, n, r, h => by
    unfold listsR
    split
    · exact gv_bad _ _
    · exact ⟨trivial, h⟩
  | f + 1, n, r, h => by
    unfold listsR
    split
    · exact gv_bind (gv_want h.tail) fun _ r' _ h' => gv_lists f (n + 1) h'
    · exact ⟨trivial, h⟩
theorem gv_close : ∀ (n : Nat) {r : List Tok}, AllB r → Gv (fun _ => True) (closeR n r)
  | 0, _, h => ⟨trivial, h⟩
  | n + 1, _, h => gv_bind (gv_want h) fun _ _ _ h' => gv_close n h'
theorem gv_ty {r : List Tok} (h : AllB r) : Gv (fun y : RTy => y.name.length ≤ 40) (tyR r) :=
  gv_bind (gv_lists 3 0 h) fun n _ _ h1 => gv_bind (gv_name h1) fun _ _ ht h2 => gv_bind (gv_close n h2) fun _ _ _ h3 => ⟨ht, h3⟩
theorem gv_dflt {r : List Tok} (h : AllB r) : Gv (fun t : Tok => t.text.length ≤ 281474976710656) (dfltR r) := by
  unfold dfltR
  split
  · exact gv_value h.tail
  · exact ⟨Nat.zero_le _, h⟩
def FldOk (f : RField) : Prop := f.name.length ≤ 40 ∧ f.ty.name.length ≤ 40 ∧ f.dflt.text.length ≤ 281474976710656
theorem gv_field {r : List Tok} (h : AllB r) : Gv FldOk (fieldR r) :=
  gv_bind (gv_label h) fun _ _ ht h1 => gv_bind (gv_want h1) fun _ _ _ h2 => gv_bind (gv_ty h2) fun _ _ hy h3 => gv_bind (gv_dflt h3) fun _ _ hd h4 => gv_bind (gv_want h4) fun _ _ _ h5 => ⟨⟨ht, hy, hd⟩, h5⟩
theorem snoc_all {α : Type} {P : α → Prop} {l : List α} {x : α} (h : ∀ y ∈ l, P y) (hx : P x) : ∀ y ∈ l ++ [x], P y := by
  intro y hy
  rcases List.mem_append.1 hy with hy | hy
  · exact h y hy
  · rw [List.mem_singleton.1 hy]
    exact hx
theorem gv_fields : ∀ (f : Nat) {acc : List RField} {r : List Tok}, (∀ x ∈ acc, FldOk x) → AllB r → Gv (fun l : List RField => ∀ x ∈ l, FldOk x) (fieldsR f acc r)
  | 0, acc, r, ha, h => gv_bad _ _
  | f + 1, acc, r, ha, h => by
    unfold fieldsR
    split
    · exact ⟨ha, h.tail⟩
    · exact gv_bind (gv_field h) fun x r' hx h' => gv_fields f (snoc_all ha hx) h'
def RecOk (s : RRec) : Prop := s.name.length ≤ 40 ∧ ∀ f ∈ s.fields, FldOk f
theorem gv_rec {r : List Tok} (h : AllB r) : Gv RecOk (recR r) :=
  gv_bind (gv_name h) fun t r1 ht h1 => gv_bind (gv_want h1) fun _ r2 _ h2 => gv_bind (gv_fields r2.length (fun _ hx => by cases hx) h2) fun fs r3 hf h3 => ⟨⟨ht, hf⟩, h3⟩
theorem gv_comma {r : List Tok} (h : AllB r) : Gv (fun _ => True) (commaR r) := by
  unfold commaR
  split
  · exact ⟨trivial, h⟩
  · exact gv_want h
theorem gv_names : ∀ (f : Nat) {acc : List Tok} {r : List Tok}, (∀ x ∈ acc, Short x) → AllB r → Gv (fun l : List Tok => ∀ x ∈ l, Short x) (namesR f acc r)
  | 0, acc, r, ha, h => gv_bad _ _
  | f + 1, acc, r, ha, h => by
    unfold namesR
    split
    · exact ⟨ha, h.tail⟩
    · exact gv_bind (gv_name h) fun t r1 ht h1 => gv_bind (gv_comma h1) fun _ r2 _ h2 => gv_names f (snoc_all ha ht) h2
def ChoOk (s : RCho) : Prop := s.name.length ≤ 40 ∧ ∀ t ∈ s.names, Short t
theorem gv_cho {r : List Tok} (h : AllB r) : Gv ChoOk (choR r) :=
  gv_bind (gv_name h) fun t r1 ht h1 => gv_bind (gv_want h1) fun _ r2 _ h2 => gv_bind (gv_names r2.length (fun _ hx => by cases hx) h2) fun fs r3 hf h3 => ⟨⟨ht, hf⟩, h3⟩
structure RawFit (x : RRaw) : Prop where
  st : ∀ s ∈ x.structs, RecOk s
  en : ∀ e ∈ x.enums, ChoOk e
  rt : ∀ t ∈ x.roots, Short t
theorem gv_part {a : RRaw} {r : List Tok} (ha : RawFit a) (h : AllB r) : Gv RawFit (partR a r) := by
  unfold partR
  split
  · exact gv_bind (gv_rec h.tail) fun s r' hs h' => ⟨⟨snoc_all ha.st hs, ha.en, ha.rt⟩, h'⟩
  · split
    · exact gv_bind (gv_cho h.tail) fun s r' hs h' => ⟨⟨ha.st, snoc_all ha.en hs, ha.rt⟩, h'⟩
    · split
      · exact gv_bind (gv_name h.tail) fun t r1 ht h1 => gv_bind (gv_want h1) fun _ r' _ h' => ⟨⟨ha.st, ha.en, snoc_all ha.rt ht⟩, h'⟩
      · exact gv_bad _ _
theorem gv_schema : ∀ (f : Nat) {a : RRaw} {r : List Tok}, RawFit a → AllB r → Gv RawFit (schemaR f a r)
  | 0, a, r, ha, h => gv_bad _ _
  | f + 1, a, r, ha, h => by
    unfold schemaR
    split
    · exact ⟨ha, h⟩
    · exact gv_bind (gv_part ha h) fun a' r' ha' h' => gv_schema f ha' h'
theorem rawR_fit {l : List Tok} (h : AllB l) : Gv RawFit (rawR l) :=
  gv_schema l.length ⟨(fun _ hx => by cases hx), (fun _ hx => by cases hx), (fun _ hx => by cases hx)⟩ h
theorem RawFit.ok {x : RRaw} (h : RawFit x) : RawOk x where
  en := fun e he => ⟨Nat.le_trans (h.en e he).1 (by decide), fun t ht => Nat.le_trans ((h.en e he).2 t ht) (by decide)⟩
  st := fun s hs => ⟨Nat.le_trans (h.st s hs).1 (by decide), fun f hf => ⟨((h.st s hs).2 f hf).2.2, Nat.le_trans ((h.st s hs).2 f hf).1 (by decide)⟩⟩
end Go.Proofs.YtleclhnlojalbaaGreatDoor
namespace Go.Proofs.YtleclhnlojalbaaGreatDoor
open Go.ChangeShapes Go.WideShapes Go.ChangeAt Go.RowKit Go.Shelf

theorem noRaw_ok : RawOk noRaw := ⟨fun e he => (by cases he), fun s hs => (by cases hs)⟩
theorem rawT_ok (s : ByteArray) : RawOk (rawT s).1 := by
  unfold rawT
  obtain ⟨l, code, p, hr⟩ : ∃ l code p, toks okU (amg idlSigns) (bts s) = (l, code, p) := ⟨_, _, _, rfl⟩
  rw [hr]
  unfold rawL
  dsimp only
  split
  · rename_i hc
    subst hc
    have hs : s.size ≤ 8192 := by
      rcases Nat.lt_or_ge 8192 (bts s).length with h | h
      · unfold toks at hr
        rw [if_pos h] at hr
        cases hr
      · rw [bts_length] at h
        exact h
    have hall : AllB l := by
      intro t ht
      have h1 := (chain_all l 0 (Nat.zero_le _) (.inr (toks_chain hr).1) t ht).2.1
      have h2 := full_length t
      omega
    have h3 := rawR_fit hall
    unfold rawR at h3
    show RawOk (match schemaR l.length noRaw l with
      | .ok a _ => (a, (0 : Int), 0)
      | .no c q => (noRaw, c, q)).1
    cases hx : schemaR l.length noRaw l with
    | ok a r =>
      rw [hx] at h3
      exact h3.1.ok
    | no c q => exact noRaw_ok
  · exact noRaw_ok
def readM (s : ByteArray) : MRes Sch := if (rawT s).2.1 = 0 then makeM (rawT s).1 else .no (rawT s).2.1 (rawT s).2.2
def SchPost (w : World) (r : MRes Sch) (e : Ending) (w' : World) : Prop :=
  Below w.heap.size w w' ∧ match r with
  | .no c p => e = .returned (.tuple #[.agg #[.slice none 0 0, .slice none 0 0, .int .i64 0], .agg #[.int .i64 c, .int .i64 (p : Nat)]])
  | .ok S => ∃ ss es sv ev, e = .returned (.tuple #[.agg #[sv, ev, .int .i64 S.root], .agg #[.int .i64 0, .int .i64 0]]) ∧ S.structs = ss.map Prod.fst ∧ S.enums = es.map Prod.fst ∧ SchRows w.heap.size w' ss es sv ev
theorem make_any {w : World} {rb : Nat} {rs : List (RRec × Value)} {re : List (RCho × Value)} {rt : List Tok} {sv ev rv : Value} (h : RawRows rb w rs re rt sv ev rv) (hE : ErrV w) (hok : RawOk (rawOf rs re rt)) :
    Calls Tryz.prog 22 #[.agg #[sv, ev, rv]] w (SchPost w (makeM (rawOf rs re rt))) := (make_any_raw w h hE hok).mono fun _ _ h => h
structure REnd (w : World) (x y z u v : Value) (Wf : World) : Prop where
  sch : Wf.heap[w.heap.size]? = some (.cells #[x, y, z] 32 (0, 0))
  flt : Wf.heap[w.heap.size + 1]? = some (.cells #[u, v] 43 (0, 0))
  bel : Below w.heap.size w Wf
theorem REnd.drew {w Wf : World} {x y z u v : Value} (h : REnd w x y z u v Wf) : REnd w x y z u v Wf.drew := ⟨h.sch, h.flt, h.bel.drew⟩
def set32 (W : World) (g : Nat) (x y z r s : Value) : World := ((((W.setCell ⟨g, 0, none⟩ x).setCell ⟨g, 1, none⟩ y).setCell ⟨g, 2, none⟩ z).setCell ⟨g + 1, 0, none⟩ r).setCell ⟨g + 1, 1, none⟩ s
def set23 (W : World) (g : Nat) (x y z r s : Value) : World := ((((W.setCell ⟨g + 1, 0, none⟩ r).setCell ⟨g + 1, 1, none⟩ s).setCell ⟨g, 0, none⟩ x).setCell ⟨g, 1, none⟩ y).setCell ⟨g, 2, none⟩ z
theorem rend1 {w W : World} {a b c u v : Value} (h1 : W.heap[w.heap.size]? = some (.cells #[a, b, c] 32 (0, 0))) (h2 : W.heap[w.heap.size + 1]? = some (.cells #[u, v] 43 (0, 0))) (hb : Below w.heap.size w W) (x y z r s : Value) : REnd w x y z r s (set32 W w.heap.size x y z r s) :=
  have far : ∀ (W : World) (g k i : Nat) (x : Value), k ≠ g → (W.setCell ⟨g, i, none⟩ x).heap[k]? = W.heap[k]? := fun W g k i x h => Below.heap_setCell _ _ _ _ h
  ⟨by unfold set32; rw [far _ _ _ _ _ (by omega), far _ _ _ _ _ (by omega)]; exact blk_set3 h1 _ _ _, blk_set2 (by rw [far _ _ _ _ _ (by omega), far _ _ _ _ _ (by omega), far _ _ _ _ _ (by omega)]; exact h2) _ _,
    ((((hb.setCell (p := ⟨w.heap.size, 0, none⟩) (Nat.le_refl _) _).setCell (p := ⟨w.heap.size, 1, none⟩) (Nat.le_refl _) _).setCell (p := ⟨w.heap.size, 2, none⟩) (Nat.le_refl _) _).setCell (p := ⟨w.heap.size + 1, 0, none⟩) (Nat.le_succ _) _).setCell (p := ⟨w.heap.size + 1, 1, none⟩) (Nat.le_succ _) _⟩
theorem rend2 {w W : World} {a b c u v : Value} (h1 : W.heap[w.heap.size]? = some (.cells #[a, b, c] 32 (0, 0))) (h2 : W.heap[w.heap.size + 1]? = some (.cells #[u, v] 43 (0, 0))) (hb : Below w.heap.size w W) (x y z r s : Value) : REnd w x y z r s (set23 W w.heap.size x y z r s) :=
  have far : ∀ (W : World) (g k i : Nat) (x : Value), k ≠ g → (W.setCell ⟨g, i, none⟩ x).heap[k]? = W.heap[k]? := fun W g k i x h => Below.heap_setCell _ _ _ _ h
  ⟨blk_set3 (by rw [far _ _ _ _ _ (by omega), far _ _ _ _ _ (by omega)]; exact h1) _ _ _, by unfold set23; rw [far _ _ _ _ _ (by omega), far _ _ _ _ _ (by omega), far _ _ _ _ _ (by omega)]; exact blk_set2 h2 _ _,
    ((((hb.setCell (p := ⟨w.heap.size + 1, 0, none⟩) (Nat.le_succ _) _).setCell (p := ⟨w.heap.size + 1, 1, none⟩) (Nat.le_succ _) _).setCell (p := ⟨w.heap.size, 0, none⟩) (Nat.le_refl _) _).setCell (p := ⟨w.heap.size, 1, none⟩) (Nat.le_refl _) _).setCell (p := ⟨w.heap.size, 2, none⟩) (Nat.le_refl _) _⟩
theorem SchRows.set32 {base g : Nat} {W : World} {ss : List (SRec × Value)} {es : List (SCho × Value)} {sv ev : Value} (h : SchRows base W ss es sv ev) (hg : g + 1 < base) (x y z u v : Value) : SchRows base (set32 W g x y z u v) ss es sv ev :=
  have key : ∀ {e : TypeId} {s : Nat} {v' : Value} {n : Nat} {xs : List Value}, W.ownsRow base e s v' n xs → World.ownsRow (Go.Proofs.YtleclhnlojalbaaGreatDoor.set32 W g x y z u v) base e s v' n xs := fun ho =>
    ownsRow_setCell_below (ownsRow_setCell_below (ownsRow_setCell_below (ownsRow_setCell_below (ownsRow_setCell_below ho (by show g < _; omega) _) (by show g < _; omega) _) (by show g < _; omega) _) (by show g + 1 < _; omega) _) (by show g + 1 < _; omega) _
  ⟨key h.structs, key h.enums, fun q hq => key (h.fields q hq), fun q hq => key (h.names q hq)⟩
theorem sch_no {w Wf : World} {c : Int} {p : Nat} (hb : Below w.heap.size w Wf) : SchPost w (.no c p) (.returned (.tuple #[.agg #[.slice none 0 0, .slice none 0 0, .int .i64 0], .agg #[.int .i64 c, .int .i64 (p : Nat)]])) Wf := ⟨hb, rfl⟩
set_option maxRecDepth 100000 in
set_option maxHeartbeats 4000000 in
theorem read_any (s : ByteArray) (w : World) (hT : Tabs w) (hE : ErrV w) (hs : s.size ≤ 9223372036854775807) :
    Calls Tryz.prog 14 #[.string s] w (SchPost w (readM s)) := by
  obtain ⟨hb, hz1, hz2⟩ := two_blk w #[.slice none 0 0, .slice none 0 0, .int .i64 0] #[.int .i64 0, .int .i64 0] 32 43
  have HT := Lib.hid hT
  have HE := Lib.hid hE
  have HS := Lib.hid hs
  have HB := Lib.hid hb
  have HZ1 := Lib.hid hz1
  have HZ2 := Lib.hid hz2
  have hww := hb.size
  clear hT hE hs hb hz1 hz2
  go_enter Tryz.func14, Tryz.ntmps14
  go_upto_region 1 with (fail)
  generalize (w.alloc (.cells #[.slice none 0 0, .slice none 0 0, .int .i64 0] 32)).alloc (.cells #[.int .i64 0, .int .i64 0] 43) = W0 at *
  go_wp2_with fail
  refine (parse_any s W0 (HT.out.below (Nat.le_refl _) HB.out) HS.out).mono ?_
  rintro e W1 ⟨ss, es, ts, sv, ev, rv, rfl, hx, hr, hb1⟩
  obtain ⟨sa, sc, ea, ec, ra, rc, rfl, rfl, rfl⟩ := hr.forms
  have HOK := Lib.hid (hx ▸ rawT_ok s)
  have HRM : Hid (readM s = if (rawT s).2.1 = 0 then makeM (rawOf ss es ts) else .no (rawT s).2.1 (rawT s).2.2) := Lib.hid (by unfold readM; rw [hx])
  generalize readM s = res at *
  generalize (rawT s).2.1 = code at *
  generalize (rawT s).2.2 = place at *
  have HR := Lib.hid hr
  have HB1 := Lib.hid (HB.out.trans (hb1.mono HB.out.size))
  have HY1 := Lib.hid (blk_below HZ1.out hb1 (blk_lt HZ1.out))
  have HY2 := Lib.hid (blk_below HZ2.out hb1 (blk_lt HZ2.out))
  clear hx hr hb1 HZ1 HZ2
  go_upto_region 2 with (fail)
  obtain ⟨hbb, hq1, hq2⟩ := two_blk W1 #[.slice sa ss.length sc, .slice ea es.length ec, .slice ra ts.length rc] #[.int .i64 code, .int .i64 (place : Nat)] 69 43
  generalize ((W1.alloc (.cells #[.slice sa ss.length sc, .slice ea es.length ec, .slice ra ts.length rc] 69)).alloc (.cells #[.int .i64 code, .int .i64 (place : Nat)] 43)) = W2 at *
  have HB2 := Lib.hid (HB1.out.trans (hbb.mono HB1.out.size))
  have HR2 := Lib.hid (HR.out.below hbb)
  have HX1 := Lib.hid (blk_below HY1.out hbb (blk_lt HY1.out))
  have HX2 := Lib.hid (blk_below HY2.out hbb (blk_lt HY2.out))
  have hl1 := blk_lt HY1.out
  have hl2 := blk_lt HY2.out
  obtain ⟨_, a0, a1, a2, _⟩ := blk3 hq1
  obtain ⟨_, k0, k1, _⟩ := blk2 hq2
  obtain ⟨_, _, _, _, r0, r1, r2⟩ := blk3 HX1.out
  obtain ⟨_, _, _, g0, g1⟩ := blk2 HX2.out
  have hne1 : W1.heap.size + 1 ≠ w.heap.size := by omega
  have hne2 : W1.heap.size + 1 ≠ w.heap.size + 1 := by omega
  have hne3 : W1.heap.size ≠ w.heap.size := by omega
  have hne4 : W1.heap.size ≠ w.heap.size + 1 := by omega
  clear hbb hq1 hq2 HB1 HR HY1 HY2
  by_cases hc : code = 0
  · subst hc
    have HRES := Lib.hid (HRM.out.trans (if_pos rfl))
    have HM := Lib.hid (make_any HR2.out (HE.out.later HB2.out) HOK.out)
    clear HRM
    generalize makeM (rawOf ss es ts) = mres at *
    go_wp2_with fail
    refine HM.out.mono ?_
    rintro e W3 ⟨hb3, hp⟩
    have HB3 := Lib.hid (HB2.out.trans (hb3.mono HB2.out.size))
    have HV1 := Lib.hid (blk_below HX1.out hb3 (blk_lt HX1.out))
    have HV2 := Lib.hid (blk_below HX2.out hb3 (blk_lt HX2.out))
    have hl3 := blk_lt HX2.out
    clear hb3 a0 a1 a2 k0 k1 r0 r1 r2 g0 g1
    obtain ⟨_, _, _, _, r0, r1, r2⟩ := blk3 HV1.out
    obtain ⟨_, _, _, g0, g1⟩ := blk2 HV2.out
    cases mres with
    | no c p =>
      have HP := Lib.hid hp
      clear hp
      obtain rfl := HP.out
      go_wp2
      refine post_gen (fun Wf => REnd w (.slice none 0 0) (.slice none 0 0) (.int .i64 0) (.int .i64 c) (.int .i64 p) Wf) (rend1 HV1.out HV2.out HB3.out _ _ _ _ _) ?_
      rintro Wf ⟨e1, e2, e3⟩
      obtain ⟨_, c0, c1, c2, _⟩ := blk3 e1
      obtain ⟨_, d0, d1, _⟩ := blk2 e2
      exact bodyPost_ret (v := .tuple #[.agg #[.slice none 0 0, .slice none 0 0, .int .i64 0], .agg #[.int .i64 c, .int .i64 p]]) (by simp [results, Tryz.results14, go_sem, c0, c1, c2, d0, d1]) rfl (by rw [HRES.out]; exact sch_no e3)
    | ok S =>
      obtain ⟨L, E, lv, ev, rfl, h1, h2, hrows⟩ := hp
      have H1 := Lib.hid h1
      have H2 := Lib.hid h2
      have HROWS := Lib.hid hrows
      obtain ⟨la, lc, va, vc, rfl, rfl⟩ := hrows.forms
      generalize hrt : S.root = root at *
      have HRT := Lib.hid hrt
      have hl4 := blk_lt HX2.out
      clear h1 h2 hrows hrt
      go_wp2
      refine post_gen (fun Wf => REnd w (.slice la L.length lc) (.slice va E.length vc) (.int .i64 root) (.int .i64 0) (.int .i64 0) Wf ∧ SchRows w.heap.size Wf L E (.slice la L.length lc) (.slice va E.length vc)) ⟨rend1 HV1.out HV2.out HB3.out _ _ _ _ _, SchRows.base (SchRows.set32 (g := w.heap.size) HROWS.out hl4 _ _ _ _ _) HB2.out.size⟩ ?_
      rintro Wf ⟨⟨e1, e2, e3⟩, e4⟩
      obtain ⟨_, c0, c1, c2, _⟩ := blk3 e1
      obtain ⟨_, d0, d1, _⟩ := blk2 e2
      refine bodyPost_ret (v := .tuple #[.agg #[.slice la L.length lc, .slice va E.length vc, .int .i64 root], .agg #[.int .i64 0, .int .i64 0]]) (by simp [results, Tryz.results14, go_sem, c0, c1, c2, d0, d1]) rfl ?_
      rw [HRES.out]
      refine ⟨e3, L, E, _, _, ?_, H1.out, H2.out, e4⟩
      rw [HRT.out]
  · have HRES := Lib.hid (HRM.out.trans (if_neg hc))
    have t1 : (code == 0) = false := by simpa using hc
    have t2 : (code != 0) = true := by simpa using hc
    clear hc HRM
    go_wp2_with fail
    go_region
    all_goals
      simp only [Exit.then]
      apply_assumption
      go_wp2
      refine post_gen (fun Wf => REnd w (.slice none 0 0) (.slice none 0 0) (.int .i64 0) (.int .i64 code) (.int .i64 place) Wf) (by first | exact (rend1 HX1.out HX2.out HB2.out _ _ _ _ _).drew | exact (rend2 HX1.out HX2.out HB2.out _ _ _ _ _).drew) ?_
      rintro Wf ⟨e1, e2, e3⟩
      obtain ⟨_, c0, c1, c2, _⟩ := blk3 e1
      obtain ⟨_, d0, d1, _⟩ := blk2 e2
      exact bodyPost_ret (v := .tuple #[.agg #[.slice none 0 0, .slice none 0 0, .int .i64 0], .agg #[.int .i64 code, .int .i64 place]]) (by simp [results, Tryz.results14, go_sem, c0, c1, c2, d0, d1]) rfl (by rw [HRES.out]; exact sch_no e3)
end Go.Proofs.YtleclhnlojalbaaGreatDoor
