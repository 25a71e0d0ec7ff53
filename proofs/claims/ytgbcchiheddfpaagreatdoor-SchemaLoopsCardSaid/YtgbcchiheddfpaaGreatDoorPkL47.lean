/-
  What reading a schema hands back, in one form. Conditions: those that each theorem names.
-/
import Derived.Test.YtgbcchiheddfpaaGreatDoorPkL15
import Derived.Test.YtgbcchiheddfpaaGreatDoorPkL37
import Derived.Test.YtgbcchiheddfpaaGreatDoorPkL46
namespace Go.Proofs.YtgbcchiheddfpaaGreatDoor
open Go.ChangeShapes Go.WideShapes Go.ChangeAt Go.RowKit Go.Shelf

theorem noRaw_ok : RawOk noRaw := ⟨fun e he => (by cases he), fun s hs => (by cases hs)⟩
theorem rawT_ok (s : ByteArray) : RawOk (rawT s).1 := by
  unfold rawT
  obtain ⟨l, code, p, hr⟩ : ∃ l code p, toks okU (amg idlSigns) (bts s) = (l, code, p) := ⟨_, _, _, rfl⟩
  rw [hr]
  unfold rawL
  dsimp only
  split
  · rename_i hc
    subst hc
    have hs : s.size ≤ 8192 := by
      rcases Nat.lt_or_ge 8192 (bts s).length with h | h
      · unfold toks at hr
        rw [if_pos h] at hr
        cases hr
      · rw [bts_length] at h
        exact h
    have hall : AllB l := by
      intro t ht
      have h1 := (chain_all l 0 (Nat.zero_le _) (.inr (toks_chain hr).1) t ht).2.1
      have h2 := full_length t
      omega
    have h3 := rawR_fit hall
    unfold rawR at h3
    show RawOk (match schemaR l.length noRaw l with
      | .ok a _ => (a, (0 : Int), 0)
      | .no c q => (noRaw, c, q)).1
    cases hx : schemaR l.length noRaw l with
    | ok a r =>
      rw [hx] at h3
      exact h3.1.ok
    | no c q => exact noRaw_ok
  · exact noRaw_ok
def readM (s : ByteArray) : MRes Sch := if (rawT s).2.1 = 0 then makeM (rawT s).1 else .no (rawT s).2.1 (rawT s).2.2
def SchPost (w : World) (r : MRes Sch) (e : Ending) (w' : World) : Prop :=
  Below w.heap.size w w' ∧ match r with
  | .no c p => e = .returned (.tuple #[.agg #[.slice none 0 0, .slice none 0 0, .int .i64 0], .agg #[.int .i64 c, .int .i64 (p : Nat)]])
  | .ok S => ∃ ss es sv ev, e = .returned (.tuple #[.agg #[sv, ev, .int .i64 S.root], .agg #[.int .i64 0, .int .i64 0]]) ∧ S.structs = ss.map Prod.fst ∧ S.enums = es.map Prod.fst ∧ SchRows w.heap.size w' ss es sv ev
theorem make_any {w : World} {rb : Nat} {rs : List (RRec × Value)} {re : List (RCho × Value)} {rt : List Tok} {sv ev rv : Value} (h : RawRows rb w rs re rt sv ev rv) (hE : ErrV w) (hok : RawOk (rawOf rs re rt)) :
    Calls Tryz.prog 87 #[.agg #[sv, ev, rv]] w (SchPost w (makeM (rawOf rs re rt))) := (make_any_raw w h hE hok).mono fun _ _ h => h
structure REnd (w : World) (x y z u v : Value) (Wf : World) : Prop where
  sch : Wf.heap[w.heap.size]? = some (.cells #[x, y, z] 30 (0, 0))
  flt : Wf.heap[w.heap.size + 1]? = some (.cells #[u, v] 125 (0, 0))
  bel : Below w.heap.size w Wf
theorem REnd.drew {w Wf : World} {x y z u v : Value} (h : REnd w x y z u v Wf) : REnd w x y z u v Wf.drew := ⟨h.sch, h.flt, h.bel.drew⟩
def set32 (W : World) (g : Nat) (x y z r s : Value) : World := ((((W.setCell ⟨g, 0, none⟩ x).setCell ⟨g, 1, none⟩ y).setCell ⟨g, 2, none⟩ z).setCell ⟨g + 1, 0, none⟩ r).setCell ⟨g + 1, 1, none⟩ s
def set23 (W : World) (g : Nat) (x y z r s : Value) : World := ((((W.setCell ⟨g + 1, 0, none⟩ r).setCell ⟨g + 1, 1, none⟩ s).setCell ⟨g, 0, none⟩ x).setCell ⟨g, 1, none⟩ y).setCell ⟨g, 2, none⟩ z
theorem rend1 {w W : World} {a b c u v : Value} (h1 : W.heap[w.heap.size]? = some (.cells #[a, b, c] 30 (0, 0))) (h2 : W.heap[w.heap.size + 1]? = some (.cells #[u, v] 125 (0, 0))) (hb : Below w.heap.size w W) (x y z r s : Value) : REnd w x y z r s (set32 W w.heap.size x y z r s) :=
  have far : ∀ (W : World) (g k i : Nat) (x : Value), k ≠ g → (W.setCell ⟨g, i, none⟩ x).heap[k]? = W.heap[k]? := fun W g k i x h => Below.heap_setCell _ _ _ _ h
  ⟨by unfold set32; rw [far _ _ _ _ _ (by omega), far _ _ _ _ _ (by omega)]; exact blk_set3 h1 _ _ _, blk_set2 (by rw [far _ _ _ _ _ (by omega), far _ _ _ _ _ (by omega), far _ _ _ _ _ (by omega)]; exact h2) _ _,
    ((((hb.setCell (p := ⟨w.heap.size, 0, none⟩) (Nat.le_refl _) _).setCell (p := ⟨w.heap.size, 1, none⟩) (Nat.le_refl _) _).setCell (p := ⟨w.heap.size, 2, none⟩) (Nat.le_refl _) _).setCell (p := ⟨w.heap.size + 1, 0, none⟩) (Nat.le_succ _) _).setCell (p := ⟨w.heap.size + 1, 1, none⟩) (Nat.le_succ _) _⟩
theorem rend2 {w W : World} {a b c u v : Value} (h1 : W.heap[w.heap.size]? = some (.cells #[a, b, c] 30 (0, 0))) (h2 : W.heap[w.heap.size + 1]? = some (.cells #[u, v] 125 (0, 0))) (hb : Below w.heap.size w W) (x y z r s : Value) : REnd w x y z r s (set23 W w.heap.size x y z r s) :=
  have far : ∀ (W : World) (g k i : Nat) (x : Value), k ≠ g → (W.setCell ⟨g, i, none⟩ x).heap[k]? = W.heap[k]? := fun W g k i x h => Below.heap_setCell _ _ _ _ h
  ⟨blk_set3 (by rw [far _ _ _ _ _ (by omega), far _ _ _ _ _ (by omega)]; exact h1) _ _ _, by unfold set23; rw [far _ _ _ _ _ (by omega), far _ _ _ _ _ (by omega), far _ _ _ _ _ (by omega)]; exact blk_set2 h2 _ _,
    ((((hb.setCell (p := ⟨w.heap.size + 1, 0, none⟩) (Nat.le_succ _) _).setCell (p := ⟨w.heap.size + 1, 1, none⟩) (Nat.le_succ _) _).setCell (p := ⟨w.heap.size, 0, none⟩) (Nat.le_refl _) _).setCell (p := ⟨w.heap.size, 1, none⟩) (Nat.le_refl _) _).setCell (p := ⟨w.heap.size, 2, none⟩) (Nat.le_refl _) _⟩
theorem SchRows.set32 {base g : Nat} {W : World} {ss : List (SRec × Value)} {es : List (SCho × Value)} {sv ev : Value} (h : SchRows base W ss es sv ev) (hg : g + 1 < base) (x y z u v : Value) : SchRows base (set32 W g x y z u v) ss es sv ev :=
  have key : ∀ {e : TypeId} {s : Nat} {v' : Value} {n : Nat} {xs : List Value}, W.ownsRow base e s v' n xs → World.ownsRow (Go.Proofs.YtgbcchiheddfpaaGreatDoor.set32 W g x y z u v) base e s v' n xs := fun ho =>
    ownsRow_setCell_below (ownsRow_setCell_below (ownsRow_setCell_below (ownsRow_setCell_below (ownsRow_setCell_below ho (by show g < _; omega) _) (by show g < _; omega) _) (by show g < _; omega) _) (by show g + 1 < _; omega) _) (by show g + 1 < _; omega) _
  ⟨key h.structs, key h.enums, fun q hq => key (h.fields q hq), fun q hq => key (h.names q hq)⟩
theorem sch_no {w Wf : World} {c : Int} {p : Nat} (hb : Below w.heap.size w Wf) : SchPost w (.no c p) (.returned (.tuple #[.agg #[.slice none 0 0, .slice none 0 0, .int .i64 0], .agg #[.int .i64 c, .int .i64 (p : Nat)]])) Wf := ⟨hb, rfl⟩
set_option maxRecDepth 100000 in
set_option maxHeartbeats 4000000 in
theorem read_any (s : ByteArray) (w : World) (hT : Tabs w) (hE : ErrV w) (hs : s.size ≤ 9223372036854775807) :
    Calls Tryz.prog 49 #[.string s] w (SchPost w (readM s)) := by
  obtain ⟨hb, hz1, hz2⟩ := two_blk w #[.slice none 0 0, .slice none 0 0, .int .i64 0] #[.int .i64 0, .int .i64 0] 30 125
  have HT := Lib.hid hT
  have HE := Lib.hid hE
  have HS := Lib.hid hs
  have HB := Lib.hid hb
  have HZ1 := Lib.hid hz1
  have HZ2 := Lib.hid hz2
  have hww := hb.size
  clear hT hE hs hb hz1 hz2
  go_enter Tryz.func49, Tryz.ntmps49
  go_upto_region 1 with (fail)
  generalize (w.alloc (.cells #[.slice none 0 0, .slice none 0 0, .int .i64 0] 30)).alloc (.cells #[.int .i64 0, .int .i64 0] 125) = W0 at *
  go_wp2_with fail
  refine (parse_any s W0 (HT.out.below (Nat.le_refl _) HB.out) HS.out).mono ?_
  rintro e W1 ⟨ss, es, ts, sv, ev, rv, rfl, hx, hr, hb1⟩
  obtain ⟨sa, sc, ea, ec, ra, rc, rfl, rfl, rfl⟩ := hr.forms
  have HOK := Lib.hid (hx ▸ rawT_ok s)
  have HRM : Hid (readM s = if (rawT s).2.1 = 0 then makeM (rawOf ss es ts) else .no (rawT s).2.1 (rawT s).2.2) := Lib.hid (by unfold readM; rw [hx])
  generalize readM s = res at *
  generalize (rawT s).2.1 = code at *
  generalize (rawT s).2.2 = place at *
  have HR := Lib.hid hr
  have HB1 := Lib.hid (HB.out.trans (hb1.mono HB.out.size))
  have HY1 := Lib.hid (blk_below HZ1.out hb1 (blk_lt HZ1.out))
  have HY2 := Lib.hid (blk_below HZ2.out hb1 (blk_lt HZ2.out))
  clear hx hr hb1 HZ1 HZ2
  go_upto_region 2 with (fail)
  obtain ⟨hbb, hq1, hq2⟩ := two_blk W1 #[.slice sa ss.length sc, .slice ea es.length ec, .slice ra ts.length rc] #[.int .i64 code, .int .i64 (place : Nat)] 188 125
  generalize ((W1.alloc (.cells #[.slice sa ss.length sc, .slice ea es.length ec, .slice ra ts.length rc] 188)).alloc (.cells #[.int .i64 code, .int .i64 (place : Nat)] 125)) = W2 at *
  have HB2 := Lib.hid (HB1.out.trans (hbb.mono HB1.out.size))
  have HR2 := Lib.hid (HR.out.below hbb)
  have HX1 := Lib.hid (blk_below HY1.out hbb (blk_lt HY1.out))
  have HX2 := Lib.hid (blk_below HY2.out hbb (blk_lt HY2.out))
  have hl1 := blk_lt HY1.out
  have hl2 := blk_lt HY2.out
  obtain ⟨_, a0, a1, a2, _⟩ := blk3 hq1
  obtain ⟨_, k0, k1, _⟩ := blk2 hq2
  obtain ⟨_, _, _, _, r0, r1, r2⟩ := blk3 HX1.out
  obtain ⟨_, _, _, g0, g1⟩ := blk2 HX2.out
  have hne1 : W1.heap.size + 1 ≠ w.heap.size := by omega
  have hne2 : W1.heap.size + 1 ≠ w.heap.size + 1 := by omega
  have hne3 : W1.heap.size ≠ w.heap.size := by omega
  have hne4 : W1.heap.size ≠ w.heap.size + 1 := by omega
  clear hbb hq1 hq2 HB1 HR HY1 HY2
  by_cases hc : code = 0
  · subst hc
    have HRES := Lib.hid (HRM.out.trans (if_pos rfl))
    have HM := Lib.hid (make_any HR2.out (HE.out.later HB2.out) HOK.out)
    clear HRM
    generalize makeM (rawOf ss es ts) = mres at *
    go_wp2_with fail
    refine HM.out.mono ?_
    rintro e W3 ⟨hb3, hp⟩
    have HB3 := Lib.hid (HB2.out.trans (hb3.mono HB2.out.size))
    have HV1 := Lib.hid (blk_below HX1.out hb3 (blk_lt HX1.out))
    have HV2 := Lib.hid (blk_below HX2.out hb3 (blk_lt HX2.out))
    have hl3 := blk_lt HX2.out
    clear hb3 a0 a1 a2 k0 k1 r0 r1 r2 g0 g1
    obtain ⟨_, _, _, _, r0, r1, r2⟩ := blk3 HV1.out
    obtain ⟨_, _, _, g0, g1⟩ := blk2 HV2.out
    cases mres with
    | no c p =>
      have HP := Lib.hid hp
      clear hp
      obtain rfl := HP.out
      go_wp2
      refine post_gen (fun Wf => REnd w (.slice none 0 0) (.slice none 0 0) (.int .i64 0) (.int .i64 c) (.int .i64 p) Wf) (rend1 HV1.out HV2.out HB3.out _ _ _ _ _) ?_
      rintro Wf ⟨e1, e2, e3⟩
      obtain ⟨_, c0, c1, c2, _⟩ := blk3 e1
      obtain ⟨_, d0, d1, _⟩ := blk2 e2
      exact bodyPost_ret (v := .tuple #[.agg #[.slice none 0 0, .slice none 0 0, .int .i64 0], .agg #[.int .i64 c, .int .i64 p]]) (by simp [results, Tryz.results49, go_sem, c0, c1, c2, d0, d1]) rfl (by rw [HRES.out]; exact sch_no e3)
    | ok S =>
      obtain ⟨L, E, lv, ev, rfl, h1, h2, hrows⟩ := hp
      have H1 := Lib.hid h1
      have H2 := Lib.hid h2
      have HROWS := Lib.hid hrows
      obtain ⟨la, lc, va, vc, rfl, rfl⟩ := hrows.forms
      generalize hrt : S.root = root at *
      have HRT := Lib.hid hrt
      have hl4 := blk_lt HX2.out
      clear h1 h2 hrows hrt
      go_wp2
      refine post_gen (fun Wf => REnd w (.slice la L.length lc) (.slice va E.length vc) (.int .i64 root) (.int .i64 0) (.int .i64 0) Wf ∧ SchRows w.heap.size Wf L E (.slice la L.length lc) (.slice va E.length vc)) ⟨rend1 HV1.out HV2.out HB3.out _ _ _ _ _, SchRows.base (SchRows.set32 (g := w.heap.size) HROWS.out hl4 _ _ _ _ _) HB2.out.size⟩ ?_
      rintro Wf ⟨⟨e1, e2, e3⟩, e4⟩
      obtain ⟨_, c0, c1, c2, _⟩ := blk3 e1
      obtain ⟨_, d0, d1, _⟩ := blk2 e2
      refine bodyPost_ret (v := .tuple #[.agg #[.slice la L.length lc, .slice va E.length vc, .int .i64 root], .agg #[.int .i64 0, .int .i64 0]]) (by simp [results, Tryz.results49, go_sem, c0, c1, c2, d0, d1]) rfl ?_
      rw [HRES.out]
      refine ⟨e3, L, E, _, _, ?_, H1.out, H2.out, e4⟩
      rw [HRT.out]
  · have HRES := Lib.hid (HRM.out.trans (if_neg hc))
    have t1 : (code == 0) = false := by simpa using hc
    have t2 : (code != 0) = true := by simpa using hc
    clear hc HRM
    go_wp2_with fail
    go_region
    all_goals
      simp only [Exit.then]
      apply_assumption
      go_wp2
      refine post_gen (fun Wf => REnd w (.slice none 0 0) (.slice none 0 0) (.int .i64 0) (.int .i64 code) (.int .i64 place) Wf) (by first | exact (rend1 HX1.out HX2.out HB2.out _ _ _ _ _).drew | exact (rend2 HX1.out HX2.out HB2.out _ _ _ _ _).drew) ?_
      rintro Wf ⟨e1, e2, e3⟩
      obtain ⟨_, c0, c1, c2, _⟩ := blk3 e1
      obtain ⟨_, d0, d1, _⟩ := blk2 e2
      exact bodyPost_ret (v := .tuple #[.agg #[.slice none 0 0, .slice none 0 0, .int .i64 0], .agg #[.int .i64 code, .int .i64 place]]) (by simp [results, Tryz.results49, go_sem, c0, c1, c2, d0, d1]) rfl (by rw [HRES.out]; exact sch_no e3)
end Go.Proofs.YtgbcchiheddfpaaGreatDoor
namespace Go.Proofs.YtgbcchiheddfpaaGreatDoor
open Go.ChangeShapes Go.WideShapes Go.ChangeAt Go.RowKit Go.Shelf

def SSays (r : MRes Sch) (ss : List SRec) (es : List SCho) (rt : Nat) (c : Int) (p : Nat) : Prop :=
  match r with
  | .no c' p' => ss = [] ∧ es = [] ∧ rt = 0 ∧ c = c' ∧ p = p'
  | .ok S => ss = S.structs ∧ es = S.enums ∧ rt = S.root ∧ c = 0 ∧ p = 0
theorem schrows_nil (base : Nat) (W : World) : SchRows base W [] [] (.slice none 0 0) (.slice none 0 0) := ⟨World.ownsRow_nil _ _ _ _, World.ownsRow_nil _ _ _ _, (fun q hq => by cases hq), (fun q hq => by cases hq)⟩
theorem sch_form {w w' : World} {r : MRes Sch} {e : Ending} (h : SchPost w r e w') : ∃ (ss : List (SRec × Value)) (es : List (SCho × Value)) (sa : Option Addr) (sc : Nat) (ea : Option Addr) (ec : Nat) (rt : Nat) (c : Int) (p : Nat),
    e = .returned (.tuple #[.agg #[.slice sa ss.length sc, .slice ea es.length ec, .int .i64 rt], .agg #[.int .i64 c, .int .i64 (p : Nat)]]) ∧ SchRows w.heap.size w' ss es (.slice sa ss.length sc) (.slice ea es.length ec) ∧ SSays r (ss.map Prod.fst) (es.map Prod.fst) rt c p ∧ Below w.heap.size w w' := by
  obtain ⟨hb, h⟩ := h
  cases r with
  | no c p => exact ⟨[], [], none, 0, none, 0, 0, c, p, h, schrows_nil _ _, ⟨rfl, rfl, rfl, rfl, rfl⟩, hb⟩
  | ok S =>
    obtain ⟨ss, es, sv, ev, rfl, h1, h2, hr⟩ := h
    obtain ⟨sa, sc, ea, ec, rfl, rfl⟩ := hr.forms
    exact ⟨ss, es, sa, sc, ea, ec, S.root, 0, 0, rfl, hr, ⟨h1.symm, h2.symm, rfl, rfl, rfl⟩, hb⟩
end Go.Proofs.YtgbcchiheddfpaaGreatDoor
