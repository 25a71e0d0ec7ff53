/-
  The package idl's Parse: what a schema's text says as it is written, or the first fault and its place. Conditions: the library's tables hold what the row lists.
  The document's own has and Text: a sign among some; whether bytes are a text. Conditions: those that each theorem names; the library's tables hold what the row lists.
-/
import Derived.Test.YtmjmblbaojchcaaDoorPkC22
import Derived.Test.YtmjmblbaojchcaaDoorPkC28
import Derived.Test.YtmjmblbaojchcaaDoorPkC30
import Derived.Test.YtmjmblbaojchcaaDoorPkC32
namespace Go.Proofs.YtmjmblbaojchcaaDoor
open Go.ChangeShapes Go.WideShapes Go.ChangeAt Go.RowKit Go.Shelf

/-- The signs of a schema's text. -/
def idlSigns : ByteArray := ⟨#[123, 125, 58, 59, 61, 44, 60, 62]⟩
/-- What a list of tokens, or the fault of a text that has none, says. -/
def rawL : List Tok × Int × Nat → RRaw × Int × Nat
  | (l, code, p) => if code = 0 then (match schemaL noRaw l with
    | .ok a _ => (a, 0, 0)
    | .no c q => (noRaw, c, q)) else (noRaw, code, p)
/-- What a text says as a schema. -/
def rawT (s : ByteArray) : RRaw × Int × Nat := rawL (toks okU (amg idlSigns) (bts s))
theorem chain_ends : ∀ (l : List Tok), EndLast l → (∀ t ∈ l, t.kind = 0 → t.text = []) → Ends l
  | [], h, _ => h
  | t :: r, h, ht => by
    rcases h with ⟨h1, h2⟩ | ⟨h1, h2⟩
    · exact .inl ⟨h1, ht t List.mem_cons_self h1, h2⟩
    · exact .inr ⟨h1, chain_ends r h2 (fun u hu => ht u (List.mem_cons_of_mem _ hu))⟩
theorem toks_good {s : ByteArray} {sg : Int → Bool} {l : List Tok} {p : Nat} (h : toks okU sg (bts s) = (l, 0, p)) : Ends l ∧ l.length ≤ 2048 ∧ ∀ t ∈ l, ∀ z ∈ t.text, 0 ≤ z ∧ z ≤ 255 := by
  obtain ⟨hc, hl⟩ := toks_chain h
  have ha := chain_all (s := s) l 0 (Nat.zero_le _) (.inr hc)
  refine ⟨chain_ends l (chain_last l 0 hc) (fun t ht h0 => ?_), hl, fun t ht => (ha t ht).2.2⟩
  rcases (ha t ht).1 with h | h | h | h | h
  · exact h.2
  all_goals omega
/-- What the call hands back: the schema in rows of the call's own, the fault's number and place. -/
def ParsePost (w : World) (x : RRaw × Int × Nat) (e : Ending) (w' : World) : Prop :=
  ∃ ss es ts sv ev rv, e = .returned (.tuple #[.agg #[sv, ev, rv], .agg #[.int .i64 x.2.1, .int .i64 (x.2.2 : Nat)]]) ∧ x.1 = rawOf ss es ts ∧ RawRows w.heap.size w' ss es ts sv ev rv ∧ Below w.heap.size w w'
theorem rows_nil (base : Nat) (W : World) : RawRows base W [] [] [] (.slice none 0 0) (.slice none 0 0) (.slice none 0 0) :=
  ⟨World.ownsRow_nil _ _ _ _, World.ownsRow_nil _ _ _ _, World.ownsRow_nil _ _ _ _, (fun p hp => by cases hp), (fun p hp => by cases hp)⟩
theorem parse_none {w w' : World} {x : RRaw × Int × Nat} {code : Int} {p : Nat} (hx : x = (noRaw, code, p)) (hb : Below w.heap.size w w') :
    ParsePost w x (.returned (.tuple #[.agg #[.slice none 0 0, .slice none 0 0, .slice none 0 0], .agg #[.int .i64 code, .int .i64 (p : Nat)]])) w' := by
  subst hx
  exact ⟨[], [], [], _, _, _, rfl, rfl, rows_nil _ _, hb⟩
/-- The world that Parse begins with: the results' blocks. -/
theorem parse_start (w : World) (a b : Array Value) (s t : TypeId) : Below w.heap.size w ((w.alloc (.cells a s)).alloc (.cells b t)) ∧ ((w.alloc (.cells a s)).alloc (.cells b t)).heap[w.heap.size]? = some (.cells a s (0, 0)) ∧ ((w.alloc (.cells a s)).alloc (.cells b t)).heap[w.heap.size + 1]? = some (.cells b t (0, 0)) := by
  refine ⟨((Below.refl _ _).alloc (Nat.le_refl _) _).alloc (by simp) _, blk_alloc (heap_alloc_new w _) _, ?_⟩
  have := heap_alloc_new (w.alloc (.cells a s)) (.cells b t)
  rwa [World.size_alloc] at this
/-- Behind the stores into both results' blocks. -/
def set5 (W : World) (g : Nat) (x y z u v : Value) : World := ((((W.setCell ⟨g, 0, none⟩ x).setCell ⟨g, 1, none⟩ y).setCell ⟨g, 2, none⟩ z).setCell ⟨g + 1, 0, none⟩ u).setCell ⟨g + 1, 1, none⟩ v
structure PEnd (w : World) (x y z u v : Value) (W : World) : Prop where
  raw : W.heap[w.heap.size]? = some (.cells #[x, y, z] 43 (0, 0))
  flt : W.heap[w.heap.size + 1]? = some (.cells #[u, v] 46 (0, 0))
  bel : Below w.heap.size w W
theorem pend {w W : World} {a b c d e : Value} (hz : W.heap[w.heap.size]? = some (.cells #[a, b, c] 43 (0, 0))) (hf : W.heap[w.heap.size + 1]? = some (.cells #[d, e] 46 (0, 0))) (hb : Below w.heap.size w W) (x y z u v : Value) : PEnd w x y z u v (set5 W w.heap.size x y z u v) := by
  have h3 := blk_set3 hz x y z
  refine ⟨?_, ?_, ((((hb.setCell (p := ⟨w.heap.size, 0, none⟩) (Nat.le_refl _) x).setCell (p := ⟨w.heap.size, 1, none⟩) (Nat.le_refl _) y).setCell (p := ⟨w.heap.size, 2, none⟩) (Nat.le_refl _) z).setCell (p := ⟨w.heap.size + 1, 0, none⟩) (Nat.le_succ _) u).setCell (p := ⟨w.heap.size + 1, 1, none⟩) (Nat.le_succ _) v⟩
  · exact blk_set_ne (blk_set_ne h3 (by simp only; omega) _) (by simp only; omega) _
  · exact blk_set2 (blk_set_ne (blk_set_ne (blk_set_ne hf (by simp only; omega) _) (by simp only; omega) _) (by simp only; omega) _) u v
theorem PEnd.drew {w W : World} {x y z u v : Value} (h : PEnd w x y z u v W) : PEnd w x y z u v W.drew := ⟨h.raw, h.flt, h.bel.drew⟩
theorem RawRows.set5 {base : Nat} {W : World} {ss : List (RRec × Value)} {es : List (RCho × Value)} {ts : List Tok} {sv ev rv : Value} (h : RawRows base W ss es ts sv ev rv) {g : Nat} (hg : g + 1 < base) (x y z u v : Value) : RawRows base (set5 W g x y z u v) ss es ts sv ev rv :=
  ((h.exc (exc_set3 W g x y z) (by omega)).exc (exc_set _ (g + 1) 0 u) hg).exc (exc_set _ (g + 1) 1 v) hg
theorem RawRows.drew {base : Nat} {W : World} {ss : List (RRec × Value)} {es : List (RCho × Value)} {ts : List Tok} {sv ev rv : Value} (h : RawRows base W ss es ts sv ev rv) : RawRows base W.drew ss es ts sv ev rv := h.below (Below.refl _ _).drew
set_option maxRecDepth 100000 in
set_option maxHeartbeats 2000000 in
theorem parse_fault (s : ByteArray) (w : World) (hT : Tabs w) (hs : s.size ≤ 9223372036854775807) (l : List Tok) (code : Int) (p : Nat) (hr : toks okU (amg idlSigns) (bts s) = (l, code, p)) (hc : code ≠ 0) :
    Calls Tryd.prog 11 #[.string s] w (ParsePost w (rawT s)) := by
  have HX : Hid (rawT s = (noRaw, code, p)) := Lib.hid (by unfold rawT; rw [hr]; exact if_neg hc)
  obtain ⟨hb0, hz0, hf0⟩ := parse_start w #[.slice none 0 0, .slice none 0 0, .slice none 0 0] #[.int .i64 0, .int .i64 0] 43 46
  have HL := Lib.hid (lexTokens_any s idlSigns _ (hT.below (Nat.le_refl _) hb0) hs)
  rw [hr] at HL
  have HB0 := Lib.hid hb0
  have HZ0 := Lib.hid hz0
  have HF0 := Lib.hid hf0
  have hlt : w.heap.size + 1 < _ := blk_lt hf0
  have hcz : (code != 0) = true := bne_iff_ne.2 hc
  clear hb0 hz0 hf0 hT hr hc
  go_enter Tryd.func11, Tryd.ntmps11
  go_upto_region 1 with (fail)
  generalize ((w.alloc (.cells #[.slice none 0 0, .slice none 0 0, .slice none 0 0] 43)).alloc (.cells #[.int .i64 0, .int .i64 0] 46)) = W0 at *
  go_wp2_with fail
  refine HL.out.mono ?_
  rintro e W1 ⟨v, rfl, _, hb1⟩
  have HB1 := Lib.hid (HB0.out.trans (hb1.mono (by omega)))
  have HZ1 := Lib.hid (blk_below HZ0.out hb1 (blk_lt HZ0.out))
  have HF1 := Lib.hid (blk_below HF0.out hb1 (blk_lt HF0.out))
  clear hb1
  simp only
  go_upto_region 2 with (fail)
  have HB2 := Lib.hid (HB1.out.alloc HB1.out.size (.cells #[.int .i64 code, .int .i64 (p : Nat)] 46))
  have HZ2 := Lib.hid (blk_alloc HZ1.out (.cells #[.int .i64 code, .int .i64 (p : Nat)] 46))
  have HF2 := Lib.hid (blk_alloc HF1.out (.cells #[.int .i64 code, .int .i64 (p : Nat)] 46))
  have HT2 := Lib.hid (heap_alloc_new W1 (.cells #[.int .i64 code, .int .i64 (p : Nat)] 46))
  have hlt1 : w.heap.size + 1 < W1.heap.size := blk_lt HF1.out
  clear HB1 HZ1 HF1
  generalize W1.alloc (.cells #[.int .i64 code, .int .i64 (p : Nat)] 46) = W2 at *
  generalize W1.heap.size = BT at *
  obtain ⟨_, t0, t1, _⟩ := blk2 HT2.out
  obtain ⟨hz, z0, z1, z2, y0, y1, y2⟩ := blk3 HZ2.out
  obtain ⟨hf, f0, f1, g0, g1⟩ := blk2 HF2.out
  go_wp2_with fail
  go_region_with (fail)
  all_goals
    go_wp2
    refine post_gen (PEnd w (.slice none 0 0) (.slice none 0 0) (.slice none 0 0) (.int .i64 code) (.int .i64 (p : Nat))) ?_ ?_
    · first
        | exact (pend HZ2.out HF2.out HB2.out _ _ _ _ _).drew
        | exact pend (w := w) (W := W2.drew) HZ2.out HF2.out HB2.out.drew _ _ _ _ _
    · rintro Wf ⟨e1, e2, e3⟩
      obtain ⟨_, c0, c1, c2, _⟩ := blk3 e1
      obtain ⟨_, d0, d1, _⟩ := blk2 e2
      exact bodyPost_ret (v := .tuple #[.agg #[.slice none 0 0, .slice none 0 0, .slice none 0 0], .agg #[.int .i64 code, .int .i64 (p : Nat)]]) (by simp [results, Tryd.results11, go_sem, c0, c1, c2, d0, d1]) rfl (parse_none HX.out e3)
/-- The reader, laid over a text's tokens. -/
theorem rd_start {W : World} {g c : Nat} {l : List Tok} (hg : g < W.heap.size) (hcells : ∀ k, k < l.length * 3 → W.cell? ⟨g, k, none⟩ = (toksCells l)[k]?) (hc : l.length ≤ c) (hm : c ≤ maxLen) (he : Ends l) (hb : ∀ t ∈ l, ∀ z ∈ t.text, 0 ≤ z ∧ z ≤ 255) :
    Rd (W.alloc (.cells #[.slice (some ⟨g, 0, none⟩) l.length c, .int .i64 0, .int .i64 0] 88)) W.heap.size g c l l (0, 0) := by
  have hbel : Below W.heap.size W (W.alloc (.cells #[.slice (some ⟨g, 0, none⟩) l.length c, .int .i64 0, .int .i64 0] 88)) := (Below.refl _ _).alloc (Nat.le_refl _) _
  refine ⟨?_, by rw [Nat.sub_self]; rfl, Nat.le_refl _, Nat.lt_of_lt_of_le hg hbel.size, Nat.ne_of_lt hg, fun k hk => (hbel.cell (p := ⟨g, k, none⟩) hg).trans (hcells k hk), ⟨hc, hm⟩, he, hb⟩
  rw [heap_alloc_new W _, Nat.sub_self]
  rfl
set_option maxRecDepth 100000 in
set_option maxHeartbeats 2000000 in
theorem parse_good (s : ByteArray) (w : World) (hT : Tabs w) (hs : s.size ≤ 9223372036854775807) (l : List Tok) (p : Nat) (hr : toks okU (amg idlSigns) (bts s) = (l, 0, p)) :
    Calls Tryd.prog 11 #[.string s] w (ParsePost w (rawT s)) := by
  have HX : Hid (rawT s = match schemaL noRaw l with
    | .ok a _ => (a, 0, 0)
    | .no c q => (noRaw, c, q)) := Lib.hid (by unfold rawT; rw [hr]; rfl)
  obtain ⟨hend, hlen, hbyt⟩ := toks_good hr
  have HEND := Lib.hid hend
  have HBYT := Lib.hid hbyt
  obtain ⟨hb0, hz0, hf0⟩ := parse_start w #[.slice none 0 0, .slice none 0 0, .slice none 0 0] #[.int .i64 0, .int .i64 0] 43 46
  have HL := Lib.hid (lexTokens_any s idlSigns _ (hT.below (Nat.le_refl _) hb0) hs)
  rw [hr] at HL
  have HB0 := Lib.hid hb0
  have HZ0 := Lib.hid hz0
  have HF0 := Lib.hid hf0
  have hlt : w.heap.size + 1 < _ := blk_lt hf0
  clear hb0 hz0 hf0 hT hr hend hbyt
  go_enter Tryd.func11, Tryd.ntmps11
  go_upto_region 1 with (fail)
  generalize ((w.alloc (.cells #[.slice none 0 0, .slice none 0 0, .slice none 0 0] 43)).alloc (.cells #[.int .i64 0, .int .i64 0] 46)) = W0 at *
  go_wp2_with fail
  refine HL.out.mono ?_
  rintro e W1 ⟨v, rfl, ho, hb1⟩
  obtain ⟨g, c, rfl, hc, hgb, hg, hcells⟩ := ho.cells HEND.out.ne
  have hcm : c ≤ maxLen := by
    rcases ho.2 with ⟨h, _⟩ | ⟨g', cap', cur, h, _, _, _, hm, _⟩
    · cases h
    · injection h with _ _ h
      subst h
      exact hm
  have HC := Lib.hid hcells
  have HB1 := Lib.hid (HB0.out.trans (hb1.mono (by omega)))
  have HZ1 := Lib.hid (blk_below HZ0.out hb1 (blk_lt HZ0.out))
  have HF1 := Lib.hid (blk_below HF0.out hb1 (blk_lt HF0.out))
  clear hb1 ho hcells
  simp only
  go_upto_region 2 with (fail)
  have hlt1 : w.heap.size + 1 < W1.heap.size := blk_lt HF1.out
  have HB2 := Lib.hid (HB1.out.alloc HB1.out.size (.cells #[.int .i64 0, .int .i64 (p : Nat)] 46))
  have HZ2 := Lib.hid (blk_alloc HZ1.out (.cells #[.int .i64 0, .int .i64 (p : Nat)] 46))
  have HF2 := Lib.hid (blk_alloc HF1.out (.cells #[.int .i64 0, .int .i64 (p : Nat)] 46))
  have HT2 := Lib.hid (heap_alloc_new W1 (.cells #[.int .i64 0, .int .i64 (p : Nat)] 46))
  have HC2 := Lib.hid (show ∀ k, k < l.length * 3 → (W1.alloc (.cells #[.int .i64 0, .int .i64 (p : Nat)] 46)).cell? ⟨g, k, none⟩ = (toksCells l)[k]? from fun k hk => (((Below.refl _ W1).alloc (Nat.le_refl _) (.cells #[.int .i64 0, .int .i64 (p : Nat)] 46)).cell (p := ⟨g, k, none⟩) hg).trans (HC.out k hk))
  have hg2 : g < (W1.alloc (.cells #[.int .i64 0, .int .i64 (p : Nat)] 46)).heap.size := by simp; omega
  clear HB1 HZ1 HF1 HC
  generalize W1.alloc (.cells #[.int .i64 0, .int .i64 (p : Nat)] 46) = W2 at *
  generalize W1.heap.size = BT at *
  obtain ⟨_, t0, t1, _⟩ := blk2 HT2.out
  go_upto_region 5 with (fail)
  have hlt2 : w.heap.size + 1 < W2.heap.size := blk_lt HF2.out
  have HRD := Lib.hid (rd_start hg2 HC2.out hc hcm HEND.out HBYT.out)
  have HB3 := Lib.hid (HB2.out.alloc HB2.out.size (.cells #[.slice (some ⟨g, 0, none⟩) l.length c, .int .i64 0, .int .i64 0] 88))
  have HZ3 := Lib.hid (blk_alloc HZ2.out (.cells #[.slice (some ⟨g, 0, none⟩) l.length c, .int .i64 0, .int .i64 0] 88))
  have HF3 := Lib.hid (blk_alloc HF2.out (.cells #[.slice (some ⟨g, 0, none⟩) l.length c, .int .i64 0, .int .i64 0] 88))
  clear HB2 HZ2 HF2 HC2 t0 t1
  have hR3 : W2.heap.size < (W2.alloc (.cells #[.slice (some ⟨g, 0, none⟩) l.length c, .int .i64 0, .int .i64 0] 88)).heap.size := by simp
  generalize W2.alloc (.cells #[.slice (some ⟨g, 0, none⟩) l.length c, .int .i64 0, .int .i64 0] 88) = W3 at *
  generalize W2.heap.size = R at *
  go_wp2_with fail
  refine (schema_any W3 R g c l l hlen HRD.out).mono ?_
  rintro e W4 hp
  have HP := Lib.hid hp
  clear hp
  generalize schemaL noRaw l = q at *
  obtain ⟨a', r'⟩ | ⟨cc, pp⟩ := q
  · obtain ⟨ss, es, ts, sv, ev, rv, rfl, rfl, hrow, hrd, hx⟩ := HP.out
    obtain ⟨sa, sc, ea, ec, ra, rc, rfl, rfl, rfl⟩ := hrow.forms
    have HB4 := Lib.hid (HB3.out.trans ((hx.mono (by omega : w.heap.size ≤ W3.heap.size)).below (by omega)))
    have HZ4 := Lib.hid (blk_exc HZ3.out hx (by omega) (by omega))
    have HF4 := Lib.hid (blk_exc HF3.out hx (by omega) (by omega))
    have HROW := Lib.hid hrow
    clear hrow hrd hx HP
    go_upto_region 6 with (fail)
    have hs4 : w.heap.size + 1 < W4.heap.size := blk_lt HF4.out
    have HB5 := Lib.hid (HB4.out.alloc HB4.out.size (.cells #[.slice sa ss.length sc, .slice ea es.length ec, .slice ra ts.length rc] 43))
    have HZ5 := Lib.hid (blk_alloc HZ4.out (.cells #[.slice sa ss.length sc, .slice ea es.length ec, .slice ra ts.length rc] 43))
    have HF5 := Lib.hid (blk_alloc HF4.out (.cells #[.slice sa ss.length sc, .slice ea es.length ec, .slice ra ts.length rc] 43))
    have HT5 := Lib.hid (heap_alloc_new W4 (.cells #[.slice sa ss.length sc, .slice ea es.length ec, .slice ra ts.length rc] 43))
    have HR5 := Lib.hid (HROW.out.below ((Below.refl _ _).alloc (Nat.le_refl _) (.cells #[.slice sa ss.length sc, .slice ea es.length ec, .slice ra ts.length rc] 43)))
    clear HB4 HZ4 HF4 HROW
    generalize W4.alloc (.cells #[.slice sa ss.length sc, .slice ea es.length ec, .slice ra ts.length rc] 43) = W5 at *
    generalize W4.heap.size = BR at *
    obtain ⟨_, t0, t1, t2, _⟩ := blk3 HT5.out
    obtain ⟨hz, z0, z1, z2, y0, y1, y2⟩ := blk3 HZ5.out
    obtain ⟨hf, f0, f1, g0, g1⟩ := blk2 HF5.out
    go_wp2
    refine post_gen (fun Wf => PEnd w (.slice sa ss.length sc) (.slice ea es.length ec) (.slice ra ts.length rc) (.int .i64 0) (.int .i64 0) Wf ∧ RawRows (W3.heap.size + 1) Wf ss es ts (.slice sa ss.length sc) (.slice ea es.length ec) (.slice ra ts.length rc)) ⟨?_, ?_⟩ ?_
    · exact pend HZ5.out HF5.out HB5.out _ _ _ _ _
    · exact HR5.out.set5 (by omega) _ _ _ _ _
    · rintro Wf ⟨⟨e1, e2, e3⟩, e4⟩
      obtain ⟨_, c0, c1, c2, _⟩ := blk3 e1
      obtain ⟨_, d0, d1, _⟩ := blk2 e2
      rw [HX.out]
      exact bodyPost_ret (v := .tuple #[.agg #[.slice sa ss.length sc, .slice ea es.length ec, .slice ra ts.length rc], .agg #[.int .i64 0, .int .i64 0]]) (by simp [results, Tryd.results11, go_sem, c0, c1, c2, d0, d1]) rfl ⟨ss, es, ts, _, _, _, rfl, rfl, e4.base (by omega), e3⟩
  · obtain ⟨rfl, ⟨r', hrd⟩, hx⟩ := HP.out
    have HB4 := Lib.hid (HB3.out.trans ((hx.mono (by omega : w.heap.size ≤ W3.heap.size)).below (by omega)))
    have HZ4 := Lib.hid (blk_exc HZ3.out hx (by omega) (by omega))
    have HF4 := Lib.hid (blk_exc HF3.out hx (by omega) (by omega))
    have HRB := Lib.hid hrd.blk
    clear hrd hx HP
    go_upto_region 6 with (fail)
    have hs4 : w.heap.size + 1 < W4.heap.size := blk_lt HF4.out
    have HB5 := Lib.hid (HB4.out.alloc HB4.out.size (.cells #[.slice none 0 0, .slice none 0 0, .slice none 0 0] 43))
    have HZ5 := Lib.hid (blk_alloc HZ4.out (.cells #[.slice none 0 0, .slice none 0 0, .slice none 0 0] 43))
    have HF5 := Lib.hid (blk_alloc HF4.out (.cells #[.slice none 0 0, .slice none 0 0, .slice none 0 0] 43))
    have HR5 := Lib.hid (blk_alloc HRB.out (.cells #[.slice none 0 0, .slice none 0 0, .slice none 0 0] 43))
    clear HB4 HZ4 HF4 HRB
    generalize W4.alloc (.cells #[.slice none 0 0, .slice none 0 0, .slice none 0 0] 43) = W5 at *
    obtain ⟨_, t0, t1, t2, _⟩ := blk3 HR5.out
    obtain ⟨hz, z0, z1, z2, y0, y1, y2⟩ := blk3 HZ5.out
    obtain ⟨hf, f0, f1, g0, g1⟩ := blk2 HF5.out
    go_wp2_with fail
    go_region_with (fail)
    all_goals
      go_wp2
      refine post_gen (PEnd w (.slice none 0 0) (.slice none 0 0) (.slice none 0 0) (.int .i64 cc) (.int .i64 (pp : Nat))) ?_ ?_
      · first
          | exact (pend HZ5.out HF5.out HB5.out _ _ _ _ _).drew
          | exact pend (w := w) (W := W5.drew) HZ5.out HF5.out HB5.out.drew _ _ _ _ _
      · rintro Wf ⟨e1, e2, e3⟩
        obtain ⟨_, c0, c1, c2, _⟩ := blk3 e1
        obtain ⟨_, d0, d1, _⟩ := blk2 e2
        exact bodyPost_ret (v := .tuple #[.agg #[.slice none 0 0, .slice none 0 0, .slice none 0 0], .agg #[.int .i64 cc, .int .i64 (pp : Nat)]]) (by simp [results, Tryd.results11, go_sem, c0, c1, c2, d0, d1]) rfl (parse_none HX.out e3)
/-- Parse, whatever the text. -/
theorem parse_any (s : ByteArray) (w : World) (hT : Tabs w) (hs : s.size ≤ 9223372036854775807) :
    Calls Tryd.prog 11 #[.string s] w (ParsePost w (rawT s)) := by
  obtain ⟨r, hr⟩ : ∃ r, toks okU (amg idlSigns) (bts s) = r := ⟨_, rfl⟩
  obtain ⟨l, code, p⟩ := r
  by_cases hc : code = 0
  · subst hc
    exact parse_good s w hT hs l p hr
  · exact parse_fault s w hT hs l code p hr hc
end Go.Proofs.YtmjmblbaojchcaaDoor
namespace Go.Proofs.YtmjmblbaojchcaaDoor
open Go.ChangeShapes Go.WideShapes Go.ChangeAt Go.RowKit Go.Shelf

theorem amg_yes {s : ByteArray} {k : Nat} {c : Int} (h : k < s.size) (hc : (s[k].toNat : Int) = c) : amg s c = true := by
  refine decide_eq_true ?_
  rw [← hc, ← bts_get h, List.getD, List.getElem?_eq_getElem (by rw [bts_length]; exact h)]
  exact List.getElem_mem _
theorem amg_no {s : ByteArray} {c : Int} (h : ∀ j (hj : j < s.size), (s[j].toNat : Int) ≠ c) : amg s c = false := by
  refine decide_eq_false (fun hm => ?_)
  obtain ⟨j, hj, hv⟩ := List.mem_iff_getElem.1 hm
  have hj' : j < s.size := by rw [bts_length] at hj; exact hj
  refine h j hj' ?_
  rw [← bts_get hj', List.getD, List.getElem?_eq_getElem hj]
  exact hv
theorem has_any (s : ByteArray) (c : Int) (w : World) (hs : s.size ≤ 9223372036854775807) :
    Calls Tryd.prog 69 #[.string s, .int .u8 c] w fun e w' => e = .returned (.bool (amg s c)) ∧ w = w' := by
  obtain ⟨r, hr⟩ : ∃ r, amg s c = r := ⟨_, rfl⟩
  have HR := Lib.hid hr
  rw [hr]
  clear hr
  go_enter Tryd.func69, Tryd.ntmps69
  go_wp2
  go_loop [5] (fun i => ∃ k : Nat, k ≤ s.size ∧ i = .int .i64 k ∧ ∀ j (hj : j < s.size), j < k → (s[j].toNat : Int) ≠ c) (fun i => s.size - (intOf i).toNat)
  case atStart => exact ⟨0, Nat.zero_le _, rfl, fun j _ h => absurd h (Nat.not_lt_zero _)⟩
  case round =>
    obtain ⟨k, hk, rfl, hj⟩ := hrel
    have HJ := Lib.hid hj
    clear hj
    by_cases hlt : k < s.size
    · by_cases he : (s[k].toNat : Int) = c
      · have HA := Lib.hid (amg_yes hlt he)
        have t : ((s[k].toNat : Int) == c) = true := beq_iff_eq.2 he
        clear he
        go_wp2
        go_ret
        exact ⟨ret_bool (HA.out.symm.trans HR.out), rfl⟩
      · have t : ((s[k].toNat : Int) == c) = false := beq_eq_false_iff_ne.2 he
        have HN := Lib.hid he
        clear he
        go_wp2
        go_round
        case rel =>
          refine ⟨k + 1, by omega, by go_num, fun j hj h => ?_⟩
          rcases Nat.lt_or_ge j k with h' | h'
          · exact HJ.out j hj h'
          · obtain rfl : j = k := by omega
            exact HN.out
        case measure => simp [intOf]; omega
    · have HA := Lib.hid (amg_no (s := s) (c := c) fun j hj => HJ.out j hj (by omega))
      go_wp2
      go_ret
      exact ⟨ret_bool (HA.out.symm.trans HR.out), rfl⟩
theorem rtext_any (a : Option Addr) (cap n : Nat) (zs : List Int) (w : World) (hT : Tabs w) (hz : Bytes w a zs) (hn : zs.length = n) (hl : (n : Int) ≤ 9223372036854775800) (hcap : n ≤ cap) :
    Calls Tryd.prog 68 #[.slice a n cap] w fun e w' => e = .returned (.bool (okU zs)) ∧ Below w.heap.size w w' := by
  have HU := Lib.hid (rutf8_call a cap n zs w hT hz hn hl hcap)
  clear hT hz hn hl hcap
  go_enter Tryd.func68, Tryd.ntmps68
  go_wp2_with fail
  refine HU.out.mono ?_
  rintro e W1 ⟨rfl, hb⟩
  go_wp2
  go_ret
  exact ⟨rfl, hb⟩
end Go.Proofs.YtmjmblbaojchcaaDoor
