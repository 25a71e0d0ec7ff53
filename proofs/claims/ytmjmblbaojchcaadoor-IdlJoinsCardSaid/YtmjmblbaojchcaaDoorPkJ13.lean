/-
  The package idl's Parse: what a schema's text says as it is written, or the first fault and its place. Conditions: the library's tables hold what the row lists.
  The fixed facts of the fourth chapter's examples (the function Awake) come out true, and nothing that was there is written. Condition: the library's tables hold what the row lists.
  Plain facts on tokens: the tokens of two texts, one behind the other with a new line between them, are those of the one without its end and those of the other, further on. No run of the program stands in this text. Conditions: those that each theorem names.
-/
import Derived.Test.YtmjmblbaojchcaaDoorPkJ12
namespace Go.Proofs.YtmjmblbaojchcaaDoor
open Go.ChangeShapes Go.WideShapes Go.ChangeAt Go.RowKit Go.Shelf

/-- The signs of a schema's text. -/
def idlSigns : ByteArray := ⟨#[123, 125, 58, 59, 61, 44, 60, 62]⟩
/-- What a list of tokens, or the fault of a text that has none, says. -/
def rawL : List Tok × Int × Nat → RRaw × Int × Nat
  | (l, code, p) => if code = 0 then (match schemaL noRaw l with
    | .ok a _ => (a, 0, 0)
    | .no c q => (noRaw, c, q)) else (noRaw, code, p)
/-- What a text says as a schema. -/
def rawT (s : ByteArray) : RRaw × Int × Nat := rawL (toks okU (amg idlSigns) (bts s))
theorem chain_ends : ∀ (l : List Tok), EndLast l → (∀ t ∈ l, t.kind = 0 → t.text = []) → Ends l
  | [], h, _ => h
  | t :: r, h, ht => by
    rcases h with ⟨h1, h2⟩ | ⟨h1, h2⟩
    · exact .inl ⟨h1, ht t List.mem_cons_self h1, h2⟩
    · exact .inr ⟨h1, chain_ends r h2 (fun u hu => ht u (List.mem_cons_of_mem _ hu))⟩
theorem toks_good {s : ByteArray} {sg : Int → Bool} {l : List Tok} {p : Nat} (h : toks okU sg (bts s) = (l, 0, p)) : Ends l ∧ l.length ≤ 2048 ∧ ∀ t ∈ l, ∀ z ∈ t.text, 0 ≤ z ∧ z ≤ 255 := by
  obtain ⟨hc, hl⟩ := toks_chain h
  have ha := chain_all (s := s) l 0 (Nat.zero_le _) (.inr hc)
  refine ⟨chain_ends l (chain_last l 0 hc) (fun t ht h0 => ?_), hl, fun t ht => (ha t ht).2.2⟩
  rcases (ha t ht).1 with h | h | h | h | h
  · exact h.2
  all_goals omega
/-- What the call hands back: the schema in rows of the call's own, the fault's number and place. -/
def ParsePost (w : World) (x : RRaw × Int × Nat) (e : Ending) (w' : World) : Prop :=
  ∃ ss es ts sv ev rv, e = .returned (.tuple #[.agg #[sv, ev, rv], .agg #[.int .i64 x.2.1, .int .i64 (x.2.2 : Nat)]]) ∧ x.1 = rawOf ss es ts ∧ RawRows w.heap.size w' ss es ts sv ev rv ∧ Below w.heap.size w w'
theorem rows_nil (base : Nat) (W : World) : RawRows base W [] [] [] (.slice none 0 0) (.slice none 0 0) (.slice none 0 0) :=
  ⟨World.ownsRow_nil _ _ _ _, World.ownsRow_nil _ _ _ _, World.ownsRow_nil _ _ _ _, (fun p hp => by cases hp), (fun p hp => by cases hp)⟩
theorem parse_none {w w' : World} {x : RRaw × Int × Nat} {code : Int} {p : Nat} (hx : x = (noRaw, code, p)) (hb : Below w.heap.size w w') :
    ParsePost w x (.returned (.tuple #[.agg #[.slice none 0 0, .slice none 0 0, .slice none 0 0], .agg #[.int .i64 code, .int .i64 (p : Nat)]])) w' := by
  subst hx
  exact ⟨[], [], [], _, _, _, rfl, rfl, rows_nil _ _, hb⟩
/-- The world that Parse begins with: the results' blocks. -/
theorem parse_start (w : World) (a b : Array Value) (s t : TypeId) : Below w.heap.size w ((w.alloc (.cells a s)).alloc (.cells b t)) ∧ ((w.alloc (.cells a s)).alloc (.cells b t)).heap[w.heap.size]? = some (.cells a s (0, 0)) ∧ ((w.alloc (.cells a s)).alloc (.cells b t)).heap[w.heap.size + 1]? = some (.cells b t (0, 0)) := by
  refine ⟨((Below.refl _ _).alloc (Nat.le_refl _) _).alloc (by simp) _, blk_alloc (heap_alloc_new w _) _, ?_⟩
  have := heap_alloc_new (w.alloc (.cells a s)) (.cells b t)
  rwa [World.size_alloc] at this
/-- Behind the stores into both results' blocks. -/
def set5 (W : World) (g : Nat) (x y z u v : Value) : World := ((((W.setCell ⟨g, 0, none⟩ x).setCell ⟨g, 1, none⟩ y).setCell ⟨g, 2, none⟩ z).setCell ⟨g + 1, 0, none⟩ u).setCell ⟨g + 1, 1, none⟩ v
structure PEnd (w : World) (x y z u v : Value) (W : World) : Prop where
  raw : W.heap[w.heap.size]? = some (.cells #[x, y, z] 43 (0, 0))
  flt : W.heap[w.heap.size + 1]? = some (.cells #[u, v] 46 (0, 0))
  bel : Below w.heap.size w W
theorem pend {w W : World} {a b c d e : Value} (hz : W.heap[w.heap.size]? = some (.cells #[a, b, c] 43 (0, 0))) (hf : W.heap[w.heap.size + 1]? = some (.cells #[d, e] 46 (0, 0))) (hb : Below w.heap.size w W) (x y z u v : Value) : PEnd w x y z u v (set5 W w.heap.size x y z u v) := by
  have h3 := blk_set3 hz x y z
  refine ⟨?_, ?_, ((((hb.setCell (p := ⟨w.heap.size, 0, none⟩) (Nat.le_refl _) x).setCell (p := ⟨w.heap.size, 1, none⟩) (Nat.le_refl _) y).setCell (p := ⟨w.heap.size, 2, none⟩) (Nat.le_refl _) z).setCell (p := ⟨w.heap.size + 1, 0, none⟩) (Nat.le_succ _) u).setCell (p := ⟨w.heap.size + 1, 1, none⟩) (Nat.le_succ _) v⟩
  · exact blk_set_ne (blk_set_ne h3 (by simp only; omega) _) (by simp only; omega) _
  · exact blk_set2 (blk_set_ne (blk_set_ne (blk_set_ne hf (by simp only; omega) _) (by simp only; omega) _) (by simp only; omega) _) u v
theorem PEnd.drew {w W : World} {x y z u v : Value} (h : PEnd w x y z u v W) : PEnd w x y z u v W.drew := ⟨h.raw, h.flt, h.bel.drew⟩
theorem RawRows.set5 {base : Nat} {W : World} {ss : List (RRec × Value)} {es : List (RCho × Value)} {ts : List Tok} {sv ev rv : Value} (h : RawRows base W ss es ts sv ev rv) {g : Nat} (hg : g + 1 < base) (x y z u v : Value) : RawRows base (set5 W g x y z u v) ss es ts sv ev rv :=
  ((h.exc (exc_set3 W g x y z) (by omega)).exc (exc_set _ (g + 1) 0 u) hg).exc (exc_set _ (g + 1) 1 v) hg
theorem RawRows.drew {base : Nat} {W : World} {ss : List (RRec × Value)} {es : List (RCho × Value)} {ts : List Tok} {sv ev rv : Value} (h : RawRows base W ss es ts sv ev rv) : RawRows base W.drew ss es ts sv ev rv := h.below (Below.refl _ _).drew
set_option maxRecDepth 100000 in
set_option maxHeartbeats 2000000 in
theorem parse_fault (s : ByteArray) (w : World) (hT : Tabs w) (hs : s.size ≤ 9223372036854775807) (l : List Tok) (code : Int) (p : Nat) (hr : toks okU (amg idlSigns) (bts s) = (l, code, p)) (hc : code ≠ 0) :
    Calls Tryd.prog 11 #[.string s] w (ParsePost w (rawT s)) := by
  have HX : Hid (rawT s = (noRaw, code, p)) := Lib.hid (by unfold rawT; rw [hr]; exact if_neg hc)
  obtain ⟨hb0, hz0, hf0⟩ := parse_start w #[.slice none 0 0, .slice none 0 0, .slice none 0 0] #[.int .i64 0, .int .i64 0] 43 46
  have HL := Lib.hid (lexTokens_any s idlSigns _ (hT.below (Nat.le_refl _) hb0) hs)
  rw [hr] at HL
  have HB0 := Lib.hid hb0
  have HZ0 := Lib.hid hz0
  have HF0 := Lib.hid hf0
  have hlt : w.heap.size + 1 < _ := blk_lt hf0
  have hcz : (code != 0) = true := bne_iff_ne.2 hc
  clear hb0 hz0 hf0 hT hr hc
  go_enter Tryd.func11, Tryd.ntmps11
  go_upto_region 1 with (fail)
  generalize ((w.alloc (.cells #[.slice none 0 0, .slice none 0 0, .slice none 0 0] 43)).alloc (.cells #[.int .i64 0, .int .i64 0] 46)) = W0 at *
  go_wp2_with fail
  refine HL.out.mono ?_
  rintro e W1 ⟨v, rfl, _, hb1⟩
  have HB1 := Lib.hid (HB0.out.trans (hb1.mono (by omega)))
  have HZ1 := Lib.hid (blk_below HZ0.out hb1 (blk_lt HZ0.out))
  have HF1 := Lib.hid (blk_below HF0.out hb1 (blk_lt HF0.out))
  clear hb1
  simp only
  go_upto_region 2 with (fail)
  have HB2 := Lib.hid (HB1.out.alloc HB1.out.size (.cells #[.int .i64 code, .int .i64 (p : Nat)] 46))
  have HZ2 := Lib.hid (blk_alloc HZ1.out (.cells #[.int .i64 code, .int .i64 (p : Nat)] 46))
  have HF2 := Lib.hid (blk_alloc HF1.out (.cells #[.int .i64 code, .int .i64 (p : Nat)] 46))
  have HT2 := Lib.hid (heap_alloc_new W1 (.cells #[.int .i64 code, .int .i64 (p : Nat)] 46))
  have hlt1 : w.heap.size + 1 < W1.heap.size := blk_lt HF1.out
  clear HB1 HZ1 HF1
  generalize W1.alloc (.cells #[.int .i64 code, .int .i64 (p : Nat)] 46) = W2 at *
  generalize W1.heap.size = BT at *
  obtain ⟨_, t0, t1, _⟩ := blk2 HT2.out
  obtain ⟨hz, z0, z1, z2, y0, y1, y2⟩ := blk3 HZ2.out
  obtain ⟨hf, f0, f1, g0, g1⟩ := blk2 HF2.out
  go_wp2_with fail
  go_region_with (fail)
  all_goals
    go_wp2
    refine post_gen (PEnd w (.slice none 0 0) (.slice none 0 0) (.slice none 0 0) (.int .i64 code) (.int .i64 (p : Nat))) ?_ ?_
    · first
        | exact (pend HZ2.out HF2.out HB2.out _ _ _ _ _).drew
        | exact pend (w := w) (W := W2.drew) HZ2.out HF2.out HB2.out.drew _ _ _ _ _
    · rintro Wf ⟨e1, e2, e3⟩
      obtain ⟨_, c0, c1, c2, _⟩ := blk3 e1
      obtain ⟨_, d0, d1, _⟩ := blk2 e2
      exact bodyPost_ret (v := .tuple #[.agg #[.slice none 0 0, .slice none 0 0, .slice none 0 0], .agg #[.int .i64 code, .int .i64 (p : Nat)]]) (by simp [results, Tryd.results11, go_sem, c0, c1, c2, d0, d1]) rfl (parse_none HX.out e3)
/-- The reader, laid over a text's tokens. -/
theorem rd_start {W : World} {g c : Nat} {l : List Tok} (hg : g < W.heap.size) (hcells : ∀ k, k < l.length * 3 → W.cell? ⟨g, k, none⟩ = (toksCells l)[k]?) (hc : l.length ≤ c) (hm : c ≤ maxLen) (he : Ends l) (hb : ∀ t ∈ l, ∀ z ∈ t.text, 0 ≤ z ∧ z ≤ 255) :
    Rd (W.alloc (.cells #[.slice (some ⟨g, 0, none⟩) l.length c, .int .i64 0, .int .i64 0] 88)) W.heap.size g c l l (0, 0) := by
  have hbel : Below W.heap.size W (W.alloc (.cells #[.slice (some ⟨g, 0, none⟩) l.length c, .int .i64 0, .int .i64 0] 88)) := (Below.refl _ _).alloc (Nat.le_refl _) _
  refine ⟨?_, by rw [Nat.sub_self]; rfl, Nat.le_refl _, Nat.lt_of_lt_of_le hg hbel.size, Nat.ne_of_lt hg, fun k hk => (hbel.cell (p := ⟨g, k, none⟩) hg).trans (hcells k hk), ⟨hc, hm⟩, he, hb⟩
  rw [heap_alloc_new W _, Nat.sub_self]
  rfl
set_option maxRecDepth 100000 in
set_option maxHeartbeats 2000000 in
theorem parse_good (s : ByteArray) (w : World) (hT : Tabs w) (hs : s.size ≤ 9223372036854775807) (l : List Tok) (p : Nat) (hr : toks okU (amg idlSigns) (bts s) = (l, 0, p)) :
    Calls Tryd.prog 11 #[.string s] w (ParsePost w (rawT s)) := by
  have HX : Hid (rawT s = match schemaL noRaw l with
    | .ok a _ => (a, 0, 0)
    | .no c q => (noRaw, c, q)) := Lib.hid (by unfold rawT; rw [hr]; rfl)
  obtain ⟨hend, hlen, hbyt⟩ := toks_good hr
  have HEND := Lib.hid hend
  have HBYT := Lib.hid hbyt
  obtain ⟨hb0, hz0, hf0⟩ := parse_start w #[.slice none 0 0, .slice none 0 0, .slice none 0 0] #[.int .i64 0, .int .i64 0] 43 46
  have HL := Lib.hid (lexTokens_any s idlSigns _ (hT.below (Nat.le_refl _) hb0) hs)
  rw [hr] at HL
  have HB0 := Lib.hid hb0
  have HZ0 := Lib.hid hz0
  have HF0 := Lib.hid hf0
  have hlt : w.heap.size + 1 < _ := blk_lt hf0
  clear hb0 hz0 hf0 hT hr hend hbyt
  go_enter Tryd.func11, Tryd.ntmps11
  go_upto_region 1 with (fail)
  generalize ((w.alloc (.cells #[.slice none 0 0, .slice none 0 0, .slice none 0 0] 43)).alloc (.cells #[.int .i64 0, .int .i64 0] 46)) = W0 at *
  go_wp2_with fail
  refine HL.out.mono ?_
  rintro e W1 ⟨v, rfl, ho, hb1⟩
  obtain ⟨g, c, rfl, hc, hgb, hg, hcells⟩ := ho.cells HEND.out.ne
  have hcm : c ≤ maxLen := by
    rcases ho.2 with ⟨h, _⟩ | ⟨g', cap', cur, h, _, _, _, hm, _⟩
    · cases h
    · injection h with _ _ h
      subst h
      exact hm
  have HC := Lib.hid hcells
  have HB1 := Lib.hid (HB0.out.trans (hb1.mono (by omega)))
  have HZ1 := Lib.hid (blk_below HZ0.out hb1 (blk_lt HZ0.out))
  have HF1 := Lib.hid (blk_below HF0.out hb1 (blk_lt HF0.out))
  clear hb1 ho hcells
  simp only
  go_upto_region 2 with (fail)
  have hlt1 : w.heap.size + 1 < W1.heap.size := blk_lt HF1.out
  have HB2 := Lib.hid (HB1.out.alloc HB1.out.size (.cells #[.int .i64 0, .int .i64 (p : Nat)] 46))
  have HZ2 := Lib.hid (blk_alloc HZ1.out (.cells #[.int .i64 0, .int .i64 (p : Nat)] 46))
  have HF2 := Lib.hid (blk_alloc HF1.out (.cells #[.int .i64 0, .int .i64 (p : Nat)] 46))
  have HT2 := Lib.hid (heap_alloc_new W1 (.cells #[.int .i64 0, .int .i64 (p : Nat)] 46))
  have HC2 := Lib.hid (show ∀ k, k < l.length * 3 → (W1.alloc (.cells #[.int .i64 0, .int .i64 (p : Nat)] 46)).cell? ⟨g, k, none⟩ = (toksCells l)[k]? from fun k hk => (((Below.refl _ W1).alloc (Nat.le_refl _) (.cells #[.int .i64 0, .int .i64 (p : Nat)] 46)).cell (p := ⟨g, k, none⟩) hg).trans (HC.out k hk))
  have hg2 : g < (W1.alloc (.cells #[.int .i64 0, .int .i64 (p : Nat)] 46)).heap.size := by simp; omega
  clear HB1 HZ1 HF1 HC
  generalize W1.alloc (.cells #[.int .i64 0, .int .i64 (p : Nat)] 46) = W2 at *
  generalize W1.heap.size = BT at *
  obtain ⟨_, t0, t1, _⟩ := blk2 HT2.out
  go_upto_region 5 with (fail)
  have hlt2 : w.heap.size + 1 < W2.heap.size := blk_lt HF2.out
  have HRD := Lib.hid (rd_start hg2 HC2.out hc hcm HEND.out HBYT.out)
  have HB3 := Lib.hid (HB2.out.alloc HB2.out.size (.cells #[.slice (some ⟨g, 0, none⟩) l.length c, .int .i64 0, .int .i64 0] 88))
  have HZ3 := Lib.hid (blk_alloc HZ2.out (.cells #[.slice (some ⟨g, 0, none⟩) l.length c, .int .i64 0, .int .i64 0] 88))
  have HF3 := Lib.hid (blk_alloc HF2.out (.cells #[.slice (some ⟨g, 0, none⟩) l.length c, .int .i64 0, .int .i64 0] 88))
  clear HB2 HZ2 HF2 HC2 t0 t1
  have hR3 : W2.heap.size < (W2.alloc (.cells #[.slice (some ⟨g, 0, none⟩) l.length c, .int .i64 0, .int .i64 0] 88)).heap.size := by simp
  generalize W2.alloc (.cells #[.slice (some ⟨g, 0, none⟩) l.length c, .int .i64 0, .int .i64 0] 88) = W3 at *
  generalize W2.heap.size = R at *
  go_wp2_with fail
  refine (schema_any W3 R g c l l hlen HRD.out).mono ?_
  rintro e W4 hp
  have HP := Lib.hid hp
  clear hp
  generalize schemaL noRaw l = q at *
  obtain ⟨a', r'⟩ | ⟨cc, pp⟩ := q
  · obtain ⟨ss, es, ts, sv, ev, rv, rfl, rfl, hrow, hrd, hx⟩ := HP.out
    obtain ⟨sa, sc, ea, ec, ra, rc, rfl, rfl, rfl⟩ := hrow.forms
    have HB4 := Lib.hid (HB3.out.trans ((hx.mono (by omega : w.heap.size ≤ W3.heap.size)).below (by omega)))
    have HZ4 := Lib.hid (blk_exc HZ3.out hx (by omega) (by omega))
    have HF4 := Lib.hid (blk_exc HF3.out hx (by omega) (by omega))
    have HROW := Lib.hid hrow
    clear hrow hrd hx HP
    go_upto_region 6 with (fail)
    have hs4 : w.heap.size + 1 < W4.heap.size := blk_lt HF4.out
    have HB5 := Lib.hid (HB4.out.alloc HB4.out.size (.cells #[.slice sa ss.length sc, .slice ea es.length ec, .slice ra ts.length rc] 43))
    have HZ5 := Lib.hid (blk_alloc HZ4.out (.cells #[.slice sa ss.length sc, .slice ea es.length ec, .slice ra ts.length rc] 43))
    have HF5 := Lib.hid (blk_alloc HF4.out (.cells #[.slice sa ss.length sc, .slice ea es.length ec, .slice ra ts.length rc] 43))
    have HT5 := Lib.hid (heap_alloc_new W4 (.cells #[.slice sa ss.length sc, .slice ea es.length ec, .slice ra ts.length rc] 43))
    have HR5 := Lib.hid (HROW.out.below ((Below.refl _ _).alloc (Nat.le_refl _) (.cells #[.slice sa ss.length sc, .slice ea es.length ec, .slice ra ts.length rc] 43)))
    clear HB4 HZ4 HF4 HROW
    generalize W4.alloc (.cells #[.slice sa ss.length sc, .slice ea es.length ec, .slice ra ts.length rc] 43) = W5 at *
    generalize W4.heap.size = BR at *
    obtain ⟨_, t0, t1, t2, _⟩ := blk3 HT5.out
    obtain ⟨hz, z0, z1, z2, y0, y1, y2⟩ := blk3 HZ5.out
    obtain ⟨hf, f0, f1, g0, g1⟩ := blk2 HF5.out
    go_wp2
    refine post_gen (fun Wf => PEnd w (.slice sa ss.length sc) (.slice ea es.length ec) (.slice ra ts.length rc) (.int .i64 0) (.int .i64 0) Wf ∧ RawRows (W3.heap.size + 1) Wf ss es ts (.slice sa ss.length sc) (.slice ea es.length ec) (.slice ra ts.length rc)) ⟨?_, ?_⟩ ?_
    · exact pend HZ5.out HF5.out HB5.out _ _ _ _ _
    · exact HR5.out.set5 (by omega) _ _ _ _ _
    · rintro Wf ⟨⟨e1, e2, e3⟩, e4⟩
      obtain ⟨_, c0, c1, c2, _⟩ := blk3 e1
      obtain ⟨_, d0, d1, _⟩ := blk2 e2
      rw [HX.out]
      exact bodyPost_ret (v := .tuple #[.agg #[.slice sa ss.length sc, .slice ea es.length ec, .slice ra ts.length rc], .agg #[.int .i64 0, .int .i64 0]]) (by simp [results, Tryd.results11, go_sem, c0, c1, c2, d0, d1]) rfl ⟨ss, es, ts, _, _, _, rfl, rfl, e4.base (by omega), e3⟩
  · obtain ⟨rfl, ⟨r', hrd⟩, hx⟩ := HP.out
    have HB4 := Lib.hid (HB3.out.trans ((hx.mono (by omega : w.heap.size ≤ W3.heap.size)).below (by omega)))
    have HZ4 := Lib.hid (blk_exc HZ3.out hx (by omega) (by omega))
    have HF4 := Lib.hid (blk_exc HF3.out hx (by omega) (by omega))
    have HRB := Lib.hid hrd.blk
    clear hrd hx HP
    go_upto_region 6 with (fail)
    have hs4 : w.heap.size + 1 < W4.heap.size := blk_lt HF4.out
    have HB5 := Lib.hid (HB4.out.alloc HB4.out.size (.cells #[.slice none 0 0, .slice none 0 0, .slice none 0 0] 43))
    have HZ5 := Lib.hid (blk_alloc HZ4.out (.cells #[.slice none 0 0, .slice none 0 0, .slice none 0 0] 43))
    have HF5 := Lib.hid (blk_alloc HF4.out (.cells #[.slice none 0 0, .slice none 0 0, .slice none 0 0] 43))
    have HR5 := Lib.hid (blk_alloc HRB.out (.cells #[.slice none 0 0, .slice none 0 0, .slice none 0 0] 43))
    clear HB4 HZ4 HF4 HRB
    generalize W4.alloc (.cells #[.slice none 0 0, .slice none 0 0, .slice none 0 0] 43) = W5 at *
    obtain ⟨_, t0, t1, t2, _⟩ := blk3 HR5.out
    obtain ⟨hz, z0, z1, z2, y0, y1, y2⟩ := blk3 HZ5.out
    obtain ⟨hf, f0, f1, g0, g1⟩ := blk2 HF5.out
    go_wp2_with fail
    go_region_with (fail)
    all_goals
      go_wp2
      refine post_gen (PEnd w (.slice none 0 0) (.slice none 0 0) (.slice none 0 0) (.int .i64 cc) (.int .i64 (pp : Nat))) ?_ ?_
      · first
          | exact (pend HZ5.out HF5.out HB5.out _ _ _ _ _).drew
          | exact pend (w := w) (W := W5.drew) HZ5.out HF5.out HB5.out.drew _ _ _ _ _
      · rintro Wf ⟨e1, e2, e3⟩
        obtain ⟨_, c0, c1, c2, _⟩ := blk3 e1
        obtain ⟨_, d0, d1, _⟩ := blk2 e2
        exact bodyPost_ret (v := .tuple #[.agg #[.slice none 0 0, .slice none 0 0, .slice none 0 0], .agg #[.int .i64 cc, .int .i64 (pp : Nat)]]) (by simp [results, Tryd.results11, go_sem, c0, c1, c2, d0, d1]) rfl (parse_none HX.out e3)
/-- Parse, whatever the text. -/
theorem parse_any (s : ByteArray) (w : World) (hT : Tabs w) (hs : s.size ≤ 9223372036854775807) :
    Calls Tryd.prog 11 #[.string s] w (ParsePost w (rawT s)) := by
  obtain ⟨r, hr⟩ : ∃ r, toks okU (amg idlSigns) (bts s) = r := ⟨_, rfl⟩
  obtain ⟨l, code, p⟩ := r
  by_cases hc : code = 0
  · subst hc
    exact parse_good s w hT hs l p hr
  · exact parse_fault s w hT hs l code p hr hc
end Go.Proofs.YtmjmblbaojchcaaDoor
namespace Go.Proofs.YtmjmblbaojchcaaDoor
open Go.ChangeShapes Go.WideShapes Go.ChangeAt Go.RowKit Go.Shelf

/-- A row that is not empty, cell by cell. -/
theorem row_at {w : World} {base : Nat} {e : TypeId} {size : Nat} {v : Value} {n : Nat} {xs : List Value} (h : w.ownsRow base e size v n xs) (hn : 0 < n) :
    ∃ g c, v = .slice (some ⟨g, 0, none⟩) n c ∧ n ≤ c ∧ base ≤ g ∧ g < w.heap.size ∧ ∀ k, k < n * size → w.cell? ⟨g, k, none⟩ = xs[k]? := by
  rcases h.2 with ⟨_, h0⟩ | ⟨g, cap, cur, rfl, hb, hg, hnc, hm, hs, ht⟩
  · omega
  · refine ⟨g, cap, rfl, hnc, hb, blk_lt hg, fun k hk => ?_⟩
    rw [cell_of_row w g k cur _ (0, 0) hg, ← ht, List.getElem?_take, if_pos hk, Array.getElem?_toList]
/-- A text of one struct: its row, and the first of its fields. -/
def OnePost (w : World) (f : RField) (n : Nat) (e : Ending) (w' : World) : Prop :=
  ∃ gs cs ea en ec ra rn rc gf cf, e = .returned (.tuple #[.agg #[.slice (some ⟨gs, 0, none⟩) 1 cs, .slice ea en ec, .slice ra rn rc], .agg #[.int .i64 0, .int .i64 0]]) ∧ 1 ≤ cs ∧ gs < w'.heap.size ∧ w'.cell? ⟨gs, 2, none⟩ = some (.slice (some ⟨gf, 0, none⟩) n cf) ∧
    n ≤ cf ∧ gf < w'.heap.size ∧ w'.cell? ⟨gf, 2, none⟩ = some (.string (strOfNums f.ty.name)) ∧ w'.cell? ⟨gf, 3, none⟩ = some (.int .i64 f.ty.lists) ∧ Below w.heap.size w w'
theorem parse_one (s : ByteArray) (w : World) (hT : Tabs w) (hs : s.size ≤ 9223372036854775807) (d : RRec) (f : RField) (fs : List RField) (h1 : (rawT s).1.structs = [d]) (h2 : (rawT s).2 = (0, 0)) (h3 : d.fields = f :: fs) :
    Calls Tryd.prog 11 #[.string s] w (OnePost w f (fs.length + 1)) := by
  refine (parse_any s w hT hs).mono ?_
  rintro e w' ⟨ss, es, ts, sv, ev, rv, rfl, hx, hr, hb⟩
  rw [h2]
  rw [hx] at h1
  obtain ⟨p, rfl, rfl⟩ : ∃ p : RRec × Value, ss = [p] ∧ p.1 = d := by
    cases ss with
    | nil => cases h1
    | cons p r =>
      cases r with
      | nil => exact ⟨p, rfl, (List.cons.inj h1).1⟩
      | cons q r => cases (List.cons.inj h1).2
  obtain ⟨gs, cs, rfl, hcs, _, hgs, hcell⟩ := row_at hr.structs (by simp)
  have hf := hr.fields p List.mem_cons_self
  rw [h3] at hf
  obtain ⟨gf, cf, hp, hcf, _, hgf, hfc⟩ := row_at hf (by simp)
  obtain ⟨ea, ec, rfl⟩ := ownsRow_form hr.enums
  obtain ⟨ra, rc, rfl⟩ := ownsRow_form hr.roots
  refine ⟨gs, cs, _, _, _, _, _, _, gf, cf, rfl, hcs, hgs, ?_, by simpa using hcf, hgf, ?_, ?_, hb⟩
  · rw [hcell 2 (by simp), show recsCells [p] = [.string (strOfNums p.1.name), .int .i64 p.1.place, p.2] from rfl, hp]
    rfl
  · rw [hfc 2 (by simp; omega)]
    rfl
  · rw [hfc 3 (by simp; omega)]
    rfl
theorem parse_told (s : ByteArray) (w : World) (hT : Tabs w) (hs : s.size ≤ 9223372036854775807) (code : Int) (p : Nat) (h : (rawT s).2 = (code, p)) :
    Calls Tryd.prog 11 #[.string s] w fun e w' => ∃ sa sn sc ea en ec ra rn rc, e = .returned (.tuple #[.agg #[.slice sa sn sc, .slice ea en ec, .slice ra rn rc], .agg #[.int .i64 code, .int .i64 (p : Nat)]]) ∧ Below w.heap.size w w' := by
  refine (parse_any s w hT hs).mono ?_
  rintro e w' ⟨ss, es, ts, sv, ev, rv, rfl, hx, hr, hb⟩
  rw [h]
  obtain ⟨sa, sc, ea, ec, ra, rc, rfl, rfl, rfl⟩ := hr.forms
  exact ⟨_, _, _, _, _, _, _, _, _, rfl, hb⟩
theorem two_new (W : World) (a : Array Value) (b : Array Value) (s t : TypeId) : ((W.alloc (.cells a s)).alloc (.cells b t)).heap[W.heap.size]? = some (.cells a s (0, 0)) ∧ ((W.alloc (.cells a s)).alloc (.cells b t)).heap[W.heap.size + 1]? = some (.cells b t (0, 0)) :=
  (parse_start W a b s t).2
def exOne : ByteArray := ⟨#[115, 116, 114, 117, 99, 116, 32, 65, 32, 123, 32, 120, 58, 32, 108, 105, 115, 116, 60, 117, 56, 62, 59, 32, 34, 195, 169, 34, 58, 32, 66, 32, 61, 32, 99, 59, 32, 125, 32, 114, 111, 111, 116, 32, 65, 59]⟩
def exTwo : ByteArray := ⟨#[115, 116, 114, 117, 99, 116, 32, 65, 32, 123, 32, 120, 32, 125]⟩
theorem raw_one : rawT exOne = (⟨[⟨[65], 7, [⟨[120], 11, ⟨[117, 56], 1, 14⟩, noTok⟩, ⟨[195, 169], 24, ⟨[66], 0, 30⟩, ⟨1, [99], 34⟩⟩]⟩], [], [⟨1, [65], 44⟩]⟩, 0, 0) := by kernel_rfl
theorem raw_two : rawT exTwo = (noRaw, 11, 13) := by kernel_rfl
set_option maxRecDepth 100000 in
set_option maxHeartbeats 2000000 in
theorem iawake_any (w : World) (hT : Tabs w) : Calls Tryd.prog 7 #[] w fun e w' => e = .returned (.bool true) ∧ Below w.heap.size w w' := by
  have HT := Lib.hid hT
  clear hT
  go_enter Tryd.func7, Tryd.ntmps7
  go_wp2_with fail
  refine (parse_one exOne w HT.out (by decide) _ _ _ (by rw [raw_one]) (by rw [raw_one]) rfl).mono ?_
  rintro e W1 ⟨gs, cs, ea, en, ec, ra, rn, rc, gf, cf, rfl, hcs, hgs, c1, hcf, hgf, c2, c3, hb1⟩
  have HB1 := Lib.hid hb1
  clear hb1 c2
  go_upto_region 2 with (fail)
  have HB2 := Lib.hid ((HB1.out.alloc HB1.out.size (.cells #[.slice (some ⟨gs, 0, none⟩) 1 cs, .slice ea en ec, .slice ra rn rc] 43)).alloc (by simp; have := HB1.out.size; omega) (.cells #[.int .i64 0, .int .i64 0] 46))
  have hq2 := two_new W1 #[.slice (some ⟨gs, 0, none⟩) 1 cs, .slice ea en ec, .slice ra rn rc] #[.int .i64 0, .int .i64 0] 43 46
  have HQ2 := Lib.hid hq2
  have hbb : Below W1.heap.size W1 ((W1.alloc (.cells #[.slice (some ⟨gs, 0, none⟩) 1 cs, .slice ea en ec, .slice ra rn rc] 43)).alloc (.cells #[.int .i64 0, .int .i64 0] 46)) := ((Below.refl _ _).alloc (Nat.le_refl _) _).alloc (by simp) _
  have HC1 := Lib.hid ((hbb.cell (p := ⟨gs, 2, none⟩) hgs).trans c1)
  have HC3 := Lib.hid ((hbb.cell (p := ⟨gf, 3, none⟩) hgf).trans c3)
  have hlt2 : W1.heap.size + 1 < ((W1.alloc (.cells #[.slice (some ⟨gs, 0, none⟩) 1 cs, .slice ea en ec, .slice ra rn rc] 43)).alloc (.cells #[.int .i64 0, .int .i64 0] 46)).heap.size := blk_lt hq2.2
  clear hbb c1 c3 hq2 HB1
  generalize (W1.alloc (.cells #[.slice (some ⟨gs, 0, none⟩) 1 cs, .slice ea en ec, .slice ra rn rc] 43)).alloc (.cells #[.int .i64 0, .int .i64 0] 46) = W2 at *
  go_wp2_with fail
  refine (parse_told exTwo _ (HT.out.below (Nat.le_refl _) HB2.out) (by decide) 11 13 (by rw [raw_two])).mono ?_
  rintro e W3 ⟨sa2, sn2, sc2, ea2, en2, ec2, ra2, rn2, rc2, rfl, hb3⟩
  have HB3 := Lib.hid (HB2.out.trans (hb3.mono HB2.out.size))
  have HQ3 := Lib.hid (show _ ∧ _ from ⟨blk_below HQ2.out.1 hb3 (blk_lt HQ2.out.1), blk_below HQ2.out.2 hb3 (blk_lt HQ2.out.2)⟩)
  have HD1 := Lib.hid ((hb3.cell (p := ⟨gs, 2, none⟩) (by show gs < _; omega)).trans HC1.out)
  have HD3 := Lib.hid ((hb3.cell (p := ⟨gf, 3, none⟩) (by show gf < _; omega)).trans HC3.out)
  have hs3 := hb3.size
  clear hb3 HC1 HC3 HQ2 HB2
  go_upto_region 3 with (fail)
  have HB4 := Lib.hid ((HB3.out.alloc HB3.out.size (.cells #[.slice sa2 sn2 sc2, .slice ea2 en2 ec2, .slice ra2 rn2 rc2] 43)).alloc (by simp; have := HB3.out.size; omega) (.cells #[.int .i64 11, .int .i64 13] 46))
  have HQ4 := Lib.hid (two_new W3 #[.slice sa2 sn2 sc2, .slice ea2 en2 ec2, .slice ra2 rn2 rc2] #[.int .i64 11, .int .i64 13] 43 46)
  have hbb : Below W3.heap.size W3 ((W3.alloc (.cells #[.slice sa2 sn2 sc2, .slice ea2 en2 ec2, .slice ra2 rn2 rc2] 43)).alloc (.cells #[.int .i64 11, .int .i64 13] 46)) := ((Below.refl _ _).alloc (Nat.le_refl _) _).alloc (by simp) _
  have HP4 := Lib.hid (show _ ∧ _ from ⟨blk_below HQ3.out.1 hbb (blk_lt HQ3.out.1), blk_below HQ3.out.2 hbb (blk_lt HQ3.out.2)⟩)
  have c1 := (hbb.cell (p := ⟨gs, 2, none⟩) (by show gs < _; omega)).trans HD1.out
  have c3 := (hbb.cell (p := ⟨gf, 3, none⟩) (by show gf < _; omega)).trans HD3.out
  clear hbb HD1 HD3 HQ3 HB3
  generalize (W3.alloc (.cells #[.slice sa2 sn2 sc2, .slice ea2 en2 ec2, .slice ra2 rn2 rc2] 43)).alloc (.cells #[.int .i64 11, .int .i64 13] 46) = W4 at *
  obtain ⟨_, r0, r1, r2, _⟩ := blk3 HP4.out.1
  obtain ⟨_, f0, f1, _⟩ := blk2 HP4.out.2
  obtain ⟨_, g0, g1, _⟩ := blk2 HQ4.out.2
  go_wp2
  go_ret
  exact ⟨rfl, HB4.out⟩
end Go.Proofs.YtmjmblbaojchcaaDoor
namespace Go.Proofs.YtmjmblbaojchcaaDoor
open Go.RowKit

section
variable {ok : List Int → Bool} {sg : Int → Bool} {a b : List Int}
theorem join_low (p : Int → Bool) {j : Nat} (h : j < a.length) : stA (a ++ 10 :: b) p j = stA a p j := stA_left _ _ p j h
theorem join_at {p : Int → Bool} (hp : p 10 = false) {j : Nat} (h : j ≤ a.length) : stA (a ++ 10 :: b) p j = stA a p j := by
  rcases Nat.lt_or_ge j a.length with h' | h'
  · exact join_low p h'
  · obtain rfl : j = a.length := by omega
    have := stA_right a (10 :: b) p 0
    rw [Nat.add_zero] at this
    rw [this, stA_ge (Nat.le_refl _), stA_of (by simp)]
    exact hp
theorem join_run {p : Int → Bool} (hp : p 10 = false) {i : Nat} (h : i ≤ a.length) : runTo (a ++ 10 :: b) p i = runTo a p i := by
  have hk := runTo_le a p i h
  refine runTo_unique (runTo_ge a p i) (fun j h1 h2 => ?_) ?_
  · rw [join_at hp (by omega)]
    exact runTo_all a p i j h1 h2
  · rw [join_at hp hk]
    exact runTo_end a p i
theorem join_sub {i j : Nat} (h : j ≤ a.length) (hi : i ≤ j) : sub (a ++ 10 :: b) i j = sub a i j := by
  unfold sub
  rw [List.drop_append_of_le_length (by omega), List.take_append_of_le_length (by rw [List.length_drop]; omega)]
theorem join_minus {i : Nat} (h : i ≤ a.length) : minusTo (a ++ 10 :: b) i = minusTo a i := by
  unfold minusTo
  rw [join_at (by decide) h]
theorem minus_le {i : Nat} (h : i ≤ a.length) : i ≤ minusTo a i ∧ minusTo a i ≤ a.length := by
  unfold minusTo
  split
  · rename_i h1
    have := stA_lt h1
    omega
  · omega
theorem join_numEnd {i : Nat} (h : i ≤ a.length) : numEnd (a ++ 10 :: b) i = numEnd a i := by
  unfold numEnd
  rw [join_minus h, join_run (by decide) (minus_le h).2]
theorem join_numBad {i : Nat} (h : i ≤ a.length) : numBad (a ++ 10 :: b) i = numBad a i := by
  have h1 := (minus_le h).2
  have h2 := runTo_le a isDig _ h1
  unfold numBad zeroAhead
  rw [join_minus h, join_run (by decide) h1, join_at (by decide) h2, join_at (by decide) h1, join_at (by decide) h]
theorem join_begins {i : Nat} (h : i < a.length) : begins (a ++ 10 :: b) i = begins a i := by
  unfold begins
  rw [join_at (by decide) (by omega), join_at (by decide) (by omega), join_at (by decide) (by omega)]
theorem join_quoEnd {i : Nat} (h : i < a.length) : quoEnd (a ++ 10 :: b) i = quoEnd a i := join_run (by decide) (by omega)
theorem join_quoBad {i : Nat} (h : i < a.length) : quoBad ok (a ++ 10 :: b) i = quoBad ok a i := by
  have h1 : quoEnd a i ≤ a.length := runTo_le a isPlain (i + 1) (by omega)
  have h2 : i + 1 ≤ quoEnd a i := runTo_ge _ _ _
  unfold quoBad
  rw [join_quoEnd h, join_at (by decide) h1, join_sub h1 h2]
/-- A token of the one text is found in both together. -/
theorem join_tok (hsg : sg 10 = false) {i : Nat} (h : i < a.length) : tok ok sg (a ++ 10 :: b) i = tok ok sg a i := by
  have hl : i ≠ (a ++ 10 :: b).length := by simp; omega
  have hl' : i ≠ a.length := by omega
  have hm := minus_le (Nat.le_of_lt h)
  have q1 : quoEnd a i ≤ a.length := runTo_le a isPlain (i + 1) (by omega)
  have q2 : i + 1 ≤ quoEnd a i := runTo_ge _ _ _
  have n1 : numEnd a i ≤ a.length := runTo_le _ _ _ hm.2
  have n2 : i ≤ numEnd a i := Nat.le_trans hm.1 (runTo_ge _ _ _)
  unfold tok
  rw [if_neg hl, if_neg hl', join_at (by decide) (Nat.le_of_lt h), join_begins h, join_at (by decide) (Nat.le_of_lt h), join_at hsg (Nat.le_of_lt h), join_numBad (Nat.le_of_lt h), join_quoBad h,
    join_run (p := fun c => isLet c || isDig c) (by decide) (Nat.le_of_lt h), join_numEnd (Nat.le_of_lt h), join_quoEnd h,
    join_sub (runTo_le _ _ _ (Nat.le_of_lt h)) (runTo_ge _ _ _), join_sub n1 n2, join_sub q1 q2, join_sub (by omega) (by omega)]
theorem join_slash {i : Nat} (h : i < a.length) : slash2 (a ++ 10 :: b) i = slash2 a i := by
  unfold slash2
  rw [join_at (by decide) (by omega), join_at (by decide) (by omega)]
/-- Blanks and remarks of the one text, and what follows them. -/
theorem join_gap : ∀ (m i : Nat), a.length ≤ m + i → i ≤ a.length → (gap a i < a.length ∧ gap (a ++ 10 :: b) i = gap a i) ∨ (gap a i = a.length ∧ gap (a ++ 10 :: b) i = gap (a ++ 10 :: b) (a.length + 1)) := by
  intro m
  induction m with
  | zero =>
    intro i h1 h2
    obtain rfl : i = a.length := by omega
    refine .inr ⟨gap_end (Nat.le_refl _), gap_blank ?_⟩
    have := stA_right a (10 :: b) isBlank 0
    rw [Nat.add_zero] at this
    rw [this, stA_of (by simp)]
    rfl
  | succ m ih =>
    intro i h1 h2
    rcases Nat.lt_or_ge i a.length with hi | hi
    · cases hb : stA a isBlank i
      · cases hs : slash2 a i
        · refine .inl ⟨?_, ?_⟩
          · rw [gap_stop hb hs]; exact hi
          · rw [gap_stop hb hs, gap_stop (by rw [join_low _ hi]; exact hb) (by rw [join_slash hi]; exact hs)]
        · have hr := slash2_run hs
          have hle := runTo_le a notLf i h2
          rw [gap_remark hs, gap_remark (show slash2 (a ++ 10 :: b) i = true by rw [join_slash hi]; exact hs), join_run (by decide) h2]
          exact ih _ (by omega) hle
      · rw [gap_blank hb, gap_blank (show stA (a ++ 10 :: b) isBlank i = true by rw [join_low _ hi]; exact hb)]
        exact ih _ (by omega) (by omega)
    · exact ih i (by omega) h2
theorem gap_drop (zs : List Int) (m : Nat) (hm : m ≤ zs.length) : ∀ (n j : Nat), zs.length ≤ n + (m + j) → gap zs (m + j) = m + gap (zs.drop m) j := by
  intro n
  induction n with
  | zero =>
    intro j h
    rw [gap_end (by omega), gap_end (by rw [List.length_drop]; omega)]
  | succ n ih =>
    intro j h
    cases hb : stA (zs.drop m) isBlank j
    · cases hs : slash2 (zs.drop m) j
      · have hs' : slash2 zs (m + j) = false := by
          unfold slash2 at hs ⊢
          rw [stA_drop, Nat.add_assoc, stA_drop]
          exact hs
        rw [gap_stop hb hs, gap_stop (by rw [stA_drop]; exact hb) hs']
      · have hs' : slash2 zs (m + j) = true := by
          unfold slash2 at hs ⊢
          rw [stA_drop, Nat.add_assoc, stA_drop]
          exact hs
        have hr := slash2_run hs
        rw [gap_remark hs, gap_remark hs', runTo_drop]
        exact ih _ (by omega)
    · rw [gap_blank hb, gap_blank (show stA zs isBlank (m + j) = true by rw [stA_drop]; exact hb), Nat.add_assoc]
      exact ih _ (by omega)
/-- A token further on. -/
def moved (m : Nat) (t : Tok) : Tok := ⟨t.kind, t.text, m + t.place⟩
theorem tok_shift (zs : List Int) (m j : Nat) (h : m + j ≤ zs.length) : tok ok sg zs (m + j) = (tok ok sg (zs.drop m) j).map fun x => (moved m x.1, m + x.2) := by
  rw [tok_drop ok sg zs (m + j) h, tok_drop ok sg (zs.drop m) j (by rw [List.length_drop]; omega), List.drop_drop, Option.map_map]
  congr 1
  funext x
  unfold shiftT moved
  simp [Nat.add_assoc]
theorem chain_shift {zs : List Int} {m : Nat} (hm : m ≤ zs.length) : ∀ (l : List Tok) (j : Nat), m + j ≤ zs.length → Chain ok sg (zs.drop m) j l → Chain ok sg zs (m + j) (l.map (moved m))
  | [], _, _, h => h.elim
  | t :: r, j, hj, h => by
    obtain ⟨e, h1, h2⟩ := h
    have hg := gap_le (zs.drop m) j (by rw [List.length_drop]; omega)
    have he := tok_le hg h1
    rw [List.length_drop] at hg he
    refine ⟨m + e, ?_, ?_⟩
    · rw [gap_drop zs m hm zs.length j (by omega), tok_shift zs m _ (by omega), h1]
      rfl
    · rcases h2 with ⟨h3, rfl⟩ | ⟨h3, h4⟩
      · exact .inl ⟨h3, rfl⟩
      · exact .inr ⟨h3, chain_shift hm r e (by omega) h4⟩
theorem chain_gap {zs : List Int} {i j : Nat} (h : gap zs i = gap zs j) : ∀ (l : List Tok), Chain ok sg zs j l → Chain ok sg zs i l
  | [], hc => hc.elim
  | t :: r, hc => by
    obtain ⟨e, h1, h2⟩ := hc
    exact ⟨e, by rw [h]; exact h1, h2⟩
theorem tok_kind0 {zs : List Int} {i e : Nat} {t : Tok} (h : tok ok sg zs i = some (t, e)) (h0 : t.kind = 0) : i = zs.length := by
  rcases Nat.lt_trichotomy i zs.length with hi | hi | hi
  · exfalso
    unfold tok at h
    rw [if_neg (by omega)] at h
    split at h
    · cases h; cases h0
    split at h
    · split at h
      · cases h
      · cases h; cases h0
    split at h
    · split at h
      · cases h
      · cases h; cases h0
    split at h
    · cases h; cases h0
    · cases h
  · exact hi
  · exfalso
    unfold tok begins at h
    rw [if_neg (by omega), stA_ge (by omega), stA_ge (by omega), stA_ge (by omega), stA_ge (by omega), stA_ge (by omega)] at h
    simp at h
    have := stA_lt h.1
    omega
theorem tok_kind1 {zs : List Int} {i e : Nat} {t : Tok} (hi : i ≤ zs.length) (h : tok ok sg zs i = some (t, e)) (h0 : t.kind ≠ 0) : i < zs.length := by
  rcases Nat.lt_or_ge i zs.length with h' | h'
  · exact h'
  · rw [tok_end (by omega)] at h
    cases h
    exact absurd rfl h0
/-- The tokens of both. -/
theorem chain_join (hsg : sg 10 = false) {l2 : List Tok} (h2 : Chain ok sg b 0 l2) : ∀ (l : List Tok) (i : Nat), i ≤ a.length → Chain ok sg a i l → Chain ok sg (a ++ 10 :: b) i (l.dropLast ++ l2.map (moved (a.length + 1)))
  | [], _, _, h => h.elim
  | t :: r, i, hi, h => by
    obtain ⟨e, h1, h3⟩ := h
    have hg := gap_le a i hi
    have hn : a.length + 1 ≤ (a ++ 10 :: b).length := by simp
    rcases h3 with ⟨h4, rfl⟩ | ⟨h4, h5⟩
    · have hge := tok_kind0 h1 h4
      rcases join_gap (b := b) a.length i (by omega) hi with ⟨h6, _⟩ | ⟨_, h6⟩
      · omega
      · refine chain_gap h6 _ ?_
        have hd : (a ++ 10 :: b).drop (a.length + 1) = b := by
          rw [← List.drop_drop, List.drop_left]
          rfl
        have := chain_shift (ok := ok) (sg := sg) hn l2 0 (by omega) (by rw [hd]; exact h2)
        exact this
    · have hlt := tok_kind1 hg h1 h4
      have he := tok_le hg h1
      rcases join_gap (b := b) a.length i (by omega) hi with ⟨_, h6⟩ | ⟨h6, _⟩
      · have hr : r ≠ [] := by
          rintro rfl
          exact h5
        rw [List.dropLast_cons_of_ne_nil hr]
        refine ⟨e, ?_, .inr ⟨h4, chain_join hsg h2 r e he h5⟩⟩
        rw [h6, join_tok hsg hlt]
        exact h1
      · omega
theorem chain_toks {zs : List Int} : ∀ (f i : Nat) (l0 l : List Tok), f + l0.length = 2049 → Chain ok sg zs i l → l0.length + l.length ≤ 2048 → toksF ok sg zs f i l0 = (l0 ++ l, 0, 0)
  | _, _, _, [], _, h, _ => h.elim
  | 0, _, _, t :: r, hf, _, hl => by simp at hl; omega
  | f + 1, i, l0, t :: r, hf, h, hl => by
    obtain ⟨e, h1, h2⟩ := h
    simp at hl
    simp only [toksF]
    rw [if_neg (by omega), h1]
    simp only
    rcases h2 with ⟨h3, rfl⟩ | ⟨h3, h4⟩
    · rw [if_pos h3]
    · rw [if_neg h3, chain_toks f e (l0 ++ [t]) r (by simp; omega) h4 (by simp; omega)]
      simp
theorem chain_many {zs : List Int} : ∀ (f i : Nat) (l0 l : List Tok), f + l0.length = 2049 → l0.length ≤ 2048 → Chain ok sg zs i l → 2048 < l0.length + l.length → (toksF ok sg zs f i l0).2.1 = 16
  | _, _, _, [], _, _, h, _ => h.elim
  | 0, _, _, t :: r, hf, hl0, _, hl => by omega
  | f + 1, i, l0, t :: r, hf, hl0, h, hl => by
    obtain ⟨e, h1, h2⟩ := h
    simp at hl
    simp only [toksF]
    by_cases h5 : l0.length = 2048
    · rw [if_pos h5]
    · rw [if_neg h5, h1]
      simp only
      rcases h2 with ⟨h3, rfl⟩ | ⟨h3, h4⟩
      · simp at hl; omega
      · rw [if_neg h3]
        exact chain_many f e (l0 ++ [t]) r (by simp; omega) (by simp; omega) h4 (by simp; omega)
theorem toks_of_chain {zs : List Int} {l : List Tok} (hz : zs.length ≤ 8192) (h : Chain ok sg zs 0 l) : toks ok sg zs = (l, 0, 0) ∧ l.length ≤ 2048 ∨ (toks ok sg zs).2.1 = 16 := by
  unfold toks
  rw [if_neg (by omega)]
  by_cases hl : l.length ≤ 2048
  · exact .inl ⟨by rw [chain_toks 2049 0 [] l rfl h (by simpa using hl)]; rfl, hl⟩
  · exact .inr (chain_many 2049 0 [] l rfl (Nat.zero_le _) h (by simp; omega))
end
end Go.Proofs.YtmjmblbaojchcaaDoor
