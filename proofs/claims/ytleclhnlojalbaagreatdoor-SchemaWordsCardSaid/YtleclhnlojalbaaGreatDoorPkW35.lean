/-
  The document's own One, at a text's end and at a name: the token at a place, and the place behind it. Conditions: those that each theorem names.
-/
import Derived.Test.YtleclhnlojalbaaGreatDoorPkW9
import Derived.Test.YtleclhnlojalbaaGreatDoorPkW10
import Derived.Test.YtleclhnlojalbaaGreatDoorPkW11
import Derived.Test.YtleclhnlojalbaaGreatDoorPkW33
import Derived.Test.YtleclhnlojalbaaGreatDoorPkW34
import Derived.Deep.Cut
namespace Go.Proofs.YtleclhnlojalbaaGreatDoor
open Go.ChangeShapes Go.WideShapes Go.ChangeAt Go.RowKit Go.Shelf

theorem full_length (t : Tok) : t.text.length + (if t.kind = 3 then 2 else 0) = (full t).length := by
  unfold full
  split <;> simp
theorem text_bd {ok : List Int → Bool} {sg : Int → Bool} {s : ByteArray} {i e : Nat} {t : Tok} (_ : Fine ok sg t) (h : sub (bts s) i e = full t) : ∀ z ∈ t.text, 0 ≤ z ∧ z ≤ 255 := by
  intro z hz
  have h1 : z ∈ full t := by
    unfold full
    split
    · exact List.mem_cons_of_mem _ (List.mem_append_left _ hz)
    · exact hz
  rw [← h] at h1
  have h2 : z ∈ bts s := List.mem_of_mem_drop (List.mem_of_mem_take h1)
  obtain ⟨j, hj, rfl⟩ := List.mem_iff_getElem.1 h2
  have := bts_bd s j
  rw [List.getD, List.getElem?_eq_getElem hj] at this
  exact this
theorem bts_inj {a b : ByteArray} (h : bts a = bts b) : a = b := by
  have h1 := bts_toList a b.data.toList
  have h2 : a.toList = b.data.toList := by
    have : (a.toList == b.data.toList) = true := by rw [h1]; exact decide_eq_true h
    exact beq_iff_eq.1 this
  rw [ByteArray.toList_eq] at h2
  exact bytes_inj h2
theorem bts_part (s : ByteArray) (i j : Nat) : bts (s.extract i j) = sub (bts s) i j := by
  unfold bts sub
  rw [Lib.extract_data]
  simp
theorem chain_all {s : ByteArray} {sg : Int → Bool} : ∀ (l : List Tok) (i : Nat), i ≤ (bts s).length → Left okU sg (bts s) i l → ∀ t ∈ l, Fine okU sg t ∧ (full t).length ≤ s.size ∧ ∀ z ∈ t.text, 0 ≤ z ∧ z ≤ 255
  | [], _, _, _, t, h => by cases h
  | a :: r, i, hi, hl, t, h => by
    obtain ⟨f1, _, f3, f4, _, f6⟩ := left_step hi hl
    rcases List.mem_cons.1 h with rfl | h
    · refine ⟨f1, ?_, text_bd f1 f4⟩
      rw [bts_length] at f3
      omega
    · exact chain_all r _ f3 f6 t h
end Go.Proofs.YtleclhnlojalbaaGreatDoor
namespace Go.Proofs.YtleclhnlojalbaaGreatDoor
open Go.ChangeShapes Go.WideShapes Go.ChangeAt Go.RowKit Go.Shelf

def idlSigns : ByteArray := ⟨#[123, 125, 58, 59, 61, 44, 60, 62]⟩
def rawL : List Tok × Int × Nat → RRaw × Int × Nat
  | (l, code, p) => if code = 0 then (match schemaL noRaw l with
    | .ok a _ => (a, 0, 0)
    | .no c q => (noRaw, c, q)) else (noRaw, code, p)
def rawT (s : ByteArray) : RRaw × Int × Nat := rawL (toks okU (amg idlSigns) (bts s))
theorem chain_ends : ∀ (l : List Tok), EndLast l → (∀ t ∈ l, t.kind = 0 → t.text = []) → Ends l
  | [], h, _ => h
  | t :: r, h, ht => by
    rcases h with ⟨h1, h2⟩ | ⟨h1, h2⟩
    · exact .inl ⟨h1, ht t List.mem_cons_self h1, h2⟩
    · exact .inr ⟨h1, chain_ends r h2 (fun u hu => ht u (List.mem_cons_of_mem _ hu))⟩
theorem toks_good {s : ByteArray} {sg : Int → Bool} {l : List Tok} {p : Nat} (h : toks okU sg (bts s) = (l, 0, p)) : Ends l ∧ l.length ≤ 2048 ∧ ∀ t ∈ l, ∀ z ∈ t.text, 0 ≤ z ∧ z ≤ 255 := by
  obtain ⟨hc, hl⟩ := toks_chain h
  have ha := chain_all (s := s) l 0 (Nat.zero_le _) (.inr hc)
  refine ⟨chain_ends l (chain_last l 0 hc) (fun t ht h0 => ?_), hl, fun t ht => (ha t ht).2.2⟩
  rcases (ha t ht).1 with h | h | h | h | h
  · exact h.2
  all_goals omega
def ParsePost (w : World) (x : RRaw × Int × Nat) (e : Ending) (w' : World) : Prop :=
  ∃ ss es ts sv ev rv, e = .returned (.tuple #[.agg #[sv, ev, rv], .agg #[.int .i64 x.2.1, .int .i64 (x.2.2 : Nat)]]) ∧ x.1 = rawOf ss es ts ∧ RawRows w.heap.size w' ss es ts sv ev rv ∧ Below w.heap.size w w'
theorem rows_nil (base : Nat) (W : World) : RawRows base W [] [] [] (.slice none 0 0) (.slice none 0 0) (.slice none 0 0) :=
  ⟨World.ownsRow_nil _ _ _ _, World.ownsRow_nil _ _ _ _, World.ownsRow_nil _ _ _ _, (fun p hp => by cases hp), (fun p hp => by cases hp)⟩
theorem parse_none {w w' : World} {x : RRaw × Int × Nat} {code : Int} {p : Nat} (hx : x = (noRaw, code, p)) (hb : Below w.heap.size w w') :
    ParsePost w x (.returned (.tuple #[.agg #[.slice none 0 0, .slice none 0 0, .slice none 0 0], .agg #[.int .i64 code, .int .i64 (p : Nat)]])) w' := by
  subst hx
  exact ⟨[], [], [], _, _, _, rfl, rfl, rows_nil _ _, hb⟩
theorem parse_start (w : World) (a b : Array Value) (s t : TypeId) : Below w.heap.size w ((w.alloc (.cells a s)).alloc (.cells b t)) ∧ ((w.alloc (.cells a s)).alloc (.cells b t)).heap[w.heap.size]? = some (.cells a s (0, 0)) ∧ ((w.alloc (.cells a s)).alloc (.cells b t)).heap[w.heap.size + 1]? = some (.cells b t (0, 0)) := by
  refine ⟨((Below.refl _ _).alloc (Nat.le_refl _) _).alloc (by simp) _, blk_alloc (heap_alloc_new w _) _, ?_⟩
  have := heap_alloc_new (w.alloc (.cells a s)) (.cells b t)
  rwa [World.size_alloc] at this
def set5 (W : World) (g : Nat) (x y z u v : Value) : World := ((((W.setCell ⟨g, 0, none⟩ x).setCell ⟨g, 1, none⟩ y).setCell ⟨g, 2, none⟩ z).setCell ⟨g + 1, 0, none⟩ u).setCell ⟨g + 1, 1, none⟩ v
structure PEnd (w : World) (x y z u v : Value) (W : World) : Prop where
  raw : W.heap[w.heap.size]? = some (.cells #[x, y, z] 69 (0, 0))
  flt : W.heap[w.heap.size + 1]? = some (.cells #[u, v] 43 (0, 0))
  bel : Below w.heap.size w W
theorem pend {w W : World} {a b c d e : Value} (hz : W.heap[w.heap.size]? = some (.cells #[a, b, c] 69 (0, 0))) (hf : W.heap[w.heap.size + 1]? = some (.cells #[d, e] 43 (0, 0))) (hb : Below w.heap.size w W) (x y z u v : Value) : PEnd w x y z u v (set5 W w.heap.size x y z u v) := by
  have h3 := blk_set3 hz x y z
  refine ⟨?_, ?_, ((((hb.setCell (p := ⟨w.heap.size, 0, none⟩) (Nat.le_refl _) x).setCell (p := ⟨w.heap.size, 1, none⟩) (Nat.le_refl _) y).setCell (p := ⟨w.heap.size, 2, none⟩) (Nat.le_refl _) z).setCell (p := ⟨w.heap.size + 1, 0, none⟩) (Nat.le_succ _) u).setCell (p := ⟨w.heap.size + 1, 1, none⟩) (Nat.le_succ _) v⟩
  · exact blk_set_ne (blk_set_ne h3 (by simp only; omega) _) (by simp only; omega) _
  · exact blk_set2 (blk_set_ne (blk_set_ne (blk_set_ne hf (by simp only; omega) _) (by simp only; omega) _) (by simp only; omega) _) u v
theorem PEnd.drew {w W : World} {x y z u v : Value} (h : PEnd w x y z u v W) : PEnd w x y z u v W.drew := ⟨h.raw, h.flt, h.bel.drew⟩
theorem RawRows.set5 {base : Nat} {W : World} {ss : List (RRec × Value)} {es : List (RCho × Value)} {ts : List Tok} {sv ev rv : Value} (h : RawRows base W ss es ts sv ev rv) {g : Nat} (hg : g + 1 < base) (x y z u v : Value) : RawRows base (set5 W g x y z u v) ss es ts sv ev rv :=
  ((h.exc (exc_set3 W g x y z) (by omega)).exc (exc_set _ (g + 1) 0 u) hg).exc (exc_set _ (g + 1) 1 v) hg
theorem RawRows.drew {base : Nat} {W : World} {ss : List (RRec × Value)} {es : List (RCho × Value)} {ts : List Tok} {sv ev rv : Value} (h : RawRows base W ss es ts sv ev rv) : RawRows base W.drew ss es ts sv ev rv := h.below (Below.refl _ _).drew
set_option maxRecDepth 100000 in
set_option maxHeartbeats 2000000 in
theorem parse_fault (s : ByteArray) (w : World) (hT : Tabs w) (hs : s.size ≤ 9223372036854775807) (l : List Tok) (code : Int) (p : Nat) (hr : toks okU (amg idlSigns) (bts s) = (l, code, p)) (hc : code ≠ 0) :
    Calls Tryz.prog 29 #[.string s] w (ParsePost w (rawT s)) := by
  have HX : Hid (rawT s = (noRaw, code, p)) := Lib.hid (by unfold rawT; rw [hr]; exact if_neg hc)
  obtain ⟨hb0, hz0, hf0⟩ := parse_start w #[.slice none 0 0, .slice none 0 0, .slice none 0 0] #[.int .i64 0, .int .i64 0] 69 43
  have HL := Lib.hid (lexTokens_any s idlSigns _ (hT.below (Nat.le_refl _) hb0) hs)
  rw [hr] at HL
  have HB0 := Lib.hid hb0
  have HZ0 := Lib.hid hz0
  have HF0 := Lib.hid hf0
  have hlt : w.heap.size + 1 < _ := blk_lt hf0
  have hcz : (code != 0) = true := bne_iff_ne.2 hc
  clear hb0 hz0 hf0 hT hr hc
  go_enter Tryz.func29, Tryz.ntmps29
  go_upto_region 1 with (fail)
  generalize ((w.alloc (.cells #[.slice none 0 0, .slice none 0 0, .slice none 0 0] 69)).alloc (.cells #[.int .i64 0, .int .i64 0] 43)) = W0 at *
  go_wp2_with fail
  refine HL.out.mono ?_
  rintro e W1 ⟨v, rfl, _, hb1⟩
  have HB1 := Lib.hid (HB0.out.trans (hb1.mono (by omega)))
  have HZ1 := Lib.hid (blk_below HZ0.out hb1 (blk_lt HZ0.out))
  have HF1 := Lib.hid (blk_below HF0.out hb1 (blk_lt HF0.out))
  clear hb1
  simp only
  go_upto_region 2 with (fail)
  have HB2 := Lib.hid (HB1.out.alloc HB1.out.size (.cells #[.int .i64 code, .int .i64 (p : Nat)] 43))
  have HZ2 := Lib.hid (blk_alloc HZ1.out (.cells #[.int .i64 code, .int .i64 (p : Nat)] 43))
  have HF2 := Lib.hid (blk_alloc HF1.out (.cells #[.int .i64 code, .int .i64 (p : Nat)] 43))
  have HT2 := Lib.hid (heap_alloc_new W1 (.cells #[.int .i64 code, .int .i64 (p : Nat)] 43))
  have hlt1 : w.heap.size + 1 < W1.heap.size := blk_lt HF1.out
  clear HB1 HZ1 HF1
  generalize W1.alloc (.cells #[.int .i64 code, .int .i64 (p : Nat)] 43) = W2 at *
  generalize W1.heap.size = BT at *
  obtain ⟨_, t0, t1, _⟩ := blk2 HT2.out
  obtain ⟨hz, z0, z1, z2, y0, y1, y2⟩ := blk3 HZ2.out
  obtain ⟨hf, f0, f1, g0, g1⟩ := blk2 HF2.out
  go_wp2_with fail
  go_region_with (fail)
  all_goals
    go_wp2
    refine post_gen (PEnd w (.slice none 0 0) (.slice none 0 0) (.slice none 0 0) (.int .i64 code) (.int .i64 (p : Nat))) ?_ ?_
    · first
        | exact (pend HZ2.out HF2.out HB2.out _ _ _ _ _).drew
        | exact pend (w := w) (W := W2.drew) HZ2.out HF2.out HB2.out.drew _ _ _ _ _
    · rintro Wf ⟨e1, e2, e3⟩
      obtain ⟨_, c0, c1, c2, _⟩ := blk3 e1
      obtain ⟨_, d0, d1, _⟩ := blk2 e2
      exact bodyPost_ret (v := .tuple #[.agg #[.slice none 0 0, .slice none 0 0, .slice none 0 0], .agg #[.int .i64 code, .int .i64 (p : Nat)]]) (by simp [results, Tryz.results29, go_sem, c0, c1, c2, d0, d1]) rfl (parse_none HX.out e3)
theorem rd_start {W : World} {g c : Nat} {l : List Tok} (hg : g < W.heap.size) (hcells : ∀ k, k < l.length * 3 → W.cell? ⟨g, k, none⟩ = (toksCells l)[k]?) (hc : l.length ≤ c) (hm : c ≤ maxLen) (he : Ends l) (hb : ∀ t ∈ l, ∀ z ∈ t.text, 0 ≤ z ∧ z ≤ 255) :
    Rd (W.alloc (.cells #[.slice (some ⟨g, 0, none⟩) l.length c, .int .i64 0, .int .i64 0] 144)) W.heap.size g c l l (0, 0) := by
  have hbel : Below W.heap.size W (W.alloc (.cells #[.slice (some ⟨g, 0, none⟩) l.length c, .int .i64 0, .int .i64 0] 144)) := (Below.refl _ _).alloc (Nat.le_refl _) _
  refine ⟨?_, by rw [Nat.sub_self]; rfl, Nat.le_refl _, Nat.lt_of_lt_of_le hg hbel.size, Nat.ne_of_lt hg, fun k hk => (hbel.cell (p := ⟨g, k, none⟩) hg).trans (hcells k hk), ⟨hc, hm⟩, he, hb⟩
  rw [heap_alloc_new W _, Nat.sub_self]
  rfl
set_option maxRecDepth 100000 in
set_option maxHeartbeats 2000000 in
theorem parse_good (s : ByteArray) (w : World) (hT : Tabs w) (hs : s.size ≤ 9223372036854775807) (l : List Tok) (p : Nat) (hr : toks okU (amg idlSigns) (bts s) = (l, 0, p)) :
    Calls Tryz.prog 29 #[.string s] w (ParsePost w (rawT s)) := by
  have HX : Hid (rawT s = match schemaL noRaw l with
    | .ok a _ => (a, 0, 0)
    | .no c q => (noRaw, c, q)) := Lib.hid (by unfold rawT; rw [hr]; rfl)
  obtain ⟨hend, hlen, hbyt⟩ := toks_good hr
  have HEND := Lib.hid hend
  have HBYT := Lib.hid hbyt
  obtain ⟨hb0, hz0, hf0⟩ := parse_start w #[.slice none 0 0, .slice none 0 0, .slice none 0 0] #[.int .i64 0, .int .i64 0] 69 43
  have HL := Lib.hid (lexTokens_any s idlSigns _ (hT.below (Nat.le_refl _) hb0) hs)
  rw [hr] at HL
  have HB0 := Lib.hid hb0
  have HZ0 := Lib.hid hz0
  have HF0 := Lib.hid hf0
  have hlt : w.heap.size + 1 < _ := blk_lt hf0
  clear hb0 hz0 hf0 hT hr hend hbyt
  go_enter Tryz.func29, Tryz.ntmps29
  go_upto_region 1 with (fail)
  generalize ((w.alloc (.cells #[.slice none 0 0, .slice none 0 0, .slice none 0 0] 69)).alloc (.cells #[.int .i64 0, .int .i64 0] 43)) = W0 at *
  go_wp2_with fail
  refine HL.out.mono ?_
  rintro e W1 ⟨v, rfl, ho, hb1⟩
  obtain ⟨g, c, rfl, hc, hgb, hg, hcells⟩ := ho.cells HEND.out.ne
  have hcm : c ≤ maxLen := by
    rcases ho.2 with ⟨h, _⟩ | ⟨g', cap', cur, h, _, _, _, hm, _⟩
    · cases h
    · injection h with _ _ h
      subst h
      exact hm
  have HC := Lib.hid hcells
  have HB1 := Lib.hid (HB0.out.trans (hb1.mono (by omega)))
  have HZ1 := Lib.hid (blk_below HZ0.out hb1 (blk_lt HZ0.out))
  have HF1 := Lib.hid (blk_below HF0.out hb1 (blk_lt HF0.out))
  clear hb1 ho hcells
  simp only
  go_upto_region 2 with (fail)
  have hlt1 : w.heap.size + 1 < W1.heap.size := blk_lt HF1.out
  have HB2 := Lib.hid (HB1.out.alloc HB1.out.size (.cells #[.int .i64 0, .int .i64 (p : Nat)] 43))
  have HZ2 := Lib.hid (blk_alloc HZ1.out (.cells #[.int .i64 0, .int .i64 (p : Nat)] 43))
  have HF2 := Lib.hid (blk_alloc HF1.out (.cells #[.int .i64 0, .int .i64 (p : Nat)] 43))
  have HT2 := Lib.hid (heap_alloc_new W1 (.cells #[.int .i64 0, .int .i64 (p : Nat)] 43))
  have HC2 := Lib.hid (show ∀ k, k < l.length * 3 → (W1.alloc (.cells #[.int .i64 0, .int .i64 (p : Nat)] 43)).cell? ⟨g, k, none⟩ = (toksCells l)[k]? from fun k hk => (((Below.refl _ W1).alloc (Nat.le_refl _) (.cells #[.int .i64 0, .int .i64 (p : Nat)] 43)).cell (p := ⟨g, k, none⟩) hg).trans (HC.out k hk))
  have hg2 : g < (W1.alloc (.cells #[.int .i64 0, .int .i64 (p : Nat)] 43)).heap.size := by simp; omega
  clear HB1 HZ1 HF1 HC
  generalize W1.alloc (.cells #[.int .i64 0, .int .i64 (p : Nat)] 43) = W2 at *
  generalize W1.heap.size = BT at *
  obtain ⟨_, t0, t1, _⟩ := blk2 HT2.out
  go_upto_region 5 with (fail)
  have hlt2 : w.heap.size + 1 < W2.heap.size := blk_lt HF2.out
  have HRD := Lib.hid (rd_start hg2 HC2.out hc hcm HEND.out HBYT.out)
  have HB3 := Lib.hid (HB2.out.alloc HB2.out.size (.cells #[.slice (some ⟨g, 0, none⟩) l.length c, .int .i64 0, .int .i64 0] 144))
  have HZ3 := Lib.hid (blk_alloc HZ2.out (.cells #[.slice (some ⟨g, 0, none⟩) l.length c, .int .i64 0, .int .i64 0] 144))
  have HF3 := Lib.hid (blk_alloc HF2.out (.cells #[.slice (some ⟨g, 0, none⟩) l.length c, .int .i64 0, .int .i64 0] 144))
  clear HB2 HZ2 HF2 HC2 t0 t1
  have hR3 : W2.heap.size < (W2.alloc (.cells #[.slice (some ⟨g, 0, none⟩) l.length c, .int .i64 0, .int .i64 0] 144)).heap.size := by simp
  generalize W2.alloc (.cells #[.slice (some ⟨g, 0, none⟩) l.length c, .int .i64 0, .int .i64 0] 144) = W3 at *
  generalize W2.heap.size = R at *
  go_wp2_with fail
  refine (schema_any W3 R g c l l hlen HRD.out).mono ?_
  rintro e W4 hp
  have HP := Lib.hid hp
  clear hp
  generalize schemaL noRaw l = q at *
  obtain ⟨a', r'⟩ | ⟨cc, pp⟩ := q
  · obtain ⟨ss, es, ts, sv, ev, rv, rfl, rfl, hrow, hrd, hx⟩ := HP.out
    obtain ⟨sa, sc, ea, ec, ra, rc, rfl, rfl, rfl⟩ := hrow.forms
    have HB4 := Lib.hid (HB3.out.trans ((hx.mono (by omega : w.heap.size ≤ W3.heap.size)).below (by omega)))
    have HZ4 := Lib.hid (blk_exc HZ3.out hx (by omega) (by omega))
    have HF4 := Lib.hid (blk_exc HF3.out hx (by omega) (by omega))
    have HROW := Lib.hid hrow
    clear hrow hrd hx HP
    go_upto_region 6 with (fail)
    have hs4 : w.heap.size + 1 < W4.heap.size := blk_lt HF4.out
    have HB5 := Lib.hid (HB4.out.alloc HB4.out.size (.cells #[.slice sa ss.length sc, .slice ea es.length ec, .slice ra ts.length rc] 69))
    have HZ5 := Lib.hid (blk_alloc HZ4.out (.cells #[.slice sa ss.length sc, .slice ea es.length ec, .slice ra ts.length rc] 69))
    have HF5 := Lib.hid (blk_alloc HF4.out (.cells #[.slice sa ss.length sc, .slice ea es.length ec, .slice ra ts.length rc] 69))
    have HT5 := Lib.hid (heap_alloc_new W4 (.cells #[.slice sa ss.length sc, .slice ea es.length ec, .slice ra ts.length rc] 69))
    have HR5 := Lib.hid (HROW.out.below ((Below.refl _ _).alloc (Nat.le_refl _) (.cells #[.slice sa ss.length sc, .slice ea es.length ec, .slice ra ts.length rc] 69)))
    clear HB4 HZ4 HF4 HROW
    generalize W4.alloc (.cells #[.slice sa ss.length sc, .slice ea es.length ec, .slice ra ts.length rc] 69) = W5 at *
    generalize W4.heap.size = BR at *
    obtain ⟨_, t0, t1, t2, _⟩ := blk3 HT5.out
    obtain ⟨hz, z0, z1, z2, y0, y1, y2⟩ := blk3 HZ5.out
    obtain ⟨hf, f0, f1, g0, g1⟩ := blk2 HF5.out
    go_wp2
    refine post_gen (fun Wf => PEnd w (.slice sa ss.length sc) (.slice ea es.length ec) (.slice ra ts.length rc) (.int .i64 0) (.int .i64 0) Wf ∧ RawRows (W3.heap.size + 1) Wf ss es ts (.slice sa ss.length sc) (.slice ea es.length ec) (.slice ra ts.length rc)) ⟨?_, ?_⟩ ?_
    · exact pend HZ5.out HF5.out HB5.out _ _ _ _ _
    · exact HR5.out.set5 (by omega) _ _ _ _ _
    · rintro Wf ⟨⟨e1, e2, e3⟩, e4⟩
      obtain ⟨_, c0, c1, c2, _⟩ := blk3 e1
      obtain ⟨_, d0, d1, _⟩ := blk2 e2
      rw [HX.out]
      exact bodyPost_ret (v := .tuple #[.agg #[.slice sa ss.length sc, .slice ea es.length ec, .slice ra ts.length rc], .agg #[.int .i64 0, .int .i64 0]]) (by simp [results, Tryz.results29, go_sem, c0, c1, c2, d0, d1]) rfl ⟨ss, es, ts, _, _, _, rfl, rfl, e4.base (by omega), e3⟩
  · obtain ⟨rfl, ⟨r', hrd⟩, hx⟩ := HP.out
    have HB4 := Lib.hid (HB3.out.trans ((hx.mono (by omega : w.heap.size ≤ W3.heap.size)).below (by omega)))
    have HZ4 := Lib.hid (blk_exc HZ3.out hx (by omega) (by omega))
    have HF4 := Lib.hid (blk_exc HF3.out hx (by omega) (by omega))
    have HRB := Lib.hid hrd.blk
    clear hrd hx HP
    go_upto_region 6 with (fail)
    have hs4 : w.heap.size + 1 < W4.heap.size := blk_lt HF4.out
    have HB5 := Lib.hid (HB4.out.alloc HB4.out.size (.cells #[.slice none 0 0, .slice none 0 0, .slice none 0 0] 69))
    have HZ5 := Lib.hid (blk_alloc HZ4.out (.cells #[.slice none 0 0, .slice none 0 0, .slice none 0 0] 69))
    have HF5 := Lib.hid (blk_alloc HF4.out (.cells #[.slice none 0 0, .slice none 0 0, .slice none 0 0] 69))
    have HR5 := Lib.hid (blk_alloc HRB.out (.cells #[.slice none 0 0, .slice none 0 0, .slice none 0 0] 69))
    clear HB4 HZ4 HF4 HRB
    generalize W4.alloc (.cells #[.slice none 0 0, .slice none 0 0, .slice none 0 0] 69) = W5 at *
    obtain ⟨_, t0, t1, t2, _⟩ := blk3 HR5.out
    obtain ⟨hz, z0, z1, z2, y0, y1, y2⟩ := blk3 HZ5.out
    obtain ⟨hf, f0, f1, g0, g1⟩ := blk2 HF5.out
    go_wp2_with fail
    go_region_with (fail)
    all_goals
      go_wp2
      refine post_gen (PEnd w (.slice none 0 0) (.slice none 0 0) (.slice none 0 0) (.int .i64 cc) (.int .i64 (pp : Nat))) ?_ ?_
      · first
          | exact (pend HZ5.out HF5.out HB5.out _ _ _ _ _).drew
          | exact pend (w := w) (W := W5.drew) HZ5.out HF5.out HB5.out.drew _ _ _ _ _
      · rintro Wf ⟨e1, e2, e3⟩
        obtain ⟨_, c0, c1, c2, _⟩ := blk3 e1
        obtain ⟨_, d0, d1, _⟩ := blk2 e2
        exact bodyPost_ret (v := .tuple #[.agg #[.slice none 0 0, .slice none 0 0, .slice none 0 0], .agg #[.int .i64 cc, .int .i64 (pp : Nat)]]) (by simp [results, Tryz.results29, go_sem, c0, c1, c2, d0, d1]) rfl (parse_none HX.out e3)
theorem parse_any (s : ByteArray) (w : World) (hT : Tabs w) (hs : s.size ≤ 9223372036854775807) :
    Calls Tryz.prog 29 #[.string s] w (ParsePost w (rawT s)) := by
  obtain ⟨r, hr⟩ : ∃ r, toks okU (amg idlSigns) (bts s) = r := ⟨_, rfl⟩
  obtain ⟨l, code, p⟩ := r
  by_cases hc : code = 0
  · subst hc
    exact parse_good s w hT hs l p hr
  · exact parse_fault s w hT hs l code p hr hc
end Go.Proofs.YtleclhnlojalbaaGreatDoor
namespace Go.Proofs.YtleclhnlojalbaaGreatDoor
open Go.ChangeShapes Go.WideShapes Go.ChangeAt Go.RowKit Go.Shelf

theorem amg_yes {s : ByteArray} {k : Nat} {c : Int} (h : k < s.size) (hc : (s[k].toNat : Int) = c) : amg s c = true := by
  refine decide_eq_true ?_
  rw [← hc, ← bts_get h, List.getD, List.getElem?_eq_getElem (by rw [bts_length]; exact h)]
  exact List.getElem_mem _
theorem amg_no {s : ByteArray} {c : Int} (h : ∀ j (hj : j < s.size), (s[j].toNat : Int) ≠ c) : amg s c = false := by
  refine decide_eq_false (fun hm => ?_)
  obtain ⟨j, hj, hv⟩ := List.mem_iff_getElem.1 hm
  have hj' : j < s.size := by rw [bts_length] at hj; exact hj
  refine h j hj' ?_
  rw [← bts_get hj', List.getD, List.getElem?_eq_getElem hj]
  exact hv
theorem has_any (s : ByteArray) (c : Int) (w : World) (hs : s.size ≤ 9223372036854775807) :
    Calls Tryz.prog 106 #[.string s, .int .u8 c] w fun e w' => e = .returned (.bool (amg s c)) ∧ w = w' := by
  obtain ⟨r, hr⟩ : ∃ r, amg s c = r := ⟨_, rfl⟩
  have HR := Lib.hid hr
  rw [hr]
  clear hr
  go_enter Tryz.func106, Tryz.ntmps106
  go_wp2
  go_loop [5] (fun i => ∃ k : Nat, k ≤ s.size ∧ i = .int .i64 k ∧ ∀ j (hj : j < s.size), j < k → (s[j].toNat : Int) ≠ c) (fun i => s.size - (intOf i).toNat)
  case atStart => exact ⟨0, Nat.zero_le _, rfl, fun j _ h => absurd h (Nat.not_lt_zero _)⟩
  case round =>
    obtain ⟨k, hk, rfl, hj⟩ := hrel
    have HJ := Lib.hid hj
    clear hj
    by_cases hlt : k < s.size
    · by_cases he : (s[k].toNat : Int) = c
      · have HA := Lib.hid (amg_yes hlt he)
        have t : ((s[k].toNat : Int) == c) = true := beq_iff_eq.2 he
        clear he
        go_wp2
        go_ret
        exact ⟨ret_bool (HA.out.symm.trans HR.out), rfl⟩
      · have t : ((s[k].toNat : Int) == c) = false := beq_eq_false_iff_ne.2 he
        have HN := Lib.hid he
        clear he
        go_wp2
        go_round
        case rel =>
          refine ⟨k + 1, by omega, by go_num, fun j hj h => ?_⟩
          rcases Nat.lt_or_ge j k with h' | h'
          · exact HJ.out j hj h'
          · obtain rfl : j = k := by omega
            exact HN.out
        case measure => simp [intOf]; omega
    · have HA := Lib.hid (amg_no (s := s) (c := c) fun j hj => HJ.out j hj (by omega))
      go_wp2
      go_ret
      exact ⟨ret_bool (HA.out.symm.trans HR.out), rfl⟩
theorem rtext_any (a : Option Addr) (cap n : Nat) (zs : List Int) (w : World) (hT : Tabs w) (hz : Bytes w a zs) (hn : zs.length = n) (hl : (n : Int) ≤ 9223372036854775800) (hcap : n ≤ cap) :
    Calls Tryz.prog 105 #[.slice a n cap] w fun e w' => e = .returned (.bool (okU zs)) ∧ Below w.heap.size w w' := by
  have HU := Lib.hid (rutf8_call a cap n zs w hT hz hn hl hcap)
  clear hT hz hn hl hcap
  go_enter Tryz.func105, Tryz.ntmps105
  go_wp2_with fail
  refine HU.out.mono ?_
  rintro e W1 ⟨rfl, hb⟩
  go_wp2
  go_ret
  exact ⟨rfl, hb⟩
end Go.Proofs.YtleclhnlojalbaaGreatDoor
namespace Go.Proofs.YtleclhnlojalbaaGreatDoor
open Go.ChangeShapes Go.WideShapes Go.ChangeAt Go.RowKit Go.Shelf

theorem blank_no {s : ByteArray} {k : Nat} (h : k < s.size) (hb : stA (bts s) isBlank k = false) : ((s[k].toNat : Int) == 32) = false ∧ ((s[k].toNat : Int) == 9) = false ∧ ((s[k].toNat : Int) == 10) = false ∧ ((s[k].toNat : Int) == 13) = false := by
  rw [stA_of (by rw [bts_length]; exact h), bts_get h] at hb
  have hc := of_decide_eq_false hb
  simp only [beq_eq_false_iff_ne, ne_eq]
  omega
theorem slash_no {s : ByteArray} {k : Nat} (h : k < s.size) (hc : (s[k].toNat : Int) = 47) (h2 : slash2 (bts s) k = false) : ((bts s).getD (k + 1) 0 == 47) = false := by
  unfold slash2 at h2
  rw [stA_of (by rw [bts_length]; exact h), bts_get h, hc, show isC 47 47 = true from rfl, Bool.true_and] at h2
  by_cases h3 : k + 1 < s.size
  · rw [stA_of (by rw [bts_length]; exact h3)] at h2
    exact h2
  · rw [bts_end (by omega)]
    rfl
theorem slash_yes {s : ByteArray} {k : Nat} (h : k < s.size) (h2 : slash2 (bts s) k = true) : ((s[k].toNat : Int) == 47) = true ∧ ((bts s).getD (k + 1) 0 == 47) = true := by
  unfold slash2 at h2
  rw [Bool.and_eq_true] at h2
  rw [← bts_get h]
  exact ⟨stA_p h2.1, stA_p h2.2⟩
set_option maxRecDepth 100000 in
set_option maxHeartbeats 800000 in
theorem behind_any (s : ByteArray) (x : Int) (i : Nat) (w : World) (hx : x = i) (hs : s.size ≤ 281474976710656) (hi : i ≤ s.size) :
    Calls Tryz.prog 79 #[.string s, .int .i64 x] w fun e w' => e = .returned (.int .i64 (gap (bts s) i : Nat)) ∧ w = w' := by
  subst hx
  obtain ⟨r, hr⟩ : ∃ r, gap (bts s) i = r := ⟨_, rfl⟩
  have HR := Lib.hid hr
  rw [hr]
  clear hr
  go_enter Tryz.func79, Tryz.ntmps79
  go_wp2
  go_loop [1] (fun j => ∃ k : Nat, k ≤ s.size ∧ j = .int .i64 k ∧ r = gap (bts s) k) (fun j => s.size - (intOf j).toNat)
  case atStart => exact ⟨i, hi, rfl, HR.out.symm⟩
  case round =>
    obtain ⟨k, hk, rfl, hj⟩ := hrel
    have HJ := Lib.hid hj
    clear hj
    by_cases hlt : k < s.size
    · have hgk := bts_get hlt
      cases hb : stA (bts s) isBlank k
      · cases h2 : slash2 (bts s) k
        · have HG := Lib.hid (gap_stop hb h2)
          obtain ⟨t32, t9, t10, t13⟩ := blank_no hlt hb
          by_cases c47 : (s[k].toNat : Int) = 47
          · have hd := slash_no hlt c47 h2
            have t47 : ((s[k].toNat : Int) == 47) = true := beq_iff_eq.2 c47
            clear hb h2 c47 hgk
            go_wp2_with fail
            refine (at_any s _ (k + 1) _ (by omega)).mono ?_
            rintro e w2 ⟨rfl, rfl⟩
            generalize (bts s).getD (k + 1) 0 = z at hd ⊢
            go_wp2
            go_ret
            exact ⟨ret_int (by rw [HJ.out, HG.out]), rfl⟩
          · have t47 : ((s[k].toNat : Int) == 47) = false := beq_eq_false_iff_ne.2 c47
            clear hb h2 c47 hgk
            go_wp2
            go_ret
            exact ⟨ret_int (by rw [HJ.out, HG.out]), rfl⟩
        · have HG := Lib.hid (gap_remark h2)
          obtain ⟨t32, t9, t10, t13⟩ := blank_no hlt hb
          obtain ⟨t47, hd⟩ := slash_yes hlt h2
          have hrl := runTo_le (bts s) notLf k (by rw [bts_length]; exact hk)
          have hrg := slash2_run h2
          rw [bts_length] at hrl
          clear hb h2 hgk
          go_wp2_with fail
          refine (at_any s _ (k + 1) _ (by omega)).mono ?_
          rintro e w2 ⟨rfl, rfl⟩
          generalize (bts s).getD (k + 1) 0 = z at hd ⊢
          go_wp2
          go_loop [1] (fun j => ∃ m : Nat, k ≤ m ∧ m ≤ s.size ∧ j = .int .i64 m ∧ runTo (bts s) notLf k = runTo (bts s) notLf m) (fun j => s.size - (intOf j).toNat)
          case atStart => exact ⟨k, Nat.le_refl _, hk, rfl, rfl⟩
          case round =>
            obtain ⟨m, hkm, hm, rfl, hq⟩ := hrel
            have HQ := Lib.hid hq
            clear hq
            by_cases hml : m < s.size
            · have hgm := bts_get hml
              by_cases c10 : (s[m].toNat : Int) = 10
              · have HS := Lib.hid (runTo_stop (zs := bts s) (p := notLf) (i := m) (by rw [stA_of (by rw [bts_length]; exact hml), hgm, c10]; rfl))
                have tm : ((s[m].toNat : Int) != 10) = false := by rw [c10]; rfl
                have hkm2 : k + 2 ≤ m := by have h1 := HQ.out; rw [HS.out] at h1; omega
                clear c10 hgm
                go_wp2
                go_round
                case rel => exact ⟨m, hm, rfl, by rw [HJ.out, HG.out, HQ.out, HS.out]⟩
                case measure => simp [intOf]; omega
              · have HS := Lib.hid (runTo_step (zs := bts s) (p := notLf) (i := m) (by rw [stA_of (by rw [bts_length]; exact hml), hgm]; exact decide_eq_true c10))
                have tm : ((s[m].toNat : Int) != 10) = true := by rw [bne_iff_ne]; exact c10
                clear c10 hgm
                go_wp2
                go_round
                case rel => exact ⟨m + 1, by omega, by omega, by go_num, by rw [HQ.out, HS.out]⟩
                case measure => simp [intOf]; omega
            · have HS := Lib.hid (runTo_stop (zs := bts s) (p := notLf) (i := m) (stA_ge (by rw [bts_length]; omega)))
              have hkm2 : k + 2 ≤ m := by have h1 := HQ.out; rw [HS.out] at h1; omega
              go_wp2
              go_round
              case rel => exact ⟨m, hm, rfl, by rw [HJ.out, HG.out, HQ.out, HS.out]⟩
              case measure => simp [intOf]; omega
      · have HG := Lib.hid (gap_blank hb)
        have hc : (s[k].toNat : Int) = 32 ∨ (s[k].toNat : Int) = 9 ∨ (s[k].toNat : Int) = 10 ∨ (s[k].toNat : Int) = 13 := by
          rw [← hgk]
          exact of_decide_eq_true (stA_p hb)
        clear hb hgk
        rcases hc with hc | hc | hc | hc
        · have t32 : ((s[k].toNat : Int) == 32) = true := by simp only [beq_iff_eq]; omega
          clear hc
          go_wp2
          go_round
          case rel => exact ⟨k + 1, by omega, by go_num, HJ.out.trans HG.out⟩
          case measure => simp [intOf]; omega
        · have t32 : ((s[k].toNat : Int) == 32) = false := by simp only [beq_eq_false_iff_ne, ne_eq]; omega
          have t9 : ((s[k].toNat : Int) == 9) = true := by simp only [beq_iff_eq]; omega
          clear hc
          go_wp2
          go_round
          case rel => exact ⟨k + 1, by omega, by go_num, HJ.out.trans HG.out⟩
          case measure => simp [intOf]; omega
        · have t32 : ((s[k].toNat : Int) == 32) = false := by simp only [beq_eq_false_iff_ne, ne_eq]; omega
          have t9 : ((s[k].toNat : Int) == 9) = false := by simp only [beq_eq_false_iff_ne, ne_eq]; omega
          have t10 : ((s[k].toNat : Int) == 10) = true := by simp only [beq_iff_eq]; omega
          clear hc
          go_wp2
          go_round
          case rel => exact ⟨k + 1, by omega, by go_num, HJ.out.trans HG.out⟩
          case measure => simp [intOf]; omega
        · have t32 : ((s[k].toNat : Int) == 32) = false := by simp only [beq_eq_false_iff_ne, ne_eq]; omega
          have t9 : ((s[k].toNat : Int) == 9) = false := by simp only [beq_eq_false_iff_ne, ne_eq]; omega
          have t10 : ((s[k].toNat : Int) == 10) = false := by simp only [beq_eq_false_iff_ne, ne_eq]; omega
          have t13 : ((s[k].toNat : Int) == 13) = true := by simp only [beq_iff_eq]; omega
          clear hc
          go_wp2
          go_round
          case rel => exact ⟨k + 1, by omega, by go_num, HJ.out.trans HG.out⟩
          case measure => simp [intOf]; omega
    · have HG := Lib.hid (gap_end (zs := bts s) (i := k) (by rw [bts_length]; omega))
      go_wp2
      go_ret
      exact ⟨ret_int (by rw [HJ.out, HG.out]), rfl⟩
end Go.Proofs.YtleclhnlojalbaaGreatDoor
namespace Go.Proofs.YtleclhnlojalbaaGreatDoor
open Go.ChangeShapes Go.WideShapes Go.ChangeAt Go.RowKit Go.Shelf

def OneVal (r : Option (Tok × Nat)) (e : Ending) : Prop :=
  match r with
  | some (t, k) => e = .returned (.tuple #[.agg #[.int .i64 t.kind, .string (strOfNums t.text), .int .i64 t.place], .int .i64 (k : Nat), .bool true])
  | none => ∃ (a c k : Int) (S : ByteArray), e = .returned (.tuple #[.agg #[.int .i64 a, .string S, .int .i64 c], .int .i64 k, .bool false])
theorem ext_str (s : ByteArray) (i j : Nat) : s.extract i j = strOfNums (sub (bts s) i j) := by
  refine bts_inj ?_
  rw [bts_part, bts_strOf]
  intro z hz
  have h2 : z ∈ bts s := List.mem_of_mem_drop (List.mem_of_mem_take hz)
  obtain ⟨j, hj, rfl⟩ := List.mem_iff_getElem.1 h2
  have := bts_bd s j
  rw [List.getD, List.getElem?_eq_getElem hj] at this
  exact this
theorem two_new (w : World) (a b : Obj) : Below w.heap.size w ((w.alloc a).alloc b) := ((Below.refl _ _).alloc (Nat.le_refl _) _).alloc (by rw [World.size_alloc]; omega) _
theorem stA_at {s : ByteArray} {p : Int → Bool} (h : p 0 = false) (k : Nat) : stA (bts s) p k = p ((bts s).getD k 0) := by
  by_cases hk : k < (bts s).length
  · exact stA_of hk
  · rw [stA_ge (by omega), List.getD, List.getElem?_eq_none (by omega)]
    exact h.symm
set_option maxRecDepth 100000 in
theorem one_end (s sg : ByteArray) (x : Int) (i : Nat) (w : World) (hx : x = i) (hi : i = s.size) :
    Calls Tryz.prog 80 #[.string s, .string sg, .int .i64 x] w fun e w' => OneVal (some (⟨0, [], i⟩, i)) e ∧ Below w.heap.size w w' := by
  subst hx
  subst hi
  go_enter Tryz.func80, Tryz.ntmps80
  go_wp2
  exact bodyPost_ret (v := .tuple #[.agg #[.int .i64 0, .string ⟨#[]⟩, .int .i64 s.size], .int .i64 s.size, .bool true]) (by simp [results, Tryz.results80, go_sem]) rfl ⟨rfl, two_new w _ _⟩
set_option maxRecDepth 100000 in
theorem one_name (s sg : ByteArray) (x : Int) (i : Nat) (w : World) (hx : x = i) (hs : s.size ≤ 281474976710656) (h1 : stA (bts s) isLet i = true) :
    Calls Tryz.prog 80 #[.string s, .string sg, .int .i64 x] w fun e w' => OneVal (some (⟨1, sub (bts s) i (runTo (bts s) (fun c => isLet c || isDig c) i), i⟩, runTo (bts s) (fun c => isLet c || isDig c) i)) e ∧ Below w.heap.size w w' := by
  subst hx
  have hi : i < s.size := by have := stA_lt h1; rwa [bts_length] at this
  have H1 := Lib.hid (show isLet (s[i].toNat : Int) = true by rw [← bts_get hi]; exact stA_p h1)
  have hup := runTo_le (bts s) (fun c => isLet c || isDig c) i (by rw [bts_length]; omega)
  have hlo := runTo_ge (bts s) (fun c => isLet c || isDig c) i
  rw [bts_length] at hup
  obtain ⟨E, hE⟩ : ∃ E, runTo (bts s) (fun c => isLet c || isDig c) i = E := ⟨_, rfl⟩
  rw [hE] at hup hlo ⊢
  have HE := Lib.hid hE
  clear h1 hE
  go_enter Tryz.func80, Tryz.ntmps80
  go_wp2_with fail
  refine (rletter_any _ _).mono ?_
  rintro e w1 ⟨rfl, rfl⟩
  rw [H1.out]
  go_wp2
  go_loop [10] (fun j => ∃ k : Nat, i ≤ k ∧ k ≤ E ∧ j = .int .i64 k ∧ runTo (bts s) (fun c => isLet c || isDig c) k = E) (fun j => E - (intOf j).toNat)
  case atStart => exact ⟨i, Nat.le_refl _, hlo, rfl, HE.out⟩
  case round =>
    obtain ⟨k, hik, hkE, rfl, hj⟩ := hrel
    have HJ := Lib.hid hj
    have HS := Lib.hid (stA_at (s := s) (p := fun c => isLet c || isDig c) rfl k)
    have HAT := Lib.hid (fun W => at_any s k k W rfl)
    generalize (bts s).getD k 0 = z at HS HAT
    clear hj
    go_wp2_with fail
    refine (HAT.out _).mono ?_
    rintro e w2 ⟨rfl, rfl⟩
    go_wp2_with fail
    refine (rletter_any _ _).mono ?_
    rintro e w2 ⟨rfl, rfl⟩
    cases hl : isLet z
    · go_wp2_with fail
      refine (HAT.out _).mono ?_
      rintro e w2 ⟨rfl, rfl⟩
      go_wp2_with fail
      refine (rdigit_any _ _).mono ?_
      rintro e w2 ⟨rfl, rfl⟩
      cases hd : isDig z
      · have hkk : k = E := by
          rw [← HJ.out]
          exact (runTo_stop (by rw [HS.out, hl, hd]; rfl)).symm
        subst hkk
        have HX := Lib.hid (ext_str s i k)
        clear hl hd
        go_upto_region 33 with (fail)
        rw [HX.out]
        go_wp2
        exact bodyPost_ret (v := .tuple #[.agg #[.int .i64 1, .string (strOfNums (sub (bts s) i k)), .int .i64 i], .int .i64 k, .bool true]) (by simp [results, Tryz.results80, go_sem]) rfl ⟨rfl, two_new w _ _⟩
      · have hst : stA (bts s) (fun c => isLet c || isDig c) k = true := by rw [HS.out, hl, hd]; rfl
        have HN := Lib.hid (HJ.out ▸ (runTo_step hst).symm)
        have hlt : k + 1 ≤ E := by have := runTo_ge (bts s) (fun c => isLet c || isDig c) (k + 1); rw [HN.out] at this; exact this
        clear hl hd hst
        go_wp2
        go_round
        case rel => exact ⟨k + 1, by omega, hlt, by go_num, HN.out⟩
        case measure => simp [intOf]; omega
    · have hst : stA (bts s) (fun c => isLet c || isDig c) k = true := by rw [HS.out, hl]; rfl
      have HN := Lib.hid (HJ.out ▸ (runTo_step hst).symm)
      have hlt : k + 1 ≤ E := by have := runTo_ge (bts s) (fun c => isLet c || isDig c) (k + 1); rw [HN.out] at this; exact this
      clear hl hst
      go_wp2
      go_round
      case rel => exact ⟨k + 1, by omega, hlt, by go_num, HN.out⟩
      case measure => simp [intOf]; omega
end Go.Proofs.YtleclhnlojalbaaGreatDoor
