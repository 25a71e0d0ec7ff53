/-
  The document's own Tokens: all tokens of a text, or the first fault's number and its place. Conditions: those that each theorem names; the library's tables hold what the row lists.
  The document's own Parse: a text whose tokens have a fault. Conditions: those that each theorem names.
  The document's own Parse: what it keeps among a schema's parts. Conditions: those that each theorem names.
-/
import Derived.Test.YtmjmblbaojchcaaDoorPkC15
import Derived.Test.YtmjmblbaojchcaaDoorPkC17
import Derived.Test.YtmjmblbaojchcaaDoorPkC18
import Derived.Test.YtmjmblbaojchcaaDoorPkC33
import Derived.Test.YtmjmblbaojchcaaDoorPkC34
import Derived.Test.YtmjmblbaojchcaaDoorPkC36
namespace Go.Proofs.YtmjmblbaojchcaaDoor
open Go.ChangeShapes Go.WideShapes Go.ChangeAt Go.RowKit Go.Shelf

/-- What the document's Tokens hands back. -/
def RefPost (base : Nat) (w : World) (r : List Tok × Int × Nat) (e : Ending) (w' : World) : Prop :=
  ∃ v, e = .returned (.tuple #[v, .int .i64 r.2.1, .int .i64 (r.2.2 : Nat)]) ∧ OwnT w' base v r.1 ∧ Below base w w'
theorem refPost_fault {base : Nat} {w w' : World} {r : List Tok × Int × Nat} {code : Int} {j : Nat} (hr : r = ([], code, j)) (hb : Below base w w') : RefPost base w r (.returned (.tuple #[.slice none 0 0, .int .i64 code, .int .i64 (j : Nat)])) w' := by
  subst hr
  exact ⟨_, rfl, ownT_nil _ _, hb⟩
theorem refPost_end {base : Nat} {w w' : World} {r : List Tok × Int × Nat} {v : Value} {l : List Tok} (hr : r = (l, 0, 0)) (ho : OwnT w' base v l) (hb : Below base w w') : RefPost base w r (.returned (.tuple #[v, .int .i64 0, .int .i64 0])) w' := by
  subst hr
  exact ⟨_, rfl, ho, hb⟩
theorem refTokens_long (s sg : ByteArray) (w : World) (hs : s.size ≤ 9223372036854775807) (h : 8192 < s.size) :
    Calls Tryd.prog 25 #[.string s, .string sg] w fun e w' => e = .returned (.tuple #[.slice none 0 0, .int .i64 16, .int .i64 8192]) ∧ w = w' := by
  go_enter Tryd.func25, Tryd.ntmps25
  go_wp2
  exact bodyPost_ret (v := .tuple #[.slice none 0 0, .int .i64 16, .int .i64 8192]) (by simp [results, Tryd.results25, go_sem]) rfl ⟨rfl, rfl⟩
set_option maxHeartbeats 1600000 in
set_option maxRecDepth 100000 in
theorem refTokens_short (s sg : ByteArray) (w : World) (hT : Tabs w) (h : s.size ≤ 8192) (hg : sg.size ≤ 9223372036854775807) :
    Calls Tryd.prog 25 #[.string s, .string sg] w (RefPost w.heap.size w (lexFrom s sg 0 [])) := by
  have HGAP := Lib.hid (fun (j : Nat) W hj => behind_any s j j W rfl (by omega) hj)
  have HTOK := Lib.hid (fun (j : Nat) W (hb : Below w.heap.size w W) hj => one_any s sg j j W (Tabs.below hT (Nat.le_refl _) hb) rfl hj (by omega) hg)
  clear hT
  go_enter Tryd.func25, Tryd.ntmps25
  go_wp2
  go_loopw [7, 8] (fun lv at' wr => Below w.heap.size w wr ∧ ∃ (j : Nat) (l : List Tok), j ≤ s.size ∧ at' = .int .i64 j ∧ OwnT wr w.heap.size lv l ∧ l.length ≤ 2048 ∧ lexFrom s sg 0 [] = lexFrom s sg j l) (fun lv _ _ => 2048 - lenOf lv)
  case atStart => exact ⟨Below.refl _ _, 0, [], Nat.zero_le _, rfl, ownT_nil _ _, by decide, rfl⟩
  case round =>
    obtain ⟨hb, j, l, hj, rfl, ho, hll, hr⟩ := hrel
    obtain ⟨a, c, rfl⟩ := ho.form
    have HB := Lib.hid hb
    have HJ := Lib.hid hr
    have HO := Lib.hid ho
    have hg1 := gap_le (bts s) j (by rw [bts_length]; exact hj)
    rw [bts_length] at hg1
    clear hb hr ho
    by_cases h2 : l.length = 2048
    · have HM := Lib.hid (lexFrom_many (s := s) (sg := sg) (j := j) h2)
      go_wp2_with fail
      refine (HGAP.out j _ hj).mono ?_
      rintro e W1 ⟨rfl, rfl⟩
      have t2 : ((l.length : Int) == 2048) = true := by simp; omega
      clear h2
      go_wp2
      exact bodyPost_ret (v := .tuple #[.slice none 0 0, .int .i64 16, .int .i64 (gap (bts s) j : Nat)]) (by simp [results, Tryd.results25, go_sem]) rfl (refPost_fault (HJ.out.trans HM.out) HB.out)
    · have HM := Lib.hid (lexFrom_step (s := s) (sg := sg) (j := j) (l := l) (by omega))
      have t2 : ((l.length : Int) == 2048) = false := by simp; omega
      go_wp2_with fail
      refine (HGAP.out j _ hj).mono ?_
      rintro e W1 ⟨rfl, rfl⟩
      generalize gap (bts s) j = k at hg1 HM ⊢
      go_wp2_with fail
      refine (HTOK.out k _ HB.out hg1).mono ?_
      rintro e W3 ⟨hone, hb3⟩
      have HB3 := Lib.hid (HB.out.trans (hb3.mono HB.out.size))
      have HO3 := Lib.hid (HO.out.below hb3 (Nat.le_refl _))
      clear hb3
      generalize hq : tok okU (amg sg) (bts s) k = q at HM hone ⊢
      obtain _ | ⟨t, e2⟩ := q
      · clear hq
        obtain ⟨x0, x2, x3, S, rfl⟩ := hone
        go_wp2
        exact bodyPost_ret (v := .tuple #[.slice none 0 0, .int .i64 10, .int .i64 (k : Nat)]) (by simp [results, Tryd.results25, go_sem]) rfl (refPost_fault (HJ.out.trans HM.out) (HB3.out.alloc HB3.out.size _))
      · have he2 := tok_le (by rw [bts_length]; exact hg1) hq
        rw [bts_length] at he2
        obtain rfl := hone
        obtain ⟨i0, hi0, hz0, hz1, hz2⟩ := info_parts tok_info
        have I1 := Lib.hid hi0
        have I2 := Lib.hid hz0
        have I3 := Lib.hid hz1
        have I4 := Lib.hid hz2
        clear hq hi0 hz0 hz1 hz2
        by_cases hkd : t.kind = 0
        · have tk : (t.kind == 0) = true := by simp [hkd]
          have HE := Lib.hid (HM.out.trans (if_pos hkd))
          clear hkd
          go_wp2_with (at_builtin; refine wpList_append_own _ rfl (.tmp 33) (.tmp 35) 41 rfl w.heap.size 57 i0 _ 3 32 Tryd.underlying41 I1.out I2.out I3.out I4.out rfl (by decide) _ l.length (toksCells l) rfl (HO3.out.below (((Below.refl W3.heap.size W3).alloc (Nat.le_refl _) _).alloc (by simp) _) (Nat.le_refl _)) ⟨W3.heap.size + 1, 0, none⟩ 1 1 (tokCells t) rfl rfl (tokCells_new _ t _ (by simp)) (tokCells_one t) (by unfold maxLen; omega) (by omega) (by have := HB3.out.size; simp; omega) ?_; intro v4 W4 hown4 hg4 hx; clear hx; obtain ⟨kk, hb4⟩ := grown_new HO3.out HB3.out hg4; have HB4 := Lib.hid hb4; have HO4 := Lib.hid (OwnT.snoc hown4); clear hown4 hg4 hb4)
          exact bodyPost_ret (v := .tuple #[v4, .int .i64 0, .int .i64 0]) (by simp [results, Tryd.results25, go_sem]) rfl (refPost_end (HJ.out.trans HE.out) HO4.out HB4.out)
        · have tk : (t.kind == 0) = false := by simp [hkd]
          have HE := Lib.hid (HM.out.trans (if_neg hkd))
          clear hkd
          go_wp2_with (at_builtin; refine wpList_append_own _ rfl (.tmp 33) (.tmp 35) 41 rfl w.heap.size 57 i0 _ 3 32 Tryd.underlying41 I1.out I2.out I3.out I4.out rfl (by decide) _ l.length (toksCells l) rfl (HO3.out.below (((Below.refl W3.heap.size W3).alloc (Nat.le_refl _) _).alloc (by simp) _) (Nat.le_refl _)) ⟨W3.heap.size + 1, 0, none⟩ 1 1 (tokCells t) rfl rfl (tokCells_new _ t _ (by simp)) (tokCells_one t) (by unfold maxLen; omega) (by omega) (by have := HB3.out.size; simp; omega) ?_; intro v4 W4 hown4 hg4 hx; clear hx; obtain ⟨kk, hb4⟩ := grown_new HO3.out HB3.out hg4; have HB4 := Lib.hid hb4; have HO4 := Lib.hid (OwnT.snoc hown4); clear hown4 hg4 hb4)
          obtain ⟨a4, c4, rfl⟩ := HO4.out.form
          go_roundw
          case rel => exact ⟨HB4.out, e2, l ++ [t], he2, rfl, HO4.out, by simp; omega, HJ.out.trans HE.out⟩
          case measure => simp [lenOf]; omega
/-- The document's own Tokens, whatever the text. -/
theorem refTokens_any (s sg : ByteArray) (w : World) (hT : Tabs w) (hs : s.size ≤ 9223372036854775807) (hg : sg.size ≤ 9223372036854775807) :
    Calls Tryd.prog 25 #[.string s, .string sg] w (RefPost w.heap.size w (toks okU (amg sg) (bts s))) := by
  unfold toks
  rw [bts_length]
  by_cases h : 8192 < s.size
  · rw [if_pos h]
    exact (refTokens_long s sg w hs h).mono fun e w' ⟨he, hb⟩ => by rw [he]; exact refPost_fault rfl (hb ▸ Below.refl _ _)
  · rw [if_neg h]
    exact refTokens_short s sg w hT (by omega) hg
end Go.Proofs.YtmjmblbaojchcaaDoor
namespace Go.Proofs.YtmjmblbaojchcaaDoor
open Go.ChangeShapes Go.WideShapes Go.ChangeAt Go.RowKit Go.Shelf

def DParsePost (w : World) (x : RRaw × Int × Nat) (e : Ending) (w' : World) : Prop :=
  ∃ ss es ts sv ev rv, e = .returned (.tuple #[.agg #[sv, ev, rv], .int .i64 x.2.1, .int .i64 (x.2.2 : Nat)]) ∧ x.1 = rawOf ss es ts ∧ RawRows w.heap.size w' ss es ts sv ev rv ∧ Below w.heap.size w w'
theorem dparse_none {w w' : World} {x : RRaw × Int × Nat} {code : Int} {p : Nat} (hx : x = (noRaw, code, p)) (hb : Below w.heap.size w w') :
    DParsePost w x (.returned (.tuple #[.agg #[.slice none 0 0, .slice none 0 0, .slice none 0 0], .int .i64 code, .int .i64 (p : Nat)])) w' := by
  subst hx
  exact ⟨[], [], [], _, _, _, rfl, rfl, rows_nil _ _, hb⟩
set_option maxRecDepth 100000 in
theorem dparse_fault (s : ByteArray) (w : World) (hT : Tabs w) (hs : s.size ≤ 9223372036854775807) (l : List Tok) (code : Int) (p : Nat) (hr : toks okU (amg idlSigns) (bts s) = (l, code, p)) (hc : code ≠ 0) :
    Calls Tryd.prog 17 #[.string s] w (DParsePost w (rawT s)) := by
  have HX : Hid (rawT s = (noRaw, code, p)) := Lib.hid (by unfold rawT; rw [hr]; exact if_neg hc)
  have hbA : Below w.heap.size w (w.alloc (.cells #[.slice none 0 0, .slice none 0 0, .slice none 0 0] 43)) := (Below.refl _ _).alloc (Nat.le_refl _) _
  have HZ0 := Lib.hid (heap_alloc_new w (.cells #[.slice none 0 0, .slice none 0 0, .slice none 0 0] 43))
  have HL := Lib.hid (refTokens_any s idlSigns _ (hT.below (Nat.le_refl _) hbA) hs (by decide))
  rw [hr] at HL
  have HB0 := Lib.hid hbA
  have hlt : w.heap.size < _ := blk_lt HZ0.out
  have hcz : (code != 0) = true := bne_iff_ne.2 hc
  clear hbA hT hr hc
  go_enter Tryd.func17, Tryd.ntmps17
  go_upto_region 1 with (fail)
  generalize w.alloc (.cells #[.slice none 0 0, .slice none 0 0, .slice none 0 0] 43) = W0 at *
  go_wp2_with fail
  refine HL.out.mono ?_
  rintro e W1 ⟨v, rfl, _, hb1⟩
  have HB1 := Lib.hid (HB0.out.trans (hb1.mono (by omega)))
  have HZ1 := Lib.hid (blk_below HZ0.out hb1 (blk_lt HZ0.out))
  clear hb1
  simp only
  obtain ⟨hz, z0, z1, z2, y0, y1, y2⟩ := blk3 HZ1.out
  go_wp2
  refine post_gen (fun Wf => Wf.heap[w.heap.size]? = some (.cells #[.slice none 0 0, .slice none 0 0, .slice none 0 0] 43 (0, 0)) ∧ Below w.heap.size w Wf) ⟨?_, ?_⟩ ?_
  · exact blk_set3 HZ1.out _ _ _
  · exact ((HB1.out.setCell (p := ⟨w.heap.size, 0, none⟩) (Nat.le_refl _) _).setCell (p := ⟨w.heap.size, 1, none⟩) (Nat.le_refl _) _).setCell (p := ⟨w.heap.size, 2, none⟩) (Nat.le_refl _) _
  · rintro Wf ⟨e1, e3⟩
    obtain ⟨_, c0, c1, c2, _⟩ := blk3 e1
    exact bodyPost_ret (v := .tuple #[.agg #[.slice none 0 0, .slice none 0 0, .slice none 0 0], .int .i64 code, .int .i64 (p : Nat)]) (by simp [results, Tryd.results17, go_sem, c0, c1, c2]) rfl (dparse_none HX.out e3)
end Go.Proofs.YtmjmblbaojchcaaDoor
namespace Go.Proofs.YtmjmblbaojchcaaDoor
open Go.ChangeShapes Go.WideShapes Go.ChangeAt Go.RowKit Go.Shelf

/-- The parser, laid over a text's tokens. -/
theorem dp_start {W : World} {g c : Nat} {l : List Tok} (hg : g < W.heap.size) (hcells : ∀ k, k < l.length * 3 → W.cell? ⟨g, k, none⟩ = (toksCells l)[k]?) (hc : l.length ≤ c) (hm : c ≤ maxLen) (he : Ends l) (hb : ∀ t ∈ l, ∀ z ∈ t.text, 0 ≤ z ∧ z ≤ 255) (hf : l.length ≤ 2048) :
    DpS (W.alloc (.cells #[.slice (some ⟨g, 0, none⟩) l.length c, .int .i64 0, .int .i64 0, .int .i64 0] 99)) W.heap.size g c l (.go l) := by
  have hbel : Below W.heap.size W (W.alloc (.cells #[.slice (some ⟨g, 0, none⟩) l.length c, .int .i64 0, .int .i64 0, .int .i64 0] 99)) := (Below.refl _ _).alloc (Nat.le_refl _) _
  refine ⟨?_, by rw [Nat.sub_self]; rfl, Nat.le_refl _, Nat.lt_of_lt_of_le hg hbel.size, Nat.ne_of_lt hg, fun k hk => (hbel.cell (p := ⟨g, k, none⟩) hg).trans (hcells k hk), ⟨hc, hm⟩, he, hb, hf⟩
  rw [heap_alloc_new W _, Nat.sub_self]
  rfl
/-- Where Parse is among the parts. -/
def DParseAt (P g c : Nat) (l : List Tok) (A : Nat) (w : World) (X : Res RRaw) (wr : World) : Prop :=
  ∃ (ss : List (RRec × Value)) (es : List (RCho × Value)) (ts : List Tok) (sv ev rv : Value) (st1 : Sto), RawAt A wr ss es ts sv ev rv ∧ DpS wr P g c l st1 ∧
    wr.heap[w.heap.size]? = some (.cells #[.slice none 0 0, .slice none 0 0, .slice none 0 0] 43 (0, 0)) ∧ Below w.heap.size w wr ∧ ss.length + es.length + ts.length + st1.left ≤ l.length ∧ X = st1.rd (schemaL (rawOf ss es ts))
/-- Behind an append to one of the rows: the parser stands as it stood. -/
theorem dpart_deep {P g c A : Nat} {l : List Tok} {st : Sto} {w W Wp W4 : World} {row : Option Nat} (hr : DpS W P g c l st) (hx : Below w.heap.size w W) (hwA : w.heap.size ≤ A) (hb : Below W.heap.size W Wp) (hg4 : Wp.grownBy W4 row) (hrow : ∀ k, row = some k → A ≤ k) (hP : P < A) (hg : g < A) (hA : A ≤ W.heap.size) (i : Nat) (v : Value) :
    DpS (W4.setCell ⟨A, i, none⟩ v) P g c l st ∧ Below w.heap.size w (W4.setCell ⟨A, i, none⟩ v) ∧ Below A W (W4.setCell ⟨A, i, none⟩ v) := by
  have h : Below A W (W4.setCell ⟨A, i, none⟩ v) := ((hb.mono hA).grown hg4 (Nat.le_trans hA hb.size) hrow).setCell (p := ⟨A, i, none⟩) (Nat.le_refl _) v
  exact ⟨hr.deep h hP hg, hx.trans (h.mono hwA), h⟩
/-- A struct more. -/
theorem dparse_struct {P g c A : Nat} {l : List Tok} {st : Sto} {w w1 W Wp W4 : World} {ss : List (RRec × Value)} {es : List (RCho × Value)} {ts : List Tok} {sv ev rv v v4 : Value} {s : RRec} {X : Res RRaw}
    (ha : RawAt A W ss es ts sv ev rv) (hr : DpS W P g c l st) (hz : W.heap[w.heap.size]? = some (.cells #[.slice none 0 0, .slice none 0 0, .slice none 0 0] 43 (0, 0))) (hx : Below w.heap.size w W) (hwA : w.heap.size < A)
    (ho : W.ownsRow w1.heap.size 59 8 v s.fields.length (fieldsCells s.fields)) (hw1 : A + 1 ≤ w1.heap.size) (hb : Below W.heap.size W Wp) (hg4 : Wp.grownBy W4 sv.ownBlock)
    (ho4 : W4.ownsRow (A + 1) 51 3 v4 (ss.length + 1) (recsCells ss ++ recCells (s, v))) (hP : P < A) (hg : g < A) (hc : ss.length + es.length + ts.length + st.left + 1 ≤ l.length)
    (hX : X = st.rd (schemaL ⟨(ss.map Prod.fst) ++ [s], es.map Prod.fst, ts⟩)) : DParseAt P g c l A w X (W4.setCell ⟨A, 0, none⟩ v4) := by
  obtain ⟨h1, h2, h3⟩ := dpart_deep hr hx (Nat.le_of_lt hwA) hb hg4 (fun k hk => by have := (ownsRow_lt ha.structs k hk).1; omega) hP hg (Nat.le_of_lt (blk_lt ha.blk)) 0 v4
  have ho3 : Wp.ownsRow (A + 1) 59 8 v s.fields.length (fieldsCells s.fields) := ownsRow_base (row_below hb ho) hw1
  refine ⟨ss ++ [(s, v)], es, ts, v4, ev, rv, st, RawAt.struct (p := (s, v)) (ha.fell hb) ho3 hg4 ho4, h1, (h3.block _ hwA).trans hz, h2, ?_, ?_⟩
  · simp; omega
  · rw [hX]; simp [rawOf]
/-- An enum more. -/
theorem dparse_enum {P g c A : Nat} {l : List Tok} {st : Sto} {w w1 W Wp W4 : World} {ss : List (RRec × Value)} {es : List (RCho × Value)} {ts : List Tok} {sv ev rv v v4 : Value} {s : RCho} {X : Res RRaw}
    (ha : RawAt A W ss es ts sv ev rv) (hap : ∀ k, rv.ownBlock = some k → k < w1.heap.size) (hr : DpS W P g c l st) (hz : W.heap[w.heap.size]? = some (.cells #[.slice none 0 0, .slice none 0 0, .slice none 0 0] 43 (0, 0))) (hx : Below w.heap.size w W) (hwA : w.heap.size < A)
    (ho : W.ownsRow w1.heap.size 57 3 v s.names.length (toksCells s.names)) (hw1 : A + 1 ≤ w1.heap.size) (hb : Below W.heap.size W Wp) (hg4 : Wp.grownBy W4 ev.ownBlock)
    (ho4 : W4.ownsRow (A + 1) 104 3 v4 (es.length + 1) (chosCells es ++ choCells (s, v))) (hP : P < A) (hg : g < A) (hc : ss.length + es.length + ts.length + st.left + 1 ≤ l.length)
    (hX : X = st.rd (schemaL ⟨ss.map Prod.fst, (es.map Prod.fst) ++ [s], ts⟩)) : DParseAt P g c l A w X (W4.setCell ⟨A, 1, none⟩ v4) := by
  obtain ⟨h1, h2, h3⟩ := dpart_deep hr hx (Nat.le_of_lt hwA) hb hg4 (fun k hk => by have := (ownsRow_lt ha.enums k hk).1; omega) hP hg (Nat.le_of_lt (blk_lt ha.blk)) 1 v4
  have ho3 : Wp.ownsRow (A + 1) 57 3 v s.names.length (toksCells s.names) := ownsRow_base (row_below hb ho) hw1
  refine ⟨ss, es ++ [(s, v)], ts, sv, v4, rv, st, RawAt.enum (p := (s, v)) (ha.fell hb) ho3 (fun k hk e => ?_) hg4 ho4, h1, (h3.block _ hwA).trans hz, h2, ?_, ?_⟩
  · have a1 := (ownsRow_lt ho k hk).1
    have a2 := hap k e
    omega
  · simp; omega
  · rw [hX]; simp [rawOf]
/-- A root more. -/
theorem dparse_root {P g c A : Nat} {l : List Tok} {st : Sto} {w W Wp W4 : World} {ss : List (RRec × Value)} {es : List (RCho × Value)} {ts : List Tok} {sv ev rv v4 : Value} {t : Tok} {X : Res RRaw}
    (ha : RawAt A W ss es ts sv ev rv) (hr : DpS W P g c l st) (hz : W.heap[w.heap.size]? = some (.cells #[.slice none 0 0, .slice none 0 0, .slice none 0 0] 43 (0, 0))) (hx : Below w.heap.size w W) (hwA : w.heap.size < A)
    (hb : Below W.heap.size W Wp) (hg4 : Wp.grownBy W4 rv.ownBlock)
    (ho4 : W4.ownsRow (A + 1) 57 3 v4 (ts.length + 1) (toksCells ts ++ tokCells t)) (hat : v4.ownBlock = rv.ownBlock ∨ ∃ k, v4.ownBlock = some k ∧ Wp.heap.size ≤ k) (hP : P < A) (hg : g < A) (hc : ss.length + es.length + ts.length + st.left + 1 ≤ l.length)
    (hX : X = st.rd (schemaL ⟨ss.map Prod.fst, es.map Prod.fst, ts ++ [t]⟩)) : DParseAt P g c l A w X (W4.setCell ⟨A, 2, none⟩ v4) := by
  obtain ⟨h1, h2, h3⟩ := dpart_deep hr hx (Nat.le_of_lt hwA) hb hg4 (fun k hk => by have := (ownsRow_lt ha.roots k hk).1; omega) hP hg (Nat.le_of_lt (blk_lt ha.blk)) 2 v4
  refine ⟨ss, es, ts ++ [t], sv, ev, v4, st, RawAt.root (ha.fell hb) hg4 ho4 hat, h1, (h3.block _ hwA).trans hz, h2, ?_, ?_⟩
  · simp; omega
  · rw [hX]; simp [rawOf]
end Go.Proofs.YtmjmblbaojchcaaDoor
