/-
  The reader of the package idl: the whole text. Conditions: those that each theorem names.
-/
import Derived.Test.YtleclhnlojalbaaGreatDoorPkL24
namespace Go.Proofs.YtleclhnlojalbaaGreatDoor
open Go.ChangeShapes Go.WideShapes Go.ChangeAt Go.RowKit Go.Shelf

structure RawRows (base : Nat) (W : World) (ss : List (RRec × Value)) (es : List (RCho × Value)) (ts : List Tok) (sv ev rv : Value) : Prop where
  structs : W.ownsRow base 114 3 sv ss.length (recsCells ss)
  enums : W.ownsRow base 117 3 ev es.length (chosCells es)
  roots : W.ownsRow base 109 3 rv ts.length (toksCells ts)
  fields : ∀ p ∈ ss, W.ownsRow base 135 8 p.2 p.1.fields.length (fieldsCells p.1.fields)
  names : ∀ p ∈ es, W.ownsRow base 109 3 p.2 p.1.names.length (toksCells p.1.names)
theorem RawAt.rows {A base : Nat} {W : World} {ss : List (RRec × Value)} {es : List (RCho × Value)} {ts : List Tok} {sv ev rv : Value} (h : RawAt A W ss es ts sv ev rv) (hb : base ≤ A + 1) : RawRows base W ss es ts sv ev rv :=
  ⟨ownsRow_base h.structs hb, ownsRow_base h.enums hb, ownsRow_base h.roots hb, fun p hp => ownsRow_base (h.fields p hp) hb, fun p hp => ownsRow_base (h.names p hp) hb⟩
theorem RawRows.base {base base' : Nat} {W : World} {ss : List (RRec × Value)} {es : List (RCho × Value)} {ts : List Tok} {sv ev rv : Value} (h : RawRows base W ss es ts sv ev rv) (hb : base' ≤ base) : RawRows base' W ss es ts sv ev rv :=
  ⟨ownsRow_base h.structs hb, ownsRow_base h.enums hb, ownsRow_base h.roots hb, fun p hp => ownsRow_base (h.fields p hp) hb, fun p hp => ownsRow_base (h.names p hp) hb⟩
theorem row_exc {X : Nat} {w w' : World} (h : Exc X w.heap.size w w') {base : Nat} {e : TypeId} {size : Nat} {v : Value} {n : Nat} {xs : List Value} (ho : w.ownsRow base e size v n xs) (hX : X < base) : w'.ownsRow base e size v n xs :=
  h.ownsRow ho (fun e => by have := (ownsRow_lt ho X e).1; omega)
theorem RawRows.exc {base X : Nat} {W W' : World} {ss : List (RRec × Value)} {es : List (RCho × Value)} {ts : List Tok} {sv ev rv : Value} (h : RawRows base W ss es ts sv ev rv) (hx : Exc X W.heap.size W W') (hX : X < base) : RawRows base W' ss es ts sv ev rv :=
  ⟨row_exc hx h.structs hX, row_exc hx h.enums hX, row_exc hx h.roots hX, fun p hp => row_exc hx (h.fields p hp) hX, fun p hp => row_exc hx (h.names p hp) hX⟩
theorem row_below {w w' : World} (h : Below w.heap.size w w') {base : Nat} {e : TypeId} {size : Nat} {v : Value} {n : Nat} {xs : List Value} (ho : w.ownsRow base e size v n xs) : w'.ownsRow base e size v n xs := by
  obtain ⟨hl, h'⟩ := ho
  refine ⟨hl, ?_⟩
  rcases h' with h1 | ⟨g', cap', cur, hv, h1, hg', h2⟩
  · exact .inl h1
  · exact .inr ⟨g', cap', cur, hv, h1, (h.block g' (blk_lt hg')).trans hg', h2⟩
theorem RawRows.below {base : Nat} {W W' : World} {ss : List (RRec × Value)} {es : List (RCho × Value)} {ts : List Tok} {sv ev rv : Value} (h : RawRows base W ss es ts sv ev rv) (hx : Below W.heap.size W W') : RawRows base W' ss es ts sv ev rv :=
  ⟨row_below hx h.structs, row_below hx h.enums, row_below hx h.roots, fun p hp => row_below hx (h.fields p hp), fun p hp => row_below hx (h.names p hp)⟩
theorem RawRows.forms {base : Nat} {W : World} {ss : List (RRec × Value)} {es : List (RCho × Value)} {ts : List Tok} {sv ev rv : Value} (h : RawRows base W ss es ts sv ev rv) :
    ∃ sa sc ea ec ra rc, sv = .slice sa ss.length sc ∧ ev = .slice ea es.length ec ∧ rv = .slice ra ts.length rc := by
  obtain ⟨sa, sc, h1⟩ := ownsRow_form h.structs
  obtain ⟨ea, ec, h2⟩ := ownsRow_form h.enums
  obtain ⟨ra, rc, h3⟩ := ownsRow_form h.roots
  exact ⟨sa, sc, ea, ec, ra, rc, h1, h2, h3⟩
def SchemaPost (R g c : Nat) (l : List Tok) (w : World) (x : Res RRaw) (e : Ending) (w' : World) : Prop :=
  match x with
  | .ok a r' => ∃ ss es ts sv ev rv, e = .returned (.tuple #[.agg #[sv, ev, rv], .bool true]) ∧ a = rawOf ss es ts ∧ RawRows (w.heap.size + 1) w' ss es ts sv ev rv ∧ Rd w' R g c l r' (0, 0) ∧ Exc R w.heap.size w w'
  | .no cc p => e = .returned (.tuple #[.agg #[.slice none 0 0, .slice none 0 0, .slice none 0 0], .bool false]) ∧ (∃ r', Rd w' R g c l r' (cc, p)) ∧ Exc R w.heap.size w w'
theorem isT_end {r : List Tok} (h : Ends r) : isT 0 [] r = decide ((hd r).kind = 0) := by
  cases r with
  | nil => exact h.elim
  | cons t q =>
    unfold isT
    show (decide (t.kind = 0) && decide (t.text = [])) = decide (t.kind = 0)
    rcases h with ⟨h1, h2, _⟩ | ⟨h1, _⟩
    · rw [h1, h2]; rfl
    · rw [decide_eq_false h1, Bool.false_and]
def SchemaAt (R g c : Nat) (l : List Tok) (A : Nat) (w0 : World) (x : Res RRaw) (wr : World) : Prop :=
  ∃ ss es ts sv ev rv r1, RawAt A wr ss es ts sv ev rv ∧ Rd wr R g c l r1 (0, 0) ∧ Exc R A w0 wr ∧ ss.length + es.length + ts.length + r1.length ≤ l.length ∧ x = schemaL (rawOf ss es ts) r1
set_option maxRecDepth 100000 in
set_option maxHeartbeats 2000000 in
theorem schema_any (w : World) (R g c : Nat) (l r : List Tok) (hl : l.length ≤ 2048) (h : Rd w R g c l r (0, 0)) :
    Calls Tryz.prog 69 #[.pointer (some ⟨R, 0, none⟩)] w (SchemaPost R g c l w (schemaL noRaw r)) := by
  have hR := blk_lt h.blk
  have hg := h.glt
  have hb0 : Below w.heap.size w ((w.alloc (.cells #[.slice none 0 0, .slice none 0 0, .slice none 0 0] 69)).alloc (.cells #[.slice none 0 0, .slice none 0 0, .slice none 0 0] 69)) := ((Below.refl _ _).alloc (Nat.le_refl _) _).alloc (by simp) _
  have HX0 := Lib.hid (Exc.of_below (R := R) hb0)
  have HR0 := Lib.hid (h.keep hb0)
  have HZ0 := Lib.hid (blk_alloc (heap_alloc_new w (.cells #[.slice none 0 0, .slice none 0 0, .slice none 0 0] 69)) (.cells #[.slice none 0 0, .slice none 0 0, .slice none 0 0] 69))
  have hA0 : ((w.alloc (.cells #[.slice none 0 0, .slice none 0 0, .slice none 0 0] 69)).alloc (.cells #[.slice none 0 0, .slice none 0 0, .slice none 0 0] 69)).heap[w.heap.size + 1]? = some (.cells #[.slice none 0 0, .slice none 0 0, .slice none 0 0] 69 (0, 0)) := by
    have := heap_alloc_new (w.alloc (.cells #[.slice none 0 0, .slice none 0 0, .slice none 0 0] 69)) (.cells #[.slice none 0 0, .slice none 0 0, .slice none 0 0] 69)
    rwa [World.size_alloc] at this
  have HA0 : Hid (RawAt (w.heap.size + 1) ((w.alloc (.cells #[.slice none 0 0, .slice none 0 0, .slice none 0 0] 69)).alloc (.cells #[.slice none 0 0, .slice none 0 0, .slice none 0 0] 69)) [] [] [] (.slice none 0 0) (.slice none 0 0) (.slice none 0 0)) :=
    Lib.hid ⟨hA0, World.ownsRow_nil _ _ _ _, World.ownsRow_nil _ _ _ _, World.ownsRow_nil _ _ _ _, (fun p hp => by cases hp), (fun p hp => by cases hp), (fun p hp => by cases hp)⟩
  have hlt0 : w.heap.size + 1 < ((w.alloc (.cells #[.slice none 0 0, .slice none 0 0, .slice none 0 0] 69)).alloc (.cells #[.slice none 0 0, .slice none 0 0, .slice none 0 0] 69)).heap.size := blk_lt hA0
  clear h hb0 hA0
  go_enter Tryz.func69, Tryz.ntmps69
  go_upto_region 2 with (fail)
  generalize hW0 : (w.alloc (.cells #[.slice none 0 0, .slice none 0 0, .slice none 0 0] 69)).alloc (.cells #[.slice none 0 0, .slice none 0 0, .slice none 0 0] 69) = W0 at *
  clear hW0
  have hcnt : r.length ≤ l.length := HR0.out.len
  go_loopw [] (fun wr => SchemaAt R g c l (w.heap.size + 1) W0 (schemaL noRaw r) wr) (fun wr => lenAt (wr.cell? ⟨R, 0, none⟩))
  case atStart => exact ⟨[], [], [], _, _, _, r, HA0.out, HR0.out, Exc.refl _ _ _, by simpa using hcnt, rfl⟩
  case round =>
    clear HA0 HR0
    obtain ⟨ss, es, ts, sv, ev, rv, r1, ha, hr, hx, hc, hs⟩ := hrel
    have hend := hr.ends
    have HST := Lib.hid (hs.trans (schemaL_step hend))
    have HM := Lib.hid (show lenAt (wr.cell? ⟨R, 0, none⟩) = r1.length by rw [hr.cells3.1]; rfl)
    have HEAT := Lib.hid (part_eats (a := rawOf ss es ts) hend)
    have HK := Lib.hid (isT_end hend)
    have HA := Lib.hid ha
    have HR := Lib.hid hr
    have HX := Lib.hid hx
    have HZ := Lib.hid (blk_exc HZ0.out hx (by omega) (by omega))
    clear ha hr hx hs hend
    go_wp2_with fail
    refine (rdStands_any _ R g c l r1 (0, 0) 0 ⟨#[]⟩ [] (by kernel_rfl) HR.out).mono ?_
    rintro e W2 ⟨rfl, hb2⟩
    have HA2 := Lib.hid (HA.out.fell hb2)
    have HR2 := Lib.hid (HR.out.keep hb2)
    have HX2 := Lib.hid (HX.out.bel (by omega) hb2)
    have HZ2 := Lib.hid (blk_below HZ.out hb2 (blk_lt HZ.out))
    clear hb2 HA HR HX HZ
    rw [HK.out]
    by_cases hk : (hd r1).kind = 0
    · have HST1 := Lib.hid (HST.out.trans (if_pos hk))
      rw [decide_eq_true hk]
      clear hk
      obtain ⟨hA2, a0, a1, a2, _⟩ := blk3 HA2.out.blk
      obtain ⟨hz, z0, z1, z2, y0, y1, y2⟩ := blk3 HZ2.out
      have HRW := Lib.hid (HA2.out.rows (base := w.heap.size + 1) (by omega))
      obtain ⟨sa, sc, ea, ec, ra, rc, rfl, rfl, rfl⟩ := HRW.out.forms
      go_wp2
      refine post_gen (fun Wf => Wf.heap[w.heap.size]? = some (.cells #[.slice sa ss.length sc, .slice ea es.length ec, .slice ra ts.length rc] 69 (0, 0)) ∧ RawRows (w.heap.size + 1) Wf ss es ts (.slice sa ss.length sc) (.slice ea es.length ec) (.slice ra ts.length rc) ∧ Rd Wf R g c l r1 (0, 0) ∧ Exc R w.heap.size w Wf) ⟨?_, ?_, ?_, ?_⟩ ?_
      · exact blk_set3 HZ2.out _ _ _
      · exact HRW.out.exc (exc_set3 W2 w.heap.size _ _ _) (by omega)
      · exact HR2.out.set3 (by omega) (by omega) _ _ _
      · exact (HX0.out.trans (HX2.out.mono (by omega))).set3 (Nat.le_refl _) _ _ _
      · rintro Wf ⟨e1, e2, e3, e4⟩
        obtain ⟨_, c0, c1, c2, _⟩ := blk3 e1
        rw [HST1.out]
        exact bodyPost_ret (v := .tuple #[.agg #[.slice sa ss.length sc, .slice ea es.length ec, .slice ra ts.length rc], .bool true]) (by simp [results, Tryz.results69, go_sem, c0, c1, c2]) rfl ⟨ss, es, ts, _, _, _, rfl, rfl, e2, e3, e4⟩
    · have HST1 := Lib.hid (HST.out.trans (if_neg hk))
      rw [decide_eq_false hk]
      clear hk
      go_wp2_with fail
      refine (part_any _ R g c (w.heap.size + 1) l r1 ss es ts sv ev rv hl (by omega) (by omega) HR2.out HA2.out hc).mono ?_
      rintro e W3 hp
      have HP := Lib.hid hp
      clear hp
      generalize partR (rawOf ss es ts) r1 = q at *
      obtain ⟨a', r'⟩ | ⟨cc, pp⟩ := q
      · obtain ⟨rfl, ⟨ss', es', ts', sv', ev', rv', rfl, ha', hc'⟩, hr', hx'⟩ := HP.out
        have HA3 := Lib.hid ha'
        have HR3 := Lib.hid hr'
        have HX3 := Lib.hid (HX2.out.trans hx')
        have HM3 := Lib.hid (show lenAt (W3.cell? ⟨R, 0, none⟩) = r'.length by rw [hr'.cells3.1]; rfl)
        have HST2 := Lib.hid (HST1.out.trans (bind_ok _ _ _))
        have HLT := Lib.hid (HEAT.out _ _ rfl).2
        clear ha' hr' hx' HP
        go_wp2
        go_roundw
        case rel => exact ⟨ss', es', ts', sv', ev', rv', r', HA3.out, HR3.out, HX3.out, hc', HST2.out⟩
        case measure => rw [HM3.out, HM.out]; exact HLT.out
      · obtain ⟨rfl, ⟨r', hr'⟩, hx'⟩ := HP.out
        have HR3 := Lib.hid hr'
        have HX3 := Lib.hid (HX2.out.trans hx')
        have HZ3 := Lib.hid (blk_exc HZ2.out hx' (by omega) (by omega))
        have HST2 := Lib.hid (HST1.out.trans (bind_no _ _ _))
        obtain ⟨hz, z0, z1, z2, y0, y1, y2⟩ := blk3 HZ3.out
        clear hr' hx' HP
        go_wp2
        refine post_gen (fun Wf => Wf.heap[w.heap.size]? = some (.cells #[.slice none 0 0, .slice none 0 0, .slice none 0 0] 69 (0, 0)) ∧ Rd Wf R g c l r' (cc, pp) ∧ Exc R w.heap.size w Wf) ⟨?_, ?_, ?_⟩ ?_
        · exact blk_set3 HZ3.out _ _ _
        · exact HR3.out.set3 (by omega) (by omega) _ _ _
        · exact (HX0.out.trans (HX3.out.mono (by omega))).set3 (Nat.le_refl _) _ _ _
        · rintro Wf ⟨e1, e3, e4⟩
          obtain ⟨_, c0, c1, c2, _⟩ := blk3 e1
          rw [HST2.out]
          exact bodyPost_ret (v := .tuple #[.agg #[.slice none 0 0, .slice none 0 0, .slice none 0 0], .bool false]) (by simp [results, Tryz.results69, go_sem, c0, c1, c2]) rfl ⟨rfl, ⟨r', e3⟩, e4⟩
end Go.Proofs.YtleclhnlojalbaaGreatDoor
