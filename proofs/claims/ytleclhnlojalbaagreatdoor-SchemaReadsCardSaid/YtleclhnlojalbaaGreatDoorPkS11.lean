/-
  The reader of the package idl: the whole text. Conditions: those that each theorem names.
  What a region that draws its order may use: a contract that leaves the world as it was; the string of no bytes. Conditions: those that each theorem names.
  The document's own kind: what a written type's name stands for. Conditions: those that each theorem names.
  What the document's own Signed, Size and Sign hand back, each by a walk of its text. Conditions: those that each theorem names.
  The document's own small functions on texts: a byte at a place, letters, digits. Conditions: those that each theorem names.
-/
import Derived.Test.YtleclhnlojalbaaGreatDoorPkS2
import Derived.Test.YtleclhnlojalbaaGreatDoorPkS4
import Derived.Test.YtleclhnlojalbaaGreatDoorPkS10
import Derived.WalkKit
import Derived.BigQuiet
import Derived.Laws.BytesArg
import Derived.Below
import Derived.Deep.QuietTactic
import Derived.Deep.Cut
namespace Go.Proofs.YtleclhnlojalbaaGreatDoor
open Go.ChangeShapes Go.WideShapes Go.ChangeAt Go.RowKit Go.Shelf

/-- A schema as it is read, in rows of the call's own. -/
structure RawRows (base : Nat) (W : World) (ss : List (RRec × Value)) (es : List (RCho × Value)) (ts : List Tok) (sv ev rv : Value) : Prop where
  structs : W.ownsRow base 114 3 sv ss.length (recsCells ss)
  enums : W.ownsRow base 117 3 ev es.length (chosCells es)
  roots : W.ownsRow base 109 3 rv ts.length (toksCells ts)
  fields : ∀ p ∈ ss, W.ownsRow base 135 8 p.2 p.1.fields.length (fieldsCells p.1.fields)
  names : ∀ p ∈ es, W.ownsRow base 109 3 p.2 p.1.names.length (toksCells p.1.names)
theorem RawAt.rows {A base : Nat} {W : World} {ss : List (RRec × Value)} {es : List (RCho × Value)} {ts : List Tok} {sv ev rv : Value} (h : RawAt A W ss es ts sv ev rv) (hb : base ≤ A + 1) : RawRows base W ss es ts sv ev rv :=
  ⟨ownsRow_base h.structs hb, ownsRow_base h.enums hb, ownsRow_base h.roots hb, fun p hp => ownsRow_base (h.fields p hp) hb, fun p hp => ownsRow_base (h.names p hp) hb⟩
theorem RawRows.base {base base' : Nat} {W : World} {ss : List (RRec × Value)} {es : List (RCho × Value)} {ts : List Tok} {sv ev rv : Value} (h : RawRows base W ss es ts sv ev rv) (hb : base' ≤ base) : RawRows base' W ss es ts sv ev rv :=
  ⟨ownsRow_base h.structs hb, ownsRow_base h.enums hb, ownsRow_base h.roots hb, fun p hp => ownsRow_base (h.fields p hp) hb, fun p hp => ownsRow_base (h.names p hp) hb⟩
theorem row_exc {X : Nat} {w w' : World} (h : Exc X w.heap.size w w') {base : Nat} {e : TypeId} {size : Nat} {v : Value} {n : Nat} {xs : List Value} (ho : w.ownsRow base e size v n xs) (hX : X < base) : w'.ownsRow base e size v n xs :=
  h.ownsRow ho (fun e => by have := (ownsRow_lt ho X e).1; omega)
theorem RawRows.exc {base X : Nat} {W W' : World} {ss : List (RRec × Value)} {es : List (RCho × Value)} {ts : List Tok} {sv ev rv : Value} (h : RawRows base W ss es ts sv ev rv) (hx : Exc X W.heap.size W W') (hX : X < base) : RawRows base W' ss es ts sv ev rv :=
  ⟨row_exc hx h.structs hX, row_exc hx h.enums hX, row_exc hx h.roots hX, fun p hp => row_exc hx (h.fields p hp) hX, fun p hp => row_exc hx (h.names p hp) hX⟩
theorem row_below {w w' : World} (h : Below w.heap.size w w') {base : Nat} {e : TypeId} {size : Nat} {v : Value} {n : Nat} {xs : List Value} (ho : w.ownsRow base e size v n xs) : w'.ownsRow base e size v n xs := by
  obtain ⟨hl, h'⟩ := ho
  refine ⟨hl, ?_⟩
  rcases h' with h1 | ⟨g', cap', cur, hv, h1, hg', h2⟩
  · exact .inl h1
  · exact .inr ⟨g', cap', cur, hv, h1, (h.block g' (blk_lt hg')).trans hg', h2⟩
theorem RawRows.below {base : Nat} {W W' : World} {ss : List (RRec × Value)} {es : List (RCho × Value)} {ts : List Tok} {sv ev rv : Value} (h : RawRows base W ss es ts sv ev rv) (hx : Below W.heap.size W W') : RawRows base W' ss es ts sv ev rv :=
  ⟨row_below hx h.structs, row_below hx h.enums, row_below hx h.roots, fun p hp => row_below hx (h.fields p hp), fun p hp => row_below hx (h.names p hp)⟩
theorem RawRows.forms {base : Nat} {W : World} {ss : List (RRec × Value)} {es : List (RCho × Value)} {ts : List Tok} {sv ev rv : Value} (h : RawRows base W ss es ts sv ev rv) :
    ∃ sa sc ea ec ra rc, sv = .slice sa ss.length sc ∧ ev = .slice ea es.length ec ∧ rv = .slice ra ts.length rc := by
  obtain ⟨sa, sc, h1⟩ := ownsRow_form h.structs
  obtain ⟨ea, ec, h2⟩ := ownsRow_form h.enums
  obtain ⟨ra, rc, h3⟩ := ownsRow_form h.roots
  exact ⟨sa, sc, ea, ec, ra, rc, h1, h2, h3⟩
/-- What the reading of the whole hands back. -/
def SchemaPost (R g c : Nat) (l : List Tok) (w : World) (x : Res RRaw) (e : Ending) (w' : World) : Prop :=
  match x with
  | .ok a r' => ∃ ss es ts sv ev rv, e = .returned (.tuple #[.agg #[sv, ev, rv], .bool true]) ∧ a = rawOf ss es ts ∧ RawRows (w.heap.size + 1) w' ss es ts sv ev rv ∧ Rd w' R g c l r' (0, 0) ∧ Exc R w.heap.size w w'
  | .no cc p => e = .returned (.tuple #[.agg #[.slice none 0 0, .slice none 0 0, .slice none 0 0], .bool false]) ∧ (∃ r', Rd w' R g c l r' (cc, p)) ∧ Exc R w.heap.size w w'
theorem isT_end {r : List Tok} (h : Ends r) : isT 0 [] r = decide ((hd r).kind = 0) := by
  cases r with
  | nil => exact h.elim
  | cons t q =>
    unfold isT
    show (decide (t.kind = 0) && decide (t.text = [])) = decide (t.kind = 0)
    rcases h with ⟨h1, h2, _⟩ | ⟨h1, _⟩
    · rw [h1, h2]; rfl
    · rw [decide_eq_false h1, Bool.false_and]
/-- Where the reader is among the parts of a schema. -/
def SchemaAt (R g c : Nat) (l : List Tok) (A : Nat) (w0 : World) (x : Res RRaw) (wr : World) : Prop :=
  ∃ ss es ts sv ev rv r1, RawAt A wr ss es ts sv ev rv ∧ Rd wr R g c l r1 (0, 0) ∧ Exc R A w0 wr ∧ ss.length + es.length + ts.length + r1.length ≤ l.length ∧ x = schemaL (rawOf ss es ts) r1
set_option maxRecDepth 100000 in
set_option maxHeartbeats 2000000 in
theorem schema_any (w : World) (R g c : Nat) (l r : List Tok) (hl : l.length ≤ 2048) (h : Rd w R g c l r (0, 0)) :
    Calls Tryz.prog 69 #[.pointer (some ⟨R, 0, none⟩)] w (SchemaPost R g c l w (schemaL noRaw r)) := by
  have hR := blk_lt h.blk
  have hg := h.glt
  have hb0 : Below w.heap.size w ((w.alloc (.cells #[.slice none 0 0, .slice none 0 0, .slice none 0 0] 69)).alloc (.cells #[.slice none 0 0, .slice none 0 0, .slice none 0 0] 69)) := ((Below.refl _ _).alloc (Nat.le_refl _) _).alloc (by simp) _
  have HX0 := Lib.hid (Exc.of_below (R := R) hb0)
  have HR0 := Lib.hid (h.keep hb0)
  have HZ0 := Lib.hid (blk_alloc (heap_alloc_new w (.cells #[.slice none 0 0, .slice none 0 0, .slice none 0 0] 69)) (.cells #[.slice none 0 0, .slice none 0 0, .slice none 0 0] 69))
  have hA0 : ((w.alloc (.cells #[.slice none 0 0, .slice none 0 0, .slice none 0 0] 69)).alloc (.cells #[.slice none 0 0, .slice none 0 0, .slice none 0 0] 69)).heap[w.heap.size + 1]? = some (.cells #[.slice none 0 0, .slice none 0 0, .slice none 0 0] 69 (0, 0)) := by
    have := heap_alloc_new (w.alloc (.cells #[.slice none 0 0, .slice none 0 0, .slice none 0 0] 69)) (.cells #[.slice none 0 0, .slice none 0 0, .slice none 0 0] 69)
    rwa [World.size_alloc] at this
  have HA0 : Hid (RawAt (w.heap.size + 1) ((w.alloc (.cells #[.slice none 0 0, .slice none 0 0, .slice none 0 0] 69)).alloc (.cells #[.slice none 0 0, .slice none 0 0, .slice none 0 0] 69)) [] [] [] (.slice none 0 0) (.slice none 0 0) (.slice none 0 0)) :=
    Lib.hid ⟨hA0, World.ownsRow_nil _ _ _ _, World.ownsRow_nil _ _ _ _, World.ownsRow_nil _ _ _ _, (fun p hp => by cases hp), (fun p hp => by cases hp), (fun p hp => by cases hp)⟩
  have hlt0 : w.heap.size + 1 < ((w.alloc (.cells #[.slice none 0 0, .slice none 0 0, .slice none 0 0] 69)).alloc (.cells #[.slice none 0 0, .slice none 0 0, .slice none 0 0] 69)).heap.size := blk_lt hA0
  clear h hb0 hA0
  go_enter Tryz.func69, Tryz.ntmps69
  go_upto_region 2 with (fail)
  generalize hW0 : (w.alloc (.cells #[.slice none 0 0, .slice none 0 0, .slice none 0 0] 69)).alloc (.cells #[.slice none 0 0, .slice none 0 0, .slice none 0 0] 69) = W0 at *
  clear hW0
  have hcnt : r.length ≤ l.length := HR0.out.len
  go_loopw [] (fun wr => SchemaAt R g c l (w.heap.size + 1) W0 (schemaL noRaw r) wr) (fun wr => lenAt (wr.cell? ⟨R, 0, none⟩))
  case atStart => exact ⟨[], [], [], _, _, _, r, HA0.out, HR0.out, Exc.refl _ _ _, by simpa using hcnt, rfl⟩
  case round =>
    clear HA0 HR0
    obtain ⟨ss, es, ts, sv, ev, rv, r1, ha, hr, hx, hc, hs⟩ := hrel
    have hend := hr.ends
    have HST := Lib.hid (hs.trans (schemaL_step hend))
    have HM := Lib.hid (show lenAt (wr.cell? ⟨R, 0, none⟩) = r1.length by rw [hr.cells3.1]; rfl)
    have HEAT := Lib.hid (part_eats (a := rawOf ss es ts) hend)
    have HK := Lib.hid (isT_end hend)
    have HA := Lib.hid ha
    have HR := Lib.hid hr
    have HX := Lib.hid hx
    have HZ := Lib.hid (blk_exc HZ0.out hx (by omega) (by omega))
    clear ha hr hx hs hend
    go_wp2_with fail
    refine (rdStands_any _ R g c l r1 (0, 0) 0 ⟨#[]⟩ [] (by kernel_rfl) HR.out).mono ?_
    rintro e W2 ⟨rfl, hb2⟩
    have HA2 := Lib.hid (HA.out.fell hb2)
    have HR2 := Lib.hid (HR.out.keep hb2)
    have HX2 := Lib.hid (HX.out.bel (by omega) hb2)
    have HZ2 := Lib.hid (blk_below HZ.out hb2 (blk_lt HZ.out))
    clear hb2 HA HR HX HZ
    rw [HK.out]
    by_cases hk : (hd r1).kind = 0
    · have HST1 := Lib.hid (HST.out.trans (if_pos hk))
      rw [decide_eq_true hk]
      clear hk
      obtain ⟨hA2, a0, a1, a2, _⟩ := blk3 HA2.out.blk
      obtain ⟨hz, z0, z1, z2, y0, y1, y2⟩ := blk3 HZ2.out
      have HRW := Lib.hid (HA2.out.rows (base := w.heap.size + 1) (by omega))
      obtain ⟨sa, sc, ea, ec, ra, rc, rfl, rfl, rfl⟩ := HRW.out.forms
      go_wp2
      refine post_gen (fun Wf => Wf.heap[w.heap.size]? = some (.cells #[.slice sa ss.length sc, .slice ea es.length ec, .slice ra ts.length rc] 69 (0, 0)) ∧ RawRows (w.heap.size + 1) Wf ss es ts (.slice sa ss.length sc) (.slice ea es.length ec) (.slice ra ts.length rc) ∧ Rd Wf R g c l r1 (0, 0) ∧ Exc R w.heap.size w Wf) ⟨?_, ?_, ?_, ?_⟩ ?_
      · exact blk_set3 HZ2.out _ _ _
      · exact HRW.out.exc (exc_set3 W2 w.heap.size _ _ _) (by omega)
      · exact HR2.out.set3 (by omega) (by omega) _ _ _
      · exact (HX0.out.trans (HX2.out.mono (by omega))).set3 (Nat.le_refl _) _ _ _
      · rintro Wf ⟨e1, e2, e3, e4⟩
        obtain ⟨_, c0, c1, c2, _⟩ := blk3 e1
        rw [HST1.out]
        exact bodyPost_ret (v := .tuple #[.agg #[.slice sa ss.length sc, .slice ea es.length ec, .slice ra ts.length rc], .bool true]) (by simp [results, Tryz.results69, go_sem, c0, c1, c2]) rfl ⟨ss, es, ts, _, _, _, rfl, rfl, e2, e3, e4⟩
    · have HST1 := Lib.hid (HST.out.trans (if_neg hk))
      rw [decide_eq_false hk]
      clear hk
      go_wp2_with fail
      refine (part_any _ R g c (w.heap.size + 1) l r1 ss es ts sv ev rv hl (by omega) (by omega) HR2.out HA2.out hc).mono ?_
      rintro e W3 hp
      have HP := Lib.hid hp
      clear hp
      generalize partR (rawOf ss es ts) r1 = q at *
      obtain ⟨a', r'⟩ | ⟨cc, pp⟩ := q
      · obtain ⟨rfl, ⟨ss', es', ts', sv', ev', rv', rfl, ha', hc'⟩, hr', hx'⟩ := HP.out
        have HA3 := Lib.hid ha'
        have HR3 := Lib.hid hr'
        have HX3 := Lib.hid (HX2.out.trans hx')
        have HM3 := Lib.hid (show lenAt (W3.cell? ⟨R, 0, none⟩) = r'.length by rw [hr'.cells3.1]; rfl)
        have HST2 := Lib.hid (HST1.out.trans (bind_ok _ _ _))
        have HLT := Lib.hid (HEAT.out _ _ rfl).2
        clear ha' hr' hx' HP
        go_wp2
        go_roundw
        case rel => exact ⟨ss', es', ts', sv', ev', rv', r', HA3.out, HR3.out, HX3.out, hc', HST2.out⟩
        case measure => rw [HM3.out, HM.out]; exact HLT.out
      · obtain ⟨rfl, ⟨r', hr'⟩, hx'⟩ := HP.out
        have HR3 := Lib.hid hr'
        have HX3 := Lib.hid (HX2.out.trans hx')
        have HZ3 := Lib.hid (blk_exc HZ2.out hx' (by omega) (by omega))
        have HST2 := Lib.hid (HST1.out.trans (bind_no _ _ _))
        obtain ⟨hz, z0, z1, z2, y0, y1, y2⟩ := blk3 HZ3.out
        clear hr' hx' HP
        go_wp2
        refine post_gen (fun Wf => Wf.heap[w.heap.size]? = some (.cells #[.slice none 0 0, .slice none 0 0, .slice none 0 0] 69 (0, 0)) ∧ Rd Wf R g c l r' (cc, pp) ∧ Exc R w.heap.size w Wf) ⟨?_, ?_, ?_⟩ ?_
        · exact blk_set3 HZ3.out _ _ _
        · exact HR3.out.set3 (by omega) (by omega) _ _ _
        · exact (HX0.out.trans (HX3.out.mono (by omega))).set3 (Nat.le_refl _) _ _ _
        · rintro Wf ⟨e1, e3, e4⟩
          obtain ⟨_, c0, c1, c2, _⟩ := blk3 e1
          rw [HST2.out]
          exact bodyPost_ret (v := .tuple #[.agg #[.slice none 0 0, .slice none 0 0, .slice none 0 0], .bool false]) (by simp [results, Tryz.results69, go_sem, c0, c1, c2]) rfl ⟨rfl, ⟨r', e3⟩, e4⟩
end Go.Proofs.YtleclhnlojalbaaGreatDoor
namespace Go.Proofs.YtleclhnlojalbaaGreatDoor
open Go.RowKit
theorem bel_drewN {B : Nat} {a w : World} (h : Below B a w) (n : Nat) : Below B a (w.drewN n) := h.trans ⟨rfl, rfl, rfl, Nat.le_refl _, fun _ _ => rfl⟩
theorem quiet_same {P : Program} {f : FuncId} {args : Array Value} {w : World} {n : Nat} {v : Value}
    (h : Calls P f args (w.drewN n) fun e w' => e = .returned v ∧ w.drewN n = w') : Calls P f args (w.drewN n) fun e w'' => e = .returned v ∧ ∃ m, w'' = w.drewN m :=
  h.mono fun _ _ ⟨he, hm⟩ => ⟨he, n, hm.symm⟩
/-- The string of no bytes, whatever the slice's address. -/
theorem conv_zero {P : Program} (w : World) (src e dst : TypeId) (hs : P.underlying src = some (.slice e)) (he : P.underlying e = some (.int .u8)) (hd : P.underlying dst = some .string) (a : Option Addr) (c : Nat) :
    (convert src dst (.slice a 0 c)).run P w = .ok (.string (strOfNums [])) w := by
  rw [run_convert_bytes_string w src dst e a 0 c hs he hd]
  cases a with
  | none => simp [Conv.bytesToString]; rfl
  | some x =>
    have hl : (loadCells x 0).run P w = .ok (([] : List Int).map (Value.int .u8)).toArray w := run_loadCells_list (P := P) w x [] (fun j v hj => by simp at hj)
    rw [run_bytesToString w x 0 c [] hl]
    simp [strOfNums]
    rfl
end Go.Proofs.YtleclhnlojalbaaGreatDoor
namespace Go.Proofs.YtleclhnlojalbaaGreatDoor
open Go.ChangeShapes Go.WideShapes Go.ChangeAt Go.RowKit Go.Shelf

def choNms (re : List (RCho × Value)) : List ByteArray := (re.map Prod.fst).map choNm
def recNms (rs : List (RRec × Value)) : List ByteArray := (rs.map Prod.fst).map recNm
theorem choNms_len (re : List (RCho × Value)) : (choNms re).length = re.length := by simp [choNms]
theorem recNms_len (rs : List (RRec × Value)) : (recNms rs).length = rs.length := by simp [recNms]
theorem choNms_at (re : List (RCho × Value)) (k : Nat) (hk : k < re.length) : (choNms re)[k]'(by rw [choNms_len]; exact hk) = strOfNums re[k].1.name := by simp [choNms, choNm]
theorem recNms_at (rs : List (RRec × Value)) (k : Nat) (hk : k < rs.length) : (recNms rs)[k]'(by rw [recNms_len]; exact hk) = strOfNums rs[k].1.name := by simp [recNms, recNm]
theorem tri_blk (w : World) (a b c : Array Value) (s t u : TypeId) : Below w.heap.size w (((w.alloc (.cells a s)).alloc (.cells b t)).alloc (.cells c u)) ∧ (((w.alloc (.cells a s)).alloc (.cells b t)).alloc (.cells c u)).heap[w.heap.size]? = some (.cells a s (0, 0)) ∧
    (((w.alloc (.cells a s)).alloc (.cells b t)).alloc (.cells c u)).heap[w.heap.size + 1]? = some (.cells b t (0, 0)) ∧ (((w.alloc (.cells a s)).alloc (.cells b t)).alloc (.cells c u)).heap[w.heap.size + 2]? = some (.cells c u (0, 0)) := by
  have h2 : ((w.alloc (.cells a s)).alloc (.cells b t)).heap[w.heap.size + 1]? = some (.cells b t (0, 0)) := by
    have := heap_alloc_new (w.alloc (.cells a s)) (.cells b t)
    rwa [World.size_alloc] at this
  have h3 := heap_alloc_new ((w.alloc (.cells a s)).alloc (.cells b t)) (.cells c u)
  have hb : Below w.heap.size w ((w.alloc (.cells a s)).alloc (.cells b t)) := ((Below.refl _ _).alloc (Nat.le_refl _) _).alloc (by simp) _
  refine ⟨hb.alloc hb.size _, blk_alloc (blk_alloc (heap_alloc_new w _) _) _, blk_alloc h2 _, by simpa using h3⟩
/-- What kind hands back. -/
def kindRes : Option (Nat × Nat) → Nat → Value
  | some q, ls => .tuple #[.agg #[.int .u8 (q.1 : Nat), .int .i64 (q.2 : Nat), .int .i64 (ls : Nat)], .bool true]
  | none, _ => .tuple #[.agg #[.int .u8 0, .int .i64 0, .int .i64 0], .bool false]
theorem kindD_basic {es ss : List ByteArray} {s : ByteArray} (h : basicK s ≠ 0) : kindD es ss s = some (basicK s, 0) := by rw [kindD, if_pos h]
theorem kindD_enum {es ss : List ByteArray} {s : ByteArray} {k : Nat} (h : basicK s = 0) (hi : idx es s = some k) : kindD es ss s = some (10, k) := by rw [kindD, if_neg (fun e => e h), hi]
theorem kindD_rec {es ss : List ByteArray} {s : ByteArray} {k : Nat} (h : basicK s = 0) (hi : idx es s = none) (hj : idx ss s = some k) : kindD es ss s = some (13, k) := by rw [kindD, if_neg (fun e => e h), hi, hj]
theorem kindD_none {es ss : List ByteArray} {s : ByteArray} (h : basicK s = 0) (hi : idx es s = none) (hj : idx ss s = none) : kindD es ss s = none := by rw [kindD, if_neg (fun e => e h), hi, hj]
/-- The result's block, written at the end. -/
theorem kd_end {w W : World} {g : Nat} {a b c : Value} {t : TypeId} (h : W.heap[g]? = some (.cells #[a, b, c] t (0, 0))) (hb : Below w.heap.size w W) (hg : w.heap.size ≤ g) (x y z : Value) :
    (((W.setCell ⟨g, 0, none⟩ x).setCell ⟨g, 1, none⟩ y).setCell ⟨g, 2, none⟩ z).heap[g]? = some (.cells #[x, y, z] t (0, 0)) ∧ Below w.heap.size w (((W.setCell ⟨g, 0, none⟩ x).setCell ⟨g, 1, none⟩ y).setCell ⟨g, 2, none⟩ z) :=
  ⟨blk_set3 h _ _ _, ((hb.setCell (p := ⟨g, 0, none⟩) hg x).setCell (p := ⟨g, 1, none⟩) hg y).setCell (p := ⟨g, 2, none⟩) hg z⟩
set_option maxRecDepth 100000 in
set_option maxHeartbeats 4000000 in
theorem rkind_any (w : World) {rb : Nat} {rs : List (RRec × Value)} {re : List (RCho × Value)} {rt : List Tok} {sv ev rv : Value} (h : RawRows rb w rs re rt sv ev rv) (y : RTy) :
    Calls Tryz.prog 66 #[.agg #[sv, ev, rv], .agg #[.string (strOfNums y.name), .int .i64 y.lists, .int .i64 y.place]] w fun e w' => e = .returned (kindRes (kindD (choNms re) (recNms rs) (strOfNums y.name)) y.lists) ∧ Below w.heap.size w w' := by
  obtain ⟨hb, hq0, hq1, hq2⟩ := tri_blk w #[sv, ev, rv] #[.string (strOfNums y.name), .int .i64 y.lists, .int .i64 y.place] #[.int .u8 0, .int .i64 0, .int .i64 0] 69 133 53
  have hf1 := row_few h.structs
  have hf2 := row_few h.enums
  obtain ⟨r, hr⟩ : ∃ r, kindD (choNms re) (recNms rs) (strOfNums y.name) = r := ⟨_, rfl⟩
  rw [hr]
  generalize hs : strOfNums y.name = s at *
  have HR := Lib.hid hr
  have HRAW := Lib.hid (h.below hb)
  have HB := Lib.hid hb
  have HQ0 := Lib.hid hq0
  have HQ1 := Lib.hid hq1
  have HQ2 := Lib.hid hq2
  obtain ⟨sa, sc, ea, ec, ra, rc, rfl, rfl, rfl⟩ := h.forms
  clear h hb hq0 hq1 hq2 hr hs
  go_enter Tryz.func66, Tryz.ntmps66
  go_upto_region 1 with (fail)
  generalize (((w.alloc (.cells #[.slice sa rs.length sc, .slice ea re.length ec, .slice ra rt.length rc] 69)).alloc (.cells #[.string s, .int .i64 y.lists, .int .i64 y.place] 133)).alloc (.cells #[.int .u8 0, .int .i64 0, .int .i64 0] 53)) = W0 at *
  obtain ⟨_, y0, _⟩ := blk3 HQ1.out
  go_wp2_with fail
  refine (rbasic_any s W0).mono ?_
  rintro e W1 ⟨rfl, hb1⟩
  have HB1 := Lib.hid (HB.out.trans (hb1.mono HB.out.size))
  have HRAW1 := Lib.hid (HRAW.out.below hb1)
  have HP0 := Lib.hid (blk_below HQ0.out hb1 (blk_lt HQ0.out))
  have HP1 := Lib.hid (blk_below HQ1.out hb1 (blk_lt HQ1.out))
  have HP2 := Lib.hid (blk_below HQ2.out hb1 (blk_lt HQ2.out))
  clear hb1 y0 HRAW HQ0 HQ1 HQ2 HB
  by_cases hk : basicK s = 0
  · rw [hk]
    have HK := Lib.hid hk
    clear hk
    go_wp2
    go_loopw [7] (fun i wr => Below W1.heap.size W1 wr ∧ ∃ k : Nat, k ≤ re.length ∧ i = .int .i64 k ∧ hasS ((choNms re).take k) s = false) (fun i _ => re.length - (intOf i).toNat)
    case atStart => exact ⟨Below.refl _ _, 0, Nat.zero_le _, rfl, rfl⟩
    case round =>
      obtain ⟨hb, k, hkl, rfl, hi⟩ := hrel
      have HB2 := Lib.hid (HB1.out.trans (hb.mono HB1.out.size))
      have HBW := Lib.hid hb
      obtain ⟨_, p0, p1, _⟩ := blk3 (blk_below HP0.out hb (blk_lt HP0.out))
      obtain ⟨_, q0, q1, _⟩ := blk3 (blk_below HP1.out hb (blk_lt HP1.out))
      have HP2' := Lib.hid (blk_below HP2.out hb (blk_lt HP2.out))
      obtain ⟨hTl, _, _, _, f0, f1, f2⟩ := blk3 HP2'.out
      clear hb
      by_cases hlt : k < re.length
      · obtain ⟨g, c, hv, hc, hg, hcell⟩ := row_el choCells 3 (fun _ => rfl) (HRAW1.out.below HBW.out).enums k hlt
        obtain ⟨rfl, rfl⟩ := slice_inj hv
        have x0 : wr.cell? ⟨g, k * 3, none⟩ = some (.string (strOfNums re[k].1.name)) := hcell 0 (by omega)
        have hst := has_take_succ (choNms re) s k (by rw [choNms_len]; exact hlt)
        have HD := Lib.hid (idx_at (choNms re) s k (by rw [choNms_len]; exact hlt) hi)
        rw [choNms_at re k hlt] at hst HD
        generalize strOfNums re[k].1.name = q at *
        have hki : (k : Int) < re.length := by omega
        by_cases hq : q = s
        · have HE := Lib.hid (HR.out.symm.trans (kindD_enum HK.out (HD.out hq)))
          have t3 : (q.toList == s.toList) = true := ba_yes hq
          clear hq hi hst hcell hv
          go_wp2_with fail
          go_quiet (fail)
          go_wp2_with fail
          refine post_gen (fun Wf => Wf.heap[w.heap.size + 2]? = some (.cells #[.int .u8 10, .int .i64 k, .int .i64 y.lists] 53 (0, 0)) ∧ Below w.heap.size w Wf) (kd_end (blk_below HP2'.out (bel_drewN (Below.refl _ _) nq) (blk_lt HP2'.out)) (bel_drewN HB2.out nq) (Nat.le_add_right _ _) _ _ _) ?_
          rintro Wf ⟨e1, e2⟩
          obtain ⟨_, c0, c1, c2, _⟩ := blk3 e1
          exact bodyPost_ret (v := .tuple #[.agg #[.int .u8 10, .int .i64 k, .int .i64 y.lists], .bool true]) (by simp [results, Tryz.results66, go_sem, c0, c1, c2]) rfl ⟨by rw [HE.out]; rfl, e2⟩
        · have HI := Lib.hid (show hasS ((choNms re).take (k + 1)) s = false by rw [hst, hi, Bool.false_or]; exact decide_eq_false fun e => hq e.symm)
          have t3 : (q.toList == s.toList) = false := ba_no hq
          clear hq hi hst hcell hv
          go_wp2_with fail
          go_quiet (fail)
          go_wp2_with fail
          go_roundw
          case rel => exact ⟨bel_drewN HBW.out _, k + 1, by omega, by go_num, HI.out⟩
          case measure => simp [intOf]; omega
      · obtain rfl : k = re.length := by omega
        have HN10 := Lib.hid (idx_no (choNms re) s (by rw [← hi, ← choNms_len, List.take_length]))
        clear hi
        have HBX := HBW
        clear HB2 HBW HP2'
        go_wp2
        clear p0 p1 q0 q1 f0 f1 f2 hTl
        go_loopw [8] (fun i wr => Below W1.heap.size W1 wr ∧ ∃ k : Nat, k ≤ rs.length ∧ i = .int .i64 k ∧ hasS ((recNms rs).take k) s = false) (fun i _ => rs.length - (intOf i).toNat)
        case atStart => exact ⟨HBX.out, 0, Nat.zero_le _, rfl, rfl⟩
        case round =>
          obtain ⟨hb, k, hkl, rfl, hi⟩ := hrel
          have HB2 := Lib.hid (HB1.out.trans (hb.mono HB1.out.size))
          have HBW := Lib.hid hb
          obtain ⟨_, p0, p1, _⟩ := blk3 (blk_below HP0.out hb (blk_lt HP0.out))
          obtain ⟨_, q0, q1, _⟩ := blk3 (blk_below HP1.out hb (blk_lt HP1.out))
          have HP2' := Lib.hid (blk_below HP2.out hb (blk_lt HP2.out))
          obtain ⟨hTl, _, _, _, f0, f1, f2⟩ := blk3 HP2'.out
          clear hb
          by_cases hlt : k < rs.length
          · obtain ⟨g, c, hv, hc, hg, hcell⟩ := row_el recCells 3 (fun _ => rfl) (HRAW1.out.below HBW.out).structs k hlt
            obtain ⟨rfl, rfl⟩ := slice_inj hv
            have x0 : wr.cell? ⟨g, k * 3, none⟩ = some (.string (strOfNums rs[k].1.name)) := hcell 0 (by omega)
            have hst := has_take_succ (recNms rs) s k (by rw [recNms_len]; exact hlt)
            have HD := Lib.hid (idx_at (recNms rs) s k (by rw [recNms_len]; exact hlt) hi)
            rw [recNms_at rs k hlt] at hst HD
            generalize strOfNums rs[k].1.name = q at *
            have hki : (k : Int) < rs.length := by omega
            by_cases hq : q = s
            · have HE := Lib.hid (HR.out.symm.trans (kindD_rec HK.out HN10.out (HD.out hq)))
              have t3 : (q.toList == s.toList) = true := ba_yes hq
              clear hq hi hst hcell hv
              go_wp2_with fail
              go_quiet (fail)
              go_wp2_with fail
              refine post_gen (fun Wf => Wf.heap[w.heap.size + 2]? = some (.cells #[.int .u8 13, .int .i64 k, .int .i64 y.lists] 53 (0, 0)) ∧ Below w.heap.size w Wf) (kd_end (blk_below HP2'.out (bel_drewN (Below.refl _ _) nq) (blk_lt HP2'.out)) (bel_drewN HB2.out nq) (Nat.le_add_right _ _) _ _ _) ?_
              rintro Wf ⟨e1, e2⟩
              obtain ⟨_, c0, c1, c2, _⟩ := blk3 e1
              exact bodyPost_ret (v := .tuple #[.agg #[.int .u8 13, .int .i64 k, .int .i64 y.lists], .bool true]) (by simp [results, Tryz.results66, go_sem, c0, c1, c2]) rfl ⟨by rw [HE.out]; rfl, e2⟩
            · have HI := Lib.hid (show hasS ((recNms rs).take (k + 1)) s = false by rw [hst, hi, Bool.false_or]; exact decide_eq_false fun e => hq e.symm)
              have t3 : (q.toList == s.toList) = false := ba_no hq
              clear hq hi hst hcell hv
              go_wp2_with fail
              go_quiet (fail)
              go_wp2_with fail
              go_roundw
              case rel => exact ⟨bel_drewN HBW.out _, k + 1, by omega, by go_num, HI.out⟩
              case measure => simp [intOf]; omega
          · obtain rfl : k = rs.length := by omega
            have HN13 := Lib.hid (idx_no (recNms rs) s (by rw [← hi, ← recNms_len, List.take_length]))
            clear hi
            have HE := Lib.hid (HR.out.symm.trans (kindD_none HK.out HN10.out HN13.out))
            go_wp2
            refine post_gen (fun Wf => Wf.heap[w.heap.size + 2]? = some (.cells #[.int .u8 0, .int .i64 0, .int .i64 0] 53 (0, 0)) ∧ Below w.heap.size w Wf) (kd_end HP2'.out HB2.out (Nat.le_add_right _ _) _ _ _) ?_
            rintro Wf ⟨e1, e2⟩
            obtain ⟨_, c0, c1, c2, _⟩ := blk3 e1
            exact bodyPost_ret (v := .tuple #[.agg #[.int .u8 0, .int .i64 0, .int .i64 0], .bool false]) (by simp [results, Tryz.results66, go_sem, c0, c1, c2]) rfl ⟨by rw [HE.out]; rfl, e2⟩
  · have HE := Lib.hid (HR.out.symm.trans (kindD_basic hk))
    have t1 : ((basicK s : Int) == 0) = false := by simp; omega
    have t2 : ((basicK s : Int) != 0) = true := by simp; omega
    obtain ⟨_, q0, q1, _⟩ := blk3 HP1.out
    obtain ⟨hTl, _, _, _, f0, f1, f2⟩ := blk3 HP2.out
    generalize basicK s = kk at *
    clear hk
    go_wp2_with fail
    refine post_gen (fun Wf => Wf.heap[w.heap.size + 2]? = some (.cells #[.int .u8 (kk : Nat), .int .i64 0, .int .i64 y.lists] 53 (0, 0)) ∧ Below w.heap.size w Wf) (kd_end HP2.out HB1.out (Nat.le_add_right _ _) _ _ _) ?_
    rintro Wf ⟨e1, e2⟩
    obtain ⟨_, c0, c1, c2, _⟩ := blk3 e1
    exact bodyPost_ret (v := .tuple #[.agg #[.int .u8 (kk : Nat), .int .i64 0, .int .i64 y.lists], .bool true]) (by simp [results, Tryz.results66, go_sem, c0, c1, c2]) rfl ⟨by rw [HE.out]; rfl, e2⟩
end Go.Proofs.YtleclhnlojalbaaGreatDoor
namespace Go.Proofs.YtleclhnlojalbaaGreatDoor
open Go.ChangeShapes Go.WideShapes Go.ChangeAt Go.RowKit

theorem rsigned_any (n s : Int) (w : World) (h0 : 0 ≤ n) (h1 : n ≤ 18446744073709551615) :
    Calls Tryz.prog 64 #[.int .u64 n, .int .i64 s] w fun e w' => e = .returned (.int .u64 (sgnOf n s)) ∧ w = w' := by
  by_cases e1 : s = 1
  · subst e1
    have ha := and_8 n h0 h1
    by_cases hlt : n % 256 < 128
    · have E : n % 256 = sgnOf n 1 := by rw [sgnOf_1, if_pos hlt]
      have H := Lib.hid E
      have ht : (n % 256 / 128 == 1) = false := by simp; omega
      clear E hlt
      go_enter Tryz.func64, Tryz.ntmps64
      go_wp2
      go_ret
      exact ⟨ret_int H.out, rfl⟩
    · have E : bits BinOp.or .u64 (n % 256) (IntKind.u64.wrap 4722366482869645213440) = sgnOf n 1 := by rw [sgnOf_1, if_neg hlt, show IntKind.u64.wrap 4722366482869645213440 = 18446744073709551360 from by decide, or_8 _ (by omega) (by omega)]
      have H := Lib.hid E
      have ht : (n % 256 / 128 == 1) = true := by simp; omega
      clear E hlt
      go_enter Tryz.func64, Tryz.ntmps64
      go_wp2
      go_ret
      exact ⟨ret_int H.out, rfl⟩
  by_cases e2 : s = 2
  · subst e2
    have ha := and_16 n h0 h1
    by_cases hlt : n % 65536 < 32768
    · have E : n % 65536 = sgnOf n 2 := by rw [sgnOf_2, if_pos hlt]
      have H := Lib.hid E
      have ht : (n % 65536 / 32768 == 1) = false := by simp; omega
      clear E hlt
      go_enter Tryz.func64, Tryz.ntmps64
      go_wp2
      go_ret
      exact ⟨ret_int H.out, rfl⟩
    · have E : bits BinOp.or .u64 (n % 65536) (IntKind.u64.wrap 1208925819614629174640640) = sgnOf n 2 := by rw [sgnOf_2, if_neg hlt, show IntKind.u64.wrap 1208925819614629174640640 = 18446744073709486080 from by decide, or_16 _ (by omega) (by omega)]
      have H := Lib.hid E
      have ht : (n % 65536 / 32768 == 1) = true := by simp; omega
      clear E hlt
      go_enter Tryz.func64, Tryz.ntmps64
      go_wp2
      go_ret
      exact ⟨ret_int H.out, rfl⟩
  by_cases e4 : s = 4
  · subst e4
    have ha := and_32 n h0 h1
    by_cases hlt : n % 4294967296 < 2147483648
    · have E : n % 4294967296 = sgnOf n 4 := by rw [sgnOf_4, if_pos hlt]
      have H := Lib.hid E
      have ht : (n % 4294967296 / 2147483648 == 1) = false := by simp; omega
      clear E hlt
      go_enter Tryz.func64, Tryz.ntmps64
      go_wp2
      go_ret
      exact ⟨ret_int H.out, rfl⟩
    · have E : bits BinOp.or .u64 (n % 4294967296) (IntKind.u64.wrap 79228162514264337589248983040) = sgnOf n 4 := by rw [sgnOf_4, if_neg hlt, show IntKind.u64.wrap 79228162514264337589248983040 = 18446744069414584320 from by decide, or_32 _ (by omega) (by omega)]
      have H := Lib.hid E
      have ht : (n % 4294967296 / 2147483648 == 1) = true := by simp; omega
      clear E hlt
      go_enter Tryz.func64, Tryz.ntmps64
      go_wp2
      go_ret
      exact ⟨ret_int H.out, rfl⟩
  have H := Lib.hid (sgnOf_else n s e1 e2 e4)
  have hs1 : (s != 1) = true := by simp; omega
  have hs2 : (s != 2) = true := by simp; omega
  have hs4 : (s != 4) = true := by simp; omega
  clear e1 e2 e4
  rw [H.out]
  go_enter Tryz.func64, Tryz.ntmps64
  go_wp2
  go_ret
  exact ⟨rfl, rfl⟩
theorem rsize_any (n : Int) (w : World) :
    Calls Tryz.prog 62 #[.int .i64 n] w fun e w' => e = .returned (.int .i64 (kSize n)) ∧ w = w' := by
  by_cases h : n < 1 ∨ 10 < n
  · have H := Lib.hid (kSize_else n h)
    have b1 : (n == 1) = false := by simp; omega
    have b2 : (n == 2) = false := by simp; omega
    have b3 : (n == 3) = false := by simp; omega
    have b4 : (n == 4) = false := by simp; omega
    have b5 : (n == 5) = false := by simp; omega
    have b6 : (n == 6) = false := by simp; omega
    have b7 : (n == 7) = false := by simp; omega
    have b8 : (n == 8) = false := by simp; omega
    have b9 : (n == 9) = false := by simp; omega
    have b10 : (n == 10) = false := by simp; omega
    clear h
    rw [H.out]
    go_enter Tryz.func62, Tryz.ntmps62
    go_wp2
    go_ret
    exact ⟨rfl, rfl⟩
  · have h' : n = 1 ∨ n = 2 ∨ n = 3 ∨ n = 4 ∨ n = 5 ∨ n = 6 ∨ n = 7 ∨ n = 8 ∨ n = 9 ∨ n = 10 := by omega
    clear h
    rcases h' with rfl | rfl | rfl | rfl | rfl | rfl | rfl | rfl | rfl | rfl
    all_goals
      go_enter Tryz.func62, Tryz.ntmps62
      go_wp2
      go_ret
      exact ⟨ret_int (by decide), rfl⟩
theorem rsign_any (n : Int) (w : World) :
    Calls Tryz.prog 63 #[.int .i64 n] w fun e w' => e = .returned (.bool (kSign n)) ∧ w = w' := by
  by_cases h1 : 2 ≤ n
  · by_cases h2 : n ≤ 5
    · rw [show kSign n = true from decide_eq_true ⟨h1, h2⟩]
      go_enter Tryz.func63, Tryz.ntmps63
      go_wp2
      go_ret
      exact ⟨rfl, rfl⟩
    · rw [show kSign n = false from decide_eq_false (fun h => h2 h.2)]
      go_enter Tryz.func63, Tryz.ntmps63
      go_wp2
      go_ret
      exact ⟨rfl, rfl⟩
  · rw [show kSign n = false from decide_eq_false (fun h => h1 h.1)]
    go_enter Tryz.func63, Tryz.ntmps63
    go_wp2
    go_ret
    exact ⟨rfl, rfl⟩
end Go.Proofs.YtleclhnlojalbaaGreatDoor
namespace Go.Proofs.YtleclhnlojalbaaGreatDoor
open Go.ChangeShapes Go.WideShapes Go.ChangeAt Go.RowKit Go.Shelf

theorem bts_get {s : ByteArray} {i : Nat} (h : i < s.size) : (bts s).getD i 0 = (s[i].toNat : Int) := by
  simp [bts, List.getD, h]
  rfl
theorem bts_end {s : ByteArray} {i : Nat} (h : s.size ≤ i) : (bts s).getD i 0 = 0 := by
  rw [List.getD, List.getElem?_eq_none (by rw [bts_length]; exact h)]
  rfl
theorem at_any (s : ByteArray) (x : Int) (i : Nat) (w : World) (hx : x = i) :
    Calls Tryz.prog 101 #[.string s, .int .i64 x] w fun e w' => e = .returned (.int .u8 ((bts s).getD i 0)) ∧ w = w' := by
  subst hx
  by_cases hi : i < s.size
  · rw [bts_get hi]
    go_enter Tryz.func101, Tryz.ntmps101
    go_wp2
    go_ret
    exact ⟨rfl, rfl⟩
  · rw [bts_end (by omega)]
    go_enter Tryz.func101, Tryz.ntmps101
    go_wp2
    go_ret
    exact ⟨rfl, rfl⟩
theorem rdigit_any (c : Int) (w : World) : Calls Tryz.prog 103 #[.int .u8 c] w fun e w' => e = .returned (.bool (isDig c)) ∧ w = w' := by
  by_cases h1 : 48 ≤ c
  · by_cases h2 : c ≤ 57
    · have e : isDig c = true := decide_eq_true ⟨h1, h2⟩
      rw [e]
      clear e
      go_enter Tryz.func103, Tryz.ntmps103
      go_wp2
      go_ret
      exact ⟨rfl, rfl⟩
    · have e : isDig c = false := decide_eq_false (fun h => h2 h.2)
      rw [e]
      clear e
      go_enter Tryz.func103, Tryz.ntmps103
      go_wp2
      go_ret
      exact ⟨rfl, rfl⟩
  · have e : isDig c = false := decide_eq_false (fun h => h1 h.1)
    rw [e]
    clear e
    go_enter Tryz.func103, Tryz.ntmps103
    go_wp2
    go_ret
    exact ⟨rfl, rfl⟩
theorem rletter_any (c : Int) (w : World) : Calls Tryz.prog 102 #[.int .u8 c] w fun e w' => e = .returned (.bool (isLet c)) ∧ w = w' := by
  by_cases h0 : c = 95
  · subst h0
    go_enter Tryz.func102, Tryz.ntmps102
    go_wp2
    go_ret
    exact ⟨rfl, rfl⟩
  have t0 : (c == 95) = false := by simp [h0]
  by_cases h1 : 65 ≤ c
  · by_cases h2 : c ≤ 90
    · have e : isLet c = true := by unfold isLet; exact decide_eq_true (by omega)
      rw [e]
      clear e
      clear h0
      go_enter Tryz.func102, Tryz.ntmps102
      go_wp2
      go_ret
      exact ⟨rfl, rfl⟩
    · by_cases h3 : 97 ≤ c
      · by_cases h4 : c ≤ 122
        · have e : isLet c = true := by unfold isLet; exact decide_eq_true (by omega)
          rw [e]
          clear e
          clear h0
          go_enter Tryz.func102, Tryz.ntmps102
          go_wp2
          go_ret
          exact ⟨rfl, rfl⟩
        · have e : isLet c = false := by unfold isLet; exact decide_eq_false (by omega)
          rw [e]
          clear e
          clear h0
          go_enter Tryz.func102, Tryz.ntmps102
          go_wp2
          go_ret
          exact ⟨rfl, rfl⟩
      · have e : isLet c = false := by unfold isLet; exact decide_eq_false (by omega)
        rw [e]
        clear e
        clear h0
        go_enter Tryz.func102, Tryz.ntmps102
        go_wp2
        go_ret
        exact ⟨rfl, rfl⟩
  · have h3 : ¬ 97 ≤ c := by omega
    have e : isLet c = false := by unfold isLet; exact decide_eq_false (by omega)
    rw [e]
    clear e
    clear h0
    go_enter Tryz.func102, Tryz.ntmps102
    go_wp2
    go_ret
    exact ⟨rfl, rfl⟩
end Go.Proofs.YtleclhnlojalbaaGreatDoor
