/-
  The package schema's declare: a new name is put into the map, or a fault is told. Conditions: those that each theorem names.
-/
import Derived.Test.YtgbcchiheddfpaaGreatDoorPkL30
import Derived.Test.YtgbcchiheddfpaaGreatDoorPkL31
import Derived.StillTailTactics
namespace Go.Proofs.YtgbcchiheddfpaaGreatDoor
open Go.ChangeShapes Go.WideShapes Go.ChangeAt Go.RowKit Go.Shelf

structure RawRows (base : Nat) (W : World) (ss : List (RRec × Value)) (es : List (RCho × Value)) (ts : List Tok) (sv ev rv : Value) : Prop where
  structs : W.ownsRow base 298 3 sv ss.length (recsCells ss)
  enums : W.ownsRow base 291 3 ev es.length (chosCells es)
  roots : W.ownsRow base 282 3 rv ts.length (toksCells ts)
  fields : ∀ p ∈ ss, W.ownsRow base 303 8 p.2 p.1.fields.length (fieldsCells p.1.fields)
  names : ∀ p ∈ es, W.ownsRow base 282 3 p.2 p.1.names.length (toksCells p.1.names)
theorem RawAt.rows {A base : Nat} {W : World} {ss : List (RRec × Value)} {es : List (RCho × Value)} {ts : List Tok} {sv ev rv : Value} (h : RawAt A W ss es ts sv ev rv) (hb : base ≤ A + 1) : RawRows base W ss es ts sv ev rv :=
  ⟨ownsRow_base h.structs hb, ownsRow_base h.enums hb, ownsRow_base h.roots hb, fun p hp => ownsRow_base (h.fields p hp) hb, fun p hp => ownsRow_base (h.names p hp) hb⟩
theorem RawRows.base {base base' : Nat} {W : World} {ss : List (RRec × Value)} {es : List (RCho × Value)} {ts : List Tok} {sv ev rv : Value} (h : RawRows base W ss es ts sv ev rv) (hb : base' ≤ base) : RawRows base' W ss es ts sv ev rv :=
  ⟨ownsRow_base h.structs hb, ownsRow_base h.enums hb, ownsRow_base h.roots hb, fun p hp => ownsRow_base (h.fields p hp) hb, fun p hp => ownsRow_base (h.names p hp) hb⟩
theorem row_exc {X : Nat} {w w' : World} (h : Exc X w.heap.size w w') {base : Nat} {e : TypeId} {size : Nat} {v : Value} {n : Nat} {xs : List Value} (ho : w.ownsRow base e size v n xs) (hX : X < base) : w'.ownsRow base e size v n xs :=
  h.ownsRow ho (fun e => by have := (ownsRow_lt ho X e).1; omega)
theorem RawRows.exc {base X : Nat} {W W' : World} {ss : List (RRec × Value)} {es : List (RCho × Value)} {ts : List Tok} {sv ev rv : Value} (h : RawRows base W ss es ts sv ev rv) (hx : Exc X W.heap.size W W') (hX : X < base) : RawRows base W' ss es ts sv ev rv :=
  ⟨row_exc hx h.structs hX, row_exc hx h.enums hX, row_exc hx h.roots hX, fun p hp => row_exc hx (h.fields p hp) hX, fun p hp => row_exc hx (h.names p hp) hX⟩
theorem row_below {w w' : World} (h : Below w.heap.size w w') {base : Nat} {e : TypeId} {size : Nat} {v : Value} {n : Nat} {xs : List Value} (ho : w.ownsRow base e size v n xs) : w'.ownsRow base e size v n xs := by
  obtain ⟨hl, h'⟩ := ho
  refine ⟨hl, ?_⟩
  rcases h' with h1 | ⟨g', cap', cur, hv, h1, hg', h2⟩
  · exact .inl h1
  · exact .inr ⟨g', cap', cur, hv, h1, (h.block g' (blk_lt hg')).trans hg', h2⟩
theorem RawRows.below {base : Nat} {W W' : World} {ss : List (RRec × Value)} {es : List (RCho × Value)} {ts : List Tok} {sv ev rv : Value} (h : RawRows base W ss es ts sv ev rv) (hx : Below W.heap.size W W') : RawRows base W' ss es ts sv ev rv :=
  ⟨row_below hx h.structs, row_below hx h.enums, row_below hx h.roots, fun p hp => row_below hx (h.fields p hp), fun p hp => row_below hx (h.names p hp)⟩
theorem RawRows.forms {base : Nat} {W : World} {ss : List (RRec × Value)} {es : List (RCho × Value)} {ts : List Tok} {sv ev rv : Value} (h : RawRows base W ss es ts sv ev rv) :
    ∃ sa sc ea ec ra rc, sv = .slice sa ss.length sc ∧ ev = .slice ea es.length ec ∧ rv = .slice ra ts.length rc := by
  obtain ⟨sa, sc, h1⟩ := ownsRow_form h.structs
  obtain ⟨ea, ec, h2⟩ := ownsRow_form h.enums
  obtain ⟨ra, rc, h3⟩ := ownsRow_form h.roots
  exact ⟨sa, sc, ea, ec, ra, rc, h1, h2, h3⟩
def SchemaPost (R g c : Nat) (l : List Tok) (w : World) (x : Res RRaw) (e : Ending) (w' : World) : Prop :=
  match x with
  | .ok a r' => ∃ ss es ts sv ev rv, e = .returned (.tuple #[.agg #[sv, ev, rv], .bool true]) ∧ a = rawOf ss es ts ∧ RawRows (w.heap.size + 1) w' ss es ts sv ev rv ∧ Rd w' R g c l r' (0, 0) ∧ Exc R w.heap.size w w'
  | .no cc p => e = .returned (.tuple #[.agg #[.slice none 0 0, .slice none 0 0, .slice none 0 0], .bool false]) ∧ (∃ r', Rd w' R g c l r' (cc, p)) ∧ Exc R w.heap.size w w'
theorem isT_end {r : List Tok} (h : Ends r) : isT 0 [] r = decide ((hd r).kind = 0) := by
  cases r with
  | nil => exact h.elim
  | cons t q =>
    unfold isT
    show (decide (t.kind = 0) && decide (t.text = [])) = decide (t.kind = 0)
    rcases h with ⟨h1, h2, _⟩ | ⟨h1, _⟩
    · rw [h1, h2]; rfl
    · rw [decide_eq_false h1, Bool.false_and]
def SchemaAt (R g c : Nat) (l : List Tok) (A : Nat) (w0 : World) (x : Res RRaw) (wr : World) : Prop :=
  ∃ ss es ts sv ev rv r1, RawAt A wr ss es ts sv ev rv ∧ Rd wr R g c l r1 (0, 0) ∧ Exc R A w0 wr ∧ ss.length + es.length + ts.length + r1.length ≤ l.length ∧ x = schemaL (rawOf ss es ts) r1
set_option maxRecDepth 100000 in
set_option maxHeartbeats 2000000 in
theorem schema_any (w : World) (R g c : Nat) (l r : List Tok) (hl : l.length ≤ 2048) (h : Rd w R g c l r (0, 0)) :
    Calls Tryz.prog 119 #[.pointer (some ⟨R, 0, none⟩)] w (SchemaPost R g c l w (schemaL noRaw r)) := by
  have hR := blk_lt h.blk
  have hg := h.glt
  have hb0 : Below w.heap.size w ((w.alloc (.cells #[.slice none 0 0, .slice none 0 0, .slice none 0 0] 188)).alloc (.cells #[.slice none 0 0, .slice none 0 0, .slice none 0 0] 188)) := ((Below.refl _ _).alloc (Nat.le_refl _) _).alloc (by simp) _
  have HX0 := Lib.hid (Exc.of_below (R := R) hb0)
  have HR0 := Lib.hid (h.keep hb0)
  have HZ0 := Lib.hid (blk_alloc (heap_alloc_new w (.cells #[.slice none 0 0, .slice none 0 0, .slice none 0 0] 188)) (.cells #[.slice none 0 0, .slice none 0 0, .slice none 0 0] 188))
  have hA0 : ((w.alloc (.cells #[.slice none 0 0, .slice none 0 0, .slice none 0 0] 188)).alloc (.cells #[.slice none 0 0, .slice none 0 0, .slice none 0 0] 188)).heap[w.heap.size + 1]? = some (.cells #[.slice none 0 0, .slice none 0 0, .slice none 0 0] 188 (0, 0)) := by
    have := heap_alloc_new (w.alloc (.cells #[.slice none 0 0, .slice none 0 0, .slice none 0 0] 188)) (.cells #[.slice none 0 0, .slice none 0 0, .slice none 0 0] 188)
    rwa [World.size_alloc] at this
  have HA0 : Hid (RawAt (w.heap.size + 1) ((w.alloc (.cells #[.slice none 0 0, .slice none 0 0, .slice none 0 0] 188)).alloc (.cells #[.slice none 0 0, .slice none 0 0, .slice none 0 0] 188)) [] [] [] (.slice none 0 0) (.slice none 0 0) (.slice none 0 0)) :=
    Lib.hid ⟨hA0, World.ownsRow_nil _ _ _ _, World.ownsRow_nil _ _ _ _, World.ownsRow_nil _ _ _ _, (fun p hp => by cases hp), (fun p hp => by cases hp), (fun p hp => by cases hp)⟩
  have hlt0 : w.heap.size + 1 < ((w.alloc (.cells #[.slice none 0 0, .slice none 0 0, .slice none 0 0] 188)).alloc (.cells #[.slice none 0 0, .slice none 0 0, .slice none 0 0] 188)).heap.size := blk_lt hA0
  clear h hb0 hA0
  go_enter Tryz.func119, Tryz.ntmps119
  go_upto_region 2 with (fail)
  generalize hW0 : (w.alloc (.cells #[.slice none 0 0, .slice none 0 0, .slice none 0 0] 188)).alloc (.cells #[.slice none 0 0, .slice none 0 0, .slice none 0 0] 188) = W0 at *
  clear hW0
  have hcnt : r.length ≤ l.length := HR0.out.len
  go_loopw [] (fun wr => SchemaAt R g c l (w.heap.size + 1) W0 (schemaL noRaw r) wr) (fun wr => lenAt (wr.cell? ⟨R, 0, none⟩))
  case atStart => exact ⟨[], [], [], _, _, _, r, HA0.out, HR0.out, Exc.refl _ _ _, by simpa using hcnt, rfl⟩
  case round =>
    clear HA0 HR0
    obtain ⟨ss, es, ts, sv, ev, rv, r1, ha, hr, hx, hc, hs⟩ := hrel
    have hend := hr.ends
    have HST := Lib.hid (hs.trans (schemaL_step hend))
    have HM := Lib.hid (show lenAt (wr.cell? ⟨R, 0, none⟩) = r1.length by rw [hr.cells3.1]; rfl)
    have HEAT := Lib.hid (part_eats (a := rawOf ss es ts) hend)
    have HK := Lib.hid (isT_end hend)
    have HA := Lib.hid ha
    have HR := Lib.hid hr
    have HX := Lib.hid hx
    have HZ := Lib.hid (blk_exc HZ0.out hx (by omega) (by omega))
    clear ha hr hx hs hend
    go_wp2_with fail
    refine (rdStands_any _ R g c l r1 (0, 0) 0 ⟨#[]⟩ [] (by kernel_rfl) HR.out).mono ?_
    rintro e W2 ⟨rfl, hb2⟩
    have HA2 := Lib.hid (HA.out.fell hb2)
    have HR2 := Lib.hid (HR.out.keep hb2)
    have HX2 := Lib.hid (HX.out.bel (by omega) hb2)
    have HZ2 := Lib.hid (blk_below HZ.out hb2 (blk_lt HZ.out))
    clear hb2 HA HR HX HZ
    rw [HK.out]
    by_cases hk : (hd r1).kind = 0
    · have HST1 := Lib.hid (HST.out.trans (if_pos hk))
      rw [decide_eq_true hk]
      clear hk
      obtain ⟨hA2, a0, a1, a2, _⟩ := blk3 HA2.out.blk
      obtain ⟨hz, z0, z1, z2, y0, y1, y2⟩ := blk3 HZ2.out
      have HRW := Lib.hid (HA2.out.rows (base := w.heap.size + 1) (by omega))
      obtain ⟨sa, sc, ea, ec, ra, rc, rfl, rfl, rfl⟩ := HRW.out.forms
      go_wp2
      refine post_gen (fun Wf => Wf.heap[w.heap.size]? = some (.cells #[.slice sa ss.length sc, .slice ea es.length ec, .slice ra ts.length rc] 188 (0, 0)) ∧ RawRows (w.heap.size + 1) Wf ss es ts (.slice sa ss.length sc) (.slice ea es.length ec) (.slice ra ts.length rc) ∧ Rd Wf R g c l r1 (0, 0) ∧ Exc R w.heap.size w Wf) ⟨?_, ?_, ?_, ?_⟩ ?_
      · exact blk_set3 HZ2.out _ _ _
      · exact HRW.out.exc (exc_set3 W2 w.heap.size _ _ _) (by omega)
      · exact HR2.out.set3 (by omega) (by omega) _ _ _
      · exact (HX0.out.trans (HX2.out.mono (by omega))).set3 (Nat.le_refl _) _ _ _
      · rintro Wf ⟨e1, e2, e3, e4⟩
        obtain ⟨_, c0, c1, c2, _⟩ := blk3 e1
        rw [HST1.out]
        exact bodyPost_ret (v := .tuple #[.agg #[.slice sa ss.length sc, .slice ea es.length ec, .slice ra ts.length rc], .bool true]) (by simp [results, Tryz.results119, go_sem, c0, c1, c2]) rfl ⟨ss, es, ts, _, _, _, rfl, rfl, e2, e3, e4⟩
    · have HST1 := Lib.hid (HST.out.trans (if_neg hk))
      rw [decide_eq_false hk]
      clear hk
      go_wp2_with fail
      refine (part_any _ R g c (w.heap.size + 1) l r1 ss es ts sv ev rv hl (by omega) (by omega) HR2.out HA2.out hc).mono ?_
      rintro e W3 hp
      have HP := Lib.hid hp
      clear hp
      generalize partR (rawOf ss es ts) r1 = q at *
      obtain ⟨a', r'⟩ | ⟨cc, pp⟩ := q
      · obtain ⟨rfl, ⟨ss', es', ts', sv', ev', rv', rfl, ha', hc'⟩, hr', hx'⟩ := HP.out
        have HA3 := Lib.hid ha'
        have HR3 := Lib.hid hr'
        have HX3 := Lib.hid (HX2.out.trans hx')
        have HM3 := Lib.hid (show lenAt (W3.cell? ⟨R, 0, none⟩) = r'.length by rw [hr'.cells3.1]; rfl)
        have HST2 := Lib.hid (HST1.out.trans (bind_ok _ _ _))
        have HLT := Lib.hid (HEAT.out _ _ rfl).2
        clear ha' hr' hx' HP
        go_wp2
        go_roundw
        case rel => exact ⟨ss', es', ts', sv', ev', rv', r', HA3.out, HR3.out, HX3.out, hc', HST2.out⟩
        case measure => rw [HM3.out, HM.out]; exact HLT.out
      · obtain ⟨rfl, ⟨r', hr'⟩, hx'⟩ := HP.out
        have HR3 := Lib.hid hr'
        have HX3 := Lib.hid (HX2.out.trans hx')
        have HZ3 := Lib.hid (blk_exc HZ2.out hx' (by omega) (by omega))
        have HST2 := Lib.hid (HST1.out.trans (bind_no _ _ _))
        obtain ⟨hz, z0, z1, z2, y0, y1, y2⟩ := blk3 HZ3.out
        clear hr' hx' HP
        go_wp2
        refine post_gen (fun Wf => Wf.heap[w.heap.size]? = some (.cells #[.slice none 0 0, .slice none 0 0, .slice none 0 0] 188 (0, 0)) ∧ Rd Wf R g c l r' (cc, pp) ∧ Exc R w.heap.size w Wf) ⟨?_, ?_, ?_⟩ ?_
        · exact blk_set3 HZ3.out _ _ _
        · exact HR3.out.set3 (by omega) (by omega) _ _ _
        · exact (HX0.out.trans (HX3.out.mono (by omega))).set3 (Nat.le_refl _) _ _ _
        · rintro Wf ⟨e1, e3, e4⟩
          obtain ⟨_, c0, c1, c2, _⟩ := blk3 e1
          rw [HST2.out]
          exact bodyPost_ret (v := .tuple #[.agg #[.slice none 0 0, .slice none 0 0, .slice none 0 0], .bool false]) (by simp [results, Tryz.results119, go_sem, c0, c1, c2]) rfl ⟨rfl, ⟨r', e3⟩, e4⟩
end Go.Proofs.YtgbcchiheddfpaaGreatDoor
namespace Go.Proofs.YtgbcchiheddfpaaGreatDoor
open Go.ChangeShapes Go.WideShapes Go.ChangeAt Go.RowKit Go.Shelf
theorem ents_snoc (m : List NEnt) (n : ByteArray) (k r : Nat) : (m ++ [(⟨n, k, r⟩ : NEnt)]).map entP = m.map entP ++ [(n, .agg #[.int .u8 (k : Nat), .int .i64 (r : Nat), .int .i64 0])] := by simp [entP, mtyV]
theorem two_blk (w : World) (a b : Array Value) (s t : TypeId) : Below w.heap.size w ((w.alloc (.cells a s)).alloc (.cells b t)) ∧ ((w.alloc (.cells a s)).alloc (.cells b t)).heap[w.heap.size]? = some (.cells a s (0, 0)) ∧ ((w.alloc (.cells a s)).alloc (.cells b t)).heap[w.heap.size + 1]? = some (.cells b t (0, 0)) := by
  refine ⟨((Below.refl _ _).alloc (Nat.le_refl _) _).alloc (by simp) _, blk_alloc (heap_alloc_new w _) _, ?_⟩
  have := heap_alloc_new (w.alloc (.cells a s)) (.cells b t)
  rwa [World.size_alloc] at this
theorem ents_none {m : List NEnt} {s : ByteArray} (h : (lookN m s).isSome = false) : lookK (m.map entP) s = none := by
  have hn : lookN m s = none := Option.not_isSome_iff_eq_none.1 (by rw [h]; decide)
  rw [look_ents, hn]
  rfl
theorem ents_look {W : World} {b : Nat} {m : List NEnt} (h : MapAt W b (m.map entP)) (s : ByteArray) {c : Bool} (hc : (lookN m s).isSome = c) :
    ∃ k r l : Int, (Instr.lookup 241 (.map (some b)) (.string s) true).run Tryz.prog W = .ok (.tuple #[.agg #[.int .u8 k, .int .i64 r, .int .i64 l], .bool c]) W := by
  have := h.look ty_key ty_map (ty_zero W) s true
  rw [if_pos rfl, look_ents, Option.isSome_map, hc] at this
  cases hl : lookN m s with
  | none =>
    rw [hl] at this
    exact ⟨_, _, _, this⟩
  | some q =>
    rw [hl] at this
    exact ⟨_, _, _, this⟩
def DeclPost (W : World) (b : Nat) (m : List NEnt) (name : ByteArray) (place k r : Nat) (few : Bool) (e : Ending) (w' : World) : Prop :=
  if (lookN m name).isSome = true then e = .returned (.agg #[.int .i64 13, .int .i64 place]) ∧ Below W.heap.size W w'
  else if few = true then e = .returned (.agg #[.int .i64 0, .int .i64 0]) ∧ MapAt w' b ((m ++ [(⟨name, k, r⟩ : NEnt)]).map entP) ∧ Exc b W.heap.size W w'
  else e = .returned (.agg #[.int .i64 16, .int .i64 place]) ∧ Below W.heap.size W w'
set_option maxRecDepth 100000 in
set_option maxHeartbeats 2000000 in
theorem declare_any (W : World) (M b : Nat) (m : List NEnt) (sv ev rv x4 x5 x6 : Value) (name : ByteArray) (place k r : Nat) (few : Bool)
    (hM : W.heap[M]? = some (.cells #[sv, ev, rv, .map (some b), x4, x5, x6] 244 (0, 0))) (hm : MapAt W b (m.map entP)) :
    Calls Tryz.prog 160 #[.pointer (some ⟨M, 0, none⟩), .string name, .int .i64 place, .agg #[.int .u8 (k : Nat), .int .i64 (r : Nat), .int .i64 0], .bool few] W (DeclPost W b m name place k r few) := by
  obtain ⟨hb0, hz0, hf0⟩ := two_blk W #[.int .u8 (k : Nat), .int .i64 (r : Nat), .int .i64 0] #[.int .i64 0, .int .i64 0] 62 125
  have hM0 := blk_below hM hb0 (blk_lt hM)
  have hm0 := hm.below hb0 hm.lt
  have hbl := hm.lt
  have hs0 : W.heap.size + 2 = ((W.alloc (.cells #[.int .u8 (k : Nat), .int .i64 (r : Nat), .int .i64 0] 62)).alloc (.cells #[.int .i64 0, .int .i64 0] 125)).heap.size := by simp
  have HB0 := Lib.hid hb0
  have HZ0 := Lib.hid hz0
  have HF0 := Lib.hid hf0
  have HM0 := Lib.hid hm0
  have HS0 := Lib.hid hs0
  obtain ⟨_, y0, y1, y2, _⟩ := blk3 hz0
  have hbM : M < W.heap.size := blk_lt hM
  have m3 : ((W.alloc (.cells #[.int .u8 (k : Nat), .int .i64 (r : Nat), .int .i64 0] 62)).alloc (.cells #[.int .i64 0, .int .i64 0] 125)).cell? ⟨M, 3, none⟩ = some (.map (some b)) := (blk_cell hM0 3).trans rfl
  have HK0 := Lib.hid hM0
  clear hb0 hz0 hf0 hm0 hM hM0 hm hs0
  go_enter Tryz.func160, Tryz.ntmps160
  go_upto_region 1 with (fail)
  generalize (W.alloc (.cells #[.int .u8 (k : Nat), .int .i64 (r : Nat), .int .i64 0] 62)).alloc (.cells #[.int .i64 0, .int .i64 0] 125) = W0 at *
  obtain ⟨c, hc⟩ : ∃ c, (lookN m name).isSome = c := ⟨_, rfl⟩
  obtain ⟨k1, r1, l1, hr⟩ := ents_look HM0.out name hc
  have HC := Lib.hid hc
  clear hc
  go_upto_region 2 with (fail)
  have hb1 : Below W0.heap.size W0 (W0.alloc (.cells #[.int .u8 k1, .int .i64 r1, .int .i64 l1] 62)) := (Below.refl _ _).alloc (Nat.le_refl _) _
  have hf1 := blk_below HF0.out hb1 (blk_lt HF0.out)
  have hz1 := blk_below HZ0.out hb1 (blk_lt HZ0.out)
  have hk1 := blk_below HK0.out hb1 (blk_lt HK0.out)
  have HM1 := Lib.hid (HM0.out.below hb1 HM0.out.lt)
  have HB1 := Lib.hid (HB0.out.trans (hb1.mono HB0.out.size))
  have HF1 := Lib.hid hf1
  clear hr y0 y1 y2 m3 hb1 HM0 HB0 HF0 HZ0 HK0
  generalize W0.alloc (.cells #[.int .u8 k1, .int .i64 r1, .int .i64 l1] 62) = W1 at *
  obtain ⟨hfl, f0, f1, g0, g1⟩ := blk2 hf1
  obtain ⟨hzl, y0, y1, y2, _⟩ := blk3 hz1
  have m3 : W1.cell? ⟨M, 3, none⟩ = some (.map (some b)) := (blk_cell hk1 3).trans rfl
  clear hf1 hz1 hk1
  cases c
  · cases few
    · go_wp2
      refine post_gen (fun Wf => Wf.heap[W.heap.size + 1]? = some (.cells #[.int .i64 16, .int .i64 place] 125 (0, 0)) ∧ Below W.heap.size W Wf) ⟨blk_set2 HF1.out _ _, (HB1.out.setCell (p := ⟨W.heap.size + 1, 0, none⟩) (Nat.le_succ _) _).setCell (p := ⟨W.heap.size + 1, 1, none⟩) (Nat.le_succ _) _⟩ ?_
      rintro Wf ⟨e1, e2⟩
      obtain ⟨_, c0, c1, _⟩ := blk2 e1
      exact bodyPost_ret (v := .agg #[.int .i64 16, .int .i64 place]) (by simp [results, Tryz.results160, go_sem, c0, c1]) rfl (by unfold DeclPost; rw [if_neg (by rw [HC.out]; decide), if_neg (by decide)]; exact ⟨rfl, e2⟩)
    · go_upto_region 6 with (fail)
      obtain ⟨W2, hr2, hm2, hx2⟩ := (MapAt.drew HM1.out).store ty_key ty_map name (.agg #[.int .u8 (k : Nat), .int .i64 (r : Nat), .int .i64 0]) (ents_none HC.out)
      have HM2 := Lib.hid hm2
      have HX2 := Lib.hid (show Exc b W1.heap.size W1 W2 from ⟨(hx2 0).os, (hx2 0).tape, (hx2 0).output, (hx2 0).size, fun i hi hr => (hx2 (i + 1)).block i (Nat.lt_succ_self i) hr⟩)
      clear hm2 hx2
      go_region
      clear hr2
      simp only [Exit.then]
      apply_assumption
      have HF2 := Lib.hid (blk_exc HF1.out HX2.out hfl (by omega))
      have HE2 := Lib.hid (((Exc.of_below HB1.out).thenB (Nat.le_refl _) HX2.out))
      have hfl2 : W.heap.size + 1 < W2.heap.size := blk_lt HF2.out
      clear f0 f1 g0 g1 y0 y1 y2 m3 HX2
      obtain ⟨_, f0, f1, g0, g1⟩ := blk2 HF2.out
      go_wp2
      refine post_gen (fun Wf => Wf.heap[W.heap.size + 1]? = some (.cells #[.int .i64 0, .int .i64 0] 125 (0, 0)) ∧ Exc b W.heap.size W Wf ∧ MapAt Wf b ((m ++ [(⟨name, k, r⟩ : NEnt)]).map entP)) ⟨blk_set2 HF2.out _ _, (HE2.out.setCell (p := ⟨W.heap.size + 1, 0, none⟩) (.inr (Nat.le_succ _)) _).setCell (p := ⟨W.heap.size + 1, 1, none⟩) (.inr (Nat.le_succ _)) _, ?_⟩ ?_
      · rw [ents_snoc]
        exact (HM2.out.setCell (p := ⟨W.heap.size + 1, 0, none⟩) (by show W.heap.size + 1 ≠ b; omega) _).setCell (p := ⟨W.heap.size + 1, 1, none⟩) (by show W.heap.size + 1 ≠ b; omega) _
      · rintro Wf ⟨e1, e2, e3⟩
        obtain ⟨_, c0, c1, _⟩ := blk2 e1
        exact bodyPost_ret (v := .agg #[.int .i64 0, .int .i64 0]) (by simp [results, Tryz.results160, go_sem, c0, c1]) rfl (by unfold DeclPost; rw [if_neg (by rw [HC.out]; decide), if_pos rfl]; exact ⟨rfl, e3, e2⟩)
  · go_wp2
    refine post_gen (fun Wf => Wf.heap[W.heap.size + 1]? = some (.cells #[.int .i64 13, .int .i64 place] 125 (0, 0)) ∧ Below W.heap.size W Wf) ⟨blk_set2 HF1.out _ _, (HB1.out.setCell (p := ⟨W.heap.size + 1, 0, none⟩) (Nat.le_succ _) _).setCell (p := ⟨W.heap.size + 1, 1, none⟩) (Nat.le_succ _) _⟩ ?_
    rintro Wf ⟨e1, e2⟩
    obtain ⟨_, c0, c1, _⟩ := blk2 e1
    exact bodyPost_ret (v := .agg #[.int .i64 13, .int .i64 place]) (by simp [results, Tryz.results160, go_sem, c0, c1]) rfl (by unfold DeclPost; rw [if_pos HC.out]; exact ⟨rfl, e2⟩)
end Go.Proofs.YtgbcchiheddfpaaGreatDoor
