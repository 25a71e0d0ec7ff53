/-
  The reader of the package idl: the whole text. Conditions: those that each theorem names.
-/
import Derived.Test.YtdlfndjgncdgfaaGreatDoorPkS19
namespace Go.Proofs.YtdlfndjgncdgfaaGreatDoor
open Go.ChangeShapes Go.WideShapes Go.ChangeAt Go.RowKit Go.Shelf

theorem root_deep {R g c A : Nat} {l r : List Tok} {F : Int × Nat} {w W3 Wp W4 : World} {ss : List (RRec × Value)} {es : List (RCho × Value)} {ts : List Tok} {sv ev rv : Value} {row : Option Nat} {t : Tok} {g4 c4 : Nat}
    (ha : RawAt A W3 ss es ts sv ev rv) (hr : Rd W3 R g c l r F) (hx : Exc R A w W3) (hb : Below W3.heap.size W3 Wp) (hg4 : Wp.grownBy W4 row) (hrow : row = rv.ownBlock) (ho4 : W4.ownsRow (A + 1) 108 3 (.slice (some ⟨g4, 0, none⟩) (ts.length + 1) c4) (ts.length + 1) (toksCells ts ++ tokCells t)) (hat : row = some g4 ∨ g4 = Wp.heap.size) (hR : R < A) (hg : g < A) :
    RawAt A (W4.setCell ⟨A, 2, none⟩ (.slice (some ⟨g4, 0, none⟩) (ts.length + 1) c4)) ss es (ts ++ [t]) sv ev (.slice (some ⟨g4, 0, none⟩) (ts.length + 1) c4) ∧ Rd (W4.setCell ⟨A, 2, none⟩ (.slice (some ⟨g4, 0, none⟩) (ts.length + 1) c4)) R g c l r F ∧ Exc R A w (W4.setCell ⟨A, 2, none⟩ (.slice (some ⟨g4, 0, none⟩) (ts.length + 1) c4)) := by
  subst hrow
  have hA3 := blk_lt ha.blk
  refine ⟨RawAt.root (ha.fell hb) hg4 ho4 ?_, part_deep hr hx hb hg4 (fun k hk => by have := (ownsRow_lt ha.roots k hk).1; omega) hR hg (Nat.le_of_lt hA3) 2 _⟩
  rcases hat with h | rfl
  · exact .inl h.symm
  · exact .inr ⟨_, rfl, Nat.le_refl _⟩
set_option maxRecDepth 100000 in
set_option maxHeartbeats 4000000 in
theorem part_root (w : World) (R g c A : Nat) (l r : List Tok) (ss : List (RRec × Value)) (es : List (RCho × Value)) (ts : List Tok) (sv ev rv : Value) (hl : l.length ≤ 2048) (hR : R < A) (hg : g < A) (h : Rd w R g c l r (0, 0)) (ha : RawAt A w ss es ts sv ev rv) (hc : ss.length + es.length + ts.length + r.length ≤ l.length) (h1 : isT 1 wStruct r = false) (h2 : isT 1 wEnum r = false) (h3 : isT 1 wRoot r = true) :
    Calls Tryz.prog 83 #[.pointer (some ⟨R, 0, none⟩), .pointer (some ⟨A, 0, none⟩)] w (PartPost R g c l A w (partR (rawOf ss es ts) r)) := by
  have HT : Hid (partR (rawOf ss es ts) r = (nameR r.tail).bind fun t r1 => (wantR [59] r1).bind fun _ r' => .ok ⟨ss.map Prod.fst, es.map Prod.fst, ts ++ [t]⟩ r') := Lib.hid ((if_neg (by rw [h1]; decide)).trans ((if_neg (by rw [h2]; decide)).trans (if_pos h3)))
  have HwStruct := Lib.hid h1
  have HwEnum := Lib.hid h2
  have HwRoot := Lib.hid h3
  have hend := h.ends.len
  have HEND := Lib.hid (h.ends.tail (by rw [(isT_kind h3).1]; decide))
  have hA := blk_lt ha.blk
  have HA0 := Lib.hid ha
  have HR0 := Lib.hid h
  have HX0 := Lib.hid (Exc.refl R A w)
  obtain ⟨i0, hi0, hz0, hz1, hz2⟩ := info_parts tok_info
  have I1 := Lib.hid hi0
  have I2 := Lib.hid hz0
  have I3 := Lib.hid hz1
  have I4 := Lib.hid hz2
  clear h ha h1 h2 h3 hi0 hz0 hz1 hz2
  go_enter Tryz.func83, Tryz.ntmps83
  go_wp2_with fail
  refine (word_any _ R g c l r (0, 0) ⟨#[115, 116, 114, 117, 99, 116]⟩ wStruct (by kernel_rfl) HR0.out).mono ?_
  rintro e W1 ⟨rfl, hr1, hx1⟩
  rw [HwStruct.out] at hr1 ⊢
  replace hr1 : Rd W1 R g c l r (0, 0) := hr1
  have HX1 := Lib.hid (HX0.out.thenB (Nat.le_of_lt hA) hx1)
  have HA1 := Lib.hid (HA0.out.stay hR hx1)
  have HR1 := Lib.hid hr1
  clear hr1 hx1
  go_wp2_with fail
  refine (word_any _ R g c l r (0, 0) ⟨#[101, 110, 117, 109]⟩ wEnum (by kernel_rfl) HR1.out).mono ?_
  rintro e W2 ⟨rfl, hr2, hx2⟩
  rw [HwEnum.out] at hr2 ⊢
  replace hr2 : Rd W2 R g c l r (0, 0) := hr2
  have HX2 := Lib.hid (HX1.out.thenB (Nat.le_of_lt hA) hx2)
  have HA2 := Lib.hid (HA1.out.stay hR hx2)
  have HR2 := Lib.hid hr2
  clear hr2 hx2
  go_wp2_with fail
  refine (word_any _ R g c l r (0, 0) ⟨#[114, 111, 111, 116]⟩ wRoot (by kernel_rfl) HR2.out).mono ?_
  rintro e W3 ⟨rfl, hr3, hx3⟩
  rw [HwRoot.out] at hr3 ⊢
  replace hr3 : Rd W3 R g c l r.tail (0, 0) := hr3
  have HX3 := Lib.hid (HX2.out.thenB (Nat.le_of_lt hA) hx3)
  have HA3 := Lib.hid (HA2.out.stay hR hx3)
  have HR3 := Lib.hid hr3
  clear hr3 hx3
  go_wp2_with fail
  refine (name_any _ R g c l r.tail HR3.out).mono ?_
  rintro e W4 ⟨a1, r4, F4, ok4, rfl, hr4, hx4, hs4⟩
  have HX4 := Lib.hid (HX3.out.thenB (Nat.le_of_lt hA) hx4)
  have HA4 := Lib.hid (HA3.out.stay hR hx4)
  have HR4 := Lib.hid hr4
  have HS4 := Lib.hid hs4
  have HEAT := Lib.hid (name_eats HEND.out)
  clear hr4 hx4 hs4 HX0 HX1 HX2 HX3 HA0 HA1 HA2 HA3 HR0 HR1 HR2 HR3
  unfold tokV
  go_upto_region 11 with (fail)
  have hA4 := blk_lt HA4.out.blk
  have HR5 := Lib.hid (HR4.out.alloc (.cells #[.int .i64 a1.kind, .string (strOfNums a1.text), .int .i64 a1.place] 108))
  have HX5 := Lib.hid (HX4.out.alloc (by omega) (.cells #[.int .i64 a1.kind, .string (strOfNums a1.text), .int .i64 a1.place] 108))
  have HA5 := Lib.hid (HA4.out.fell ((Below.refl _ _).alloc (Nat.le_refl _) (.cells #[.int .i64 a1.kind, .string (strOfNums a1.text), .int .i64 a1.place] 108)))
  have HS5 := Lib.hid (heap_alloc_new W4 (.cells #[.int .i64 a1.kind, .string (strOfNums a1.text), .int .i64 a1.place] 108))
  clear HR4 HX4 HA4
  generalize hW5 : W4.alloc (.cells #[.int .i64 a1.kind, .string (strOfNums a1.text), .int .i64 a1.place] 108) = W5 at *
  clear hW5
  have hlt5 : W4.heap.size < W5.heap.size := blk_lt HS5.out
  generalize W4.heap.size = BS at *
  obtain ⟨hA5, a0', a1', a2', b0, b1, b2⟩ := blk3 HA5.out.blk
  obtain ⟨_, x0, x1, x2, _⟩ := blk3 HS5.out
  go_region_law (first | (refine step_append_lies _ rfl (.tmp 61) (.tmp 63) 69 rfl (A + 1) 108 i0 _ 3 32 Tryz.underlying69 I1.out I2.out I3.out I4.out rfl (by decide) _ ts.length (toksCells ts) rfl (exc_row HA5.out.roots hR ((Exc.refl R _ W5).drew.alloc (Nat.le_refl _) _)) _ 1 1 (tokCells a1) rfl rfl (tokCells_new W5.drew a1 _ rfl) (tokCells_one a1) (by decide) (by unfold maxLen; omega) (by omega) (by simp; omega) _ rfl ?_; rintro g4 c4 W6 hown4 hg4 hat4 hlt4; have hv4 := (hg4.block A (by simp; omega) (fun e => by have := (ownsRow_lt HA5.out.roots A e.symm).1; omega)).trans (blk_alloc (w := W5.drew) HA5.out.blk _); obtain ⟨hA4', m0, m1, m2, n0, n1, n2⟩ := blk3 hv4; have HRD := Lib.hid (root_deep HA5.out HR5.out HX5.out (((Below.refl _ W5).alloc (Nat.le_refl _) _).drew) hg4 rfl hown4 hat4 hR hg); clear hg4 hown4 hat4 hv4))
  all_goals
    generalize nameR r.tail = q at *
    obtain ⟨a', r'⟩ | ⟨cc, pp⟩ := q
    · obtain ⟨rfl, rfl, rfl, rfl⟩ := HS4.out
      have HT1 := Lib.hid (HT.out.trans (bind_ok _ _ _))
      obtain ⟨hA7, hR7, hX7⟩ := HRD.out
      have HA7 := Lib.hid hA7
      have HR7 := Lib.hid hR7
      have HX7 := Lib.hid hX7
      have HLT := Lib.hid (HEAT.out _ _ rfl)
      clear hA7 hR7 hX7 HRD HS4 HT
      generalize W6.setCell ⟨A, 2, none⟩ (.slice (some ⟨g4, 0, none⟩) (ts.length + 1) c4) = W7 at *
      have hA7' := blk_lt HA7.out.blk
      go_wp2_with fail
      refine (want_any _ R g c l r4 ⟨#[59]⟩ [59] (by kernel_rfl) HR7.out).mono ?_
      rintro e W8 ⟨r8, F8, ok8, rfl, hr8, hx8, hs8⟩
      have HX8 := Lib.hid (HX7.out.thenB (Nat.le_of_lt hA) hx8)
      have HA8 := Lib.hid (HA7.out.stay hR hx8)
      have HR8 := Lib.hid hr8
      have HS8 := Lib.hid hs8
      have HE8 := Lib.hid (want_eats (s := [59]) HR7.out.ends)
      clear hr8 hx8 hs8
      generalize wantR [59] r4 = q at *
      obtain ⟨a', r'⟩ | ⟨cc, pp⟩ := q
      · obtain ⟨rfl, _, rfl, rfl⟩ := HS8.out
        have HT2 := Lib.hid (HT1.out.trans (bind_ok _ _ _))
        go_wp2
        go_ret
        rw [HT2.out]
        exact ⟨rfl, ⟨ss, es, ts ++ [a1], _, _, _, rfl, HA8.out, by have h1 := HLT.out.2; have h2 := (HE8.out _ _ rfl).2; simp; omega⟩, HR8.out, HX8.out⟩
      · obtain ⟨rfl, rfl⟩ := HS8.out
        have HT2 := Lib.hid (HT1.out.trans (bind_no _ _ _))
        go_wp2
        go_ret
        rw [HT2.out]
        exact ⟨rfl, ⟨r8, HR8.out⟩, HX8.out⟩
    · obtain ⟨rfl, rfl⟩ := HS4.out
      have HT1 := Lib.hid (HT.out.trans (bind_no _ _ _))
      go_wp2
      go_ret
      rw [HT1.out]
      exact ⟨rfl, ⟨r4, HRD.out.2.1⟩, HRD.out.2.2⟩
theorem part_bad (w : World) (R g c A : Nat) (l r : List Tok) (ss : List (RRec × Value)) (es : List (RCho × Value)) (ts : List Tok) (sv ev rv : Value) (hR : R < A) (h : Rd w R g c l r (0, 0)) (ha : RawAt A w ss es ts sv ev rv) (h1 : isT 1 wStruct r = false) (h2 : isT 1 wEnum r = false) (h3 : isT 1 wRoot r = false) :
    Calls Tryz.prog 83 #[.pointer (some ⟨R, 0, none⟩), .pointer (some ⟨A, 0, none⟩)] w (PartPost R g c l A w (partR (rawOf ss es ts) r)) := by
  have HT : Hid (partR (rawOf ss es ts) r = .no 11 (hd r).place) := Lib.hid ((if_neg (by rw [h1]; decide)).trans ((if_neg (by rw [h2]; decide)).trans (if_neg (by rw [h3]; decide))))
  have HwStruct := Lib.hid h1
  have HwEnum := Lib.hid h2
  have HwRoot := Lib.hid h3
  have hA := blk_lt ha.blk
  have HA0 := Lib.hid ha
  have HR0 := Lib.hid h
  have HX0 := Lib.hid (Exc.refl R A w)
  clear h ha h1 h2 h3
  go_enter Tryz.func83, Tryz.ntmps83
  go_wp2_with fail
  refine (word_any _ R g c l r (0, 0) ⟨#[115, 116, 114, 117, 99, 116]⟩ wStruct (by kernel_rfl) HR0.out).mono ?_
  rintro e W1 ⟨rfl, hr1, hx1⟩
  rw [HwStruct.out] at hr1 ⊢
  replace hr1 : Rd W1 R g c l r (0, 0) := hr1
  have HX1 := Lib.hid (HX0.out.thenB (Nat.le_of_lt hA) hx1)
  have HA1 := Lib.hid (HA0.out.stay hR hx1)
  have HR1 := Lib.hid hr1
  clear hr1 hx1
  go_wp2_with fail
  refine (word_any _ R g c l r (0, 0) ⟨#[101, 110, 117, 109]⟩ wEnum (by kernel_rfl) HR1.out).mono ?_
  rintro e W2 ⟨rfl, hr2, hx2⟩
  rw [HwEnum.out] at hr2 ⊢
  replace hr2 : Rd W2 R g c l r (0, 0) := hr2
  have HX2 := Lib.hid (HX1.out.thenB (Nat.le_of_lt hA) hx2)
  have HA2 := Lib.hid (HA1.out.stay hR hx2)
  have HR2 := Lib.hid hr2
  clear hr2 hx2
  go_wp2_with fail
  refine (word_any _ R g c l r (0, 0) ⟨#[114, 111, 111, 116]⟩ wRoot (by kernel_rfl) HR2.out).mono ?_
  rintro e W3 ⟨rfl, hr3, hx3⟩
  rw [HwRoot.out] at hr3 ⊢
  replace hr3 : Rd W3 R g c l r (0, 0) := hr3
  have HX3 := Lib.hid (HX2.out.thenB (Nat.le_of_lt hA) hx3)
  have HA3 := Lib.hid (HA2.out.stay hR hx3)
  have HR3 := Lib.hid hr3
  clear hr3 hx3
  go_wp2_with fail
  refine (refuse_any _ R g c l r (0, 0) 11 HR3.out).mono ?_
  rintro e W4 ⟨rfl, hr4, hx4⟩
  have HX4 := Lib.hid (HX3.out.thenB (Nat.le_of_lt hA) hx4)
  have HR4 := Lib.hid hr4
  clear hr4 hx4
  go_wp2
  go_ret
  rw [HT.out]
  exact ⟨rfl, ⟨r, HR4.out⟩, HX4.out⟩
theorem part_any (w : World) (R g c A : Nat) (l r : List Tok) (ss : List (RRec × Value)) (es : List (RCho × Value)) (ts : List Tok) (sv ev rv : Value) (hl : l.length ≤ 2048) (hR : R < A) (hg : g < A) (h : Rd w R g c l r (0, 0)) (ha : RawAt A w ss es ts sv ev rv) (hc : ss.length + es.length + ts.length + r.length ≤ l.length) :
    Calls Tryz.prog 83 #[.pointer (some ⟨R, 0, none⟩), .pointer (some ⟨A, 0, none⟩)] w (PartPost R g c l A w (partR (rawOf ss es ts) r)) := by
  cases h1 : isT 1 wStruct r
  · cases h2 : isT 1 wEnum r
    · cases h3 : isT 1 wRoot r
      · exact part_bad w R g c A l r ss es ts sv ev rv hR h ha h1 h2 h3
      · exact part_root w R g c A l r ss es ts sv ev rv hl hR hg h ha hc h1 h2 h3
    · exact part_enum w R g c A l r ss es ts sv ev rv hl hR hg h ha hc h1 h2
  · exact part_struct w R g c A l r ss es ts sv ev rv hl hR hg h ha hc h1
end Go.Proofs.YtdlfndjgncdgfaaGreatDoor
namespace Go.Proofs.YtdlfndjgncdgfaaGreatDoor
open Go.ChangeShapes Go.WideShapes Go.ChangeAt Go.RowKit Go.Shelf

structure RawRows (base : Nat) (W : World) (ss : List (RRec × Value)) (es : List (RCho × Value)) (ts : List Tok) (sv ev rv : Value) : Prop where
  structs : W.ownsRow base 113 3 sv ss.length (recsCells ss)
  enums : W.ownsRow base 116 3 ev es.length (chosCells es)
  roots : W.ownsRow base 108 3 rv ts.length (toksCells ts)
  fields : ∀ p ∈ ss, W.ownsRow base 124 8 p.2 p.1.fields.length (fieldsCells p.1.fields)
  names : ∀ p ∈ es, W.ownsRow base 108 3 p.2 p.1.names.length (toksCells p.1.names)
theorem RawAt.rows {A base : Nat} {W : World} {ss : List (RRec × Value)} {es : List (RCho × Value)} {ts : List Tok} {sv ev rv : Value} (h : RawAt A W ss es ts sv ev rv) (hb : base ≤ A + 1) : RawRows base W ss es ts sv ev rv :=
  ⟨ownsRow_base h.structs hb, ownsRow_base h.enums hb, ownsRow_base h.roots hb, fun p hp => ownsRow_base (h.fields p hp) hb, fun p hp => ownsRow_base (h.names p hp) hb⟩
theorem RawRows.base {base base' : Nat} {W : World} {ss : List (RRec × Value)} {es : List (RCho × Value)} {ts : List Tok} {sv ev rv : Value} (h : RawRows base W ss es ts sv ev rv) (hb : base' ≤ base) : RawRows base' W ss es ts sv ev rv :=
  ⟨ownsRow_base h.structs hb, ownsRow_base h.enums hb, ownsRow_base h.roots hb, fun p hp => ownsRow_base (h.fields p hp) hb, fun p hp => ownsRow_base (h.names p hp) hb⟩
theorem row_exc {X : Nat} {w w' : World} (h : Exc X w.heap.size w w') {base : Nat} {e : TypeId} {size : Nat} {v : Value} {n : Nat} {xs : List Value} (ho : w.ownsRow base e size v n xs) (hX : X < base) : w'.ownsRow base e size v n xs :=
  h.ownsRow ho (fun e => by have := (ownsRow_lt ho X e).1; omega)
theorem RawRows.exc {base X : Nat} {W W' : World} {ss : List (RRec × Value)} {es : List (RCho × Value)} {ts : List Tok} {sv ev rv : Value} (h : RawRows base W ss es ts sv ev rv) (hx : Exc X W.heap.size W W') (hX : X < base) : RawRows base W' ss es ts sv ev rv :=
  ⟨row_exc hx h.structs hX, row_exc hx h.enums hX, row_exc hx h.roots hX, fun p hp => row_exc hx (h.fields p hp) hX, fun p hp => row_exc hx (h.names p hp) hX⟩
theorem row_below {w w' : World} (h : Below w.heap.size w w') {base : Nat} {e : TypeId} {size : Nat} {v : Value} {n : Nat} {xs : List Value} (ho : w.ownsRow base e size v n xs) : w'.ownsRow base e size v n xs := by
  obtain ⟨hl, h'⟩ := ho
  refine ⟨hl, ?_⟩
  rcases h' with h1 | ⟨g', cap', cur, hv, h1, hg', h2⟩
  · exact .inl h1
  · exact .inr ⟨g', cap', cur, hv, h1, (h.block g' (blk_lt hg')).trans hg', h2⟩
theorem RawRows.below {base : Nat} {W W' : World} {ss : List (RRec × Value)} {es : List (RCho × Value)} {ts : List Tok} {sv ev rv : Value} (h : RawRows base W ss es ts sv ev rv) (hx : Below W.heap.size W W') : RawRows base W' ss es ts sv ev rv :=
  ⟨row_below hx h.structs, row_below hx h.enums, row_below hx h.roots, fun p hp => row_below hx (h.fields p hp), fun p hp => row_below hx (h.names p hp)⟩
theorem RawRows.forms {base : Nat} {W : World} {ss : List (RRec × Value)} {es : List (RCho × Value)} {ts : List Tok} {sv ev rv : Value} (h : RawRows base W ss es ts sv ev rv) :
    ∃ sa sc ea ec ra rc, sv = .slice sa ss.length sc ∧ ev = .slice ea es.length ec ∧ rv = .slice ra ts.length rc := by
  obtain ⟨sa, sc, h1⟩ := ownsRow_form h.structs
  obtain ⟨ea, ec, h2⟩ := ownsRow_form h.enums
  obtain ⟨ra, rc, h3⟩ := ownsRow_form h.roots
  exact ⟨sa, sc, ea, ec, ra, rc, h1, h2, h3⟩
def SchemaPost (R g c : Nat) (l : List Tok) (w : World) (x : Res RRaw) (e : Ending) (w' : World) : Prop :=
  match x with
  | .ok a r' => ∃ ss es ts sv ev rv, e = .returned (.tuple #[.agg #[sv, ev, rv], .bool true]) ∧ a = rawOf ss es ts ∧ RawRows (w.heap.size + 1) w' ss es ts sv ev rv ∧ Rd w' R g c l r' (0, 0) ∧ Exc R w.heap.size w w'
  | .no cc p => e = .returned (.tuple #[.agg #[.slice none 0 0, .slice none 0 0, .slice none 0 0], .bool false]) ∧ (∃ r', Rd w' R g c l r' (cc, p)) ∧ Exc R w.heap.size w w'
theorem isT_end {r : List Tok} (h : Ends r) : isT 0 [] r = decide ((hd r).kind = 0) := by
  cases r with
  | nil => exact h.elim
  | cons t q =>
    unfold isT
    show (decide (t.kind = 0) && decide (t.text = [])) = decide (t.kind = 0)
    rcases h with ⟨h1, h2, _⟩ | ⟨h1, _⟩
    · rw [h1, h2]; rfl
    · rw [decide_eq_false h1, Bool.false_and]
def SchemaAt (R g c : Nat) (l : List Tok) (A : Nat) (w0 : World) (x : Res RRaw) (wr : World) : Prop :=
  ∃ ss es ts sv ev rv r1, RawAt A wr ss es ts sv ev rv ∧ Rd wr R g c l r1 (0, 0) ∧ Exc R A w0 wr ∧ ss.length + es.length + ts.length + r1.length ≤ l.length ∧ x = schemaL (rawOf ss es ts) r1
set_option maxRecDepth 100000 in
set_option maxHeartbeats 2000000 in
theorem schema_any (w : World) (R g c : Nat) (l r : List Tok) (hl : l.length ≤ 2048) (h : Rd w R g c l r (0, 0)) :
    Calls Tryz.prog 59 #[.pointer (some ⟨R, 0, none⟩)] w (SchemaPost R g c l w (schemaL noRaw r)) := by
  have hR := blk_lt h.blk
  have hg := h.glt
  have hb0 : Below w.heap.size w ((w.alloc (.cells #[.slice none 0 0, .slice none 0 0, .slice none 0 0] 71)).alloc (.cells #[.slice none 0 0, .slice none 0 0, .slice none 0 0] 71)) := ((Below.refl _ _).alloc (Nat.le_refl _) _).alloc (by simp) _
  have HX0 := Lib.hid (Exc.of_below (R := R) hb0)
  have HR0 := Lib.hid (h.keep hb0)
  have HZ0 := Lib.hid (blk_alloc (heap_alloc_new w (.cells #[.slice none 0 0, .slice none 0 0, .slice none 0 0] 71)) (.cells #[.slice none 0 0, .slice none 0 0, .slice none 0 0] 71))
  have hA0 : ((w.alloc (.cells #[.slice none 0 0, .slice none 0 0, .slice none 0 0] 71)).alloc (.cells #[.slice none 0 0, .slice none 0 0, .slice none 0 0] 71)).heap[w.heap.size + 1]? = some (.cells #[.slice none 0 0, .slice none 0 0, .slice none 0 0] 71 (0, 0)) := by
    have := heap_alloc_new (w.alloc (.cells #[.slice none 0 0, .slice none 0 0, .slice none 0 0] 71)) (.cells #[.slice none 0 0, .slice none 0 0, .slice none 0 0] 71)
    rwa [World.size_alloc] at this
  have HA0 : Hid (RawAt (w.heap.size + 1) ((w.alloc (.cells #[.slice none 0 0, .slice none 0 0, .slice none 0 0] 71)).alloc (.cells #[.slice none 0 0, .slice none 0 0, .slice none 0 0] 71)) [] [] [] (.slice none 0 0) (.slice none 0 0) (.slice none 0 0)) :=
    Lib.hid ⟨hA0, World.ownsRow_nil _ _ _ _, World.ownsRow_nil _ _ _ _, World.ownsRow_nil _ _ _ _, (fun p hp => by cases hp), (fun p hp => by cases hp), (fun p hp => by cases hp)⟩
  have hlt0 : w.heap.size + 1 < ((w.alloc (.cells #[.slice none 0 0, .slice none 0 0, .slice none 0 0] 71)).alloc (.cells #[.slice none 0 0, .slice none 0 0, .slice none 0 0] 71)).heap.size := blk_lt hA0
  clear h hb0 hA0
  go_enter Tryz.func59, Tryz.ntmps59
  go_upto_region 2 with (fail)
  generalize hW0 : (w.alloc (.cells #[.slice none 0 0, .slice none 0 0, .slice none 0 0] 71)).alloc (.cells #[.slice none 0 0, .slice none 0 0, .slice none 0 0] 71) = W0 at *
  clear hW0
  have hcnt : r.length ≤ l.length := HR0.out.len
  go_loopw [] (fun wr => SchemaAt R g c l (w.heap.size + 1) W0 (schemaL noRaw r) wr) (fun wr => lenAt (wr.cell? ⟨R, 0, none⟩))
  case atStart => exact ⟨[], [], [], _, _, _, r, HA0.out, HR0.out, Exc.refl _ _ _, by simpa using hcnt, rfl⟩
  case round =>
    clear HA0 HR0
    obtain ⟨ss, es, ts, sv, ev, rv, r1, ha, hr, hx, hc, hs⟩ := hrel
    have hend := hr.ends
    have HST := Lib.hid (hs.trans (schemaL_step hend))
    have HM := Lib.hid (show lenAt (wr.cell? ⟨R, 0, none⟩) = r1.length by rw [hr.cells3.1]; rfl)
    have HEAT := Lib.hid (part_eats (a := rawOf ss es ts) hend)
    have HK := Lib.hid (isT_end hend)
    have HA := Lib.hid ha
    have HR := Lib.hid hr
    have HX := Lib.hid hx
    have HZ := Lib.hid (blk_exc HZ0.out hx (by omega) (by omega))
    clear ha hr hx hs hend
    go_wp2_with fail
    refine (rdStands_any _ R g c l r1 (0, 0) 0 ⟨#[]⟩ [] (by kernel_rfl) HR.out).mono ?_
    rintro e W2 ⟨rfl, hb2⟩
    have HA2 := Lib.hid (HA.out.fell hb2)
    have HR2 := Lib.hid (HR.out.keep hb2)
    have HX2 := Lib.hid (HX.out.bel (by omega) hb2)
    have HZ2 := Lib.hid (blk_below HZ.out hb2 (blk_lt HZ.out))
    clear hb2 HA HR HX HZ
    rw [HK.out]
    by_cases hk : (hd r1).kind = 0
    · have HST1 := Lib.hid (HST.out.trans (if_pos hk))
      rw [decide_eq_true hk]
      clear hk
      obtain ⟨hA2, a0, a1, a2, _⟩ := blk3 HA2.out.blk
      obtain ⟨hz, z0, z1, z2, y0, y1, y2⟩ := blk3 HZ2.out
      have HRW := Lib.hid (HA2.out.rows (base := w.heap.size + 1) (by omega))
      obtain ⟨sa, sc, ea, ec, ra, rc, rfl, rfl, rfl⟩ := HRW.out.forms
      go_wp2
      refine post_gen (fun Wf => Wf.heap[w.heap.size]? = some (.cells #[.slice sa ss.length sc, .slice ea es.length ec, .slice ra ts.length rc] 71 (0, 0)) ∧ RawRows (w.heap.size + 1) Wf ss es ts (.slice sa ss.length sc) (.slice ea es.length ec) (.slice ra ts.length rc) ∧ Rd Wf R g c l r1 (0, 0) ∧ Exc R w.heap.size w Wf) ⟨?_, ?_, ?_, ?_⟩ ?_
      · exact blk_set3 HZ2.out _ _ _
      · exact HRW.out.exc (exc_set3 W2 w.heap.size _ _ _) (by omega)
      · exact HR2.out.set3 (by omega) (by omega) _ _ _
      · exact (HX0.out.trans (HX2.out.mono (by omega))).set3 (Nat.le_refl _) _ _ _
      · rintro Wf ⟨e1, e2, e3, e4⟩
        obtain ⟨_, c0, c1, c2, _⟩ := blk3 e1
        rw [HST1.out]
        exact bodyPost_ret (v := .tuple #[.agg #[.slice sa ss.length sc, .slice ea es.length ec, .slice ra ts.length rc], .bool true]) (by simp [results, Tryz.results59, go_sem, c0, c1, c2]) rfl ⟨ss, es, ts, _, _, _, rfl, rfl, e2, e3, e4⟩
    · have HST1 := Lib.hid (HST.out.trans (if_neg hk))
      rw [decide_eq_false hk]
      clear hk
      go_wp2_with fail
      refine (part_any _ R g c (w.heap.size + 1) l r1 ss es ts sv ev rv hl (by omega) (by omega) HR2.out HA2.out hc).mono ?_
      rintro e W3 hp
      have HP := Lib.hid hp
      clear hp
      generalize partR (rawOf ss es ts) r1 = q at *
      obtain ⟨a', r'⟩ | ⟨cc, pp⟩ := q
      · obtain ⟨rfl, ⟨ss', es', ts', sv', ev', rv', rfl, ha', hc'⟩, hr', hx'⟩ := HP.out
        have HA3 := Lib.hid ha'
        have HR3 := Lib.hid hr'
        have HX3 := Lib.hid (HX2.out.trans hx')
        have HM3 := Lib.hid (show lenAt (W3.cell? ⟨R, 0, none⟩) = r'.length by rw [hr'.cells3.1]; rfl)
        have HST2 := Lib.hid (HST1.out.trans (bind_ok _ _ _))
        have HLT := Lib.hid (HEAT.out _ _ rfl).2
        clear ha' hr' hx' HP
        go_wp2
        go_roundw
        case rel => exact ⟨ss', es', ts', sv', ev', rv', r', HA3.out, HR3.out, HX3.out, hc', HST2.out⟩
        case measure => rw [HM3.out, HM.out]; exact HLT.out
      · obtain ⟨rfl, ⟨r', hr'⟩, hx'⟩ := HP.out
        have HR3 := Lib.hid hr'
        have HX3 := Lib.hid (HX2.out.trans hx')
        have HZ3 := Lib.hid (blk_exc HZ2.out hx' (by omega) (by omega))
        have HST2 := Lib.hid (HST1.out.trans (bind_no _ _ _))
        obtain ⟨hz, z0, z1, z2, y0, y1, y2⟩ := blk3 HZ3.out
        clear hr' hx' HP
        go_wp2
        refine post_gen (fun Wf => Wf.heap[w.heap.size]? = some (.cells #[.slice none 0 0, .slice none 0 0, .slice none 0 0] 71 (0, 0)) ∧ Rd Wf R g c l r' (cc, pp) ∧ Exc R w.heap.size w Wf) ⟨?_, ?_, ?_⟩ ?_
        · exact blk_set3 HZ3.out _ _ _
        · exact HR3.out.set3 (by omega) (by omega) _ _ _
        · exact (HX0.out.trans (HX3.out.mono (by omega))).set3 (Nat.le_refl _) _ _ _
        · rintro Wf ⟨e1, e3, e4⟩
          obtain ⟨_, c0, c1, c2, _⟩ := blk3 e1
          rw [HST2.out]
          exact bodyPost_ret (v := .tuple #[.agg #[.slice none 0 0, .slice none 0 0, .slice none 0 0], .bool false]) (by simp [results, Tryz.results59, go_sem, c0, c1, c2]) rfl ⟨rfl, ⟨r', e3⟩, e4⟩
end Go.Proofs.YtdlfndjgncdgfaaGreatDoor
