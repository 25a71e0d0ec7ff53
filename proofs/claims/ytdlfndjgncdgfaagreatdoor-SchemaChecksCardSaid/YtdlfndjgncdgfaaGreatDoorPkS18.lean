/-
  The package schema's again: the first place whose name an earlier one has, or -1: over tokens, over fields. Conditions: those that each theorem names.
-/
import Derived.Test.YtdlfndjgncdgfaaGreatDoorPkS14
import Derived.Test.YtdlfndjgncdgfaaGreatDoorPkS16
namespace Go.Proofs.YtdlfndjgncdgfaaGreatDoor
open Go.ChangeShapes Go.WideShapes Go.ChangeAt Go.RowKit Go.Shelf

def RecPost (R g c : Nat) (l : List Tok) (w : World) (x : Res RRec) (e : Ending) (w' : World) : Prop :=
  match x with
  | .ok s r' => ∃ v, e = .returned (.tuple #[.agg #[.string (strOfNums s.name), .int .i64 s.place, v], .bool true]) ∧ w'.ownsRow w.heap.size 124 8 v s.fields.length (fieldsCells s.fields) ∧ Rd w' R g c l r' (0, 0) ∧ Exc R w.heap.size w w'
  | .no cc p => ∃ (S : ByteArray) (n : Int) (a : Option Addr) (m c' : Nat) (r' : List Tok), e = .returned (.tuple #[.agg #[.string S, .int .i64 n, .slice a m c'], .bool false]) ∧ Rd w' R g c l r' (cc, p) ∧ Exc R w.heap.size w w'
theorem fields_keeper {R g c : Nat} {l : List Tok} {Bx V : Nat} {w0 : World} (hR : R < V) (hg : g < V) (hBx : Bx < V) (hne : Bx ≠ R) (hw : V ≤ w0.heap.size) (hl : l.length ≤ 2048) :
    Keeper R g c l 141 #[.pointer (some ⟨Bx, 0, none⟩), .pointer (some ⟨V, 0, none⟩)] (FieldsAt R g c l Bx V w0) (FaultAt R g c l V 111 w0) fieldR where
  enters := enters_of Tryz.func141 (by kernel_rfl) rfl
  rd := fun _ _ _ h => h.rd
  stay := fun _ _ _ _ _ h hr hx hl' => h.stay hR hne hw hr hx hl'
  fails := fun _ _ _ _ _ _ h hr hx => h.fails hR hw hr hx
  eats := fun _ h => field_eats h
  gives := fun W acc r h => record1_any hR hg hBx hne hw hl W acc r h
set_option maxRecDepth 100000 in
set_option maxHeartbeats 2000000 in
theorem record_any (w : World) (R g c : Nat) (l r : List Tok) (hl : l.length ≤ 2048) (h : Rd w R g c l r (0, 0)) :
    Calls Tryz.prog 119 #[.pointer (some ⟨R, 0, none⟩)] w (RecPost R g c l w (recR r)) := by
  have hR := blk_lt h.blk
  have hg := h.glt
  have HT : Hid (recR r = (nameR r).bind fun t r1 => ((wantR [123] r1).bind fun _ r2 => fieldsL [] r2).bind fun fs r3 => .ok ⟨t.text, t.place, fs⟩ r3) := by
    unfold recR
    refine Lib.hid ?_
    cases nameR r with
    | no c p => rfl
    | ok a r1 =>
      simp only [bind_ok]
      cases wantR [123] r1 with
      | no c p => rfl
      | ok b r2 => rfl
  have hsz : w.heap.size + 2 ≤ ((w.alloc (.cells #[.pointer (some ⟨R, 0, none⟩)] 131)).alloc (.cells #[.string ⟨#[]⟩, .int .i64 0, .slice none 0 0] 113)).heap.size := by rw [World.size_alloc, World.size_alloc]; omega
  have hb0 : Below w.heap.size w ((w.alloc (.cells #[.pointer (some ⟨R, 0, none⟩)] 131)).alloc (.cells #[.string ⟨#[]⟩, .int .i64 0, .slice none 0 0] 113)) := ((Below.refl _ _).alloc (Nat.le_refl _) _).alloc (by simp) _
  have HX0 := Lib.hid (Exc.of_below (R := R) hb0)
  have HR0 := Lib.hid (h.keep hb0)
  have HB0 := Lib.hid (blk_alloc (heap_alloc_new w (.cells #[.pointer (some ⟨R, 0, none⟩)] 131)) (.cells #[.string ⟨#[]⟩, .int .i64 0, .slice none 0 0] 113))
  have HZ0 := Lib.hid (show ((w.alloc (.cells #[.pointer (some ⟨R, 0, none⟩)] 131)).alloc (.cells #[.string ⟨#[]⟩, .int .i64 0, .slice none 0 0] 113)).heap[w.heap.size + 1]? = some (.cells #[.string ⟨#[]⟩, .int .i64 0, .slice none 0 0] 113 (0, 0)) from by
    have := heap_alloc_new (w.alloc (.cells #[.pointer (some ⟨R, 0, none⟩)] 131)) (.cells #[.string ⟨#[]⟩, .int .i64 0, .slice none 0 0] 113)
    rwa [World.size_alloc] at this)
  clear h hb0
  go_enter Tryz.func119, Tryz.ntmps119
  go_upto_region 1 with (fail)
  generalize hW0 : (w.alloc (.cells #[.pointer (some ⟨R, 0, none⟩)] 131)).alloc (.cells #[.string ⟨#[]⟩, .int .i64 0, .slice none 0 0] 113) = W0 at *
  clear hW0
  have b0 : W0.cell? ⟨w.heap.size, 0, none⟩ = some (.pointer (some ⟨R, 0, none⟩)) := (blk_cell HB0.out 0).trans rfl
  go_wp2_with fail
  refine (name_any _ R g c l r HR0.out).mono ?_
  rintro e W1 ⟨a1, r1, F1, ok1, rfl, hr1, hx1, hs1⟩
  have hs01 := hx1.size
  have HX1 := Lib.hid (HX0.out.thenB (Nat.le_refl _) hx1)
  have HZ1 := Lib.hid (blk_exc HZ0.out hx1 (blk_lt HZ0.out) (by omega))
  have HB1 := Lib.hid (blk_exc HB0.out hx1 (blk_lt HB0.out) (by omega))
  have HR1 := Lib.hid hr1
  have HS1 := Lib.hid hs1
  clear hr1 hx1 hs1 b0 HX0 HR0 HB0 HZ0
  unfold tokV
  go_upto_region 2 with (fail)
  have HR2 := Lib.hid (HR1.out.alloc (.cells #[.int .i64 a1.kind, .string (strOfNums a1.text), .int .i64 a1.place] 108))
  have HX2 := Lib.hid (HX1.out.alloc HX1.out.size (.cells #[.int .i64 a1.kind, .string (strOfNums a1.text), .int .i64 a1.place] 108))
  have HB2 := Lib.hid (blk_alloc HB1.out (.cells #[.int .i64 a1.kind, .string (strOfNums a1.text), .int .i64 a1.place] 108))
  have HZ2 := Lib.hid (blk_alloc HZ1.out (.cells #[.int .i64 a1.kind, .string (strOfNums a1.text), .int .i64 a1.place] 108))
  have HT2 := Lib.hid (heap_alloc_new W1 (.cells #[.int .i64 a1.kind, .string (strOfNums a1.text), .int .i64 a1.place] 108))
  have hs2 : W1.heap.size + 1 ≤ (W1.alloc (.cells #[.int .i64 a1.kind, .string (strOfNums a1.text), .int .i64 a1.place] 108)).heap.size := Nat.le_of_eq (World.size_alloc ..).symm
  clear HR1 HX1 HB1 HZ1
  generalize hW2 : W1.alloc (.cells #[.int .i64 a1.kind, .string (strOfNums a1.text), .int .i64 a1.place] 108) = W2 at *
  clear hW2
  generalize hBT : W1.heap.size = BT at *
  clear hBT
  generalize nameR r = q at *
  obtain ⟨a', r'⟩ | ⟨cc, pp⟩ := q
  · obtain ⟨rfl, rfl, rfl, rfl⟩ := HS1.out
    have HT1 := Lib.hid (HT.out.trans (bind_ok _ _ _))
    clear HT HS1
    go_upto_region 5 with (fail)
    have HR3 := Lib.hid (HR2.out.alloc (.cells #[.slice none 0 0] 111))
    have HX3 := Lib.hid (HX2.out.alloc HX2.out.size (.cells #[.slice none 0 0] 111))
    have HB3 := Lib.hid (blk_alloc HB2.out (.cells #[.slice none 0 0] 111))
    have HZ3 := Lib.hid (blk_alloc HZ2.out (.cells #[.slice none 0 0] 111))
    have HT3 := Lib.hid (blk_alloc HT2.out (.cells #[.slice none 0 0] 111))
    have HV3 := Lib.hid (heap_alloc_new W2 (.cells #[.slice none 0 0] 111))
    have hs3 : W2.heap.size + 1 ≤ (W2.alloc (.cells #[.slice none 0 0] 111)).heap.size := Nat.le_of_eq (World.size_alloc ..).symm
    clear HR2 HX2 HB2 HZ2 HT2
    generalize hW3 : W2.alloc (.cells #[.slice none 0 0] 111) = W3 at *
    clear hW3
    generalize hV : W2.heap.size = V at *
    clear hV
    have b3 : W3.cell? ⟨w.heap.size, 0, none⟩ = some (.pointer (some ⟨R, 0, none⟩)) := (blk_cell HB3.out 0).trans rfl
    have HBR := Lib.hid (braced_any (R := R) (g := g) (c := c) (l := l) (I := FieldsAt R g c l w.heap.size V W3) (J := FaultAt R g c l V 111 W3) (step := fieldR) fieldsL (fun acc r h => fieldsL_step h) (fields_keeper (R := R) (g := g) (c := c) (l := l) (Bx := w.heap.size) (V := V) (w0 := W3) (by omega) (by omega) (by omega) (by omega) (by omega) hl) [] r1 W3 ⟨HR3.out, HB3.out, ⟨_, HV3.out, World.ownsRow_nil _ _ _ _⟩, Exc.refl _ _ _, by have := HR3.out.len; simpa using this⟩)
    go_wp2_with fail
    refine HBR.out.mono ?_
    rintro e W4 hp
    have HP := Lib.hid hp
    clear hp b3
    generalize ((wantR [123] r1).bind fun _ r2 => fieldsL [] r2) = q at *
    obtain ⟨fs, r4⟩ | ⟨cc, pp⟩ := q
    · obtain ⟨rfl, hi⟩ := HP.out
      have HI := Lib.hid hi
      obtain ⟨v, hv, ho⟩ := hi.row
      obtain ⟨va, vc, rfl⟩ := ownsRow_form ho
      have HO := Lib.hid ho
      have HZ4 := Lib.hid (blk_exc HZ3.out hi.exc (by omega) (by omega))
      obtain ⟨ht4, t0, t1, t2, _⟩ := blk3 (blk_exc HT3.out hi.exc (by omega) (by omega))
      obtain ⟨hz4, z0, z1, z2, y0, y1, y2⟩ := blk3 HZ4.out
      have v4 : W4.cell? ⟨V, 0, none⟩ = some _ := (blk_cell hv 0).trans rfl
      have HE := Lib.hid (HT1.out.trans (bind_ok _ _ _))
      clear hi hv ho HP
      go_wp2
      refine post_gen (fun Wf => Wf.heap[w.heap.size + 1]? = some (.cells #[.string (strOfNums a1.text), .int .i64 a1.place, .slice va fs.length vc] 113 (0, 0)) ∧ Wf.ownsRow w.heap.size 124 8 (.slice va fs.length vc) fs.length (fieldsCells fs) ∧ Rd Wf R g c l r4 (0, 0) ∧ Exc R w.heap.size w Wf) ⟨?_, ?_, ?_, ?_⟩ ?_
      · exact blk_set3 HZ4.out _ _ _
      · exact ownsRow_base (ownsRow_setCell_below (ownsRow_setCell_below (ownsRow_setCell_below HO.out (a := ⟨w.heap.size + 1, 0, none⟩) (by show w.heap.size + 1 < _; omega) _) (a := ⟨w.heap.size + 1, 1, none⟩) (by show w.heap.size + 1 < _; omega) _) (a := ⟨w.heap.size + 1, 2, none⟩) (by show w.heap.size + 1 < _; omega) _) (by omega)
      · exact HI.out.rd.set3 (by omega) (by omega) _ _ _
      · exact (HX3.out.trans (HI.out.exc.mono (by omega))).set3 (by omega) _ _ _
      · rintro Wf ⟨e1, e2, e3, e4⟩
        obtain ⟨_, c0, c1, c2, _⟩ := blk3 e1
        rw [HE.out]
        exact bodyPost_ret (v := .tuple #[.agg #[.string (strOfNums a1.text), .int .i64 a1.place, .slice va fs.length vc], .bool true]) (by simp [results, Tryz.results119, go_sem, c0, c1, c2]) rfl ⟨_, rfl, e2, e3, e4⟩
    · obtain ⟨rfl, ⟨r4, hr4⟩, ⟨va, vn, vc, hv⟩, hx4⟩ := HP.out
      have HR4 := Lib.hid hr4
      have HX4 := Lib.hid hx4
      have HZ4 := Lib.hid (blk_exc HZ3.out hx4 (by omega) (by omega))
      obtain ⟨ht4, t0, t1, t2, _⟩ := blk3 (blk_exc HT3.out hx4 (by omega) (by omega))
      obtain ⟨hz4, z0, z1, z2, y0, y1, y2⟩ := blk3 HZ4.out
      have v4 : W4.cell? ⟨V, 0, none⟩ = some _ := (blk_cell hv 0).trans rfl
      have HE := Lib.hid (HT1.out.trans (bind_no _ _ _))
      clear hr4 hx4 hv HP
      go_wp2
      refine post_gen (fun Wf => Wf.heap[w.heap.size + 1]? = some (.cells #[.string (strOfNums a1.text), .int .i64 a1.place, .slice va vn vc] 113 (0, 0)) ∧ Rd Wf R g c l r4 (cc, pp) ∧ Exc R w.heap.size w Wf) ⟨?_, ?_, ?_⟩ ?_
      · exact blk_set3 HZ4.out _ _ _
      · exact HR4.out.set3 (by omega) (by omega) _ _ _
      · exact (HX3.out.trans (HX4.out.mono (by omega))).set3 (by omega) _ _ _
      · rintro Wf ⟨e1, e3, e4⟩
        obtain ⟨_, c0, c1, c2, _⟩ := blk3 e1
        rw [HE.out]
        exact bodyPost_ret (v := .tuple #[.agg #[.string (strOfNums a1.text), .int .i64 a1.place, .slice va vn vc], .bool false]) (by simp [results, Tryz.results119, go_sem, c0, c1, c2]) rfl ⟨_, _, _, _, _, _, rfl, e3, e4⟩
  · obtain ⟨rfl, rfl⟩ := HS1.out
    have HE := Lib.hid (HT.out.trans (bind_no _ _ _))
    obtain ⟨hz4, z0, z1, z2, y0, y1, y2⟩ := blk3 HZ2.out
    go_wp2
    refine post_gen (fun Wf => Wf.heap[w.heap.size + 1]? = some (.cells #[.string ⟨#[]⟩, .int .i64 0, .slice none 0 0] 113 (0, 0)) ∧ Rd Wf R g c l r1 (cc, pp) ∧ Exc R w.heap.size w Wf) ⟨?_, ?_, ?_⟩ ?_
    · exact blk_set3 HZ2.out _ _ _
    · exact HR2.out.set3 (by omega) (by omega) _ _ _
    · exact HX2.out.set3 (by omega) _ _ _
    · rintro Wf ⟨e1, e3, e4⟩
      obtain ⟨_, c0, c1, c2, _⟩ := blk3 e1
      rw [HE.out]
      exact bodyPost_ret (v := .tuple #[.agg #[.string ⟨#[]⟩, .int .i64 0, .slice none 0 0], .bool false]) (by simp [results, Tryz.results119, go_sem, c0, c1, c2]) rfl ⟨_, _, _, _, _, _, rfl, e3, e4⟩
end Go.Proofs.YtdlfndjgncdgfaaGreatDoor
namespace Go.Proofs.YtdlfndjgncdgfaaGreatDoor
open Go.ChangeShapes Go.WideShapes Go.ChangeAt Go.RowKit Go.Shelf

def MapKeys (W : World) (b : Nat) (ks : List ByteArray) : Prop := ∃ l, MapAt W b l ∧ l.map Prod.fst = ks
theorem look_has : ∀ (l : List (ByteArray × Value)) (s : ByteArray), (lookK l s).isSome = hasS (l.map Prod.fst) s
  | [], _ => rfl
  | p :: r, s => by
    rw [List.map_cons]
    show (lookK (p :: r) s).isSome = (decide (s = p.1) || hasS (r.map Prod.fst) s)
    rw [lookK]
    split
    · rename_i h
      rw [decide_eq_true h]
      rfl
    · rename_i h
      rw [decide_eq_false h, Bool.false_or]
      exact look_has r s
theorem MapKeys.lt {W : World} {b : Nat} {ks : List ByteArray} (h : MapKeys W b ks) : b < W.heap.size := h.choose_spec.1.lt
theorem MapKeys.below {W W' : World} {b B : Nat} {ks : List ByteArray} (h : MapKeys W b ks) (hb : Below B W W') (hlt : b < B) : MapKeys W' b ks := by
  obtain ⟨l, h1, h2⟩ := h
  exact ⟨l, h1.below hb hlt, h2⟩
theorem MapKeys.look {W : World} {b : Nat} {ks : List ByteArray} (h : MapKeys W b ks) (s : ByteArray) {c : Bool} (hc : hasS ks s = c) :
    ∃ v, (Instr.lookup 143 (.map (some b)) (.string s) true).run Tryz.prog W = .ok (.tuple #[v, .bool c]) W := by
  obtain ⟨l, h1, rfl⟩ := h
  refine ⟨(lookK l s).getD (.int .i64 0), ?_⟩
  have := h1.look ty_key int_map (int_zero W) s true
  rw [if_pos rfl, look_has, hc] at this
  exact this
theorem MapKeys.store {W : World} {b : Nat} {ks : List ByteArray} (h : MapKeys W b ks) (s : ByteArray) (v : Value) (hc : hasS ks s = false) :
    ∃ W', (Instr.mapUpdate 143 (.map (some b)) (.string s) v).run Tryz.prog W = .ok () W' ∧ MapKeys W' b (ks ++ [s]) ∧ ∀ B, Exc b B W W' := by
  obtain ⟨l, h1, rfl⟩ := h
  have hn : lookK l s = none := by
    have := look_has l s
    rw [hc] at this
    exact Option.not_isSome_iff_eq_none.1 (by rw [this]; decide)
  obtain ⟨W', r1, r2, r3⟩ := h1.store ty_key int_map s v hn
  exact ⟨W', r1, ⟨_, r2, by simp⟩, r3⟩
theorem MapKeys.made (W : World) : MapKeys (W.alloc (.map #[] 0)) W.heap.size [] := ⟨[], .made W, rfl⟩
def dupI : Option Nat → Int
  | none => -1
  | some k => (k : Nat)
theorem dup_step {α : Type} (f : α → ByteArray) (l : List α) (k : Nat) (hk : k < l.length) (h : dup (l.map f) = dupFrom ((l.take k).map f) ((l.drop k).map f)) :
    (hasS ((l.take k).map f) (f l[k]) = true → dup (l.map f) = some k) ∧ (hasS ((l.take k).map f) (f l[k]) = false → dup (l.map f) = dupFrom ((l.take (k + 1)).map f) ((l.drop (k + 1)).map f)) := by
  rw [List.drop_eq_getElem_cons hk, List.map_cons] at h
  constructor
  · intro hc
    rw [h]
    show (if hasS _ _ = true then some _ else _) = _
    rw [if_pos hc, List.length_map, List.length_take, Nat.min_eq_left (Nat.le_of_lt hk)]
  · intro hc
    rw [h]
    show (if hasS _ _ = true then some _ else dupFrom _ _) = _
    rw [if_neg (by rw [hc]; decide), List.take_succ_eq_append_getElem hk, List.map_append]
    rfl
theorem take_snoc_map {α : Type} (f : α → ByteArray) (l : List α) (k : Nat) (hk : k < l.length) : (l.take (k + 1)).map f = (l.take k).map f ++ [f l[k]] := by
  rw [List.take_succ_eq_append_getElem hk, List.map_append]
  rfl
def AgainAt {α : Type} (f : α → ByteArray) (l : List α) (w : World) (i : Value) (wr : World) : Prop :=
  ∃ k : Nat, k ≤ l.length ∧ i = .int .i64 k ∧ MapKeys wr w.heap.size ((l.take k).map f) ∧ Below w.heap.size w wr ∧ dup (l.map f) = dupFrom ((l.take k).map f) ((l.drop k).map f)

theorem name_tok (a c : Int) (s : ByteArray) (w : World) : Calls Tryz.prog 86 #[.agg #[.int .i64 a, .string s, .int .i64 c]] w fun e w' => e = .returned (.string s) ∧ Below w.heap.size w w' := by
  go_enter Tryz.func86, Tryz.ntmps86
  go_wp2
  go_ret
  exact ⟨rfl, (Below.refl _ _).alloc (Nat.le_refl _) _⟩
set_option maxRecDepth 100000 in
set_option maxHeartbeats 2000000 in
theorem again_tok (l : List Tok) (v : Value) (base : Nat) (w : World) (h : w.ownsRow base 108 3 v l.length (toksCells l)) :
    Calls Tryz.prog 85 #[v, .func (.func 86) #[] #[]] w fun e w' => e = .returned (.int .i64 (dupI (dup (l.map tokT)))) ∧ Below w.heap.size w w' := by
  obtain ⟨a, c, rfl⟩ := ownsRow_form h
  have hfew := row_few h
  have HR := Lib.hid h
  clear h
  have hmm := @run_makeMap Tryz.prog
  have HMK := Lib.hid (MapKeys.made w)
  have HBK := Lib.hid (show Below w.heap.size w (w.alloc (.map #[] 0)) from (Below.refl _ _).alloc (Nat.le_refl _) _)
  go_enter Tryz.func85, Tryz.ntmps85
  go_wp2
  clear hmm
  go_loopw [13] (AgainAt tokT l w) (fun i _ => l.length - (intOf i).toNat)
  case atStart => exact ⟨0, Nat.zero_le _, rfl, HMK.out, HBK.out, rfl⟩
  case round =>
    clear HMK HBK
    obtain ⟨k, hk, rfl, hm, hb, hd⟩ := hrel
    by_cases hkl : k < l.length
    · obtain ⟨g, cc, hv, hcc, hg, hcell⟩ := row_el tokCells 3 (fun _ => rfl) (row_keep hb HR.out) k hkl
      obtain ⟨rfl, rfl⟩ := slice_inj hv
      have x0 : wr.cell? ⟨g, k * 3, none⟩ = some (.int .i64 l[k].kind) := hcell 0 (by omega)
      have x1 : wr.cell? ⟨g, k * 3 + 1, none⟩ = some (.string (tokT l[k])) := hcell 1 (by omega)
      have x2 : wr.cell? ⟨g, k * 3 + 2, none⟩ = some (.int .i64 l[k].place) := hcell 2 (by omega)
      obtain ⟨d1, d2⟩ := dup_step tokT l k hkl hd
      have HTK := Lib.hid (take_snoc_map tokT l k hkl)
      generalize l[k] = q at *
      have hwr := hm.lt
      have HM := Lib.hid hm
      have HB := Lib.hid hb
      have HD1 := Lib.hid d1
      have HD2 := Lib.hid d2
      clear hm hb hd d1 d2 hcell hv
      go_wp2_with fail
      refine (name_tok _ _ _ _).mono ?_
      rintro e W1 ⟨rfl, hb1⟩
      have hbx : Below wr.heap.size wr W1 := ((Below.refl _ _).alloc (Nat.le_refl _) _).trans (hb1.mono (by simp))
      have HM1 := Lib.hid (HM.out.below hbx hwr)
      have HB1 := Lib.hid (HB.out.trans (hbx.mono (by omega)))
      have hlt1 : wr.heap.size < W1.heap.size := by have := hb1.size; simp at this; omega
      have HN := Lib.hid (blk_below (heap_alloc_new wr _) hb1 (by simp))
      clear hbx hb1 HM HB
      cases hh : hasS ((l.take k).map tokT) (tokT q)
      · obtain ⟨v, hl⟩ := HM1.out.look _ hh
        have HD := Lib.hid (HD2.out hh)
        have HH := Lib.hid hh
        clear hh HD1 HD2
        have y0 : W1.cell? ⟨wr.heap.size, 0, none⟩ = some (.int .i64 q.kind) := (blk_cell HN.out 0).trans rfl
        have y1 : W1.cell? ⟨wr.heap.size, 1, none⟩ = some (.string (tokT q)) := (blk_cell HN.out 1).trans rfl
        have y2 : W1.cell? ⟨wr.heap.size, 2, none⟩ = some (.int .i64 q.place) := (blk_cell HN.out 2).trans rfl
        go_upto_region 8 with (fail)
        clear hl
        go_wp2_with fail
        refine (name_tok _ _ _ _).mono ?_
        rintro e W2 ⟨rfl, hb2⟩
        have hms := HM1.out.below hb2 (by omega)
        have HB2 := Lib.hid (HB1.out.trans (hb2.mono (by omega)))
        have hlt2 := hb2.size
        obtain ⟨W3, hr3, hm3, hx3⟩ := hms.store (tokT q) (.int .i64 k) HH.out
        have HM3 := Lib.hid hm3
        have HB3 := Lib.hid (HB2.out.trans ((hx3 _).below (Nat.le_refl w.heap.size)))
        clear hms hb2 hm3 hx3 HB1 HB2
        go_wp2
        go_roundw
        case rel => exact ⟨k + 1, by omega, by go_num, by rw [HTK.out]; exact HM3.out, HB3.out, HD.out⟩
        case measure => simp [intOf]; omega
      · obtain ⟨v, hl⟩ := HM1.out.look _ hh
        have HD := Lib.hid (HD1.out hh)
        clear hh HD1 HD2
        go_wp2
        go_ret
        exact ⟨by rw [HD.out]; rfl, HB1.out⟩
    · obtain rfl : k = l.length := by omega
      have HD : Hid (dup (l.map tokT) = none) := Lib.hid (by rw [hd, List.drop_length]; rfl)
      have HB := Lib.hid hb
      clear hm hb hd
      go_wp2
      go_ret
      exact ⟨by rw [HD.out]; rfl, HB.out⟩

theorem name_fld (x1 x3 x4 x5 x7 : Int) (s x2 x6 : ByteArray) (w : World) : Calls Tryz.prog 89 #[.agg #[.string s, .int .i64 x1, .string x2, .int .i64 x3, .int .i64 x4, .int .i64 x5, .string x6, .int .i64 x7]] w fun e w' => e = .returned (.string s) ∧ Below w.heap.size w w' := by
  go_enter Tryz.func89, Tryz.ntmps89
  go_wp2
  go_ret
  exact ⟨rfl, (Below.refl _ _).alloc (Nat.le_refl _) _⟩
set_option maxRecDepth 100000 in
set_option maxHeartbeats 2000000 in
theorem again_fld (l : List RField) (v : Value) (base : Nat) (w : World) (h : w.ownsRow base 124 8 v l.length (fieldsCells l)) :
    Calls Tryz.prog 88 #[v, .func (.func 89) #[] #[]] w fun e w' => e = .returned (.int .i64 (dupI (dup (l.map fldT)))) ∧ Below w.heap.size w w' := by
  obtain ⟨a, c, rfl⟩ := ownsRow_form h
  have hfew := row_few h
  have HR := Lib.hid h
  clear h
  have hmm := @run_makeMap Tryz.prog
  have HMK := Lib.hid (MapKeys.made w)
  have HBK := Lib.hid (show Below w.heap.size w (w.alloc (.map #[] 0)) from (Below.refl _ _).alloc (Nat.le_refl _) _)
  go_enter Tryz.func88, Tryz.ntmps88
  go_wp2
  clear hmm
  go_loopw [13] (AgainAt fldT l w) (fun i _ => l.length - (intOf i).toNat)
  case atStart => exact ⟨0, Nat.zero_le _, rfl, HMK.out, HBK.out, rfl⟩
  case round =>
    clear HMK HBK
    obtain ⟨k, hk, rfl, hm, hb, hd⟩ := hrel
    by_cases hkl : k < l.length
    · obtain ⟨g, cc, hv, hcc, hg, hcell⟩ := row_el fieldCells 8 (fun _ => rfl) (row_keep hb HR.out) k hkl
      obtain ⟨rfl, rfl⟩ := slice_inj hv
      have x0 : wr.cell? ⟨g, k * 8, none⟩ = some (.string (fldT l[k])) := hcell 0 (by omega)
      have x1 : wr.cell? ⟨g, k * 8 + 1, none⟩ = some (.int .i64 l[k].place) := hcell 1 (by omega)
      have x2 : wr.cell? ⟨g, k * 8 + 2, none⟩ = some (.string (strOfNums l[k].ty.name)) := hcell 2 (by omega)
      have x3 : wr.cell? ⟨g, k * 8 + 3, none⟩ = some (.int .i64 l[k].ty.lists) := hcell 3 (by omega)
      have x4 : wr.cell? ⟨g, k * 8 + 4, none⟩ = some (.int .i64 l[k].ty.place) := hcell 4 (by omega)
      have x5 : wr.cell? ⟨g, k * 8 + 5, none⟩ = some (.int .i64 l[k].dflt.kind) := hcell 5 (by omega)
      have x6 : wr.cell? ⟨g, k * 8 + 6, none⟩ = some (.string (strOfNums l[k].dflt.text)) := hcell 6 (by omega)
      have x7 : wr.cell? ⟨g, k * 8 + 7, none⟩ = some (.int .i64 l[k].dflt.place) := hcell 7 (by omega)
      obtain ⟨d1, d2⟩ := dup_step fldT l k hkl hd
      have HTK := Lib.hid (take_snoc_map fldT l k hkl)
      generalize l[k] = q at *
      have hwr := hm.lt
      have HM := Lib.hid hm
      have HB := Lib.hid hb
      have HD1 := Lib.hid d1
      have HD2 := Lib.hid d2
      clear hm hb hd d1 d2 hcell hv
      go_wp2_with fail
      refine (name_fld _ _ _ _ _ _ _ _ _).mono ?_
      rintro e W1 ⟨rfl, hb1⟩
      have hbx : Below wr.heap.size wr W1 := ((Below.refl _ _).alloc (Nat.le_refl _) _).trans (hb1.mono (by simp))
      have HM1 := Lib.hid (HM.out.below hbx hwr)
      have HB1 := Lib.hid (HB.out.trans (hbx.mono (by omega)))
      have hlt1 : wr.heap.size < W1.heap.size := by have := hb1.size; simp at this; omega
      have HN := Lib.hid (blk_below (heap_alloc_new wr _) hb1 (by simp))
      clear hbx hb1 HM HB
      cases hh : hasS ((l.take k).map fldT) (fldT q)
      · obtain ⟨v, hl⟩ := HM1.out.look _ hh
        have HD := Lib.hid (HD2.out hh)
        have HH := Lib.hid hh
        clear hh HD1 HD2
        have y0 : W1.cell? ⟨wr.heap.size, 0, none⟩ = some (.string (fldT q)) := (blk_cell HN.out 0).trans rfl
        have y1 : W1.cell? ⟨wr.heap.size, 1, none⟩ = some (.int .i64 q.place) := (blk_cell HN.out 1).trans rfl
        have y2 : W1.cell? ⟨wr.heap.size, 2, none⟩ = some (.string (strOfNums q.ty.name)) := (blk_cell HN.out 2).trans rfl
        have y3 : W1.cell? ⟨wr.heap.size, 3, none⟩ = some (.int .i64 q.ty.lists) := (blk_cell HN.out 3).trans rfl
        have y4 : W1.cell? ⟨wr.heap.size, 4, none⟩ = some (.int .i64 q.ty.place) := (blk_cell HN.out 4).trans rfl
        have y5 : W1.cell? ⟨wr.heap.size, 5, none⟩ = some (.int .i64 q.dflt.kind) := (blk_cell HN.out 5).trans rfl
        have y6 : W1.cell? ⟨wr.heap.size, 6, none⟩ = some (.string (strOfNums q.dflt.text)) := (blk_cell HN.out 6).trans rfl
        have y7 : W1.cell? ⟨wr.heap.size, 7, none⟩ = some (.int .i64 q.dflt.place) := (blk_cell HN.out 7).trans rfl
        go_upto_region 8 with (fail)
        clear hl
        go_wp2_with fail
        refine (name_fld _ _ _ _ _ _ _ _ _).mono ?_
        rintro e W2 ⟨rfl, hb2⟩
        have hms := HM1.out.below hb2 (by omega)
        have HB2 := Lib.hid (HB1.out.trans (hb2.mono (by omega)))
        have hlt2 := hb2.size
        obtain ⟨W3, hr3, hm3, hx3⟩ := hms.store (fldT q) (.int .i64 k) HH.out
        have HM3 := Lib.hid hm3
        have HB3 := Lib.hid (HB2.out.trans ((hx3 _).below (Nat.le_refl w.heap.size)))
        clear hms hb2 hm3 hx3 HB1 HB2
        go_wp2
        go_roundw
        case rel => exact ⟨k + 1, by omega, by go_num, by rw [HTK.out]; exact HM3.out, HB3.out, HD.out⟩
        case measure => simp [intOf]; omega
      · obtain ⟨v, hl⟩ := HM1.out.look _ hh
        have HD := Lib.hid (HD1.out hh)
        clear hh HD1 HD2
        go_wp2
        go_ret
        exact ⟨by rw [HD.out]; rfl, HB1.out⟩
    · obtain rfl : k = l.length := by omega
      have HD : Hid (dup (l.map fldT) = none) := Lib.hid (by rw [hd, List.drop_length]; rfl)
      have HB := Lib.hid hb
      clear hm hb hd
      go_wp2
      go_ret
      exact ⟨by rw [HD.out]; rfl, HB.out⟩
end Go.Proofs.YtdlfndjgncdgfaaGreatDoor
