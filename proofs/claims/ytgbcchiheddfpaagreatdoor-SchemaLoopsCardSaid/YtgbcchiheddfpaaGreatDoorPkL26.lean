/-
  The reader of the package idl: an enum as it is written. Conditions: those that each theorem names.
-/
import Derived.Test.YtgbcchiheddfpaaGreatDoorPkL23
namespace Go.Proofs.YtgbcchiheddfpaaGreatDoor
open Go.ChangeShapes Go.WideShapes Go.ChangeAt Go.RowKit Go.Shelf

def ChoPost (R g c : Nat) (l : List Tok) (w : World) (x : Res RCho) (e : Ending) (w' : World) : Prop :=
  match x with
  | .ok s r' => ∃ v, e = .returned (.tuple #[.agg #[.string (strOfNums s.name), .int .i64 s.place, v], .bool true]) ∧ w'.ownsRow w.heap.size 282 3 v s.names.length (toksCells s.names) ∧ Rd w' R g c l r' (0, 0) ∧ Exc R w.heap.size w w'
  | .no cc p => ∃ (S : ByteArray) (n : Int) (a : Option Addr) (m c' : Nat) (r' : List Tok), e = .returned (.tuple #[.agg #[.string S, .int .i64 n, .slice a m c'], .bool false]) ∧ Rd w' R g c l r' (cc, p) ∧ Exc R w.heap.size w w'
theorem names_keeper {R g c : Nat} {l : List Tok} {Bx V : Nat} {w0 : World} (hR : R < V) (hg : g < V) (hBx : Bx < V) (hne : Bx ≠ R) (hw : V ≤ w0.heap.size) (hl : l.length ≤ 2048) :
    Keeper R g c l 237 #[.pointer (some ⟨Bx, 0, none⟩), .pointer (some ⟨V, 0, none⟩)] (NamesAt R g c l Bx V w0) (FaultAt R g c l V 186 w0) valueNR where
  enters := enters_of Tryz.func237 (by kernel_rfl) rfl
  rd := fun _ _ _ h => h.rd
  stay := fun _ _ _ _ _ h hr hx hl' => h.stay hR hne hw hr hx hl'
  fails := fun _ _ _ _ _ _ h hr hx => h.fails hR hw hr hx
  eats := fun _ h => valueN_eats h
  gives := fun W acc r h => choice1_any hR hg hBx hne hw hl W acc r h
set_option maxRecDepth 100000 in
set_option maxHeartbeats 2000000 in
theorem choice_any (w : World) (R g c : Nat) (l r : List Tok) (hl : l.length ≤ 2048) (h : Rd w R g c l r (0, 0)) :
    Calls Tryz.prog 206 #[.pointer (some ⟨R, 0, none⟩)] w (ChoPost R g c l w (choR r)) := by
  have hR := blk_lt h.blk
  have hg := h.glt
  have HT : Hid (choR r = (nameR r).bind fun t r1 => ((wantR [123] r1).bind fun _ r2 => namesL [] r2).bind fun fs r3 => .ok ⟨t.text, t.place, fs⟩ r3) := by
    unfold choR
    refine Lib.hid ?_
    cases nameR r with
    | no c p => rfl
    | ok a r1 =>
      simp only [bind_ok]
      cases wantR [123] r1 with
      | no c p => rfl
      | ok b r2 => rfl
  have hsz : w.heap.size + 2 ≤ ((w.alloc (.cells #[.pointer (some ⟨R, 0, none⟩)] 235)).alloc (.cells #[.string ⟨#[]⟩, .int .i64 0, .slice none 0 0] 291)).heap.size := by rw [World.size_alloc, World.size_alloc]; omega
  have hb0 : Below w.heap.size w ((w.alloc (.cells #[.pointer (some ⟨R, 0, none⟩)] 235)).alloc (.cells #[.string ⟨#[]⟩, .int .i64 0, .slice none 0 0] 291)) := ((Below.refl _ _).alloc (Nat.le_refl _) _).alloc (by simp) _
  have HX0 := Lib.hid (Exc.of_below (R := R) hb0)
  have HR0 := Lib.hid (h.keep hb0)
  have HB0 := Lib.hid (blk_alloc (heap_alloc_new w (.cells #[.pointer (some ⟨R, 0, none⟩)] 235)) (.cells #[.string ⟨#[]⟩, .int .i64 0, .slice none 0 0] 291))
  have HZ0 := Lib.hid (show ((w.alloc (.cells #[.pointer (some ⟨R, 0, none⟩)] 235)).alloc (.cells #[.string ⟨#[]⟩, .int .i64 0, .slice none 0 0] 291)).heap[w.heap.size + 1]? = some (.cells #[.string ⟨#[]⟩, .int .i64 0, .slice none 0 0] 291 (0, 0)) from by
    have := heap_alloc_new (w.alloc (.cells #[.pointer (some ⟨R, 0, none⟩)] 235)) (.cells #[.string ⟨#[]⟩, .int .i64 0, .slice none 0 0] 291)
    rwa [World.size_alloc] at this)
  clear h hb0
  go_enter Tryz.func206, Tryz.ntmps206
  go_upto_region 1 with (fail)
  generalize hW0 : (w.alloc (.cells #[.pointer (some ⟨R, 0, none⟩)] 235)).alloc (.cells #[.string ⟨#[]⟩, .int .i64 0, .slice none 0 0] 291) = W0 at *
  clear hW0
  have b0 : W0.cell? ⟨w.heap.size, 0, none⟩ = some (.pointer (some ⟨R, 0, none⟩)) := (blk_cell HB0.out 0).trans rfl
  go_wp2_with fail
  refine (name_any _ R g c l r HR0.out).mono ?_
  rintro e W1 ⟨a1, r1, F1, ok1, rfl, hr1, hx1, hs1⟩
  have hs01 := hx1.size
  have HX1 := Lib.hid (HX0.out.thenB (Nat.le_refl _) hx1)
  have HZ1 := Lib.hid (blk_exc HZ0.out hx1 (blk_lt HZ0.out) (by omega))
  have HB1 := Lib.hid (blk_exc HB0.out hx1 (blk_lt HB0.out) (by omega))
  have HR1 := Lib.hid hr1
  have HS1 := Lib.hid hs1
  clear hr1 hx1 hs1 b0 HX0 HR0 HB0 HZ0
  unfold tokV
  go_upto_region 2 with (fail)
  have HR2 := Lib.hid (HR1.out.alloc (.cells #[.int .i64 a1.kind, .string (strOfNums a1.text), .int .i64 a1.place] 282))
  have HX2 := Lib.hid (HX1.out.alloc HX1.out.size (.cells #[.int .i64 a1.kind, .string (strOfNums a1.text), .int .i64 a1.place] 282))
  have HB2 := Lib.hid (blk_alloc HB1.out (.cells #[.int .i64 a1.kind, .string (strOfNums a1.text), .int .i64 a1.place] 282))
  have HZ2 := Lib.hid (blk_alloc HZ1.out (.cells #[.int .i64 a1.kind, .string (strOfNums a1.text), .int .i64 a1.place] 282))
  have HT2 := Lib.hid (heap_alloc_new W1 (.cells #[.int .i64 a1.kind, .string (strOfNums a1.text), .int .i64 a1.place] 282))
  have hs2 : W1.heap.size + 1 ≤ (W1.alloc (.cells #[.int .i64 a1.kind, .string (strOfNums a1.text), .int .i64 a1.place] 282)).heap.size := Nat.le_of_eq (World.size_alloc ..).symm
  clear HR1 HX1 HB1 HZ1
  generalize hW2 : W1.alloc (.cells #[.int .i64 a1.kind, .string (strOfNums a1.text), .int .i64 a1.place] 282) = W2 at *
  clear hW2
  generalize hBT : W1.heap.size = BT at *
  clear hBT
  generalize nameR r = q at *
  obtain ⟨a', r'⟩ | ⟨cc, pp⟩ := q
  · obtain ⟨rfl, rfl, rfl, rfl⟩ := HS1.out
    have HT1 := Lib.hid (HT.out.trans (bind_ok _ _ _))
    clear HT HS1
    go_upto_region 5 with (fail)
    have HR3 := Lib.hid (HR2.out.alloc (.cells #[.slice none 0 0] 186))
    have HX3 := Lib.hid (HX2.out.alloc HX2.out.size (.cells #[.slice none 0 0] 186))
    have HB3 := Lib.hid (blk_alloc HB2.out (.cells #[.slice none 0 0] 186))
    have HZ3 := Lib.hid (blk_alloc HZ2.out (.cells #[.slice none 0 0] 186))
    have HT3 := Lib.hid (blk_alloc HT2.out (.cells #[.slice none 0 0] 186))
    have HV3 := Lib.hid (heap_alloc_new W2 (.cells #[.slice none 0 0] 186))
    have hs3 : W2.heap.size + 1 ≤ (W2.alloc (.cells #[.slice none 0 0] 186)).heap.size := Nat.le_of_eq (World.size_alloc ..).symm
    clear HR2 HX2 HB2 HZ2 HT2
    generalize hW3 : W2.alloc (.cells #[.slice none 0 0] 186) = W3 at *
    clear hW3
    generalize hV : W2.heap.size = V at *
    clear hV
    have b3 : W3.cell? ⟨w.heap.size, 0, none⟩ = some (.pointer (some ⟨R, 0, none⟩)) := (blk_cell HB3.out 0).trans rfl
    have HBR := Lib.hid (braced_any (R := R) (g := g) (c := c) (l := l) (I := NamesAt R g c l w.heap.size V W3) (J := FaultAt R g c l V 186 W3) (step := valueNR) namesL (fun acc r h => namesL_step2 h) (names_keeper (R := R) (g := g) (c := c) (l := l) (Bx := w.heap.size) (V := V) (w0 := W3) (by omega) (by omega) (by omega) (by omega) (by omega) hl) [] r1 W3 ⟨HR3.out, HB3.out, ⟨_, HV3.out, World.ownsRow_nil _ _ _ _⟩, Exc.refl _ _ _, by have := HR3.out.len; simpa using this⟩)
    go_wp2_with fail
    refine HBR.out.mono ?_
    rintro e W4 hp
    have HP := Lib.hid hp
    clear hp b3
    generalize ((wantR [123] r1).bind fun _ r2 => namesL [] r2) = q at *
    obtain ⟨fs, r4⟩ | ⟨cc, pp⟩ := q
    · obtain ⟨rfl, hi⟩ := HP.out
      have HI := Lib.hid hi
      obtain ⟨v, hv, ho⟩ := hi.row
      obtain ⟨va, vc, rfl⟩ := ownsRow_form ho
      have HO := Lib.hid ho
      have HZ4 := Lib.hid (blk_exc HZ3.out hi.exc (by omega) (by omega))
      obtain ⟨ht4, t0, t1, t2, _⟩ := blk3 (blk_exc HT3.out hi.exc (by omega) (by omega))
      obtain ⟨hz4, z0, z1, z2, y0, y1, y2⟩ := blk3 HZ4.out
      have v4 : W4.cell? ⟨V, 0, none⟩ = some _ := (blk_cell hv 0).trans rfl
      have HE := Lib.hid (HT1.out.trans (bind_ok _ _ _))
      clear hi hv ho HP
      go_wp2
      refine post_gen (fun Wf => Wf.heap[w.heap.size + 1]? = some (.cells #[.string (strOfNums a1.text), .int .i64 a1.place, .slice va fs.length vc] 291 (0, 0)) ∧ Wf.ownsRow w.heap.size 282 3 (.slice va fs.length vc) fs.length (toksCells fs) ∧ Rd Wf R g c l r4 (0, 0) ∧ Exc R w.heap.size w Wf) ⟨?_, ?_, ?_, ?_⟩ ?_
      · exact blk_set3 HZ4.out _ _ _
      · exact ownsRow_base (ownsRow_setCell_below (ownsRow_setCell_below (ownsRow_setCell_below HO.out (a := ⟨w.heap.size + 1, 0, none⟩) (by show w.heap.size + 1 < _; omega) _) (a := ⟨w.heap.size + 1, 1, none⟩) (by show w.heap.size + 1 < _; omega) _) (a := ⟨w.heap.size + 1, 2, none⟩) (by show w.heap.size + 1 < _; omega) _) (by omega)
      · exact HI.out.rd.set3 (by omega) (by omega) _ _ _
      · exact (HX3.out.trans (HI.out.exc.mono (by omega))).set3 (by omega) _ _ _
      · rintro Wf ⟨e1, e2, e3, e4⟩
        obtain ⟨_, c0, c1, c2, _⟩ := blk3 e1
        rw [HE.out]
        exact bodyPost_ret (v := .tuple #[.agg #[.string (strOfNums a1.text), .int .i64 a1.place, .slice va fs.length vc], .bool true]) (by simp [results, Tryz.results206, go_sem, c0, c1, c2]) rfl ⟨_, rfl, e2, e3, e4⟩
    · obtain ⟨rfl, ⟨r4, hr4⟩, ⟨va, vn, vc, hv⟩, hx4⟩ := HP.out
      have HR4 := Lib.hid hr4
      have HX4 := Lib.hid hx4
      have HZ4 := Lib.hid (blk_exc HZ3.out hx4 (by omega) (by omega))
      obtain ⟨ht4, t0, t1, t2, _⟩ := blk3 (blk_exc HT3.out hx4 (by omega) (by omega))
      obtain ⟨hz4, z0, z1, z2, y0, y1, y2⟩ := blk3 HZ4.out
      have v4 : W4.cell? ⟨V, 0, none⟩ = some _ := (blk_cell hv 0).trans rfl
      have HE := Lib.hid (HT1.out.trans (bind_no _ _ _))
      clear hr4 hx4 hv HP
      go_wp2
      refine post_gen (fun Wf => Wf.heap[w.heap.size + 1]? = some (.cells #[.string (strOfNums a1.text), .int .i64 a1.place, .slice va vn vc] 291 (0, 0)) ∧ Rd Wf R g c l r4 (cc, pp) ∧ Exc R w.heap.size w Wf) ⟨?_, ?_, ?_⟩ ?_
      · exact blk_set3 HZ4.out _ _ _
      · exact HR4.out.set3 (by omega) (by omega) _ _ _
      · exact (HX3.out.trans (HX4.out.mono (by omega))).set3 (by omega) _ _ _
      · rintro Wf ⟨e1, e3, e4⟩
        obtain ⟨_, c0, c1, c2, _⟩ := blk3 e1
        rw [HE.out]
        exact bodyPost_ret (v := .tuple #[.agg #[.string (strOfNums a1.text), .int .i64 a1.place, .slice va vn vc], .bool false]) (by simp [results, Tryz.results206, go_sem, c0, c1, c2]) rfl ⟨_, _, _, _, _, _, rfl, e3, e4⟩
  · obtain ⟨rfl, rfl⟩ := HS1.out
    have HE := Lib.hid (HT.out.trans (bind_no _ _ _))
    obtain ⟨hz4, z0, z1, z2, y0, y1, y2⟩ := blk3 HZ2.out
    go_wp2
    refine post_gen (fun Wf => Wf.heap[w.heap.size + 1]? = some (.cells #[.string ⟨#[]⟩, .int .i64 0, .slice none 0 0] 291 (0, 0)) ∧ Rd Wf R g c l r1 (cc, pp) ∧ Exc R w.heap.size w Wf) ⟨?_, ?_, ?_⟩ ?_
    · exact blk_set3 HZ2.out _ _ _
    · exact HR2.out.set3 (by omega) (by omega) _ _ _
    · exact HX2.out.set3 (by omega) _ _ _
    · rintro Wf ⟨e1, e3, e4⟩
      obtain ⟨_, c0, c1, c2, _⟩ := blk3 e1
      rw [HE.out]
      exact bodyPost_ret (v := .tuple #[.agg #[.string ⟨#[]⟩, .int .i64 0, .slice none 0 0], .bool false]) (by simp [results, Tryz.results206, go_sem, c0, c1, c2]) rfl ⟨_, _, _, _, _, _, rfl, e3, e4⟩
end Go.Proofs.YtgbcchiheddfpaaGreatDoor
