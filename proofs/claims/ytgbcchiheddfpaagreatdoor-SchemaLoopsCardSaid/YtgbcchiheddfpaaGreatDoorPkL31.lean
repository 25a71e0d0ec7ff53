/-
  The reader of the package idl: a root, put to those before it; any part of a schema. Conditions: those that each theorem names.
-/
import Derived.Test.YtgbcchiheddfpaaGreatDoorPkL29
namespace Go.Proofs.YtgbcchiheddfpaaGreatDoor
open Go.ChangeShapes Go.WideShapes Go.ChangeAt Go.RowKit Go.Shelf

def rawOf (ss : List (RRec × Value)) (es : List (RCho × Value)) (ts : List Tok) : RRaw := ⟨ss.map Prod.fst, es.map Prod.fst, ts⟩
def PartPost (R g c : Nat) (l : List Tok) (A : Nat) (w : World) (x : Res RRaw) (e : Ending) (w' : World) : Prop :=
  match x with
  | .ok a r' => e = .returned (.bool true) ∧ (∃ ss es ts sv ev rv, a = rawOf ss es ts ∧ RawAt A w' ss es ts sv ev rv ∧ ss.length + es.length + ts.length + r'.length ≤ l.length) ∧ Rd w' R g c l r' (0, 0) ∧ Exc R A w w'
  | .no cc p => e = .returned (.bool false) ∧ (∃ r', Rd w' R g c l r' (cc, p)) ∧ Exc R A w w'
theorem rec_new (W : World) (x y z : Value) (e : TypeId) (hx : x.oneCell' = true) (hy : y.oneCell' = true) (hz : z.oneCell' = true) :
    (∀ j u, [x, y, z][j]? = some u → (W.alloc (.cells #[x, y, z] e)).cell? ((⟨W.heap.size, 0, none⟩ : Addr).add j) = some u) ∧ ∀ u ∈ [x, y, z], u.oneCell' = true := by
  refine ⟨fun j u hu => ?_, fun u hu => ?_⟩
  · rw [add_plain, Nat.zero_add, cell_of_row _ _ _ _ _ (0, 0) (heap_alloc_new W _)]
    simpa using hu
  · simp at hu
    rcases hu with rfl | rfl | rfl <;> assumption
theorem apart_new {rv : Value} {n k : Nat} (hap : rv.ownBlock = none ∨ ∃ k, rv.ownBlock = some k ∧ k < n) (h : n ≤ k) : rv.ownBlock ≠ some k := by
  rcases hap with h' | ⟨k', h', hk'⟩
  · rw [h']
    intro e
    cases e
  · rw [h']
    intro e
    injection e with e
    omega
theorem part_deep {R g c A : Nat} {l r : List Tok} {F : Int × Nat} {w W Wp W4 : World} {row : Option Nat} (hr : Rd W R g c l r F) (hx : Exc R A w W) (hb : Below W.heap.size W Wp) (hg4 : Wp.grownBy W4 row) (hrow : ∀ k, row = some k → A ≤ k) (hR : R < A) (hg : g < A) (hA : A ≤ W.heap.size) (i : Nat) (v : Value) :
    Rd (W4.setCell ⟨A, i, none⟩ v) R g c l r F ∧ Exc R A w (W4.setCell ⟨A, i, none⟩ v) := by
  have h : Below A W (W4.setCell ⟨A, i, none⟩ v) := ((hb.mono hA).grown hg4 (Nat.le_trans hA hb.size) hrow).setCell (p := ⟨A, i, none⟩) (Nat.le_refl _) v
  exact ⟨hr.deep h hR hg, hx.trans (.of_below h)⟩
def structSays (w : World) (x : Res RRec) (S : ByteArray) (n : Int) (v : Value) (ok : Bool) (r2 : List Tok) (F : Int × Nat) (W : World) : Prop :=
  match x with
  | .ok s r' => ok = true ∧ S = strOfNums s.name ∧ n = s.place ∧ W.ownsRow w.heap.size 303 8 v s.fields.length (fieldsCells s.fields) ∧ r2 = r' ∧ F = (0, 0)
  | .no cc p => ok = false ∧ F = (cc, p)
theorem struct_form {R g c : Nat} {l : List Tok} {w W : World} {x : Res RRec} {e : Ending} (h : RecPost R g c l w x e W) :
    ∃ (S : ByteArray) (n : Int) (a : Option Addr) (m c' : Nat) (ok : Bool) (r2 : List Tok) (F : Int × Nat), e = .returned (.tuple #[.agg #[.string S, .int .i64 n, .slice a m c'], .bool ok]) ∧ Rd W R g c l r2 F ∧ Exc R w.heap.size w W ∧ structSays w x S n (.slice a m c') ok r2 F W := by
  cases x with
  | ok s r' =>
    obtain ⟨v, rfl, ho, hr, hx⟩ := h
    obtain ⟨a, c', rfl⟩ := ownsRow_form ho
    exact ⟨_, _, _, _, _, _, _, _, rfl, hr, hx, rfl, rfl, rfl, ho, rfl, rfl⟩
  | no cc p =>
    obtain ⟨S, n, a, m, c', r', rfl, hr, hx⟩ := h
    exact ⟨_, _, _, _, _, _, _, _, rfl, hr, hx, rfl, rfl⟩
theorem struct_end {R g c A : Nat} {l r r2 : List Tok} {F : Int × Nat} {w W W3 Wp W4 w1 : World} {ss : List (RRec × Value)} {es : List (RCho × Value)} {ts : List Tok} {sv ev rv v v4 : Value} {S : ByteArray} {n : Int} {ok : Bool} {row : Option Nat}
    {x : Res RRec} {y : Res RRaw} (hy : y = x.bind fun s r' => .ok ⟨(ss.map Prod.fst) ++ [s], es.map Prod.fst, ts⟩ r') (hs : structSays w1 x S n v ok r2 F W) (ha : RawAt A W3 ss es ts sv ev rv) (_hap : rv.ownBlock = none ∨ ∃ k, rv.ownBlock = some k ∧ k < w1.heap.size) (hr : Rd W3 R g c l r2 F) (hx : Exc R A w W3) (hW : Below W.heap.size W W3) (hw1 : A + 1 ≤ w1.heap.size)
    (hb : Below W3.heap.size W3 Wp) (hg4 : Wp.grownBy W4 row) (hrow : row = sv.ownBlock) (ho4 : W4.ownsRow (A + 1) 298 3 v4 (ss.length + 1) (recsCells ss ++ [.string S, .int .i64 n, v])) (hR : R < A) (hg : g < A)
    (hE : Eats r x) (hc : ss.length + es.length + ts.length + (r.length + 1) ≤ l.length) : PartPost R g c l A w y (.returned (.bool ok)) (W4.setCell ⟨A, 0, none⟩ v4) := by
  have hA3 := blk_lt ha.blk
  subst hrow
  obtain ⟨hr4, hx4⟩ := part_deep hr hx hb hg4 (fun k hk => by have := (ownsRow_lt ha.structs k hk).1; omega) hR hg (Nat.le_of_lt hA3) 0 v4
  subst hy
  cases x with
  | ok s r' =>
    obtain ⟨rfl, rfl, rfl, ho, rfl, rfl⟩ := hs
    have ho3 : Wp.ownsRow (A + 1) 303 8 v s.fields.length (fieldsCells s.fields) := ownsRow_base ((Exc.of_below (R := 0) hb).ownsRow ((Exc.of_below (R := 0) hW).ownsRow ho (fun e => by have := (ownsRow_lt ho 0 e).1; omega)) (fun e => by have := (ownsRow_lt ho 0 e).1; omega)) hw1
    refine ⟨rfl, ⟨ss ++ [(s, v)], es, ts, v4, ev, rv, ?_, RawAt.struct (p := (s, v)) (ha.fell hb) ho3 hg4 ho4, ?_⟩, hr4, hx4⟩
    · simp [rawOf]
    · have := (hE s r2 rfl).2
      simp
      omega
  | no cc p =>
    obtain ⟨rfl, rfl⟩ := hs
    exact ⟨rfl, ⟨r2, hr4⟩, hx4⟩
set_option maxRecDepth 100000 in
set_option maxHeartbeats 4000000 in
theorem part_struct (w : World) (R g c A : Nat) (l r : List Tok) (ss : List (RRec × Value)) (es : List (RCho × Value)) (ts : List Tok) (sv ev rv : Value) (hl : l.length ≤ 2048) (hR : R < A) (hg : g < A) (h : Rd w R g c l r (0, 0)) (ha : RawAt A w ss es ts sv ev rv) (hc : ss.length + es.length + ts.length + r.length ≤ l.length) (hb : isT 1 wStruct r = true) :
    Calls Tryz.prog 159 #[.pointer (some ⟨R, 0, none⟩), .pointer (some ⟨A, 0, none⟩)] w (PartPost R g c l A w (partR (rawOf ss es ts) r)) := by
  have HT : Hid (partR (rawOf ss es ts) r = (recR r.tail).bind fun s r' => .ok ⟨(ss.map Prod.fst) ++ [s], es.map Prod.fst, ts⟩ r') := Lib.hid (if_pos hb)
  have HW := Lib.hid (fun W hr => word_any W R g c l r (0, 0) ⟨#[115, 116, 114, 117, 99, 116]⟩ wStruct (by kernel_rfl) hr)
  rw [hb] at HW
  have hend := h.ends.len
  have HEND := Lib.hid (h.ends.tail (by rw [(isT_kind hb).1]; decide))
  have HA := Lib.hid ha
  have HR := Lib.hid h
  have hA := blk_lt ha.blk
  obtain ⟨i0, hi0, hz0, hz1, hz2⟩ := info_parts rec_info
  have I1 := Lib.hid hi0
  have I2 := Lib.hid hz0
  have I3 := Lib.hid hz1
  have I4 := Lib.hid hz2
  clear h ha hb hi0 hz0 hz1 hz2
  go_enter Tryz.func159, Tryz.ntmps159
  go_wp2_with fail
  refine (HW.out _ HR.out).mono ?_
  rintro e W1 ⟨rfl, hr1, hx1⟩
  replace hr1 : Rd W1 R g c l r.tail (0, 0) := hr1
  have HX1 := Lib.hid ((Exc.refl R A w).thenB (Nat.le_of_lt hA) hx1)
  have HA1 := Lib.hid (HA.out.stay hR hx1)
  have HR1 := Lib.hid hr1
  have hA1 : A < W1.heap.size := blk_lt HA1.out.blk
  clear hr1 hx1
  go_wp2_with fail
  refine (record_any _ R g c l r.tail hl HR1.out).mono ?_
  rintro e W2 hp
  obtain ⟨S, n, va, vm, vc, ok, r2, F2, rfl, hr2, hx2, hs2⟩ := struct_form hp
  have HP := Lib.hid hs2
  clear hp hs2
  have HEAT := Lib.hid (rec_eats HEND.out)
  have HAP : Hid (rv.ownBlock = none ∨ ∃ k, rv.ownBlock = some k ∧ k < W1.heap.size) := Lib.hid (by
    cases hk : rv.ownBlock with
    | none => exact .inl rfl
    | some k => exact .inr ⟨k, rfl, (ownsRow_lt HA1.out.roots k hk).2⟩)
  have HA2 := Lib.hid (HA1.out.stay hR hx2)
  have HX2 := Lib.hid (HX1.out.thenB (Nat.le_of_lt hA) hx2)
  have HR2 := Lib.hid hr2
  have hs2 := hx2.size
  clear hx2 hr2 HA1 HX1 HR1
  go_upto_region 3 with (fail)
  have HR3 := Lib.hid (HR2.out.alloc (.cells #[.string S, .int .i64 n, .slice va vm vc] 298))
  have HX3 := Lib.hid (HX2.out.alloc (by omega) (.cells #[.string S, .int .i64 n, .slice va vm vc] 298))
  have HA3 := Lib.hid (HA2.out.fell ((Below.refl _ _).alloc (Nat.le_refl _) (.cells #[.string S, .int .i64 n, .slice va vm vc] 298)))
  have HB3 := Lib.hid (show Below W2.heap.size W2 (W2.alloc (.cells #[.string S, .int .i64 n, .slice va vm vc] 298)) from (Below.refl _ _).alloc (Nat.le_refl _) _)
  have HS3 := Lib.hid (heap_alloc_new W2 (.cells #[.string S, .int .i64 n, .slice va vm vc] 298))
  clear HR2 HX2 HA2
  generalize hW3 : W2.alloc (.cells #[.string S, .int .i64 n, .slice va vm vc] 298) = W3 at *
  clear hW3
  have hlt3 : W2.heap.size < W3.heap.size := blk_lt HS3.out
  generalize hBS : W2.heap.size = BS at *
  obtain ⟨hA3, a0, a1, a2, b0, b1, b2⟩ := blk3 HA3.out.blk
  obtain ⟨_, x0, x1, x2, _⟩ := blk3 HS3.out
  have HBS := Lib.hid hBS
  clear hBS
  go_region_law (first | (refine step_append_lies _ rfl (.tmp 23) (.tmp 25) 184 rfl (A + 1) 298 i0 _ 3 48 Tryz.underlying184 I1.out I2.out I3.out I4.out rfl (by decide) _ ss.length (recsCells ss) rfl (exc_row HA3.out.structs hR ((Exc.refl R _ W3).drew.alloc (Nat.le_refl _) _)) _ 1 1 [.string S, .int .i64 n, .slice va vm vc] rfl rfl (rec_new W3.drew _ _ _ _ rfl rfl rfl).1 (rec_new W3 _ _ _ 0 rfl rfl rfl).2 (by decide) (by unfold maxLen; omega) (by omega) (by simp; omega) _ rfl ?_; rintro g4 c4 W4 hown4 hg4 hat4 hlt4; have hv4 := (hg4.block A (by simp; omega) (fun e => by have := (ownsRow_lt HA3.out.structs A e.symm).1; omega)).trans (blk_alloc (w := W3.drew) HA3.out.blk _); obtain ⟨hA4, m0, m1, m2, n0, n1, n2⟩ := blk3 hv4; have HG4 := Lib.hid hg4; have HO4 := Lib.hid hown4; clear hg4 hown4 hat4 hv4))
  all_goals
    go_wp2
    go_ret
    exact struct_end HT.out HP.out HA3.out HAP.out HR3.out HX3.out (by rw [HBS.out]; exact HB3.out) hA1 (((Below.refl _ W3).alloc (Nat.le_refl _) _).drew) HG4.out rfl HO4.out hR hg HEAT.out (by omega)
def enumSays (w : World) (x : Res RCho) (S : ByteArray) (n : Int) (v : Value) (ok : Bool) (r2 : List Tok) (F : Int × Nat) (W : World) : Prop :=
  match x with
  | .ok s r' => ok = true ∧ S = strOfNums s.name ∧ n = s.place ∧ W.ownsRow w.heap.size 282 3 v s.names.length (toksCells s.names) ∧ r2 = r' ∧ F = (0, 0)
  | .no cc p => ok = false ∧ F = (cc, p)
theorem enum_form {R g c : Nat} {l : List Tok} {w W : World} {x : Res RCho} {e : Ending} (h : ChoPost R g c l w x e W) :
    ∃ (S : ByteArray) (n : Int) (a : Option Addr) (m c' : Nat) (ok : Bool) (r2 : List Tok) (F : Int × Nat), e = .returned (.tuple #[.agg #[.string S, .int .i64 n, .slice a m c'], .bool ok]) ∧ Rd W R g c l r2 F ∧ Exc R w.heap.size w W ∧ enumSays w x S n (.slice a m c') ok r2 F W := by
  cases x with
  | ok s r' =>
    obtain ⟨v, rfl, ho, hr, hx⟩ := h
    obtain ⟨a, c', rfl⟩ := ownsRow_form ho
    exact ⟨_, _, _, _, _, _, _, _, rfl, hr, hx, rfl, rfl, rfl, ho, rfl, rfl⟩
  | no cc p =>
    obtain ⟨S, n, a, m, c', r', rfl, hr, hx⟩ := h
    exact ⟨_, _, _, _, _, _, _, _, rfl, hr, hx, rfl, rfl⟩
theorem enum_end {R g c A : Nat} {l r r2 : List Tok} {F : Int × Nat} {w W W3 Wp W4 w1 : World} {ss : List (RRec × Value)} {es : List (RCho × Value)} {ts : List Tok} {sv ev rv v v4 : Value} {S : ByteArray} {n : Int} {ok : Bool} {row : Option Nat}
    {x : Res RCho} {y : Res RRaw} (hy : y = x.bind fun s r' => .ok ⟨ss.map Prod.fst, (es.map Prod.fst) ++ [s], ts⟩ r') (hs : enumSays w1 x S n v ok r2 F W) (ha : RawAt A W3 ss es ts sv ev rv) (hap : rv.ownBlock = none ∨ ∃ k, rv.ownBlock = some k ∧ k < w1.heap.size) (hr : Rd W3 R g c l r2 F) (hx : Exc R A w W3) (hW : Below W.heap.size W W3) (hw1 : A + 1 ≤ w1.heap.size)
    (hb : Below W3.heap.size W3 Wp) (hg4 : Wp.grownBy W4 row) (hrow : row = ev.ownBlock) (ho4 : W4.ownsRow (A + 1) 291 3 v4 (es.length + 1) (chosCells es ++ [.string S, .int .i64 n, v])) (hR : R < A) (hg : g < A)
    (hE : Eats r x) (hc : ss.length + es.length + ts.length + (r.length + 1) ≤ l.length) : PartPost R g c l A w y (.returned (.bool ok)) (W4.setCell ⟨A, 1, none⟩ v4) := by
  have hA3 := blk_lt ha.blk
  subst hrow
  obtain ⟨hr4, hx4⟩ := part_deep hr hx hb hg4 (fun k hk => by have := (ownsRow_lt ha.enums k hk).1; omega) hR hg (Nat.le_of_lt hA3) 1 v4
  subst hy
  cases x with
  | ok s r' =>
    obtain ⟨rfl, rfl, rfl, ho, rfl, rfl⟩ := hs
    have ho3 : Wp.ownsRow (A + 1) 282 3 v s.names.length (toksCells s.names) := ownsRow_base ((Exc.of_below (R := 0) hb).ownsRow ((Exc.of_below (R := 0) hW).ownsRow ho (fun e => by have := (ownsRow_lt ho 0 e).1; omega)) (fun e => by have := (ownsRow_lt ho 0 e).1; omega)) hw1
    refine ⟨rfl, ⟨ss, es ++ [(s, v)], ts, sv, v4, rv, ?_, RawAt.enum (p := (s, v)) (ha.fell hb) ho3 (fun k hk => apart_new hap (ownsRow_lt ho k hk).1) hg4 ho4, ?_⟩, hr4, hx4⟩
    · simp [rawOf]
    · have := (hE s r2 rfl).2
      simp
      omega
  | no cc p =>
    obtain ⟨rfl, rfl⟩ := hs
    exact ⟨rfl, ⟨r2, hr4⟩, hx4⟩
set_option maxRecDepth 100000 in
set_option maxHeartbeats 4000000 in
theorem part_enum (w : World) (R g c A : Nat) (l r : List Tok) (ss : List (RRec × Value)) (es : List (RCho × Value)) (ts : List Tok) (sv ev rv : Value) (hl : l.length ≤ 2048) (hR : R < A) (hg : g < A) (h : Rd w R g c l r (0, 0)) (ha : RawAt A w ss es ts sv ev rv) (hc : ss.length + es.length + ts.length + r.length ≤ l.length) (hn : isT 1 wStruct r = false) (hb : isT 1 wEnum r = true) :
    Calls Tryz.prog 159 #[.pointer (some ⟨R, 0, none⟩), .pointer (some ⟨A, 0, none⟩)] w (PartPost R g c l A w (partR (rawOf ss es ts) r)) := by
  have HT : Hid (partR (rawOf ss es ts) r = (choR r.tail).bind fun s r' => .ok ⟨ss.map Prod.fst, (es.map Prod.fst) ++ [s], ts⟩ r') := Lib.hid ((if_neg (by rw [hn]; decide)).trans (if_pos hb))
  have HW1 := Lib.hid (word_any w R g c l r (0, 0) ⟨#[115, 116, 114, 117, 99, 116]⟩ wStruct (by kernel_rfl) h)
  rw [hn] at HW1
  have HW := Lib.hid (fun W hr => word_any W R g c l r (0, 0) ⟨#[101, 110, 117, 109]⟩ wEnum (by kernel_rfl) hr)
  rw [hb] at HW
  have hend := h.ends.len
  have HEND := Lib.hid (h.ends.tail (by rw [(isT_kind hb).1]; decide))
  have HA := Lib.hid ha
  have HR := Lib.hid h
  have hA := blk_lt ha.blk
  obtain ⟨i0, hi0, hz0, hz1, hz2⟩ := info_parts cho_info
  have I1 := Lib.hid hi0
  have I2 := Lib.hid hz0
  have I3 := Lib.hid hz1
  have I4 := Lib.hid hz2
  clear h ha hb hi0 hz0 hz1 hz2
  go_enter Tryz.func159, Tryz.ntmps159
  go_wp2_with fail
  refine HW1.out.mono ?_
  rintro e W0 ⟨rfl, hr0, hx0⟩
  replace hr0 : Rd W0 R g c l r (0, 0) := hr0
  have HX0 := Lib.hid ((Exc.refl R A w).thenB (Nat.le_of_lt hA) hx0)
  have HA0 := Lib.hid (HA.out.stay hR hx0)
  have HR0 := Lib.hid hr0
  clear hr0 hx0
  go_wp2_with fail
  refine (HW.out _ HR0.out).mono ?_
  rintro e W1 ⟨rfl, hr1, hx1⟩
  replace hr1 : Rd W1 R g c l r.tail (0, 0) := hr1
  have HX1 := Lib.hid (HX0.out.thenB (Nat.le_of_lt hA) hx1)
  have HA1 := Lib.hid (HA0.out.stay hR hx1)
  have HR1 := Lib.hid hr1
  have hA1 : A < W1.heap.size := blk_lt HA1.out.blk
  clear hr1 hx1
  go_wp2_with fail
  refine (choice_any _ R g c l r.tail hl HR1.out).mono ?_
  rintro e W2 hp
  obtain ⟨S, n, va, vm, vc, ok, r2, F2, rfl, hr2, hx2, hs2⟩ := enum_form hp
  have HP := Lib.hid hs2
  clear hp hs2
  have HEAT := Lib.hid (cho_eats HEND.out)
  have HAP : Hid (rv.ownBlock = none ∨ ∃ k, rv.ownBlock = some k ∧ k < W1.heap.size) := Lib.hid (by
    cases hk : rv.ownBlock with
    | none => exact .inl rfl
    | some k => exact .inr ⟨k, rfl, (ownsRow_lt HA1.out.roots k hk).2⟩)
  have HA2 := Lib.hid (HA1.out.stay hR hx2)
  have HX2 := Lib.hid (HX1.out.thenB (Nat.le_of_lt hA) hx2)
  have HR2 := Lib.hid hr2
  have hs2 := hx2.size
  clear hx2 hr2 HA1 HX1 HR1
  go_upto_region 7 with (fail)
  have HR3 := Lib.hid (HR2.out.alloc (.cells #[.string S, .int .i64 n, .slice va vm vc] 291))
  have HX3 := Lib.hid (HX2.out.alloc (by omega) (.cells #[.string S, .int .i64 n, .slice va vm vc] 291))
  have HA3 := Lib.hid (HA2.out.fell ((Below.refl _ _).alloc (Nat.le_refl _) (.cells #[.string S, .int .i64 n, .slice va vm vc] 291)))
  have HB3 := Lib.hid (show Below W2.heap.size W2 (W2.alloc (.cells #[.string S, .int .i64 n, .slice va vm vc] 291)) from (Below.refl _ _).alloc (Nat.le_refl _) _)
  have HS3 := Lib.hid (heap_alloc_new W2 (.cells #[.string S, .int .i64 n, .slice va vm vc] 291))
  clear HR2 HX2 HA2
  generalize hW3 : W2.alloc (.cells #[.string S, .int .i64 n, .slice va vm vc] 291) = W3 at *
  clear hW3
  have hlt3 : W2.heap.size < W3.heap.size := blk_lt HS3.out
  generalize hBS : W2.heap.size = BS at *
  obtain ⟨hA3, a0, a1, a2, b0, b1, b2⟩ := blk3 HA3.out.blk
  obtain ⟨_, x0, x1, x2, _⟩ := blk3 HS3.out
  have HBS := Lib.hid hBS
  clear hBS
  go_region_law (first | (refine step_append_lies _ rfl (.tmp 42) (.tmp 44) 185 rfl (A + 1) 291 i0 _ 3 48 Tryz.underlying185 I1.out I2.out I3.out I4.out rfl (by decide) _ es.length (chosCells es) rfl (exc_row HA3.out.enums hR ((Exc.refl R _ W3).drew.alloc (Nat.le_refl _) _)) _ 1 1 [.string S, .int .i64 n, .slice va vm vc] rfl rfl (rec_new W3.drew _ _ _ _ rfl rfl rfl).1 (rec_new W3 _ _ _ 0 rfl rfl rfl).2 (by decide) (by unfold maxLen; omega) (by omega) (by simp; omega) _ rfl ?_; rintro g4 c4 W4 hown4 hg4 hat4 hlt4; have hv4 := (hg4.block A (by simp; omega) (fun e => by have := (ownsRow_lt HA3.out.enums A e.symm).1; omega)).trans (blk_alloc (w := W3.drew) HA3.out.blk _); obtain ⟨hA4, m0, m1, m2, n0, n1, n2⟩ := blk3 hv4; have HG4 := Lib.hid hg4; have HO4 := Lib.hid hown4; clear hg4 hown4 hat4 hv4))
  all_goals
    go_wp2
    go_ret
    exact enum_end HT.out HP.out HA3.out HAP.out HR3.out HX3.out (by rw [HBS.out]; exact HB3.out) hA1 (((Below.refl _ W3).alloc (Nat.le_refl _) _).drew) HG4.out rfl HO4.out hR hg HEAT.out (by omega)
end Go.Proofs.YtgbcchiheddfpaaGreatDoor
namespace Go.Proofs.YtgbcchiheddfpaaGreatDoor
open Go.ChangeShapes Go.WideShapes Go.ChangeAt Go.RowKit Go.Shelf

theorem root_deep {R g c A : Nat} {l r : List Tok} {F : Int × Nat} {w W3 Wp W4 : World} {ss : List (RRec × Value)} {es : List (RCho × Value)} {ts : List Tok} {sv ev rv : Value} {row : Option Nat} {t : Tok} {g4 c4 : Nat}
    (ha : RawAt A W3 ss es ts sv ev rv) (hr : Rd W3 R g c l r F) (hx : Exc R A w W3) (hb : Below W3.heap.size W3 Wp) (hg4 : Wp.grownBy W4 row) (hrow : row = rv.ownBlock) (ho4 : W4.ownsRow (A + 1) 282 3 (.slice (some ⟨g4, 0, none⟩) (ts.length + 1) c4) (ts.length + 1) (toksCells ts ++ tokCells t)) (hat : row = some g4 ∨ g4 = Wp.heap.size) (hR : R < A) (hg : g < A) :
    RawAt A (W4.setCell ⟨A, 2, none⟩ (.slice (some ⟨g4, 0, none⟩) (ts.length + 1) c4)) ss es (ts ++ [t]) sv ev (.slice (some ⟨g4, 0, none⟩) (ts.length + 1) c4) ∧ Rd (W4.setCell ⟨A, 2, none⟩ (.slice (some ⟨g4, 0, none⟩) (ts.length + 1) c4)) R g c l r F ∧ Exc R A w (W4.setCell ⟨A, 2, none⟩ (.slice (some ⟨g4, 0, none⟩) (ts.length + 1) c4)) := by
  subst hrow
  have hA3 := blk_lt ha.blk
  refine ⟨RawAt.root (ha.fell hb) hg4 ho4 ?_, part_deep hr hx hb hg4 (fun k hk => by have := (ownsRow_lt ha.roots k hk).1; omega) hR hg (Nat.le_of_lt hA3) 2 _⟩
  rcases hat with h | rfl
  · exact .inl h.symm
  · exact .inr ⟨_, rfl, Nat.le_refl _⟩
set_option maxRecDepth 100000 in
set_option maxHeartbeats 4000000 in
theorem part_root (w : World) (R g c A : Nat) (l r : List Tok) (ss : List (RRec × Value)) (es : List (RCho × Value)) (ts : List Tok) (sv ev rv : Value) (hl : l.length ≤ 2048) (hR : R < A) (hg : g < A) (h : Rd w R g c l r (0, 0)) (ha : RawAt A w ss es ts sv ev rv) (hc : ss.length + es.length + ts.length + r.length ≤ l.length) (h1 : isT 1 wStruct r = false) (h2 : isT 1 wEnum r = false) (h3 : isT 1 wRoot r = true) :
    Calls Tryz.prog 159 #[.pointer (some ⟨R, 0, none⟩), .pointer (some ⟨A, 0, none⟩)] w (PartPost R g c l A w (partR (rawOf ss es ts) r)) := by
  have HT : Hid (partR (rawOf ss es ts) r = (nameR r.tail).bind fun t r1 => (wantR [59] r1).bind fun _ r' => .ok ⟨ss.map Prod.fst, es.map Prod.fst, ts ++ [t]⟩ r') := Lib.hid ((if_neg (by rw [h1]; decide)).trans ((if_neg (by rw [h2]; decide)).trans (if_pos h3)))
  have HwStruct := Lib.hid h1
  have HwEnum := Lib.hid h2
  have HwRoot := Lib.hid h3
  have hend := h.ends.len
  have HEND := Lib.hid (h.ends.tail (by rw [(isT_kind h3).1]; decide))
  have hA := blk_lt ha.blk
  have HA0 := Lib.hid ha
  have HR0 := Lib.hid h
  have HX0 := Lib.hid (Exc.refl R A w)
  obtain ⟨i0, hi0, hz0, hz1, hz2⟩ := info_parts tok_info
  have I1 := Lib.hid hi0
  have I2 := Lib.hid hz0
  have I3 := Lib.hid hz1
  have I4 := Lib.hid hz2
  clear h ha h1 h2 h3 hi0 hz0 hz1 hz2
  go_enter Tryz.func159, Tryz.ntmps159
  go_wp2_with fail
  refine (word_any _ R g c l r (0, 0) ⟨#[115, 116, 114, 117, 99, 116]⟩ wStruct (by kernel_rfl) HR0.out).mono ?_
  rintro e W1 ⟨rfl, hr1, hx1⟩
  rw [HwStruct.out] at hr1 ⊢
  replace hr1 : Rd W1 R g c l r (0, 0) := hr1
  have HX1 := Lib.hid (HX0.out.thenB (Nat.le_of_lt hA) hx1)
  have HA1 := Lib.hid (HA0.out.stay hR hx1)
  have HR1 := Lib.hid hr1
  clear hr1 hx1
  go_wp2_with fail
  refine (word_any _ R g c l r (0, 0) ⟨#[101, 110, 117, 109]⟩ wEnum (by kernel_rfl) HR1.out).mono ?_
  rintro e W2 ⟨rfl, hr2, hx2⟩
  rw [HwEnum.out] at hr2 ⊢
  replace hr2 : Rd W2 R g c l r (0, 0) := hr2
  have HX2 := Lib.hid (HX1.out.thenB (Nat.le_of_lt hA) hx2)
  have HA2 := Lib.hid (HA1.out.stay hR hx2)
  have HR2 := Lib.hid hr2
  clear hr2 hx2
  go_wp2_with fail
  refine (word_any _ R g c l r (0, 0) ⟨#[114, 111, 111, 116]⟩ wRoot (by kernel_rfl) HR2.out).mono ?_
  rintro e W3 ⟨rfl, hr3, hx3⟩
  rw [HwRoot.out] at hr3 ⊢
  replace hr3 : Rd W3 R g c l r.tail (0, 0) := hr3
  have HX3 := Lib.hid (HX2.out.thenB (Nat.le_of_lt hA) hx3)
  have HA3 := Lib.hid (HA2.out.stay hR hx3)
  have HR3 := Lib.hid hr3
  clear hr3 hx3
  go_wp2_with fail
  refine (name_any _ R g c l r.tail HR3.out).mono ?_
  rintro e W4 ⟨a1, r4, F4, ok4, rfl, hr4, hx4, hs4⟩
  have HX4 := Lib.hid (HX3.out.thenB (Nat.le_of_lt hA) hx4)
  have HA4 := Lib.hid (HA3.out.stay hR hx4)
  have HR4 := Lib.hid hr4
  have HS4 := Lib.hid hs4
  have HEAT := Lib.hid (name_eats HEND.out)
  clear hr4 hx4 hs4 HX0 HX1 HX2 HX3 HA0 HA1 HA2 HA3 HR0 HR1 HR2 HR3
  unfold tokV
  go_upto_region 11 with (fail)
  have hA4 := blk_lt HA4.out.blk
  have HR5 := Lib.hid (HR4.out.alloc (.cells #[.int .i64 a1.kind, .string (strOfNums a1.text), .int .i64 a1.place] 282))
  have HX5 := Lib.hid (HX4.out.alloc (by omega) (.cells #[.int .i64 a1.kind, .string (strOfNums a1.text), .int .i64 a1.place] 282))
  have HA5 := Lib.hid (HA4.out.fell ((Below.refl _ _).alloc (Nat.le_refl _) (.cells #[.int .i64 a1.kind, .string (strOfNums a1.text), .int .i64 a1.place] 282)))
  have HS5 := Lib.hid (heap_alloc_new W4 (.cells #[.int .i64 a1.kind, .string (strOfNums a1.text), .int .i64 a1.place] 282))
  clear HR4 HX4 HA4
  generalize hW5 : W4.alloc (.cells #[.int .i64 a1.kind, .string (strOfNums a1.text), .int .i64 a1.place] 282) = W5 at *
  clear hW5
  have hlt5 : W4.heap.size < W5.heap.size := blk_lt HS5.out
  generalize W4.heap.size = BS at *
  obtain ⟨hA5, a0', a1', a2', b0, b1, b2⟩ := blk3 HA5.out.blk
  obtain ⟨_, x0, x1, x2, _⟩ := blk3 HS5.out
  go_region_law (first | (refine step_append_lies _ rfl (.tmp 61) (.tmp 63) 186 rfl (A + 1) 282 i0 _ 3 32 Tryz.underlying186 I1.out I2.out I3.out I4.out rfl (by decide) _ ts.length (toksCells ts) rfl (exc_row HA5.out.roots hR ((Exc.refl R _ W5).drew.alloc (Nat.le_refl _) _)) _ 1 1 (tokCells a1) rfl rfl (tokCells_new W5.drew a1 _ rfl) (tokCells_one a1) (by decide) (by unfold maxLen; omega) (by omega) (by simp; omega) _ rfl ?_; rintro g4 c4 W6 hown4 hg4 hat4 hlt4; have hv4 := (hg4.block A (by simp; omega) (fun e => by have := (ownsRow_lt HA5.out.roots A e.symm).1; omega)).trans (blk_alloc (w := W5.drew) HA5.out.blk _); obtain ⟨hA4', m0, m1, m2, n0, n1, n2⟩ := blk3 hv4; have HRD := Lib.hid (root_deep HA5.out HR5.out HX5.out (((Below.refl _ W5).alloc (Nat.le_refl _) _).drew) hg4 rfl hown4 hat4 hR hg); clear hg4 hown4 hat4 hv4))
  all_goals
    generalize nameR r.tail = q at *
    obtain ⟨a', r'⟩ | ⟨cc, pp⟩ := q
    · obtain ⟨rfl, rfl, rfl, rfl⟩ := HS4.out
      have HT1 := Lib.hid (HT.out.trans (bind_ok _ _ _))
      obtain ⟨hA7, hR7, hX7⟩ := HRD.out
      have HA7 := Lib.hid hA7
      have HR7 := Lib.hid hR7
      have HX7 := Lib.hid hX7
      have HLT := Lib.hid (HEAT.out _ _ rfl)
      clear hA7 hR7 hX7 HRD HS4 HT
      generalize W6.setCell ⟨A, 2, none⟩ (.slice (some ⟨g4, 0, none⟩) (ts.length + 1) c4) = W7 at *
      have hA7' := blk_lt HA7.out.blk
      go_wp2_with fail
      refine (want_any _ R g c l r4 ⟨#[59]⟩ [59] (by kernel_rfl) HR7.out).mono ?_
      rintro e W8 ⟨r8, F8, ok8, rfl, hr8, hx8, hs8⟩
      have HX8 := Lib.hid (HX7.out.thenB (Nat.le_of_lt hA) hx8)
      have HA8 := Lib.hid (HA7.out.stay hR hx8)
      have HR8 := Lib.hid hr8
      have HS8 := Lib.hid hs8
      have HE8 := Lib.hid (want_eats (s := [59]) HR7.out.ends)
      clear hr8 hx8 hs8
      generalize wantR [59] r4 = q at *
      obtain ⟨a', r'⟩ | ⟨cc, pp⟩ := q
      · obtain ⟨rfl, _, rfl, rfl⟩ := HS8.out
        have HT2 := Lib.hid (HT1.out.trans (bind_ok _ _ _))
        go_wp2
        go_ret
        rw [HT2.out]
        exact ⟨rfl, ⟨ss, es, ts ++ [a1], _, _, _, rfl, HA8.out, by have h1 := HLT.out.2; have h2 := (HE8.out _ _ rfl).2; simp; omega⟩, HR8.out, HX8.out⟩
      · obtain ⟨rfl, rfl⟩ := HS8.out
        have HT2 := Lib.hid (HT1.out.trans (bind_no _ _ _))
        go_wp2
        go_ret
        rw [HT2.out]
        exact ⟨rfl, ⟨r8, HR8.out⟩, HX8.out⟩
    · obtain ⟨rfl, rfl⟩ := HS4.out
      have HT1 := Lib.hid (HT.out.trans (bind_no _ _ _))
      go_wp2
      go_ret
      rw [HT1.out]
      exact ⟨rfl, ⟨r4, HRD.out.2.1⟩, HRD.out.2.2⟩
theorem part_bad (w : World) (R g c A : Nat) (l r : List Tok) (ss : List (RRec × Value)) (es : List (RCho × Value)) (ts : List Tok) (sv ev rv : Value) (hR : R < A) (h : Rd w R g c l r (0, 0)) (ha : RawAt A w ss es ts sv ev rv) (h1 : isT 1 wStruct r = false) (h2 : isT 1 wEnum r = false) (h3 : isT 1 wRoot r = false) :
    Calls Tryz.prog 159 #[.pointer (some ⟨R, 0, none⟩), .pointer (some ⟨A, 0, none⟩)] w (PartPost R g c l A w (partR (rawOf ss es ts) r)) := by
  have HT : Hid (partR (rawOf ss es ts) r = .no 11 (hd r).place) := Lib.hid ((if_neg (by rw [h1]; decide)).trans ((if_neg (by rw [h2]; decide)).trans (if_neg (by rw [h3]; decide))))
  have HwStruct := Lib.hid h1
  have HwEnum := Lib.hid h2
  have HwRoot := Lib.hid h3
  have hA := blk_lt ha.blk
  have HA0 := Lib.hid ha
  have HR0 := Lib.hid h
  have HX0 := Lib.hid (Exc.refl R A w)
  clear h ha h1 h2 h3
  go_enter Tryz.func159, Tryz.ntmps159
  go_wp2_with fail
  refine (word_any _ R g c l r (0, 0) ⟨#[115, 116, 114, 117, 99, 116]⟩ wStruct (by kernel_rfl) HR0.out).mono ?_
  rintro e W1 ⟨rfl, hr1, hx1⟩
  rw [HwStruct.out] at hr1 ⊢
  replace hr1 : Rd W1 R g c l r (0, 0) := hr1
  have HX1 := Lib.hid (HX0.out.thenB (Nat.le_of_lt hA) hx1)
  have HA1 := Lib.hid (HA0.out.stay hR hx1)
  have HR1 := Lib.hid hr1
  clear hr1 hx1
  go_wp2_with fail
  refine (word_any _ R g c l r (0, 0) ⟨#[101, 110, 117, 109]⟩ wEnum (by kernel_rfl) HR1.out).mono ?_
  rintro e W2 ⟨rfl, hr2, hx2⟩
  rw [HwEnum.out] at hr2 ⊢
  replace hr2 : Rd W2 R g c l r (0, 0) := hr2
  have HX2 := Lib.hid (HX1.out.thenB (Nat.le_of_lt hA) hx2)
  have HA2 := Lib.hid (HA1.out.stay hR hx2)
  have HR2 := Lib.hid hr2
  clear hr2 hx2
  go_wp2_with fail
  refine (word_any _ R g c l r (0, 0) ⟨#[114, 111, 111, 116]⟩ wRoot (by kernel_rfl) HR2.out).mono ?_
  rintro e W3 ⟨rfl, hr3, hx3⟩
  rw [HwRoot.out] at hr3 ⊢
  replace hr3 : Rd W3 R g c l r (0, 0) := hr3
  have HX3 := Lib.hid (HX2.out.thenB (Nat.le_of_lt hA) hx3)
  have HA3 := Lib.hid (HA2.out.stay hR hx3)
  have HR3 := Lib.hid hr3
  clear hr3 hx3
  go_wp2_with fail
  refine (refuse_any _ R g c l r (0, 0) 11 HR3.out).mono ?_
  rintro e W4 ⟨rfl, hr4, hx4⟩
  have HX4 := Lib.hid (HX3.out.thenB (Nat.le_of_lt hA) hx4)
  have HR4 := Lib.hid hr4
  clear hr4 hx4
  go_wp2
  go_ret
  rw [HT.out]
  exact ⟨rfl, ⟨r, HR4.out⟩, HX4.out⟩
theorem part_any (w : World) (R g c A : Nat) (l r : List Tok) (ss : List (RRec × Value)) (es : List (RCho × Value)) (ts : List Tok) (sv ev rv : Value) (hl : l.length ≤ 2048) (hR : R < A) (hg : g < A) (h : Rd w R g c l r (0, 0)) (ha : RawAt A w ss es ts sv ev rv) (hc : ss.length + es.length + ts.length + r.length ≤ l.length) :
    Calls Tryz.prog 159 #[.pointer (some ⟨R, 0, none⟩), .pointer (some ⟨A, 0, none⟩)] w (PartPost R g c l A w (partR (rawOf ss es ts) r)) := by
  cases h1 : isT 1 wStruct r
  · cases h2 : isT 1 wEnum r
    · cases h3 : isT 1 wRoot r
      · exact part_bad w R g c A l r ss es ts sv ev rv hR h ha h1 h2 h3
      · exact part_root w R g c A l r ss es ts sv ev rv hl hR hg h ha hc h1 h2 h3
    · exact part_enum w R g c A l r ss es ts sv ev rv hl hR hg h ha hc h1 h2
  · exact part_struct w R g c A l r ss es ts sv ev rv hl hR hg h ha hc h1
end Go.Proofs.YtgbcchiheddfpaaGreatDoor
