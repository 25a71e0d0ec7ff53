/-
  The hand's Made: a field's default, and the field put to the others. Conditions: those that each theorem names.
-/
import Derived.Test.YtleclhnlojalbaaGreatDoorPkL8
import Derived.Test.YtleclhnlojalbaaGreatDoorPkL17
import Derived.Deep.Cut
import Derived.Deep.AppendLies
import Derived.OwnWalk
import Derived.Shelf.Pu.Clone
import Derived.Deep.QuietTactic
import Derived.BigQuiet
import Derived.Deep.RegionHeld3
import Derived.StillTailTactics
namespace Go.Proofs.YtleclhnlojalbaaGreatDoor
open Go.ChangeShapes Go.WideShapes Go.ChangeAt Go.RowKit Go.Shelf

theorem rws_ne {w : World} {b b' : Nat} {e e' : TypeId} {s s' : Nat} {v v' : Value} {n n' : Nat} {xs xs' : List Value} (h : w.ownsRow b e s v n xs) (h' : w.ownsRow b' e' s' v' n' xs') (hne : e ≠ e') : ∀ k, v.ownBlock = some k → v'.ownBlock ≠ some k := by
  intro k hk hk'
  rcases h.2 with ⟨rfl, _⟩ | ⟨g, cap, cur, rfl, _, hg, _⟩
  · simp [Value.ownBlock] at hk
  rcases h'.2 with ⟨rfl, _⟩ | ⟨g', cap', cur', rfl, _, hg', _⟩
  · simp [Value.ownBlock] at hk'
  simp [Value.ownBlock] at hk hk'
  subst hk
  subst hk'
  rw [hg] at hg'
  injection hg' with hg'
  injection hg' with _ ht
  exact hne ht
theorem rws_other {w w' : World} {row : Option Nat} (hg : w.grownBy w' row) {b : Nat} {e : TypeId} {s : Nat} {v : Value} {n : Nat} {xs : List Value} (h : w.ownsRow b e s v n xs) (hne : ∀ k, v.ownBlock = some k → row ≠ some k) : w'.ownsRow b e s v n xs := by
  obtain ⟨hl, h'⟩ := h
  refine ⟨hl, ?_⟩
  rcases h' with h1 | ⟨g', cap', cur, hv, h1, hg', h2⟩
  · exact .inl h1
  · have hlt := blk_lt hg'
    subst hv
    exact .inr ⟨g', cap', cur, rfl, h1, (hg.block g' hlt (fun e => hne g' (by simp [Value.ownBlock]) e.symm)).trans hg', h2⟩
theorem step2 {C : Nat} {w0 wr W2 W8 : World} {nm nv v4 : Value} {ty e : TypeId} {sz n m : Nat} {xs xs' : List Value} (hb : Below C w0 wr) (hC : wr.heap[C]? = some (.cells #[nm, nv] ty (0, 0))) (hrow : wr.ownsRow (C + 1) e sz nv n xs) (h2 : Below wr.heap.size wr W2)
    (hg : W2.grownBy W8 nv.ownBlock) (ho : W8.ownsRow (C + 1) e sz v4 m xs') :
    Below C w0 (W8.setCell ⟨C, 1, none⟩ v4) ∧ (W8.setCell ⟨C, 1, none⟩ v4).heap[C]? = some (.cells #[nm, v4] ty (0, 0)) ∧ (W8.setCell ⟨C, 1, none⟩ v4).ownsRow (C + 1) e sz v4 m xs' ∧ W8.heap[C]? = some (.cells #[nm, nv] ty (0, 0)) := by
  have hlt := blk_lt hC
  have hC8 : W8.heap[C]? = some (.cells #[nm, nv] ty (0, 0)) := (hg.block C (Nat.lt_of_lt_of_le hlt h2.size) (fun e => by have := (ownsRow_lt hrow C e.symm).1; omega)).trans ((h2.block C hlt).trans hC)
  exact ⟨((hb.trans (h2.mono (Nat.le_of_lt hlt))).grown hg (by have := h2.size; omega) (fun k hk => by have := (ownsRow_lt hrow k hk).1; omega)).setCell (Nat.le_refl _) v4, (blk_set hC8 1 v4).trans rfl, ownsRow_setCell_below ho (Nat.lt_succ_self C) v4, hC8⟩
theorem two_str (W : World) (x y : Int) : (convert 24 9 (.slice (some ⟨W.heap.size, 0, none⟩) 2 2)).run Tryz.prog (W.alloc (.cells #[.int .u8 x, .int .u8 y] 5)) = .ok (.string (strOfNums [x, y])) (W.alloc (.cells #[.int .u8 x, .int .u8 y] 5)) := by
  refine run_convert_bytes_arg (P := Tryz.prog) _ 24 5 Tryz.underlying24 Tryz.underlying5 W.heap.size 0 2 2 [x, y] rfl (fun k hk => ?_) 9 Tryz.underlying9
  have : k = 0 ∨ k = 1 := by omega
  rcases this with rfl | rfl
  · rw [cell_of_row _ _ _ _ _ (0, 0) (heap_alloc_new W _)]
    rfl
  · rw [cell_of_row _ _ _ _ _ (0, 0) (heap_alloc_new W _)]
    rfl
end Go.Proofs.YtleclhnlojalbaaGreatDoor
namespace Go.Proofs.YtleclhnlojalbaaGreatDoor
open Go.ChangeShapes Go.WideShapes Go.ChangeAt Go.RowKit Go.Shelf

theorem ty_key : Tryz.prog.underlying 9 = some .string := by kernel_rfl
theorem ty_map : Tryz.prog.underlying 123 = some (.map 9 53) := by kernel_rfl
theorem int_map : Tryz.prog.underlying 147 = some (.map 9 3) := by kernel_rfl
theorem ty_zero (w : World) : (zeroValue 53).run Tryz.prog w = .ok (mtyV 0 0 0) w := by kernel_rfl
theorem int_zero (w : World) : (zeroValue 3).run Tryz.prog w = .ok (.int .i64 0) w := by kernel_rfl
set_option maxRecDepth 100000 in
set_option maxHeartbeats 2000000 in
theorem basic_any (w : World) : Calls Tryz.prog 57 #[] w fun e w' => ∃ b, e = .returned (.map (some b)) ∧ MapAt w' b (basicN.map entP) ∧ Below w.heap.size w w' ∧ w.heap.size ≤ b := by
  have hmm := @run_makeMap Tryz.prog
  obtain ⟨W1, r1, m1, x1⟩ := (MapAt.made w).store ty_key ty_map ⟨#[98, 111, 111, 108]⟩ (.agg #[.int .u8 1, .int .i64 0, .int .i64 0]) (by decide)
  obtain ⟨W2, r2, m2, x2⟩ := m1.store ty_key ty_map ⟨#[105, 56]⟩ (.agg #[.int .u8 2, .int .i64 0, .int .i64 0]) (by decide)
  obtain ⟨W3, r3, m3, x3⟩ := m2.store ty_key ty_map ⟨#[105, 49, 54]⟩ (.agg #[.int .u8 3, .int .i64 0, .int .i64 0]) (by decide)
  obtain ⟨W4, r4, m4, x4⟩ := m3.store ty_key ty_map ⟨#[105, 51, 50]⟩ (.agg #[.int .u8 4, .int .i64 0, .int .i64 0]) (by decide)
  obtain ⟨W5, r5, m5, x5⟩ := m4.store ty_key ty_map ⟨#[105, 54, 52]⟩ (.agg #[.int .u8 5, .int .i64 0, .int .i64 0]) (by decide)
  obtain ⟨W6, r6, m6, x6⟩ := m5.store ty_key ty_map ⟨#[117, 56]⟩ (.agg #[.int .u8 6, .int .i64 0, .int .i64 0]) (by decide)
  obtain ⟨W7, r7, m7, x7⟩ := m6.store ty_key ty_map ⟨#[117, 49, 54]⟩ (.agg #[.int .u8 7, .int .i64 0, .int .i64 0]) (by decide)
  obtain ⟨W8, r8, m8, x8⟩ := m7.store ty_key ty_map ⟨#[117, 51, 50]⟩ (.agg #[.int .u8 8, .int .i64 0, .int .i64 0]) (by decide)
  obtain ⟨W9, r9, m9, x9⟩ := m8.store ty_key ty_map ⟨#[117, 54, 52]⟩ (.agg #[.int .u8 9, .int .i64 0, .int .i64 0]) (by decide)
  obtain ⟨W10, r10, m10, x10⟩ := m9.store ty_key ty_map ⟨#[116, 101, 120, 116]⟩ (.agg #[.int .u8 11, .int .i64 0, .int .i64 0]) (by decide)
  obtain ⟨W11, r11, m11, x11⟩ := m10.store ty_key ty_map ⟨#[100, 97, 116, 97]⟩ (.agg #[.int .u8 12, .int .i64 0, .int .i64 0]) (by decide)
  obtain ⟨W12, r12, m12, x12⟩ := m11.store ty_key ty_map ⟨#[108, 105, 115, 116]⟩ (.agg #[.int .u8 0, .int .i64 0, .int .i64 0]) (by decide)
  have HX : Hid (Below w.heap.size w W12) := Lib.hid (by
    have h0 : Below w.heap.size w (w.alloc (.map #[] 0)) := (Below.refl _ _).alloc (Nat.le_refl _) _
    have h1 : Exc w.heap.size w.heap.size (w.alloc (.map #[] 0)) W12 := (((((((((((x1 _).trans (x2 _)).trans (x3 _)).trans (x4 _)).trans (x5 _)).trans (x6 _)).trans (x7 _)).trans (x8 _)).trans (x9 _)).trans (x10 _)).trans (x11 _)).trans (x12 _)
    exact h0.trans (h1.below (Nat.le_refl _)))
  have HM := Lib.hid m12
  clear x1 x2 x3 x4 x5 x6 x7 x8 x9 x10 x11 x12 m1 m2 m3 m4 m5 m6 m7 m8 m9 m10 m11 m12
  go_enter Tryz.func57, Tryz.ntmps57
  go_wp2
  go_ret
  exact ⟨_, rfl, HM.out, HX.out, Nat.le_refl _⟩
end Go.Proofs.YtleclhnlojalbaaGreatDoor
namespace Go.Proofs.YtleclhnlojalbaaGreatDoor
open Go.ChangeShapes Go.WideShapes Go.ChangeAt Go.RowKit Go.Shelf

def MapKeys (W : World) (b : Nat) (ks : List ByteArray) : Prop := ∃ l, MapAt W b l ∧ l.map Prod.fst = ks
theorem look_has : ∀ (l : List (ByteArray × Value)) (s : ByteArray), (lookK l s).isSome = hasS (l.map Prod.fst) s
  | [], _ => rfl
  | p :: r, s => by
    rw [List.map_cons]
    show (lookK (p :: r) s).isSome = (decide (s = p.1) || hasS (r.map Prod.fst) s)
    rw [lookK]
    split
    · rename_i h
      rw [decide_eq_true h]
      rfl
    · rename_i h
      rw [decide_eq_false h, Bool.false_or]
      exact look_has r s
theorem MapKeys.lt {W : World} {b : Nat} {ks : List ByteArray} (h : MapKeys W b ks) : b < W.heap.size := h.choose_spec.1.lt
theorem MapKeys.below {W W' : World} {b B : Nat} {ks : List ByteArray} (h : MapKeys W b ks) (hb : Below B W W') (hlt : b < B) : MapKeys W' b ks := by
  obtain ⟨l, h1, h2⟩ := h
  exact ⟨l, h1.below hb hlt, h2⟩
theorem MapKeys.look {W : World} {b : Nat} {ks : List ByteArray} (h : MapKeys W b ks) (s : ByteArray) {c : Bool} (hc : hasS ks s = c) :
    ∃ v, (Instr.lookup 147 (.map (some b)) (.string s) true).run Tryz.prog W = .ok (.tuple #[v, .bool c]) W := by
  obtain ⟨l, h1, rfl⟩ := h
  refine ⟨(lookK l s).getD (.int .i64 0), ?_⟩
  have := h1.look ty_key int_map (int_zero W) s true
  rw [if_pos rfl, look_has, hc] at this
  exact this
theorem MapKeys.store {W : World} {b : Nat} {ks : List ByteArray} (h : MapKeys W b ks) (s : ByteArray) (v : Value) (hc : hasS ks s = false) :
    ∃ W', (Instr.mapUpdate 147 (.map (some b)) (.string s) v).run Tryz.prog W = .ok () W' ∧ MapKeys W' b (ks ++ [s]) ∧ ∀ B, Exc b B W W' := by
  obtain ⟨l, h1, rfl⟩ := h
  have hn : lookK l s = none := by
    have := look_has l s
    rw [hc] at this
    exact Option.not_isSome_iff_eq_none.1 (by rw [this]; decide)
  obtain ⟨W', r1, r2, r3⟩ := h1.store ty_key int_map s v hn
  exact ⟨W', r1, ⟨_, r2, by simp⟩, r3⟩
theorem MapKeys.made (W : World) : MapKeys (W.alloc (.map #[] 0)) W.heap.size [] := ⟨[], .made W, rfl⟩
def dupI : Option Nat → Int
  | none => -1
  | some k => (k : Nat)
theorem dup_step {α : Type} (f : α → ByteArray) (l : List α) (k : Nat) (hk : k < l.length) (h : dup (l.map f) = dupFrom ((l.take k).map f) ((l.drop k).map f)) :
    (hasS ((l.take k).map f) (f l[k]) = true → dup (l.map f) = some k) ∧ (hasS ((l.take k).map f) (f l[k]) = false → dup (l.map f) = dupFrom ((l.take (k + 1)).map f) ((l.drop (k + 1)).map f)) := by
  rw [List.drop_eq_getElem_cons hk, List.map_cons] at h
  constructor
  · intro hc
    rw [h]
    show (if hasS _ _ = true then some _ else _) = _
    rw [if_pos hc, List.length_map, List.length_take, Nat.min_eq_left (Nat.le_of_lt hk)]
  · intro hc
    rw [h]
    show (if hasS _ _ = true then some _ else dupFrom _ _) = _
    rw [if_neg (by rw [hc]; decide), List.take_succ_eq_append_getElem hk, List.map_append]
    rfl
theorem take_snoc_map {α : Type} (f : α → ByteArray) (l : List α) (k : Nat) (hk : k < l.length) : (l.take (k + 1)).map f = (l.take k).map f ++ [f l[k]] := by
  rw [List.take_succ_eq_append_getElem hk, List.map_append]
  rfl
def AgainAt {α : Type} (f : α → ByteArray) (l : List α) (w : World) (i : Value) (wr : World) : Prop :=
  ∃ k : Nat, k ≤ l.length ∧ i = .int .i64 k ∧ MapKeys wr w.heap.size ((l.take k).map f) ∧ Below w.heap.size w wr ∧ dup (l.map f) = dupFrom ((l.take k).map f) ((l.drop k).map f)

theorem name_tok (a c : Int) (s : ByteArray) (w : World) : Calls Tryz.prog 84 #[.agg #[.int .i64 a, .string s, .int .i64 c]] w fun e w' => e = .returned (.string s) ∧ Below w.heap.size w w' := by
  go_enter Tryz.func84, Tryz.ntmps84
  go_wp2
  go_ret
  exact ⟨rfl, (Below.refl _ _).alloc (Nat.le_refl _) _⟩
set_option maxRecDepth 100000 in
set_option maxHeartbeats 2000000 in
theorem again_tok (l : List Tok) (v : Value) (base : Nat) (w : World) (h : w.ownsRow base 109 3 v l.length (toksCells l)) :
    Calls Tryz.prog 83 #[v, .func (.func 84) #[] #[]] w fun e w' => e = .returned (.int .i64 (dupI (dup (l.map tokT)))) ∧ Below w.heap.size w w' := by
  obtain ⟨a, c, rfl⟩ := ownsRow_form h
  have hfew := row_few h
  have HR := Lib.hid h
  clear h
  have hmm := @run_makeMap Tryz.prog
  have HMK := Lib.hid (MapKeys.made w)
  have HBK := Lib.hid (show Below w.heap.size w (w.alloc (.map #[] 0)) from (Below.refl _ _).alloc (Nat.le_refl _) _)
  go_enter Tryz.func83, Tryz.ntmps83
  go_wp2
  clear hmm
  go_loopw [13] (AgainAt tokT l w) (fun i _ => l.length - (intOf i).toNat)
  case atStart => exact ⟨0, Nat.zero_le _, rfl, HMK.out, HBK.out, rfl⟩
  case round =>
    clear HMK HBK
    obtain ⟨k, hk, rfl, hm, hb, hd⟩ := hrel
    by_cases hkl : k < l.length
    · obtain ⟨g, cc, hv, hcc, hg, hcell⟩ := row_el tokCells 3 (fun _ => rfl) (row_keep hb HR.out) k hkl
      obtain ⟨rfl, rfl⟩ := slice_inj hv
      have x0 : wr.cell? ⟨g, k * 3, none⟩ = some (.int .i64 l[k].kind) := hcell 0 (by omega)
      have x1 : wr.cell? ⟨g, k * 3 + 1, none⟩ = some (.string (tokT l[k])) := hcell 1 (by omega)
      have x2 : wr.cell? ⟨g, k * 3 + 2, none⟩ = some (.int .i64 l[k].place) := hcell 2 (by omega)
      obtain ⟨d1, d2⟩ := dup_step tokT l k hkl hd
      have HTK := Lib.hid (take_snoc_map tokT l k hkl)
      generalize l[k] = q at *
      have hwr := hm.lt
      have HM := Lib.hid hm
      have HB := Lib.hid hb
      have HD1 := Lib.hid d1
      have HD2 := Lib.hid d2
      clear hm hb hd d1 d2 hcell hv
      go_wp2_with fail
      refine (name_tok _ _ _ _).mono ?_
      rintro e W1 ⟨rfl, hb1⟩
      have hbx : Below wr.heap.size wr W1 := ((Below.refl _ _).alloc (Nat.le_refl _) _).trans (hb1.mono (by simp))
      have HM1 := Lib.hid (HM.out.below hbx hwr)
      have HB1 := Lib.hid (HB.out.trans (hbx.mono (by omega)))
      have hlt1 : wr.heap.size < W1.heap.size := by have := hb1.size; simp at this; omega
      have HN := Lib.hid (blk_below (heap_alloc_new wr _) hb1 (by simp))
      clear hbx hb1 HM HB
      cases hh : hasS ((l.take k).map tokT) (tokT q)
      · obtain ⟨v, hl⟩ := HM1.out.look _ hh
        have HD := Lib.hid (HD2.out hh)
        have HH := Lib.hid hh
        clear hh HD1 HD2
        have y0 : W1.cell? ⟨wr.heap.size, 0, none⟩ = some (.int .i64 q.kind) := (blk_cell HN.out 0).trans rfl
        have y1 : W1.cell? ⟨wr.heap.size, 1, none⟩ = some (.string (tokT q)) := (blk_cell HN.out 1).trans rfl
        have y2 : W1.cell? ⟨wr.heap.size, 2, none⟩ = some (.int .i64 q.place) := (blk_cell HN.out 2).trans rfl
        go_upto_region 8 with (fail)
        clear hl
        go_wp2_with fail
        refine (name_tok _ _ _ _).mono ?_
        rintro e W2 ⟨rfl, hb2⟩
        have hms := HM1.out.below hb2 (by omega)
        have HB2 := Lib.hid (HB1.out.trans (hb2.mono (by omega)))
        have hlt2 := hb2.size
        obtain ⟨W3, hr3, hm3, hx3⟩ := hms.store (tokT q) (.int .i64 k) HH.out
        have HM3 := Lib.hid hm3
        have HB3 := Lib.hid (HB2.out.trans ((hx3 _).below (Nat.le_refl w.heap.size)))
        clear hms hb2 hm3 hx3 HB1 HB2
        go_wp2
        go_roundw
        case rel => exact ⟨k + 1, by omega, by go_num, by rw [HTK.out]; exact HM3.out, HB3.out, HD.out⟩
        case measure => simp [intOf]; omega
      · obtain ⟨v, hl⟩ := HM1.out.look _ hh
        have HD := Lib.hid (HD1.out hh)
        clear hh HD1 HD2
        go_wp2
        go_ret
        exact ⟨by rw [HD.out]; rfl, HB1.out⟩
    · obtain rfl : k = l.length := by omega
      have HD : Hid (dup (l.map tokT) = none) := Lib.hid (by rw [hd, List.drop_length]; rfl)
      have HB := Lib.hid hb
      clear hm hb hd
      go_wp2
      go_ret
      exact ⟨by rw [HD.out]; rfl, HB.out⟩

theorem name_fld (x1 x3 x4 x5 x7 : Int) (s x2 x6 : ByteArray) (w : World) : Calls Tryz.prog 87 #[.agg #[.string s, .int .i64 x1, .string x2, .int .i64 x3, .int .i64 x4, .int .i64 x5, .string x6, .int .i64 x7]] w fun e w' => e = .returned (.string s) ∧ Below w.heap.size w w' := by
  go_enter Tryz.func87, Tryz.ntmps87
  go_wp2
  go_ret
  exact ⟨rfl, (Below.refl _ _).alloc (Nat.le_refl _) _⟩
set_option maxRecDepth 100000 in
set_option maxHeartbeats 2000000 in
theorem again_fld (l : List RField) (v : Value) (base : Nat) (w : World) (h : w.ownsRow base 135 8 v l.length (fieldsCells l)) :
    Calls Tryz.prog 86 #[v, .func (.func 87) #[] #[]] w fun e w' => e = .returned (.int .i64 (dupI (dup (l.map fldT)))) ∧ Below w.heap.size w w' := by
  obtain ⟨a, c, rfl⟩ := ownsRow_form h
  have hfew := row_few h
  have HR := Lib.hid h
  clear h
  have hmm := @run_makeMap Tryz.prog
  have HMK := Lib.hid (MapKeys.made w)
  have HBK := Lib.hid (show Below w.heap.size w (w.alloc (.map #[] 0)) from (Below.refl _ _).alloc (Nat.le_refl _) _)
  go_enter Tryz.func86, Tryz.ntmps86
  go_wp2
  clear hmm
  go_loopw [13] (AgainAt fldT l w) (fun i _ => l.length - (intOf i).toNat)
  case atStart => exact ⟨0, Nat.zero_le _, rfl, HMK.out, HBK.out, rfl⟩
  case round =>
    clear HMK HBK
    obtain ⟨k, hk, rfl, hm, hb, hd⟩ := hrel
    by_cases hkl : k < l.length
    · obtain ⟨g, cc, hv, hcc, hg, hcell⟩ := row_el fieldCells 8 (fun _ => rfl) (row_keep hb HR.out) k hkl
      obtain ⟨rfl, rfl⟩ := slice_inj hv
      have x0 : wr.cell? ⟨g, k * 8, none⟩ = some (.string (fldT l[k])) := hcell 0 (by omega)
      have x1 : wr.cell? ⟨g, k * 8 + 1, none⟩ = some (.int .i64 l[k].place) := hcell 1 (by omega)
      have x2 : wr.cell? ⟨g, k * 8 + 2, none⟩ = some (.string (strOfNums l[k].ty.name)) := hcell 2 (by omega)
      have x3 : wr.cell? ⟨g, k * 8 + 3, none⟩ = some (.int .i64 l[k].ty.lists) := hcell 3 (by omega)
      have x4 : wr.cell? ⟨g, k * 8 + 4, none⟩ = some (.int .i64 l[k].ty.place) := hcell 4 (by omega)
      have x5 : wr.cell? ⟨g, k * 8 + 5, none⟩ = some (.int .i64 l[k].dflt.kind) := hcell 5 (by omega)
      have x6 : wr.cell? ⟨g, k * 8 + 6, none⟩ = some (.string (strOfNums l[k].dflt.text)) := hcell 6 (by omega)
      have x7 : wr.cell? ⟨g, k * 8 + 7, none⟩ = some (.int .i64 l[k].dflt.place) := hcell 7 (by omega)
      obtain ⟨d1, d2⟩ := dup_step fldT l k hkl hd
      have HTK := Lib.hid (take_snoc_map fldT l k hkl)
      generalize l[k] = q at *
      have hwr := hm.lt
      have HM := Lib.hid hm
      have HB := Lib.hid hb
      have HD1 := Lib.hid d1
      have HD2 := Lib.hid d2
      clear hm hb hd d1 d2 hcell hv
      go_wp2_with fail
      refine (name_fld _ _ _ _ _ _ _ _ _).mono ?_
      rintro e W1 ⟨rfl, hb1⟩
      have hbx : Below wr.heap.size wr W1 := ((Below.refl _ _).alloc (Nat.le_refl _) _).trans (hb1.mono (by simp))
      have HM1 := Lib.hid (HM.out.below hbx hwr)
      have HB1 := Lib.hid (HB.out.trans (hbx.mono (by omega)))
      have hlt1 : wr.heap.size < W1.heap.size := by have := hb1.size; simp at this; omega
      have HN := Lib.hid (blk_below (heap_alloc_new wr _) hb1 (by simp))
      clear hbx hb1 HM HB
      cases hh : hasS ((l.take k).map fldT) (fldT q)
      · obtain ⟨v, hl⟩ := HM1.out.look _ hh
        have HD := Lib.hid (HD2.out hh)
        have HH := Lib.hid hh
        clear hh HD1 HD2
        have y0 : W1.cell? ⟨wr.heap.size, 0, none⟩ = some (.string (fldT q)) := (blk_cell HN.out 0).trans rfl
        have y1 : W1.cell? ⟨wr.heap.size, 1, none⟩ = some (.int .i64 q.place) := (blk_cell HN.out 1).trans rfl
        have y2 : W1.cell? ⟨wr.heap.size, 2, none⟩ = some (.string (strOfNums q.ty.name)) := (blk_cell HN.out 2).trans rfl
        have y3 : W1.cell? ⟨wr.heap.size, 3, none⟩ = some (.int .i64 q.ty.lists) := (blk_cell HN.out 3).trans rfl
        have y4 : W1.cell? ⟨wr.heap.size, 4, none⟩ = some (.int .i64 q.ty.place) := (blk_cell HN.out 4).trans rfl
        have y5 : W1.cell? ⟨wr.heap.size, 5, none⟩ = some (.int .i64 q.dflt.kind) := (blk_cell HN.out 5).trans rfl
        have y6 : W1.cell? ⟨wr.heap.size, 6, none⟩ = some (.string (strOfNums q.dflt.text)) := (blk_cell HN.out 6).trans rfl
        have y7 : W1.cell? ⟨wr.heap.size, 7, none⟩ = some (.int .i64 q.dflt.place) := (blk_cell HN.out 7).trans rfl
        go_upto_region 8 with (fail)
        clear hl
        go_wp2_with fail
        refine (name_fld _ _ _ _ _ _ _ _ _).mono ?_
        rintro e W2 ⟨rfl, hb2⟩
        have hms := HM1.out.below hb2 (by omega)
        have HB2 := Lib.hid (HB1.out.trans (hb2.mono (by omega)))
        have hlt2 := hb2.size
        obtain ⟨W3, hr3, hm3, hx3⟩ := hms.store (fldT q) (.int .i64 k) HH.out
        have HM3 := Lib.hid hm3
        have HB3 := Lib.hid (HB2.out.trans ((hx3 _).below (Nat.le_refl w.heap.size)))
        clear hms hb2 hm3 hx3 HB1 HB2
        go_wp2
        go_roundw
        case rel => exact ⟨k + 1, by omega, by go_num, by rw [HTK.out]; exact HM3.out, HB3.out, HD.out⟩
        case measure => simp [intOf]; omega
      · obtain ⟨v, hl⟩ := HM1.out.look _ hh
        have HD := Lib.hid (HD1.out hh)
        clear hh HD1 HD2
        go_wp2
        go_ret
        exact ⟨by rw [HD.out]; rfl, HB1.out⟩
    · obtain rfl : k = l.length := by omega
      have HD : Hid (dup (l.map fldT) = none) := Lib.hid (by rw [hd, List.drop_length]; rfl)
      have HB := Lib.hid hb
      clear hm hb hd
      go_wp2
      go_ret
      exact ⟨by rw [HD.out]; rfl, HB.out⟩
end Go.Proofs.YtleclhnlojalbaaGreatDoor
namespace Go.Proofs.YtleclhnlojalbaaGreatDoor
open Go.Proofs Go.Shelf
def Tryz.cloneRen : Go.Shelf.Ren := ⟨fun | 25 => 107 | n => n, fun | 9 => 9 | 3 => 3 | 4 => 4 | 5 => 5 | 37 => 24 | 0 => 0 | 47 => 200 | n => n, fun n => n⟩
theorem Tryz.cloneLaid : Go.Proofs.LaysPu.n25 Tryz.prog Tryz.cloneRen := {
  mixed := by kernel_rfl
  f25 := Tryz.func107.trans (congrArg some (by kernel_rfl))
  t0 := Tryz.underlying0
  a0 := Tryz.isAgg0
  z0 := Tryz.sizeOf0
  v0 := Tryz.zeroValue0
  i0 := by kernel_rfl
  t3 := Tryz.underlying3
  a3 := Tryz.isAgg3
  z3 := Tryz.sizeOf3
  v3 := Tryz.zeroValue3
  i3 := by kernel_rfl
  t4 := Tryz.underlying4
  a4 := Tryz.isAgg4
  z4 := Tryz.sizeOf4
  v4 := Tryz.zeroValue4
  i4 := by kernel_rfl
  t5 := Tryz.underlying5
  a5 := Tryz.isAgg5
  z5 := Tryz.sizeOf5
  v5 := Tryz.zeroValue5
  i5 := by kernel_rfl
  t9 := Tryz.underlying9
  a9 := Tryz.isAgg9
  z9 := Tryz.sizeOf9
  v9 := Tryz.zeroValue9
  i9 := by kernel_rfl
  t37 := Tryz.underlying24
  a37 := Tryz.isAgg24
  z37 := Tryz.sizeOf24
  v37 := Tryz.zeroValue24
  i37 := by kernel_rfl
  t47 := Tryz.underlying200
  a47 := Tryz.isAgg200
  z47 := Tryz.sizeOf200
  v47 := Tryz.zeroValue200
  i47 := by kernel_rfl }
open Go.ChangeShapes Go.WideShapes Go.ChangeAt Go.RowKit
theorem clone_any (s : ByteArray) (w : World) (hs : s.size ≤ 281474976710656) : Calls Tryz.prog 85 #[.string s] w fun e w' => e = .returned (.string s) ∧ Below w.heap.size w w' := by
  have h := AnyPu.stringslite_Clone Tryz.cloneLaid s w hs
  have H := Lib.hid (show Calls Tryz.prog 107 #[.string s] w _ from h)
  clear h
  go_enter Tryz.func85, Tryz.ntmps85
  go_wp2_with fail
  refine H.out.mono ?_
  rintro e w' ⟨rfl, hb⟩
  have HB := Lib.hid hb
  clear hb
  go_wp2
  go_ret
  exact ⟨rfl, HB.out⟩
theorem samong_any (a b : Int) (c : Bool) (hc : decide (0 ≤ a ∧ a < b) = c) (w : World) : Calls Tryz.prog 30 #[.int .i64 a, .int .i64 b] w fun e w' => e = .returned (.bool c) ∧ w = w' := by
  by_cases h0 : 0 ≤ a
  · by_cases h1 : a < b
    · obtain rfl : c = true := by rw [← hc]; exact decide_eq_true ⟨h0, h1⟩
      clear hc
      go_enter Tryz.func30, Tryz.ntmps30
      go_wp2
      go_ret
      exact ⟨rfl, rfl⟩
    · obtain rfl : c = false := by rw [← hc]; exact decide_eq_false fun h => h1 h.2
      clear hc
      go_enter Tryz.func30, Tryz.ntmps30
      go_wp2
      go_ret
      exact ⟨rfl, rfl⟩
  · have hf : c = false := by rw [← hc]; exact decide_eq_false fun h => h0 h.1
    subst hf
    clear hc
    go_enter Tryz.func30, Tryz.ntmps30
    go_wp2
    go_ret
    exact ⟨rfl, rfl⟩
theorem str_beq (a b : ByteArray) : (a.toList == b.toList) = decide (a = b) := by
  rw [ByteArray.toList_eq, ByteArray.toList_eq, Bool.eq_iff_iff, beq_iff_eq, decide_eq_true_iff]
  refine ⟨fun h => ?_, fun h => by rw [h]⟩
  obtain ⟨⟨a⟩⟩ := a
  obtain ⟨⟨b⟩⟩ := b
  simp only at h
  rw [h]
theorem idx_step (l : List ByteArray) (s : ByteArray) (k : Nat) (hk : k < l.length) (h : idx l s = (idx (l.drop k) s).map (· + k)) : (l[k] = s → idx l s = some k) ∧ (l[k] ≠ s → idx l s = (idx (l.drop (k + 1)) s).map (· + (k + 1))) := by
  rw [List.drop_eq_getElem_cons hk, idx] at h
  constructor
  · intro he
    rw [h, if_pos he]
    simp
  · intro he
    rw [h, if_neg he, Option.map_map]
    congr 1
    funext x
    show x + 1 + k = x + (k + 1)
    omega
set_option maxRecDepth 100000 in
set_option maxHeartbeats 2000000 in
theorem index_any (l : List ByteArray) (v : Value) (base : Nat) (w : World) (h : w.ownsRow base 9 1 v l.length (strsCells l)) (s : ByteArray) :
    Calls Tryz.prog 154 #[v, .string s] w fun e w' => e = .returned (.int .i64 (dupI (idx l s))) ∧ w = w' := by
  obtain ⟨a, c, rfl⟩ := ownsRow_form h
  have hfew := row_few h
  have HR := Lib.hid h
  have HI := Lib.hid (show idx l s = (idx (l.drop 0) s).map (· + 0) by simp)
  clear h
  go_enter Tryz.func154, Tryz.ntmps154
  go_wp2
  go_loop [8] (fun i => ∃ k : Nat, k ≤ l.length ∧ i = .int .i64 k ∧ idx l s = (idx (l.drop k) s).map (· + k)) (fun i => l.length - (intOf i).toNat)
  case atStart => exact ⟨0, Nat.zero_le _, rfl, HI.out⟩
  case round =>
    clear HI
    obtain ⟨k, hk, rfl, hi⟩ := hrel
    by_cases hkl : k < l.length
    · obtain ⟨g, cc, hv, hcc, hg, hcell⟩ := row_el strCells 1 (fun _ => rfl) HR.out k hkl
      obtain ⟨rfl, rfl⟩ := slice_inj hv
      have x0 : w.cell? ⟨g, k, none⟩ = some (.string l[k]) := by have := hcell 0 (by omega); rw [Nat.mul_one, Nat.add_zero] at this; exact this
      obtain ⟨d1, d2⟩ := idx_step l s k hkl hi
      generalize l[k] = q at *
      by_cases hq : q = s
      · subst hq
        have HD := Lib.hid (d1 rfl)
        have hb : (q.toList == q.toList) = true := by rw [str_beq]; exact decide_eq_true rfl
        clear hi d1 d2 hcell hv
        go_wp2
        go_ret
        exact ⟨by rw [HD.out]; rfl, rfl⟩
      · have HD := Lib.hid (d2 hq)
        have hb : (s.toList == q.toList) = false := by rw [str_beq]; exact decide_eq_false (fun e => hq e.symm)
        clear hi d1 d2 hcell hv hq
        go_wp2
        go_round
        case rel => exact ⟨k + 1, by omega, by go_num, HD.out⟩
        case measure => simp [intOf]; omega
    · obtain rfl : k = l.length := by omega
      have HD : Hid (idx l s = none) := Lib.hid (by rw [hi, List.drop_length]; rfl)
      clear hi
      go_wp2
      go_ret
      exact ⟨by rw [HD.out]; rfl, rfl⟩
def optV : Option Nat → Value
  | none => .tuple #[.int .u64 0, .bool false]
  | some n => .tuple #[.int .u64 (n : Nat), .bool true]
theorem idx_lt : ∀ (l : List ByteArray) (s : ByteArray) (k : Nat), idx l s = some k → k < l.length
  | [], _, _, h => by cases h
  | a :: r, s, k, h => by
    rw [idx] at h
    split at h
    · cases h
      simp
    · obtain ⟨j, hj, rfl⟩ := Option.map_eq_some_iff.1 h
      have := idx_lt r s j hj
      simp
      omega
set_option maxRecDepth 100000 in
set_option maxHeartbeats 2000000 in
theorem choose_any (t : Tok) (l : List ByteArray) (v : Value) (base : Nat) (w : World) (h : w.ownsRow base 9 1 v l.length (strsCells l)) :
    Calls Tryz.prog 135 #[.agg #[.int .i64 t.kind, .string (tokT t), .int .i64 t.place], v] w fun e w' => e = .returned (optV (chooseM t l)) ∧ Below w.heap.size w w' := by
  have hb : Below w.heap.size w (w.alloc (.cells #[.int .i64 t.kind, .string (tokT t), .int .i64 t.place] 109)) := (Below.refl _ _).alloc (Nat.le_refl _) _
  have HI := Lib.hid (index_any l v base _ (row_keep hb h) (tokT t))
  have HB := Lib.hid hb
  have HL := Lib.hid (idx_lt l (tokT t))
  have hfew := row_few h
  have HC : Hid (chooseM t l = if t.kind = 1 then idx l (tokT t) else none) := Lib.hid rfl
  clear hb h
  go_enter Tryz.func135, Tryz.ntmps135
  go_wp2_with fail
  refine HI.out.mono ?_
  rintro e w' ⟨rfl, rfl⟩
  by_cases hk : t.kind = 1
  · have HC' := Lib.hid (HC.out.trans (if_pos hk))
    generalize t.kind = K at *
    subst hk
    cases hx : idx l (tokT t) with
    | none =>
      have HX := Lib.hid hx
      clear hx
      simp only [dupI]
      go_wp2
      go_ret2
      exact ⟨by rw [HC'.out, HX.out]; rfl, HB.out⟩
    | some k =>
      have hlt := HL.out k hx
      have HX := Lib.hid hx
      have hw : IntKind.u64.wrap (k : Int) = k := IntWalk.u64_in _ (by omega)
      clear hx
      simp only [dupI]
      go_wp2
      go_ret2
      exact ⟨by rw [HC'.out, HX.out]; rfl, HB.out⟩
  · have HC' := Lib.hid (HC.out.trans (if_neg hk))
    generalize dupI (idx l (tokT t)) = x at *
    go_wp2
    go_ret2
    exact ⟨by rw [HC'.out]; rfl, HB.out⟩
end Go.Proofs.YtleclhnlojalbaaGreatDoor
namespace Go.Proofs.YtleclhnlojalbaaGreatDoor
open Go.ChangeShapes Go.WideShapes Go.ChangeAt Go.RowKit Go.Shelf

structure SchAt (A : Nat) (W : World) (ss : List (SRec × Value)) (es : List (SCho × Value)) (sv ev : Value) (rt : Nat) : Prop where
  blk : W.heap[A]? = some (.cells #[sv, ev, .int .i64 rt] 32 (0, 0))
  rows : SchRows (A + 1) W ss es sv ev
theorem SchAt.below {A rt : Nat} {W W' : World} {ss : List (SRec × Value)} {es : List (SCho × Value)} {sv ev : Value} (h : SchAt A W ss es sv ev rt) (hb : Below W.heap.size W W') : SchAt A W' ss es sv ev rt :=
  ⟨blk_below h.blk hb (blk_lt h.blk), h.rows.below hb⟩
theorem mem_snc {α : Type} {l : List α} {a p : α} (h : p ∈ l ++ [a]) : p ∈ l ∨ p = a := by
  rcases List.mem_append.1 h with h | h
  · exact .inl h
  · exact .inr (List.mem_singleton.1 h)
theorem SchAt.enum {A rt : Nat} {W W4 : World} {ss : List (SRec × Value)} {es : List (SCho × Value)} {sv ev : Value} (h : SchAt A W ss es sv ev rt) {q : SCho × Value} (hq : W.ownsRow (A + 1) 9 1 q.2 q.1.names.length (strsCells q.1.names))
    (hg : W.grownBy W4 ev.ownBlock) {ev' : Value} (hown : W4.ownsRow (A + 1) 60 2 ev' (es.length + 1) (schosCells es ++ schoCells q)) : SchAt A (W4.setCell ⟨A, 1, none⟩ ev') ss (es ++ [q]) sv ev' rt := by
  have hA : ∀ k, ev.ownBlock = some k → A ≠ k := fun k hk => by have := (ownsRow_lt h.rows.enums k hk).1; omega
  have hb4 : W4.heap[A]? = some (.cells #[sv, ev, .int .i64 rt] 32 (0, 0)) := (hg.block A (blk_lt h.blk) (fun e => hA A e.symm rfl)).trans h.blk
  have key : ∀ {e : TypeId} {s : Nat} {v : Value} {n : Nat} {xs : List Value}, W.ownsRow (A + 1) e s v n xs → e ≠ 60 → (W4.setCell ⟨A, 1, none⟩ ev').ownsRow (A + 1) e s v n xs := fun ho hne =>
    ownsRow_setCell_below (rws_other hg ho (rws_ne ho h.rows.enums hne)) (Nat.lt_succ_self A) _
  refine ⟨(blk_set hb4 1 ev').trans rfl, key h.rows.structs (by decide), ?_, fun r hr => key (h.rows.fields r hr) (by decide), fun r hr => ?_⟩
  · rw [schosCells_snoc, List.length_append]
    exact ownsRow_setCell_below hown (Nat.lt_succ_self A) _
  · rcases mem_snc hr with hr | rfl
    · exact key (h.rows.names r hr) (by decide)
    · exact key hq (by decide)
theorem SchAt.strct {A rt : Nat} {W W4 : World} {ss : List (SRec × Value)} {es : List (SCho × Value)} {sv ev : Value} (h : SchAt A W ss es sv ev rt) {q : SRec × Value} (hq : W.ownsRow (A + 1) 55 5 q.2 q.1.fields.length (sfldsCells q.1.fields))
    (hg : W.grownBy W4 sv.ownBlock) {sv' : Value} (hown : W4.ownsRow (A + 1) 58 2 sv' (ss.length + 1) (srecsCells ss ++ srecCells q)) : SchAt A (W4.setCell ⟨A, 0, none⟩ sv') (ss ++ [q]) es sv' ev rt := by
  have hA : ∀ k, sv.ownBlock = some k → A ≠ k := fun k hk => by have := (ownsRow_lt h.rows.structs k hk).1; omega
  have hb4 : W4.heap[A]? = some (.cells #[sv, ev, .int .i64 rt] 32 (0, 0)) := (hg.block A (blk_lt h.blk) (fun e => hA A e.symm rfl)).trans h.blk
  have key : ∀ {e : TypeId} {s : Nat} {v : Value} {n : Nat} {xs : List Value}, W.ownsRow (A + 1) e s v n xs → e ≠ 58 → (W4.setCell ⟨A, 0, none⟩ sv').ownsRow (A + 1) e s v n xs := fun ho hne =>
    ownsRow_setCell_below (rws_other hg ho (rws_ne ho h.rows.structs hne)) (Nat.lt_succ_self A) _
  refine ⟨(blk_set hb4 0 sv').trans rfl, ?_, key h.rows.enums (by decide), fun r hr => ?_, fun r hr => key (h.rows.names r hr) (by decide)⟩
  · rw [srecsCells_snoc, List.length_append]
    exact ownsRow_setCell_below hown (Nat.lt_succ_self A) _
  · rcases mem_snc hr with hr | rfl
    · exact key (h.rows.fields r hr) (by decide)
    · exact key hq (by decide)
structure MKeeps (w : World) (b : Nat) (x0 x1 : Value) (rt : Nat) (tree : Bool) (W : World) : Prop where
  hb : b = w.heap.size
  box : W.heap[b]? = some (.cells #[x0, x1, .int .u8 rt, .bool tree] 27 (0, 0))
  res : W.heap[b + 1]? = some (.cells #[.slice none 0 0, .slice none 0 0, .int .i64 0] 32 (0, 0))
  bel : Below b w W
theorem MKeeps.below {w W W' : World} {x0 x1 : Value} {b rt B : Nat} {tree : Bool} (h : MKeeps w b x0 x1 rt tree W) (hb : Below B W W') (hB : b + 2 ≤ B) : MKeeps w b x0 x1 rt tree W' :=
  ⟨h.hb, blk_below h.box hb (by omega), blk_below h.res hb (by omega), h.bel.trans (hb.mono (by omega))⟩
theorem bel_app {A : Nat} {W W2 W4 : World} {row : Option Nat} (h2 : Below W.heap.size W W2) (hA : A < W.heap.size) (hg : W2.grownBy W4 row) (hr : ∀ k, row = some k → A ≤ k) (i : Nat) (v : Value) : Below A W (W4.setCell ⟨A, i, none⟩ v) :=
  ((h2.mono (Nat.le_of_lt hA)).grown hg (by have := h2.size; omega) hr).setCell (p := ⟨A, i, none⟩) (Nat.le_refl _) v
end Go.Proofs.YtleclhnlojalbaaGreatDoor
namespace Go.Proofs.YtleclhnlojalbaaGreatDoor
open Go.ChangeShapes Go.WideShapes Go.ChangeAt Go.RowKit Go.Shelf
theorem u8_in (n : Int) (h0 : 0 ≤ n) (h1 : n ≤ 255) : IntKind.u8.wrap n = n := by simp only [IntKind.wrap, IntKind.bits, IntKind.signed]; simp; omega
end Go.Proofs.YtleclhnlojalbaaGreatDoor
namespace Go.Proofs.YtleclhnlojalbaaGreatDoor
open Go.ChangeShapes Go.WideShapes Go.ChangeAt Go.RowKit Go.Shelf
theorem row_under {w w' : World} {B base : Nat} {e : TypeId} {size : Nat} {v : Value} {n : Nat} {xs : List Value} (h : Below B w w') (ho : w.ownsRow base e size v n xs) (hB : ∀ k, v.ownBlock = some k → k < B) : w'.ownsRow base e size v n xs := by
  obtain ⟨hl, h'⟩ := ho
  refine ⟨hl, ?_⟩
  rcases h' with h1 | ⟨g', cap', cur, hv, h1, hg', h2⟩
  · exact .inl h1
  · subst hv
    exact .inr ⟨g', cap', cur, rfl, h1, (h.block g' (hB g' (by simp [Value.ownBlock]))).trans hg', h2⟩
end Go.Proofs.YtleclhnlojalbaaGreatDoor
