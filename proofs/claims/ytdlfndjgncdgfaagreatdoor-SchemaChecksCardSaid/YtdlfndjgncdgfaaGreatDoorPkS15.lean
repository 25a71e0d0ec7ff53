/-
  A region that draws its order, whose last store writes a cell that the region reads: what is read there holds till that store comes up. Conditions: those that each theorem names.
-/
import Derived.Test.YtdlfndjgncdgfaaGreatDoorPkS3
import Derived.Test.YtdlfndjgncdgfaaGreatDoorPkS8
import Derived.Test.YtdlfndjgncdgfaaGreatDoorPkS12
import Derived.Test.YtdlfndjgncdgfaaGreatDoorPkS14
import Derived.Deep.RegionWith
import Derived.Deep.Cut
import Derived.Lib.SlBytesConst
import Derived.Deep.RegionHeld3
namespace Go.Proofs.YtdlfndjgncdgfaaGreatDoor
open Go.ChangeShapes Go.WideShapes Go.ChangeAt Go.RowKit Go.Shelf

structure Dp (w : World) (P g c : Nat) (l r : List Tok) (F : Int × Nat) : Prop where
  blk : w.heap[P]? = some (.cells #[.slice (some ⟨g, 0, none⟩) l.length c, .int .i64 (l.length - r.length : Nat), .int .i64 F.1, .int .i64 F.2] 106 (0, 0))
  suf : l.drop (l.length - r.length) = r
  len : r.length ≤ l.length
  glt : g < w.heap.size
  gne : g ≠ P
  cells : ∀ k, k < l.length * 3 → w.cell? ⟨g, k, none⟩ = (toksCells l)[k]?
  cap : l.length ≤ c ∧ c ≤ maxLen
  ends : Ends r
  byt : ∀ t ∈ l, ∀ z ∈ t.text, 0 ≤ z ∧ z ≤ 255
  few : l.length ≤ 2048
theorem Dp.keep {w W : World} {P g c : Nat} {l r : List Tok} {F : Int × Nat} (h : Dp w P g c l r F) (hb : Below w.heap.size w W) : Dp W P g c l r F :=
  ⟨(hb.block P (blk_lt h.blk)).trans h.blk, h.suf, h.len, Nat.lt_of_lt_of_le h.glt hb.size, h.gne, fun k hk => (hb.cell (p := ⟨g, k, none⟩) h.glt).trans (h.cells k hk), h.cap, h.ends, h.byt, h.few⟩
theorem Dp.other {w W : World} {P X g c : Nat} {l r : List Tok} {F : Int × Nat} (h : Dp w P g c l r F) (hb : Exc X w.heap.size w W) (hP : P ≠ X) (hg : g ≠ X) : Dp W P g c l r F :=
  ⟨(hb.block P (blk_lt h.blk) hP).trans h.blk, h.suf, h.len, Nat.lt_of_lt_of_le h.glt hb.size, h.gne, fun k hk => (hb.cell (p := ⟨g, k, none⟩) h.glt hg).trans (h.cells k hk), h.cap, h.ends, h.byt, h.few⟩
theorem Dp.deep {w W : World} {P g c B : Nat} {l r : List Tok} {F : Int × Nat} (h : Dp w P g c l r F) (hb : Below B w W) (hP : P < B) (hg : g < B) : Dp W P g c l r F :=
  ⟨(hb.block P hP).trans h.blk, h.suf, h.len, Nat.lt_of_lt_of_le h.glt hb.size, h.gne, fun k hk => (hb.cell (p := ⟨g, k, none⟩) hg).trans (h.cells k hk), h.cap, h.ends, h.byt, h.few⟩
theorem Dp.alloc {w : World} {P g c : Nat} {l r : List Tok} {F : Int × Nat} (h : Dp w P g c l r F) (o : Obj) : Dp (w.alloc o) P g c l r F := h.keep ((Below.refl _ _).alloc (Nat.le_refl _) _)
theorem Dp.set3 {w : World} {P g c : Nat} {l r : List Tok} {F : Int × Nat} (h : Dp w P g c l r F) {X : Nat} (hP : P ≠ X) (hg : g ≠ X) (x y z : Value) : Dp (((w.setCell ⟨X, 0, none⟩ x).setCell ⟨X, 1, none⟩ y).setCell ⟨X, 2, none⟩ z) P g c l r F := h.other (exc_set3 w X x y z) hP hg
theorem Dp.set1 {w : World} {P g c : Nat} {l r : List Tok} {F : Int × Nat} (h : Dp w P g c l r F) {X : Nat} (hP : P ≠ X) (hg : g ≠ X) (i : Nat) (x : Value) : Dp (w.setCell ⟨X, i, none⟩ x) P g c l r F := h.other (exc_set w X i x) hP hg
theorem Dp.next {w : World} {P g c : Nat} {l r : List Tok} {F : Int × Nat} (h : Dp w P g c l r F) :
    l.length - r.length < l.length ∧ w.cell? ⟨g, (l.length - r.length) * 3, none⟩ = some (.int .i64 (hd r).kind) ∧ w.cell? ⟨g, (l.length - r.length) * 3 + 1, none⟩ = some (.string (strOfNums (hd r).text)) ∧ w.cell? ⟨g, (l.length - r.length) * 3 + 2, none⟩ = some (.int .i64 (hd r).place) :=
  tok_cell h.cells h.glt (Below.refl _ _) _ _ _ (h.suf.trans h.ends.cons)
theorem Dp.mem {w : World} {P g c : Nat} {l r : List Tok} {F : Int × Nat} (h : Dp w P g c l r F) : hd r ∈ l := by
  have h1 : ∀ q : List Tok, Ends q → hd q ∈ q := fun q hq => by
    cases q with
    | nil => exact hq.elim
    | cons t q => exact List.mem_cons_self
  have h2 := h1 r h.ends
  have h3 : ∀ x, x ∈ r → x ∈ l := fun x hx => List.mem_of_mem_drop (h.suf ▸ hx)
  exact h3 _ h2
theorem Dp.taken {w W : World} {P g c : Nat} {l r : List Tok} {F : Int × Nat} (h : Dp w P g c l r F) (h0 : (hd r).kind ≠ 0) (hb : Exc P w.heap.size w W)
    (hblk : W.heap[P]? = some (.cells #[.slice (some ⟨g, 0, none⟩) l.length c, .int .i64 (((l.length - r.length : Nat) : Int) + 1), .int .i64 F.1, .int .i64 F.2] 106 (0, 0))) : Dp W P g c l r.tail F := by
  have hl := h.ends.len
  have hl2 := h.len
  have e : l.length - r.tail.length = l.length - r.length + 1 := by omega
  refine ⟨?_, ?_, by omega, Nat.lt_of_lt_of_le h.glt hb.size, h.gne, fun k hk => (hb.cell (p := ⟨g, k, none⟩) h.glt h.gne).trans (h.cells k hk), h.cap, h.ends.tail h0, h.byt, h.few⟩
  · rw [hblk, e]
    rfl
  · rw [e, ← List.drop_drop, h.suf]
    cases r with
    | nil => exact h.ends.elim
    | cons t q => rfl
theorem Dp.faulted {w W : World} {P g c : Nat} {l r : List Tok} {F F' : Int × Nat} (h : Dp w P g c l r F) (hb : Exc P w.heap.size w W)
    (hblk : W.heap[P]? = some (.cells #[.slice (some ⟨g, 0, none⟩) l.length c, .int .i64 (l.length - r.length : Nat), .int .i64 F'.1, .int .i64 F'.2] 106 (0, 0))) : Dp W P g c l r F' :=
  ⟨hblk, h.suf, h.len, Nat.lt_of_lt_of_le h.glt hb.size, h.gne, fun k hk => (hb.cell (p := ⟨g, k, none⟩) h.glt h.gne).trans (h.cells k hk), h.cap, h.ends, h.byt, h.few⟩
/-! ### where the parser is -/
inductive Sto where
  | go (r : List Tok) : Sto
  | fell (c : Int) (p : Nat) : Sto
def DpS (w : World) (P g c : Nat) (l : List Tok) : Sto → Prop
  | .go r => Dp w P g c l r (0, 0)
  | .fell c' p => c' ≠ 0 ∧ ∃ r, Dp w P g c l r (c', p)
def Sto.step {α : Type} (f : List Tok → Res α) : Sto → Sto
  | .go r => match f r with
    | .ok _ r' => .go r'
    | .no c p => .fell c p
  | .fell c p => .fell c p
theorem DpS.form {w : World} {P g c : Nat} {l : List Tok} {st : Sto} (h : DpS w P g c l st) : ∃ r F, Dp w P g c l r F ∧ ((st = .go r ∧ F = (0, 0)) ∨ (st = .fell F.1 F.2 ∧ F.1 ≠ 0)) := by
  cases st with
  | go r => exact ⟨r, _, h, .inl ⟨rfl, rfl⟩⟩
  | fell c' p => exact ⟨_, _, h.2.choose_spec, .inr ⟨rfl, h.1⟩⟩
theorem DpS.keep {w W : World} {P g c : Nat} {l : List Tok} {st : Sto} (h : DpS w P g c l st) (hb : Below w.heap.size w W) : DpS W P g c l st := by
  cases st with
  | go r => exact Dp.keep h hb
  | fell c' p => exact ⟨h.1, _, h.2.choose_spec.keep hb⟩
theorem DpS.other {w W : World} {P X g c : Nat} {l : List Tok} {st : Sto} (h : DpS w P g c l st) (hb : Exc X w.heap.size w W) (hP : P ≠ X) (hg : g ≠ X) : DpS W P g c l st := by
  cases st with
  | go r => exact Dp.other h hb hP hg
  | fell c' p => exact ⟨h.1, _, h.2.choose_spec.other hb hP hg⟩
theorem DpS.deep {w W : World} {P g c B : Nat} {l : List Tok} {st : Sto} (h : DpS w P g c l st) (hb : Below B w W) (hP : P < B) (hg : g < B) : DpS W P g c l st := by
  cases st with
  | go r => exact Dp.deep h hb hP hg
  | fell c' p => exact ⟨h.1, _, h.2.choose_spec.deep hb hP hg⟩
theorem DpS.facts {w : World} {P g c : Nat} {l : List Tok} {st : Sto} (h : DpS w P g c l st) : P < w.heap.size ∧ g < w.heap.size ∧ g ≠ P := by
  obtain ⟨r, F, hd, _⟩ := h.form
  exact ⟨blk_lt hd.blk, hd.glt, hd.gne⟩
end Go.Proofs.YtdlfndjgncdgfaaGreatDoor
namespace Go.Proofs.YtdlfndjgncdgfaaGreatDoor
open Go.ChangeShapes Go.WideShapes Go.ChangeAt Go.RowKit Go.Shelf

def Sto.rd {α : Type} (st : Sto) (f : List Tok → Res α) : Res α :=
  match st with
  | .go r => f r
  | .fell c p => .no c p
theorem DpS.set3 {w : World} {P g c : Nat} {l : List Tok} {st : Sto} (h : DpS w P g c l st) {X : Nat} (hP : P ≠ X) (hg : g ≠ X) (x y z : Value) : DpS (((w.setCell ⟨X, 0, none⟩ x).setCell ⟨X, 1, none⟩ y).setCell ⟨X, 2, none⟩ z) P g c l st := h.other (exc_set3 w X x y z) hP hg
theorem DpS.set1 {w : World} {P g c : Nat} {l : List Tok} {st : Sto} (h : DpS w P g c l st) {X : Nat} (hP : P ≠ X) (hg : g ≠ X) (i : Nat) (x : Value) : DpS (w.setCell ⟨X, i, none⟩ x) P g c l st := h.other (exc_set w X i x) hP hg
theorem DpS.alloc {w : World} {P g c : Nat} {l : List Tok} {st : Sto} (h : DpS w P g c l st) (o : Obj) : DpS (w.alloc o) P g c l st := h.keep ((Below.refl _ _).alloc (Nat.le_refl _) _)
end Go.Proofs.YtdlfndjgncdgfaaGreatDoor
namespace Go.Proofs.YtdlfndjgncdgfaaGreatDoor
open Go.ChangeShapes Go.WideShapes Go.ChangeAt Go.RowKit Go.Shelf

theorem slash2_prefix (zs : List Int) (hb : ∀ i, 0 ≤ zs.getD i 0 ∧ zs.getD i 0 ≤ 255) (j : Nat) : Lib.hasPrefix (Lib.bytesOf (zs.drop j)) (Lib.bytesOf [47, 47]) = slash2 zs j := by
  have key : ∀ x : Int, 0 ≤ x ∧ x ≤ 255 → ((47 : UInt8) == UInt8.ofNat x.toNat) = isC 47 x := by
    intro x hx
    unfold isC
    rw [Bool.eq_iff_iff, beq_iff_eq, decide_eq_true_iff, ← UInt8.toNat_inj]
    rw [UInt8.toNat_ofNat']
    simp
    omega
  unfold Lib.hasPrefix Lib.bytesOf
  by_cases h1 : j + 1 < zs.length
  · rw [drop_cons (show j < zs.length by omega), drop_cons h1]
    unfold slash2
    rw [stA_of (by omega), stA_of h1, ← key _ (hb j), ← key _ (hb (j + 1))]
    simp [List.isPrefixOf]
  · have e : slash2 zs j = false := by
      unfold slash2
      rw [stA_ge (i := j + 1) (by omega), Bool.and_false]
    rw [e]
    by_cases h2 : j < zs.length
    · rw [drop_cons h2, List.drop_eq_nil_of_le (by omega)]
      simp [List.isPrefixOf]
    · rw [List.drop_eq_nil_of_le (by omega)]
      rfl
theorem bytesIn_drop {w : World} {p : Option Addr} {zs : List Int} {n j : Nat} (hz : Bytes w p zs) (hn : zs.length = n) (_hj : j ≤ n) : Lib.BytesIn w (p.map (fun x => x.add j)) (n - j) (zs.drop j) := by
  intro h
  obtain ⟨b, off, rfl, _, hc⟩ := hz.2 (by rintro rfl; simp at hn; omega)
  refine ⟨b, off + j, ?_, fun i hi => ?_⟩
  · simp [add_plain]
  · rw [Nat.add_assoc, hc (j + i) (by omega)]
    simp [List.getD]
theorem two_cells (W : World) (G : Nat) (C : Array Value) (h : W.heap[G]? = some (.cells C 5 (2, 3))) (hC : C = #[.int .u8 47, .int .u8 47]) : Lib.BytesIn W (some ⟨G, 0, none⟩) 2 [47, 47] := by
  intro _
  refine ⟨G, 0, rfl, fun i hi => ?_⟩
  subst hC
  rw [cell_of_row W G (0 + i) _ 5 (2, 3) h]
  match i, hi with
  | 0, _ => rfl
  | 1, _ => rfl
set_option maxRecDepth 100000 in
theorem gap_any (p : Option Addr) (n cap i : Nat) (x : Int) (zs : List Int) (w : World) (hx : x = i) (hz : Bytes w p zs) (hn : zs.length = n) (hcap : n ≤ cap) (hl : n ≤ 281474976710656) (hi : i ≤ n) :
    Calls Tryz.prog 79 #[.slice p n cap, .int .i64 x] w fun e w' => e = .returned (.int .i64 (gap zs i : Nat)) ∧ Below w.heap.size w w' := by
  subst hx
  have HR := Lib.hid (fun j v k W hb hk hj => run_any p n cap j j zs v k W rfl (Bytes.below hz (Nat.le_refl _) hb) hn hk hl hj)
  have HN := Lib.hid hn
  have HZ := Lib.hid hz
  clear hz hn
  go_enter Tryz.func79, Tryz.ntmps79
  go_wp2_with fail
  refine (blank_any _).mono ?_
  rintro e W1 ⟨v1, rfl, hb1, hk1⟩
  have HK1 := Lib.hid hk1
  have HB1 := Lib.hid hb1
  clear hk1 hb1
  go_wp2_with fail
  refine (HR.out i v1 isBlank W1 HB1.out HK1.out hi).mono ?_
  rintro e W2 ⟨rfl, hb2⟩
  have HB2 := Lib.hid (HB1.out.trans (hb2.mono HB1.out.size))
  clear hb2 HB1 HK1
  have h0 := runTo_le zs isBlank i (by rw [HN.out]; exact hi)
  rw [HN.out] at h0
  have HG : Hid (gap zs i = gapF zs zs.length (runTo zs isBlank i)) := rfl
  generalize runTo zs isBlank i = j0 at h0 HG ⊢
  go_wp2
  go_loopw [1] (fun i' wr => Below w.heap.size w wr ∧ ∃ j : Nat, j ≤ n ∧ i' = .int .i64 j ∧ gap zs i = gapF zs zs.length j) (fun i' _ => n - (intOf i').toNat)
  case atStart => exact ⟨HB2.out, j0, h0, rfl, HG.out⟩
  case round =>
    clear HG HB2
    obtain ⟨hb, j, hj, rfl, hr⟩ := hrel
    have HB := Lib.hid hb
    have HJ := Lib.hid hr
    clear hb hr
    have kc := fun (w : World) (C : Array Value) (n c : Nat) => Lib.run_convert_bytes_const (P := Tryz.prog) w 22 5 C n c Tryz.underlying22 Tryz.underlying5
    have HX := Lib.hid (slash2_prefix zs HZ.out.1 j)
    have hnb := HN.out
    by_cases hc : cap = j
    · have ht : slash2 zs j = false := by
        unfold slash2
        rw [stA_ge (i := j) (by omega), Bool.false_and]
      have hjn : n ≤ j := by omega
      have HS := Lib.hid (gapF_stop zs.length ht)
      rw [ht] at HX
      clear ht hnb
      go_wp2_with fail
      refine (Tryz.bytes_HasPrefix_all p (some ⟨wr.heap.size, 0, none⟩) 0 0 2 2 (zs.drop j) [47, 47] _ (by have := HN.out; simp; omega) rfl (by omega) (Lib.BytesIn.nil _ p _) (two_cells _ _ _ (heap_alloc_new wr _) rfl)).mono ?_
      rintro e W3 ⟨rfl, rfl⟩
      rw [HX.out]
      go_wp2
      go_ret
      exact ⟨ret_int (by rw [HJ.out, HS.out]), HB.out.alloc HB.out.size _⟩
    · cases ht : slash2 zs j
      · have HS := Lib.hid (gapF_stop zs.length ht)
        rw [ht] at HX
        clear ht hnb
        go_wp2_with fail
        refine (Tryz.bytes_HasPrefix_all _ (some ⟨wr.heap.size, 0, none⟩) (n - j) (cap - j) 2 2 (zs.drop j) [47, 47] _ (by have := HN.out; simp; omega) rfl (by omega) (bytesIn_drop (HZ.out.below (Nat.le_refl _) (HB.out.alloc HB.out.size _)) HN.out hj) (two_cells _ _ _ (heap_alloc_new wr _) rfl)).mono ?_
        rintro e W3 ⟨rfl, rfl⟩
        rw [HX.out]
        go_wp2
        go_ret
        exact ⟨ret_int (by rw [HJ.out, HS.out]), HB.out.alloc HB.out.size _⟩
      · have hlt := slash2_lt ht
        have hgr := remark_grows ht
        have hr1 := runTo_le zs notLf j (by omega)
        have hr2 := runTo_le zs isBlank (runTo zs notLf j) hr1
        have HS := Lib.hid (gapF_step ht)
        rw [hnb] at hr1 hr2
        rw [ht] at HX
        clear ht hnb hlt
        go_wp2_with fail
        refine (Tryz.bytes_HasPrefix_all _ (some ⟨wr.heap.size, 0, none⟩) (n - j) (cap - j) 2 2 (zs.drop j) [47, 47] _ (by have := HN.out; simp; omega) rfl (by omega) (bytesIn_drop (HZ.out.below (Nat.le_refl _) (HB.out.alloc HB.out.size _)) HN.out hj) (two_cells _ _ _ (heap_alloc_new wr _) rfl)).mono ?_
        rintro e W3 ⟨rfl, hw⟩
        have HB3 : Hid (Below w.heap.size w W3) := by rw [hw]; exact HB.out.alloc HB.out.size _
        clear hw
        rw [HX.out]
        go_wp2_with fail
        refine (among_any ⟨#[10]⟩ _).mono ?_
        rintro e W4 ⟨v4, rfl, hb4, hk4⟩
        have HK4 := Lib.hid hk4
        have HB4 := Lib.hid (HB3.out.trans (hb4.mono HB3.out.size))
        clear hk4 hb4
        go_wp2_with fail
        refine (but_any v4 _ _ HK4.out).mono ?_
        rintro e W5 ⟨v5, rfl, hb5, hk5⟩
        have HK5 : Hid (KindV W5 v5 notLf) := hk5.congr fun c _ _ => by simp [amg, bts, notLf]
        have HB5 := Lib.hid (HB4.out.trans (hb5.mono HB4.out.size))
        clear hk5 hb5
        go_wp2_with fail
        refine (HR.out j v5 notLf W5 HB5.out HK5.out hj).mono ?_
        rintro e W6 ⟨rfl, hb6⟩
        have HB6 := Lib.hid (HB5.out.trans (hb6.mono HB5.out.size))
        clear hb6
        generalize runTo zs notLf j = j2 at hr1 hr2 hgr HS ⊢
        go_wp2_with fail
        refine (blank_any _).mono ?_
        rintro e W7 ⟨v7, rfl, hb7, hk7⟩
        have HK7 := Lib.hid hk7
        have HB7 := Lib.hid (HB6.out.trans (hb7.mono HB6.out.size))
        clear hk7 hb7
        go_wp2_with fail
        refine (HR.out j2 v7 isBlank W7 HB7.out HK7.out hr1).mono ?_
        rintro e W8 ⟨rfl, hb8⟩
        have HB8 := Lib.hid (HB7.out.trans (hb8.mono HB7.out.size))
        clear hb8
        generalize runTo zs isBlank j2 = j3 at hr2 hgr HS ⊢
        go_wp2
        go_roundw
        case rel => exact ⟨HB8.out, j3, hr2, rfl, by rw [HJ.out, HS.out]⟩
        case measure => simp [intOf]; omega
end Go.Proofs.YtdlfndjgncdgfaaGreatDoor
namespace Go.Proofs.YtdlfndjgncdgfaaGreatDoor
open Go.ChangeShapes Go.WideShapes Go.ChangeAt Go.RowKit Go.Shelf

section
variable {P : Program} (w : World)
theorem run_append_cut (base : Nat) (t ty e : TypeId) (i : TypeInfo) (z : Value) (size bytes : Nat) (ht : P.underlying t = some (.slice e)) (hi : P.info? e = some i) (hz : i.zero = some z)
    (hsize : i.size = size) (hby : i.bytes = bytes) (hzs : z.cells.size = size)
    (g n cap : Nat) (xs : List Value) (hown : w.ownsRow base e size (.slice (some ⟨g, 0, none⟩) n cap) n xs)
    (a : Addr) (m c : Nat) (news : List Value) (hm : 0 < m) (hl : news.length = m * size) (hnews : ∀ j u, news[j]? = some u → w.cell? (a.add j) = some u)
    (h63 : n + m ≤ maxLen) (hbytes : (n + m) * bytes ≤ 140737488355328) (hbase : base ≤ w.heap.size) :
    ∃ v' w', (Builtin.append_ #[t, t] ty #[.slice (some ⟨g, 0, none⟩) n n, .slice (some a) m c]).run P w = .ok v' w' ∧ w'.ownsRow base e size v' (n + m) (xs ++ news) ∧ w.grownBy w' none := by
  subst hsize
  subst hby
  have hlen : (xs ++ news).length = (n + m) * i.size := by rw [List.length_append, hown.1, hl, Nat.add_mul]
  have hge := grownCap_ge w (n + m) n e
  have hcm : grownCap w (n + m) n e ≤ maxLen := grownCap_le_maxLen w (n + m) n e h63
  have holds : ∀ j u, xs[j]? = some u → w.cell? ((⟨g, 0, none⟩ : Addr).add j) = some u := hown.cells (g := g) rfl
  have hsmall : n + m ≤ 9223372036854775807 := by simp only [maxLen] at h63; omega
  have hr := run_append_grow (P := P) w t ty e i z ht hi hz ⟨g, 0, none⟩ n n xs hown.1 holds a m c news hl hnews (by omega) (by omega) (growslice_fits (by omega) hbytes)
  refine ⟨_, _, hr, ⟨hlen, .inr ⟨w.heap.size, _, _, rfl, hbase, heap_alloc_new w.drew _, hge, hcm, ?_, ?_⟩⟩, ⟨rfl, rfl, rfl, by simp, fun k hk _ => Below.heap_alloc w.drew _ k hk⟩⟩
  · simp only [Array.size_append, List.size_toArray, size_zeroCells, hzs, hown.1, hl, ← Nat.add_mul]
    congr 1
    omega
  · simp only [Array.toList_append, List.append_assoc]
    rw [← List.append_assoc, ← hlen]
    exact List.take_left
theorem wp_append_run {o : Oper} {a : Act} {K : Act → World → Prop} {Q : Exit → Act → World → Prop} (s x : Operand) (t : TypeId)
    (ho : o.op = .call { callee := .builtin .append, args := #[s, x], argTypes := #[t, t] }) (v y v' : Value) (w' : World) (hs : a.eval s = v) (hx : a.eval x = y) (hr : (Builtin.append_ #[t, t] o.type #[v, y]).run P w = .ok v' w') (h : K (a.put o.dst v') w') : o.wp P a w K Q := by
  unfold Oper.wp execOp
  simp only [ho, resolve, invoke, builtin, Sem.run_bind, Sem.run_pure, Result.andThen_ok, List.map_toArray, List.map_cons, List.map_nil, hs, hx, hr]
  exact h
end
end Go.Proofs.YtdlfndjgncdgfaaGreatDoor
namespace Go.Proofs.YtdlfndjgncdgfaaGreatDoor
open Go.ChangeShapes Go.WideShapes Go.ChangeAt Go.RowKit Go.Shelf

section
variable {P : Program} {ops : Array Oper} {Q : Exit → Act → World → Prop} {md : Region.Mode} {s : Nat} {U V : World → Prop}
def Till (s : Nat) (U V : World → Prop) (listed : Array Bool) (w : World) : Prop := U w ∧ (listed.getD s true = false → V w)
def wpTill (P : Program) (md : Region.Mode) (ops : Array Oper) (Q : Exit → Act → World → Prop) (s : Nat) (U V : World → Prop) (fuel : Nat) : Array Bool → Act → World → Prop :=
  Nat.rec (fun l a w => Region.ready md ops l = [] ∧ Q .normal a w) (fun _ next l a w => (Region.ready md ops l = [] → Q .normal a w) ∧ ∀ i, i ∈ Region.ready md ops l → wpOp P ops Q i (fun b v => Till s U V (l.setIfInBounds i true) v ∧ next (l.setIfInBounds i true) b v) a w) fuel
theorem till_any (n : Nat) : ∀ (l : Array Bool) (a : Act) (w : World), wpTill P md ops Q s U V n l a w → wpAny P md ops Q n l a w := by
  induction n with
  | zero => exact fun _ _ _ h => h
  | succ n ih => exact fun l a w h => ⟨h.1, fun i hi => wpOp_mono (fun b v k => ih _ b v k.2) (h.2 i hi)⟩
def waitsFor (md : Region.Mode) (ops : Array Oper) (s i : Nat) : Bool :=
  match ops[s]? with
  | some o => o.after.any (fun e => Region.binds md e && e.on == i) && !(i == s)
  | none => false
theorem waits_spec {i : Nat} (h : waitsFor md ops s i = true) : i ≠ s ∧ ∃ o, ops[s]? = some o ∧ ∃ e ∈ o.after, Region.binds md e = true ∧ e.on = i := by
  unfold waitsFor at h
  split at h
  · rename_i o ho
    simp only [Bool.and_eq_true, Array.any_eq_true', Bool.not_eq_true', beq_eq_false_iff_ne, beq_iff_eq] at h
    obtain ⟨⟨e, he, hb, hi⟩, hne⟩ := h
    exact ⟨hne, o, ho, e, he, hb, hi⟩
  · cases h
theorem till_first {i : Nat} {oi : Oper} {v : Value} (hi : ops[i]? = some oi) (hw : waitsFor md ops s i = true) (hsel : ∀ (j : Nat) (o : Oper) c b, ops[j]? = some o → o.op ≠ .select c b) (hQ : ∀ p b u, Q (.panic p) (b.put oi.dst v) u → Q (.panic p) b u) (n : Nat) :
    ∀ (l : Array Bool) (a : Act) (w : World), (∀ j oj, ops[j]? = some oj → j ≠ i → l.getD j true = false → (∀ e ∈ oj.after, Region.binds md e = true → e.on ≠ i) → oi.apart ops oj = true) → i ∈ Region.ready md ops l → l.getD s true = false →
      YieldsIf P ops (fun u => U u ∧ V u) oi v a → U w → V w → wpTill P md ops Q s U V n (l.setIfInBounds i true) (a.put oi.dst v) w → wpTill P md ops Q s U V (n + 1) l a w := by
  obtain ⟨his, os, hos, e0, he0, hb0, hi0⟩ := waits_spec hw
  have main : ∀ (l : Array Bool) (a : Act) (w : World), i ∈ Region.ready md ops l → YieldsIf P ops (fun u => U u ∧ V u) oi v a → U w → V w → (n' : Nat) → wpTill P md ops Q s U V n' (l.setIfInBounds i true) (a.put oi.dst v) w →
      wpOp P ops Q i (fun b u => Till s U V (l.setIfInBounds i true) u ∧ wpTill P md ops Q s U V n' (l.setIfInBounds i true) b u) a w := fun l a w _ hy hU hV _ H => hy.wpOp hi ⟨hU, hV⟩ ⟨⟨hU, fun _ => hV⟩, H⟩
  induction n with
  | zero =>
    intro l a w _ hr _ hy hU hV H
    refine ⟨fun h0 => (by rw [h0] at hr; cases hr), fun j hj => ?_⟩
    rcases Nat.decEq j i with hne | rfl
    · have h1 := ready_mono hj hne
      rw [H.1] at h1
      cases h1
    · exact main l a w hr hy hU hV 0 H
  | succ n ih =>
    intro l a w hfree hr hl hy hU hV H
    refine ⟨fun h0 => (by rw [h0] at hr; cases hr), fun j hj => ?_⟩
    rcases Nat.decEq j i with hne | rfl
    · obtain ⟨hun, oj, hoj, hdone⟩ := mem_ready.1 hj
      have hoff := (mem_ready.1 hr).1
      have hno : ∀ e ∈ oj.after, Region.binds md e = true → e.on ≠ i := by
        rintro e he hb rfl
        have h1 := hdone e he hb
        rcases Nat.lt_or_ge e.on l.size with hlt | hge
        · simp [hlt] at h1 hoff
          rw [hoff] at h1
          cases h1
        · simp [Array.getElem?_eq_none hge] at h1
      have hjs : j ≠ s := by
        rintro rfl
        rw [hos] at hoj
        injection hoj with hoj
        subst hoj
        exact hno e0 he0 hb0 hi0
      have hkept : ((l.setIfInBounds i true).setIfInBounds j true).getD s true = false := by rw [getD_set_ne true hjs, getD_set_ne true his]; exact hl
      refine wpOp_mono (fun b u k => ?_) (wpOp_putIf (S := fun u => U u ∧ V u) hoj (hfree j oj hoj hne hun hno) (fun c b => hsel i oi c b hi) (fun c b => hsel j oj c b hoj) hQ hy (H.2 j (ready_mono hj hne)))
      obtain ⟨hy', ⟨hU', hV'⟩, hrest⟩ := k
      refine ⟨⟨hU', fun _ => hV' hkept⟩, ih (l.setIfInBounds j true) b u (fun m om hm hmi hmun hmno => hfree m om hm hmi ?_ hmno) (ready_mono hr (Ne.symm hne)) (by rw [getD_set_ne true hjs]; exact hl) hy' hU' (hV' hkept) ?_⟩
      · rcases Nat.decEq j m with hjm | rfl
        · rwa [getD_set_ne true hjm] at hmun
        · exact hun
      · rw [Array.setIfInBounds_comm _ _ hne]
        exact hrest
    · exact main l a w hr hy hU hV (n + 1) H
theorem till_take {i : Nat} {oi : Oper} {v : Value} {n : Nat} {l : Array Bool} {a : Act} {w : World} (hi : ops[i]? = some oi) (hs : Region.noSelect ops = true) (hf : Region.free md ops l i = true) (hr : (Region.ready md ops l).contains i = true) (hw : waitsFor md ops s i = true) (hl : l.getD s true = false)
    (hQ : ∀ p b u, Q (.panic p) (b.put oi.dst v) u → Q (.panic p) b u) (hy : YieldsIf P ops (fun u => U u ∧ V u) oi v a) (hU : U w) (hV : V w) (h : wpTill P md ops Q s U V n (l.setIfInBounds i true) (a.put oi.dst v) w) : wpTill P md ops Q s U V (n + 1) l a w :=
  till_first hi hw (Region.noSelect_spec hs) hQ n l a w (Region.free_spec hi hf) (by simpa using hr) hl hy hU hV h
theorem till_one {i : Nat} {o : Oper} {n : Nat} {l : Array Bool} {a : Act} {w : World} (hr : Region.ready md ops l = [i]) (ho : ops[i]? = some o)
    (h : ∀ K : Act → World → Prop, Hid (∀ b u, U u → V u → wpTill P md ops Q s U V n (l.setIfInBounds i true) b u → K b u) → if Region.wanted o (yielded ops a.tmps) = true then Oper.wp P o a w K Q else K (a.put o.dst undef) w) : wpTill P md ops Q s U V (n + 1) l a w := by
  refine ⟨fun h0 => (by rw [hr] at h0; cases h0), fun j hj => ?_⟩
  rw [hr] at hj
  obtain rfl := List.mem_singleton.1 hj
  have k := h (fun b u => Till s U V (l.setIfInBounds j true) u ∧ wpTill P md ops Q s U V n (l.setIfInBounds j true) b u) (Lib.hid fun b u hU hV hh => ⟨⟨hU, fun _ => hV⟩, hh⟩)
  unfold wpOp
  simp only [ho]
  by_cases hw : Region.wanted o (yielded ops a.tmps) = true
  · rw [if_pos hw] at k ⊢
    exact .inl k
  · rw [if_neg hw] at k ⊢
    exact k
theorem till_last {o : Oper} {n : Nat} {l : Array Bool} {a : Act} {w : World} (hr : Region.ready md ops l = [s]) (ho : ops[s]? = some o)
    (h : ∀ K : Act → World → Prop, Hid (∀ b u, U u → wpTill P md ops Q s U V n (l.setIfInBounds s true) b u → K b u) → if Region.wanted o (yielded ops a.tmps) = true then Oper.wp P o a w K Q else K (a.put o.dst undef) w) : wpTill P md ops Q s U V (n + 1) l a w := by
  have hset : (l.setIfInBounds s true).getD s true = true := by
    rcases Nat.lt_or_ge s l.size with hlt | hge
    · simp [hlt]
    · simp [Array.getElem?_eq_none (show (l.setIfInBounds s true).size ≤ s by simpa using hge)]
  refine ⟨fun h0 => (by rw [hr] at h0; cases h0), fun j hj => ?_⟩
  rw [hr] at hj
  obtain rfl := List.mem_singleton.1 hj
  have k := h (fun b u => Till j U V (l.setIfInBounds j true) u ∧ wpTill P md ops Q j U V n (l.setIfInBounds j true) b u) (Lib.hid fun b u hU hh => ⟨⟨hU, fun h1 => by rw [hset] at h1; cases h1⟩, hh⟩)
  unfold wpOp
  simp only [ho]
  by_cases hw : Region.wanted o (yielded ops a.tmps) = true
  · rw [if_pos hw] at k ⊢
    exact .inl k
  · rw [if_neg hw] at k ⊢
    exact k
theorem till_done {l : Array Bool} {a : Act} {w : World} (hr : Region.ready md ops l = []) (h : Q .normal a w) (n : Nat) : wpTill P md ops Q s U V n l a w := by
  cases n with
  | zero => exact ⟨hr, h⟩
  | succ n => exact ⟨fun _ => h, fun i hi => by rw [hr] at hi; cases hi⟩
theorem till_start {id : Nat} {a : Act} {w : World} (s : Nat) (U V : World → Prop) (hm : P.follows .mixedOrders = true) (h : wpTill P .any ops Q s U V ops.size (Array.replicate ops.size false) a w.drew) : (Code.region id ops true).wp P Q a w :=
  wp_region_any hm (till_any _ _ _ _ h)
end
end Go.Proofs.YtdlfndjgncdgfaaGreatDoor
