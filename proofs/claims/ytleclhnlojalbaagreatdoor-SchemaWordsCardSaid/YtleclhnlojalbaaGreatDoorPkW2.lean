/-
  Schemas, and what the hand makes of a plan: plain; how both lie in memory. No run of the program stands in this text. Conditions: those that each theorem names.
-/
import Derived.Test.YtleclhnlojalbaaGreatDoorPkW1
import Derived.Lib.ConvBytes
import Derived.Lib.AtoiErrMem
import Derived.Laws.EntriesVeiled
import Derived.Shelf.Abstract
import Derived.Test.YtleclhnlojalbaaGreatDoorRows
import Derived.WalkKit
import Derived.ProofKit
import Derived.OpenShut
import Derived.ShutString
import Derived.ChangeOld
import Derived.Below
import Derived.WalkLawsBesides
import Derived.WalkSpells
import Derived.Lib.Hide
import Derived.Outline
import Derived.Handy
namespace Go.Proofs.YtleclhnlojalbaaGreatDoor
open Go.ChangeShapes Go.WideShapes Go.ChangeAt Go.RowKit Go.Shelf

def bts (s : ByteArray) : List Int := s.data.toList.map fun b => (b.toNat : Int)
def amg (s : ByteArray) (c : Int) : Bool := decide (c ∈ bts s)
theorem bts_length (s : ByteArray) : (bts s).length = s.size := by simp [bts]
theorem bts_bd (s : ByteArray) : ∀ i, 0 ≤ (bts s).getD i 0 ∧ (bts s).getD i 0 ≤ 255 := by
  intro i
  by_cases hi : i < s.size
  · have hi' : i < s.data.toList.length := by simpa using hi
    have h : (bts s).getD i 0 = (s.data.toList[i].toNat : Int) := by
      simp [bts, List.getD, List.getElem?_map, List.getElem?_eq_getElem hi']
    have := s.data.toList[i].toNat_lt
    rw [h]
    omega
  · have : (bts s).getD i 0 = 0 := by
      rw [List.getD, List.getElem?_eq_none (by rw [bts_length]; omega)]
      rfl
    rw [this]
    omega
theorem indexByte_mem (l : List UInt8) (c : UInt8) : (0 ≤ Lib.indexByte l c) = (c ∈ l) := by
  induction l with
  | nil => simp [Lib.indexByte]
  | cons a r ih =>
    simp only [Lib.indexByte]
    by_cases h : a = c
    · subst h
      simp
    · have hb : (a == c) = false := by simpa using h
      rw [hb]
      simp only [Bool.false_eq_true, if_false, List.mem_cons, show (c = a) = False from by simp; exact fun e => h e.symm, false_or]
      rw [← ih]
      by_cases h1 : Lib.indexByte r c = -1
      · simp [h1]
      · have hb1 : (Lib.indexByte r c == -1) = false := by simpa using h1
        have := Lib.indexByte_ge r c
        rw [hb1]
        simp only [Bool.false_eq_true, if_false, eq_iff_iff]
        omega
theorem amg_index (s : ByteArray) (c : Int) (h0 : 0 ≤ c) (h1 : c ≤ 255) : decide (0 ≤ Lib.indexByte s.data.toList c.toNat.toUInt8) = amg s c := by
  unfold amg
  rw [decide_eq_decide, indexByte_mem]
  unfold bts
  rw [List.mem_map]
  constructor
  · intro h
    refine ⟨_, h, ?_⟩
    simp
    omega
  · rintro ⟨b, hb, rfl⟩
    simpa using hb
theorem among1 (W : World) (B : Nat) (s : ByteArray) (c : Int) (hc0 : 0 ≤ c) (hc1 : c ≤ 255) (hB : W.cell? ⟨B, 0, none⟩ = some (.string s)) :
    Calls Tryz.prog 122 #[.int .u8 c, .pointer (some ⟨B, 0, none⟩)] W fun e w' => e = .returned (.bool (amg s c)) ∧ Below W.heap.size W w' := by
  have H := Lib.hid (Tryz.strings_IndexByte s c)
  have E := Lib.hid (amg_index s c hc0 hc1)
  generalize amg s c = x at E ⊢
  generalize Lib.indexByte s.data.toList c.toNat.toUInt8 = y at E H
  go_enter Tryz.func122, Tryz.ntmps122
  go_wp2_with fail
  refine (H.out _).mono ?_
  rintro e W1 ⟨rfl, rfl⟩
  go_wp2
  go_ret
  exact ⟨ret_bool E.out, Below.refl _ _⟩
theorem among_any (s : ByteArray) (w : World) :
    Calls Tryz.prog 93 #[.string s] w fun e w' => ∃ v, e = .returned v ∧ Below w.heap.size w w' ∧ KindV w' v (amg s) := by
  go_enter Tryz.func93, Tryz.ntmps93
  go_wp2
  go_ret
  refine ⟨_, rfl, (Below.refl _ _).alloc (Nat.le_refl _) _, _, _, rfl, enters_of Tryz.func122 (by kernel_rfl) rfl, fun W c h0 h1 hb => ?_⟩
  have hk : W.cell? ⟨w.heap.size, 0, none⟩ = _ := hb.cell (p := ⟨w.heap.size, 0, none⟩) (by simp)
  refine among1 W _ s c h0 h1 (hk.trans ?_)
  simp [go_sem]
theorem KindV.congr {w : World} {v : Value} {p q : Int → Bool} (h : KindV w v p) (hpq : ∀ c, 0 ≤ c → c ≤ 255 → p c = q c) : KindV w v q := by
  obtain ⟨g, lb, rfl, h⟩ := h
  exact ⟨g, lb, rfl, h.congr hpq⟩
theorem KindV.later {w W : World} {v : Value} {p : Int → Bool} (h : KindV w v p) (hb : Below w.heap.size w W) : KindV W v p := by
  obtain ⟨g, lb, rfl, h⟩ := h
  exact ⟨g, lb, rfl, h.later hb⟩
theorem blank_any (w : World) : Calls Tryz.prog 111 #[] w fun e w' => ∃ v, e = .returned v ∧ Below w.heap.size w w' ∧ KindV w' v isBlank := by
  have H := Lib.hid (among_any ⟨#[32, 9, 10, 13]⟩)
  go_enter Tryz.func111, Tryz.ntmps111
  go_wp2_with fail
  refine (H.out _).mono ?_
  rintro e W1 ⟨v, rfl, hb, hk⟩
  have HK := Lib.hid hk
  have HB := Lib.hid hb
  clear hk hb
  go_wp2
  go_ret
  exact ⟨_, rfl, HB.out, HK.out.congr fun c _ _ => by simp [amg, bts, isBlank]⟩
theorem minus_any (w : World) : Calls Tryz.prog 142 #[] w fun e w' => ∃ v, e = .returned v ∧ Below w.heap.size w w' ∧ KindV w' v (isC 45) := by
  have H := Lib.hid (among_any ⟨#[45]⟩)
  go_enter Tryz.func142, Tryz.ntmps142
  go_wp2_with fail
  refine (H.out _).mono ?_
  rintro e W1 ⟨v, rfl, hb, hk⟩
  have HK := Lib.hid hk
  have HB := Lib.hid hb
  clear hk hb
  go_wp2
  go_ret
  exact ⟨_, rfl, HB.out, HK.out.congr fun c _ _ => by simp [amg, bts, isC]⟩
theorem quote_any (w : World) : Calls Tryz.prog 120 #[] w fun e w' => ∃ v, e = .returned v ∧ Below w.heap.size w w' ∧ KindV w' v (isC 34) := by
  have H := Lib.hid (among_any ⟨#[34]⟩)
  go_enter Tryz.func120, Tryz.ntmps120
  go_wp2_with fail
  refine (H.out _).mono ?_
  rintro e W1 ⟨v, rfl, hb, hk⟩
  have HK := Lib.hid hk
  have HB := Lib.hid hb
  clear hk hb
  go_wp2
  go_ret
  exact ⟨_, rfl, HB.out, HK.out.congr fun c _ _ => by simp [amg, bts, isC]⟩
theorem digit_any (w : World) : Calls Tryz.prog 117 #[] w fun e w' => ∃ v, e = .returned v ∧ Below w.heap.size w w' ∧ KindV w' v isDig := by
  have H := Lib.hid (between_any 48 57)
  go_enter Tryz.func117, Tryz.ntmps117
  go_wp2_with fail
  refine (H.out _).mono ?_
  rintro e W1 ⟨v, rfl, hb, hk⟩
  have HK := Lib.hid hk
  have HB := Lib.hid hb
  clear hk hb
  go_wp2
  go_ret
  exact ⟨_, rfl, HB.out, HK.out.congr fun c _ _ => rfl⟩
theorem letter_any (w : World) : Calls Tryz.prog 115 #[] w fun e w' => ∃ v, e = .returned v ∧ Below w.heap.size w w' ∧ KindV w' v isLet := by
  go_enter Tryz.func115, Tryz.ntmps115
  go_wp2_with fail
  refine (among_any ⟨#[95]⟩ _).mono ?_
  rintro e W1 ⟨v1, rfl, hb1, hk1⟩
  have HK1 := Lib.hid hk1
  have HB1 := Lib.hid hb1
  clear hk1 hb1
  go_wp2_with fail
  refine (between_any 97 122 _).mono ?_
  rintro e W2 ⟨v2, rfl, hb2, hk2⟩
  have HK2 := Lib.hid hk2
  have HB2 := Lib.hid hb2
  clear hk2 hb2
  go_wp2_with fail
  refine (between_any 65 90 _).mono ?_
  rintro e W3 ⟨v3, rfl, hb3, hk3⟩
  have HK3 := Lib.hid hk3
  have HB3 := Lib.hid hb3
  clear hk3 hb3
  go_wp2_with fail
  refine (either_any v2 v3 _ _ _ (HK2.out.later HB3.out) HK3.out).mono ?_
  rintro e W4 ⟨v4, rfl, hb4, hk4⟩
  have HK4 := Lib.hid hk4
  have HB4 := Lib.hid hb4
  clear hk4 hb4
  go_wp2_with fail
  refine (either_any v1 v4 _ _ _ ((HK1.out.later HB2.out).later (HB3.out.trans (HB4.out.mono HB3.out.size))) HK4.out).mono ?_
  rintro e W5 ⟨v5, rfl, hb5, hk5⟩
  have HK5 := Lib.hid hk5
  have HB5 := Lib.hid hb5
  clear hk5 hb5
  go_wp2
  go_ret
  refine ⟨_, rfl, ?_, HK5.out.congr fun c _ _ => ?_⟩
  · have h4 := HB4.out.trans (HB5.out.mono HB4.out.size)
    have h3 := HB3.out.trans (h4.mono HB3.out.size)
    have h2 := HB2.out.trans (h3.mono HB2.out.size)
    exact HB1.out.trans (h2.mono HB1.out.size)
  · simp [amg, bts, isLet, betw]
theorem plain_any (w : World) : Calls Tryz.prog 143 #[] w fun e w' => ∃ v, e = .returned v ∧ Below w.heap.size w w' ∧ KindV w' v isPlain := by
  go_enter Tryz.func143, Tryz.ntmps143
  go_wp2_with fail
  refine (among_any ⟨#[34, 92, 127]⟩ _).mono ?_
  rintro e W1 ⟨v1, rfl, hb1, hk1⟩
  have HK1 := Lib.hid hk1
  have HB1 := Lib.hid hb1
  clear hk1 hb1
  go_wp2_with fail
  refine (between_any 0 31 _).mono ?_
  rintro e W2 ⟨v2, rfl, hb2, hk2⟩
  have HK2 := Lib.hid hk2
  have HB2 := Lib.hid hb2
  clear hk2 hb2
  go_wp2_with fail
  refine (either_any v1 v2 _ _ _ (HK1.out.later HB2.out) HK2.out).mono ?_
  rintro e W4 ⟨v4, rfl, hb4, hk4⟩
  have HK4 := Lib.hid hk4
  have HB4 := Lib.hid hb4
  clear hk4 hb4
  go_wp2_with fail
  refine (but_any v4 _ _ HK4.out).mono ?_
  rintro e W5 ⟨v5, rfl, hb5, hk5⟩
  have HK5 := Lib.hid hk5
  have HB5 := Lib.hid hb5
  clear hk5 hb5
  go_wp2
  go_ret
  refine ⟨_, rfl, ?_, HK5.out.congr fun c _ _ => ?_⟩
  · have h4 := HB4.out.trans (HB5.out.mono HB4.out.size)
    have h2 := HB2.out.trans (h4.mono HB2.out.size)
    exact HB1.out.trans (h2.mono HB1.out.size)
  · unfold isPlain
    rw [Bool.eq_iff_iff]
    simp [amg, bts, betw]
    omega
end Go.Proofs.YtleclhnlojalbaaGreatDoor
namespace Go.Proofs.YtleclhnlojalbaaGreatDoor
open Go.ChangeShapes Go.WideShapes Go.ChangeAt Go.RowKit Go.Shelf

def tokCells (t : Tok) : List Value := [.int .i64 t.kind, .string (strOfNums t.text), .int .i64 t.place]
def toksCells (l : List Tok) : List Value := l.flatMap tokCells
def OwnT (w : World) (base : Nat) (v : Value) (l : List Tok) : Prop := w.ownsRow base 109 3 v l.length (toksCells l)
theorem toksCells_length (l : List Tok) : (toksCells l).length = l.length * 3 := by
  induction l with
  | nil => rfl
  | cons a r ih =>
    have e : toksCells (a :: r) = tokCells a ++ toksCells r := rfl
    rw [e, List.length_append, ih, List.length_cons]
    simp [tokCells]
    omega
theorem toksCells_snoc (l : List Tok) (t : Tok) : toksCells (l ++ [t]) = toksCells l ++ tokCells t := by
  simp [toksCells]
theorem ownT_nil (w : World) (base : Nat) : OwnT w base (.slice none 0 0) [] := World.ownsRow_nil w base _ _
theorem tok_info : (Tryz.prog.info? 109).map (fun i => (i.zero, i.size, i.bytes)) = some (some (.agg #[.int .i64 0, .string ⟨#[]⟩, .int .i64 0]), 3, 32) := by kernel_rfl
def lenOf : Value → Nat
  | .slice _ n _ => n
  | _ => 0
theorem OwnT.form {w : World} {base : Nat} {v : Value} {l : List Tok} (h : OwnT w base v l) : ∃ a c, v = .slice a l.length c := by
  rcases h.2 with ⟨rfl, h0⟩ | ⟨g, cap, _, rfl, _⟩
  · rw [h0]
    exact ⟨_, _, rfl⟩
  · exact ⟨_, _, rfl⟩
theorem OwnT.below {w w' : World} {base B : Nat} {v : Value} {l : List Tok} (h : OwnT w base v l) (hb : Below B w w') (hB : w.heap.size ≤ B) : OwnT w' base v l := by
  obtain ⟨hl, h'⟩ := h
  refine ⟨hl, ?_⟩
  rcases h' with h1 | ⟨g', cap', cur, hv, h1, hg, h2⟩
  · exact .inl h1
  · have hlt : g' < w.heap.size := by
      rcases Nat.lt_or_ge g' w.heap.size with h | h
      · exact h
      · rw [Array.getElem?_eq_none h] at hg; cases hg
    exact .inr ⟨g', cap', cur, hv, h1, (hb.block g' (by omega)).trans hg, h2⟩
theorem OwnT.base_le {w : World} {base base' : Nat} {v : Value} {l : List Tok} (h : OwnT w base v l) (hb : base' ≤ base) : OwnT w base' v l :=
  ⟨h.1, h.2.elim Or.inl (fun ⟨g, cap, cur, hv, hg, r⟩ => Or.inr ⟨g, cap, cur, hv, Nat.le_trans hb hg, r⟩)⟩
theorem tokCells_new (W : World) (t : Tok) (g : Nat) (hg : g = W.heap.size) : ∀ j u, (tokCells t)[j]? = some u → (W.alloc (.cells #[.int .i64 t.kind, .string (strOfNums t.text), .int .i64 t.place] 109)).cell? ((⟨g, 0, none⟩ : Addr).add j) = some u := by
  intro j u hu
  subst hg
  rw [add_plain, Nat.zero_add, cell_of_row _ _ _ _ _ (0, 0) (heap_alloc_new W _)]
  simpa [tokCells] using hu
theorem tokCells_one (t : Tok) : ∀ u ∈ tokCells t, u.oneCell' = true := by
  intro u hu
  simp [tokCells] at hu
  rcases hu with rfl | rfl | rfl <;> rfl
theorem OwnT.lt {w : World} {base : Nat} {v : Value} {l : List Tok} (h : OwnT w base v l) : ∀ k, v.ownBlock = some k → base ≤ k ∧ k < w.heap.size := by
  intro k hk
  rcases h.2 with ⟨rfl, _⟩ | ⟨g, cap, cur, rfl, hb, hg, _⟩
  · simp [Value.ownBlock] at hk
  · simp [Value.ownBlock] at hk
    subst hk
    refine ⟨hb, ?_⟩
    rcases Nat.lt_or_ge g w.heap.size with h' | h'
    · exact h'
    · rw [Array.getElem?_eq_none h'] at hg; cases hg
theorem OwnT.snoc {w : World} {base : Nat} {v : Value} {l : List Tok} {t : Tok} (h : w.ownsRow base 109 3 v (l.length + 1) (toksCells l ++ tokCells t)) : OwnT w base v (l ++ [t]) := by
  unfold OwnT
  rw [toksCells_snoc, List.length_append, List.length_singleton]
  exact h
theorem grown_new {W0 W3 W4 : World} {v x y z : Value} {l : List Tok} {o : Obj} (hO : OwnT W3 W0.heap.size v l) (hb : Below W0.heap.size W0 W3) (hg : ((W3.alloc (.cells #[x, y, z] 109)).alloc o).grownBy W4 v.ownBlock) :
    W4.cell? ⟨W3.heap.size, 0, none⟩ = some x ∧ Below W0.heap.size W0 W4 := by
  have hs := hb.size
  constructor
  · rw [World.cell?_of_block (a := ⟨W3.heap.size, 0, none⟩) (hg.block W3.heap.size (by simp; omega) (fun e => by have := hO.lt _ e.symm; omega))]
    rw [World.cell?_alloc_lt _ _ _ (by simp)]
    rw [cell_of_row _ _ _ _ _ (0, 0) (heap_alloc_new W3 _)]
    rfl
  · exact (((hb.alloc hs _).alloc (by simp; omega) _)).grown hg (by simp; omega) (fun k hk => (hO.lt k hk).1)
theorem OwnT.setFar {w : World} {base : Nat} {v : Value} {l : List Tok} (h : OwnT w base v l) {p : Addr} (hp : p.block < base) (x : Value) : OwnT (w.setCell p x) base v l := by
  obtain ⟨hl, h'⟩ := h
  refine ⟨hl, ?_⟩
  rcases h' with h1 | ⟨g', cap', cur, hv, h1, hg, h2⟩
  · exact .inl h1
  · exact .inr ⟨g', cap', cur, hv, h1, (Below.heap_setCell w p x g' (by omega)).trans hg, h2⟩
theorem OwnT.cells {w : World} {base : Nat} {v : Value} {l : List Tok} (h : OwnT w base v l) (hne : l ≠ []) :
    ∃ g c, v = .slice (some ⟨g, 0, none⟩) l.length c ∧ l.length ≤ c ∧ base ≤ g ∧ g < w.heap.size ∧ ∀ k, k < l.length * 3 → w.cell? ⟨g, k, none⟩ = (toksCells l)[k]? := by
  obtain ⟨hl, h'⟩ := h
  rcases h' with ⟨_, h0⟩ | ⟨g, cap, cur, rfl, hb, hg, hn, hm, hs, ht⟩
  · exact absurd (List.eq_nil_of_length_eq_zero h0) hne
  · have hlt : g < w.heap.size := by
      rcases Nat.lt_or_ge g w.heap.size with h | h
      · exact h
      · rw [Array.getElem?_eq_none h] at hg; cases hg
    refine ⟨g, cap, rfl, hn, hb, hlt, fun k hk => ?_⟩
    rw [cell_of_row w g k cur _ (0, 0) hg, ← ht, List.getElem?_take, if_pos hk, Array.getElem?_toList]
theorem tok_cell {w W : World} {g : Nat} {l : List Tok} (h : ∀ j, j < l.length * 3 → w.cell? ⟨g, j, none⟩ = (toksCells l)[j]?) (hg : g < w.heap.size) (hb : Below w.heap.size w W) (k : Nat) (t : Tok) (r : List Tok) (hk : l.drop k = t :: r) :
    k < l.length ∧ W.cell? ⟨g, k * 3, none⟩ = some (.int .i64 t.kind) ∧ W.cell? ⟨g, k * 3 + 1, none⟩ = some (.string (strOfNums t.text)) ∧ W.cell? ⟨g, k * 3 + 2, none⟩ = some (.int .i64 t.place) := by
  have hlt : k < l.length := by
    rcases Nat.lt_or_ge k l.length with h | h
    · exact h
    · rw [List.drop_eq_nil_of_le h] at hk; cases hk
  have hc : ∀ j, j < 3 → (toksCells l)[k * 3 + j]? = (tokCells t)[j]? := by
    intro j hj
    have e : toksCells l = toksCells (l.take k) ++ (tokCells t ++ toksCells r) := by
      conv => lhs; rw [← List.take_append_drop k l, hk]
      simp [toksCells]
    have hl1 : (toksCells (l.take k)).length = k * 3 := by
      rw [toksCells_length, List.length_take]
      omega
    rw [e, List.getElem?_append_right (by omega), hl1, show k * 3 + j - k * 3 = j by omega, List.getElem?_append_left (by simp [tokCells]; omega)]
  refine ⟨hlt, ?_, ?_, ?_⟩
  · rw [hb.cell (p := ⟨g, k * 3, none⟩) hg, h _ (by omega)]
    exact hc 0 (by omega)
  · rw [hb.cell (p := ⟨g, k * 3 + 1, none⟩) hg, h _ (by omega)]
    exact hc 1 (by omega)
  · rw [hb.cell (p := ⟨g, k * 3 + 2, none⟩) hg, h _ (by omega)]
    exact hc 2 (by omega)
end Go.Proofs.YtleclhnlojalbaaGreatDoor
namespace Go.Proofs.YtleclhnlojalbaaGreatDoor
open Go.ChangeShapes Go.WideShapes Go.ChangeAt Go.RowKit Go.Shelf

structure Exc (R B : Nat) (w w' : World) : Prop where
  os : w'.os = w.os
  tape : w'.tape = w.tape
  output : w'.output = w.output
  size : w.heap.size ≤ w'.heap.size
  block : ∀ k, k < B → k ≠ R → w'.heap[k]? = w.heap[k]?
theorem Exc.refl (R B : Nat) (w : World) : Exc R B w w := ⟨rfl, rfl, rfl, Nat.le_refl _, fun _ _ _ => rfl⟩
theorem Exc.trans {R B : Nat} {a b c : World} (h : Exc R B a b) (k : Exc R B b c) : Exc R B a c :=
  ⟨k.os.trans h.os, k.tape.trans h.tape, k.output.trans h.output, Nat.le_trans h.size k.size, fun i hi hr => (k.block i hi hr).trans (h.block i hi hr)⟩
theorem Exc.mono {R B B' : Nat} {w w' : World} (h : Exc R B w w') (hB : B' ≤ B) : Exc R B' w w' := ⟨h.os, h.tape, h.output, h.size, fun k hk hr => h.block k (Nat.lt_of_lt_of_le hk hB) hr⟩
theorem Exc.of_below {R B : Nat} {w w' : World} (h : Below B w w') : Exc R B w w' := ⟨h.os, h.tape, h.output, h.size, fun k hk _ => h.block k hk⟩
theorem Exc.then {R : Nat} {a b c : World} (h : Exc R a.heap.size a b) (k : Exc R b.heap.size b c) : Exc R a.heap.size a c := h.trans (k.mono h.size)
theorem Exc.thenB {R B : Nat} {a b c : World} (h : Exc R B a b) (hB : B ≤ a.heap.size) (k : Exc R b.heap.size b c) : Exc R B a c := h.trans (k.mono (Nat.le_trans hB h.size))
theorem Exc.bel {R B : Nat} {a b c : World} (h : Exc R B a b) (hB : B ≤ a.heap.size) (k : Below b.heap.size b c) : Exc R B a c := h.thenB hB (.of_below k)
theorem Exc.alloc {R B : Nat} {a w : World} (h : Exc R B a w) (hB : B ≤ w.heap.size) (o : Obj) : Exc R B a (w.alloc o) :=
  h.trans (.of_below ((Below.refl _ _).alloc hB o))
theorem Exc.drew {R B : Nat} {a w : World} (h : Exc R B a w) : Exc R B a w.drew := ⟨h.os, h.tape, h.output, h.size, h.block⟩
theorem Exc.setCell {R B : Nat} {a w : World} (h : Exc R B a w) {p : Addr} (hp : p.block = R ∨ B ≤ p.block) (u : Value) : Exc R B a (w.setCell p u) :=
  h.trans ⟨rfl, rfl, rfl, by simp [World.setCell], fun k hk hr => Below.heap_setCell _ _ _ _ (by rcases hp with h | h <;> omega)⟩
theorem Exc.grown {R B : Nat} {a w w' : World} {row : Option Nat} (h : Exc R B a w) (hg : w.grownBy w' row) (hB : B ≤ w.heap.size) (hr : ∀ k, row = some k → B ≤ k ∨ k = R) : Exc R B a w' :=
  h.trans ⟨hg.os, hg.tape, hg.output, hg.size, fun k hk hkr => hg.block k (by omega) (fun e => by have := hr k e.symm; omega)⟩
theorem Exc.cell {R B : Nat} {w w' : World} (h : Exc R B w w') {p : Addr} (hp : p.block < B) (hr : p.block ≠ R) : w'.cell? p = w.cell? p := World.cell?_of_block (w := w) (h.block p.block hp hr)
theorem Exc.frozen {R B : Nat} {w w' : World} (h : Exc R B w w') {p : Addr} (hp : p.block < B) (hr : p.block ≠ R) : w'.frozen? p = w.frozen? p := World.frozen?_of_block (w := w) (h.block p.block hp hr)
theorem Exc.below {R B : Nat} {w w' : World} (h : Exc R B w w') (hR : B ≤ R) : Below B w w' := ⟨h.os, h.tape, h.output, h.size, fun k hk => h.block k hk (by omega)⟩
theorem Exc.ownsRow {R : Nat} {w w' : World} (h : Exc R w.heap.size w w') {base : Nat} {e : TypeId} {size : Nat} {v : Value} {n : Nat} {xs : List Value} (ho : w.ownsRow base e size v n xs) (hR : v.ownBlock ≠ some R) : w'.ownsRow base e size v n xs := by
  obtain ⟨hl, h'⟩ := ho
  refine ⟨hl, ?_⟩
  rcases h' with h1 | ⟨g', cap', cur, hv, h1, hg, h2⟩
  · exact .inl h1
  · have hlt : g' < w.heap.size := by
      rcases Nat.lt_or_ge g' w.heap.size with h | h
      · exact h
      · rw [Array.getElem?_eq_none h] at hg; cases hg
    subst hv
    exact .inr ⟨g', cap', cur, rfl, h1, (h.block g' hlt (fun e => hR (by simp [Value.ownBlock, e]))).trans hg, h2⟩
theorem ownsRow_base {w : World} {base base' : Nat} {e : TypeId} {size : Nat} {v : Value} {n : Nat} {xs : List Value} (h : w.ownsRow base e size v n xs) (hb : base' ≤ base) : w.ownsRow base' e size v n xs :=
  ⟨h.1, h.2.elim Or.inl (fun ⟨g, cap, cur, hv, hg, r⟩ => Or.inr ⟨g, cap, cur, hv, Nat.le_trans hb hg, r⟩)⟩
theorem ownsRow_lt {w : World} {base : Nat} {e : TypeId} {size : Nat} {v : Value} {n : Nat} {xs : List Value} (h : w.ownsRow base e size v n xs) : ∀ k, v.ownBlock = some k → base ≤ k ∧ k < w.heap.size := by
  intro k hk
  rcases h.2 with ⟨rfl, _⟩ | ⟨g, cap, cur, rfl, hb, hg, _⟩
  · simp [Value.ownBlock] at hk
  · simp [Value.ownBlock] at hk
    subst hk
    refine ⟨hb, ?_⟩
    rcases Nat.lt_or_ge g w.heap.size with h' | h'
    · exact h'
    · rw [Array.getElem?_eq_none h'] at hg; cases hg
theorem ownsRow_form {w : World} {base : Nat} {e : TypeId} {size : Nat} {v : Value} {n : Nat} {xs : List Value} (h : w.ownsRow base e size v n xs) : ∃ a c, v = .slice a n c := by
  rcases h.2 with ⟨rfl, h0⟩ | ⟨g, cap, _, rfl, _⟩
  · rw [h0]
    exact ⟨_, _, rfl⟩
  · exact ⟨_, _, rfl⟩
theorem blk_cell {w : World} {g : Nat} {cs : Array Value} {t : TypeId} (h : w.heap[g]? = some (.cells cs t (0, 0))) (i : Nat) : w.cell? ⟨g, i, none⟩ = cs[i]? := cell_of_row w g i cs t (0, 0) h
theorem blk_frozen {w : World} {g : Nat} {cs : Array Value} {t : TypeId} (h : w.heap[g]? = some (.cells cs t (0, 0))) (i : Nat) : w.frozen? ⟨g, i, none⟩ = false := by
  simp [World.frozen?, show w.heap[g]? = _ from h]
theorem blk_lt {w : World} {g : Nat} {o : Obj} (h : w.heap[g]? = some o) : g < w.heap.size := by
  rcases Nat.lt_or_ge g w.heap.size with h' | h'
  · exact h'
  · rw [Array.getElem?_eq_none h'] at h; cases h
theorem blk_set {w : World} {g : Nat} {cs : Array Value} {t : TypeId} (h : w.heap[g]? = some (.cells cs t (0, 0))) (i : Nat) (u : Value) : (w.setCell ⟨g, i, none⟩ u).heap[g]? = some (.cells (cs.setIfInBounds i u) t (0, 0)) := by
  simp [World.setCell, Array.getElem?_modify, h]
theorem blk_set_ne {w : World} {g : Nat} {o : Obj} (h : w.heap[g]? = some o) {p : Addr} (hp : p.block ≠ g) (u : Value) : (w.setCell p u).heap[g]? = some o :=
  (Below.heap_setCell w p u g (fun e => hp e.symm)).trans h
theorem blk_alloc {w : World} {g : Nat} {o : Obj} (h : w.heap[g]? = some o) (o' : Obj) : (w.alloc o').heap[g]? = some o :=
  (Below.heap_alloc w o' g (blk_lt h)).trans h
theorem blk2 {w : World} {g : Nat} {x y : Value} {t : TypeId} (h : w.heap[g]? = some (.cells #[x, y] t (0, 0))) :
    g < w.heap.size ∧ w.cell? ⟨g, 0, none⟩ = some x ∧ w.cell? ⟨g, 1, none⟩ = some y ∧ w.frozen? ⟨g, 0, none⟩ = false ∧ w.frozen? ⟨g, 1, none⟩ = false :=
  ⟨blk_lt h, (blk_cell h 0).trans rfl, (blk_cell h 1).trans rfl, blk_frozen h 0, blk_frozen h 1⟩
theorem blk3 {w : World} {g : Nat} {x y z : Value} {t : TypeId} (h : w.heap[g]? = some (.cells #[x, y, z] t (0, 0))) :
    g < w.heap.size ∧ w.cell? ⟨g, 0, none⟩ = some x ∧ w.cell? ⟨g, 1, none⟩ = some y ∧ w.cell? ⟨g, 2, none⟩ = some z ∧ w.frozen? ⟨g, 0, none⟩ = false ∧ w.frozen? ⟨g, 1, none⟩ = false ∧ w.frozen? ⟨g, 2, none⟩ = false :=
  ⟨blk_lt h, (blk_cell h 0).trans rfl, (blk_cell h 1).trans rfl, (blk_cell h 2).trans rfl, blk_frozen h 0, blk_frozen h 1, blk_frozen h 2⟩
theorem blk_below {w W : World} {B g : Nat} {o : Obj} (h : w.heap[g]? = some o) (hb : Below B w W) (hg : g < B) : W.heap[g]? = some o := (hb.block g hg).trans h
theorem blk_exc {w W : World} {R B g : Nat} {o : Obj} (h : w.heap[g]? = some o) (hb : Exc R B w W) (hg : g < B) (hne : g ≠ R) : W.heap[g]? = some o := (hb.block g hg hne).trans h
theorem post_gen {P : Program} {f : Func} {Q : Ending → World → Prop} {ex : Exit} {a : Act} {W : World} (p : World → Prop) (hp : p W) (k : ∀ Wf, p Wf → bodyPost P f Q ex a Wf) : bodyPost P f Q ex a W := k W hp
theorem blk_set3 {w : World} {g : Nat} {x y z : Value} {t : TypeId} (h : w.heap[g]? = some (.cells #[x, y, z] t (0, 0))) (x' y' z' : Value) :
    (((w.setCell ⟨g, 0, none⟩ x').setCell ⟨g, 1, none⟩ y').setCell ⟨g, 2, none⟩ z').heap[g]? = some (.cells #[x', y', z'] t (0, 0)) :=
  (blk_set (blk_set (blk_set h 0 x') 1 y') 2 z').trans rfl
theorem blk_set2 {w : World} {g : Nat} {x y : Value} {t : TypeId} (h : w.heap[g]? = some (.cells #[x, y] t (0, 0))) (x' y' : Value) :
    ((w.setCell ⟨g, 0, none⟩ x').setCell ⟨g, 1, none⟩ y').heap[g]? = some (.cells #[x', y'] t (0, 0)) :=
  (blk_set (blk_set h 0 x') 1 y').trans rfl
theorem exc_set (w : World) (g i : Nat) (x : Value) : Exc g w.heap.size w (w.setCell ⟨g, i, none⟩ x) := (Exc.refl g _ w).setCell (p := ⟨g, i, none⟩) (.inl rfl) x
theorem exc_set3 (w : World) (g : Nat) (x y z : Value) : Exc g w.heap.size w (((w.setCell ⟨g, 0, none⟩ x).setCell ⟨g, 1, none⟩ y).setCell ⟨g, 2, none⟩ z) :=
  ((exc_set w g 0 x).setCell (p := ⟨g, 1, none⟩) (.inl rfl) y).setCell (p := ⟨g, 2, none⟩) (.inl rfl) z
theorem Exc.set3 {R B : Nat} {a w : World} (h : Exc R B a w) {g : Nat} (hg : B ≤ g) (x y z : Value) : Exc R B a (((w.setCell ⟨g, 0, none⟩ x).setCell ⟨g, 1, none⟩ y).setCell ⟨g, 2, none⟩ z) :=
  ((h.setCell (p := ⟨g, 0, none⟩) (.inr hg) x).setCell (p := ⟨g, 1, none⟩) (.inr hg) y).setCell (p := ⟨g, 2, none⟩) (.inr hg) z
theorem Exc.set1 {R B : Nat} {a w : World} (h : Exc R B a w) {g : Nat} (hg : B ≤ g) (i : Nat) (x : Value) : Exc R B a (w.setCell ⟨g, i, none⟩ x) :=
  h.setCell (p := ⟨g, i, none⟩) (.inr hg) x
end Go.Proofs.YtleclhnlojalbaaGreatDoor
namespace Go.Proofs.YtleclhnlojalbaaGreatDoor
open Go.ChangeShapes Go.WideShapes Go.ChangeAt Go.RowKit Go.Shelf

theorem row_at {w : World} {base : Nat} {e : TypeId} {size : Nat} {v : Value} {n : Nat} {xs : List Value} (h : w.ownsRow base e size v n xs) (hn : 0 < n) :
    ∃ g c, v = .slice (some ⟨g, 0, none⟩) n c ∧ n ≤ c ∧ base ≤ g ∧ g < w.heap.size ∧ ∀ k, k < n * size → w.cell? ⟨g, k, none⟩ = xs[k]? := by
  rcases h.2 with ⟨_, h0⟩ | ⟨g, cap, cur, rfl, hb, hg, hnc, hm, hs, ht⟩
  · omega
  · refine ⟨g, cap, rfl, hnc, hb, blk_lt hg, fun k hk => ?_⟩
    rw [cell_of_row w g k cur _ (0, 0) hg, ← ht, List.getElem?_take, if_pos hk, Array.getElem?_toList]
theorem flat_at {α : Type} (f : α → List Value) (m : Nat) (hm : ∀ a, (f a).length = m) : ∀ (l : List α) (k : Nat) (hk : k < l.length) (j : Nat), j < m → (l.flatMap f)[k * m + j]? = (f l[k])[j]?
  | [], k, hk, _, _ => absurd hk (Nat.not_lt_zero k)
  | a :: r, 0, _, j, hj => by
    rw [List.flatMap_cons, Nat.zero_mul, Nat.zero_add, List.getElem?_append_left (by rw [hm]; exact hj)]
    rfl
  | a :: r, k + 1, hk, j, hj => by
    have e : (k + 1) * m + j = m + (k * m + j) := by rw [Nat.succ_mul]; omega
    rw [List.flatMap_cons, List.getElem?_append_right (by rw [hm, e]; omega), hm, show (k + 1) * m + j - m = k * m + j by omega]
    exact flat_at f m hm r k (Nat.lt_of_succ_lt_succ hk) j hj
theorem row_el {α : Type} (f : α → List Value) (m : Nat) (hm : ∀ a, (f a).length = m) {w : World} {base : Nat} {e : TypeId} {v : Value} {l : List α} (h : w.ownsRow base e m v l.length (l.flatMap f)) (k : Nat) (hk : k < l.length) :
    ∃ g c, v = .slice (some ⟨g, 0, none⟩) l.length c ∧ l.length ≤ c ∧ g < w.heap.size ∧ ∀ j, j < m → w.cell? ⟨g, k * m + j, none⟩ = (f l[k])[j]? := by
  obtain ⟨g, c, hv, hc, _, hg, hcell⟩ := row_at h (by omega)
  refine ⟨g, c, hv, hc, hg, fun j hj => ?_⟩
  have hlt : k * m + j < l.length * m := by
    have h1 : (k + 1) * m ≤ l.length * m := Nat.mul_le_mul_right m hk
    rw [Nat.succ_mul] at h1
    omega
  rw [hcell _ hlt, flat_at f m hm l k hk j hj]
theorem row_few {w : World} {base : Nat} {e : TypeId} {size : Nat} {v : Value} {n : Nat} {xs : List Value} (h : w.ownsRow base e size v n xs) : n ≤ 9223372036854775807 := by
  rcases h.2 with ⟨_, h0⟩ | ⟨g, cap, cur, rfl, hb, hg, hnc, hm, _⟩
  · omega
  · unfold maxLen at hm
    omega
theorem slice_inj {a b : Option Addr} {n c n' c' : Nat} (h : Value.slice a n c = .slice b n' c') : a = b ∧ c = c' := by
  injection h with h1 _ h3
  exact ⟨h1, h3⟩
theorem row_keep {w w' : World} (h : Below w.heap.size w w') {base : Nat} {e : TypeId} {size : Nat} {v : Value} {n : Nat} {xs : List Value} (ho : w.ownsRow base e size v n xs) : w'.ownsRow base e size v n xs := by
  obtain ⟨hl, h'⟩ := ho
  refine ⟨hl, ?_⟩
  rcases h' with h1 | ⟨g', cap', cur, hv, h1, hg', h2⟩
  · exact .inl h1
  · exact .inr ⟨g', cap', cur, hv, h1, (h.block g' (blk_lt hg')).trans hg', h2⟩
end Go.Proofs.YtleclhnlojalbaaGreatDoor
namespace Go.Proofs.YtleclhnlojalbaaGreatDoor
open Go.ChangeShapes Go.WideShapes Go.ChangeAt Go.RowKit Go.Shelf

structure PF where
  kind : Nat
  lists : Nat
  ref : Nat
  name : Nat
  dflt : Nat
structure Plan where
  enums : List Nat
  structs : List (List PF)
  root : Nat
  tree : Bool
structure SFld where
  name : ByteArray
  kind : Nat
  ref : Nat
  lists : Nat
  dflt : Nat
structure SRec where
  name : ByteArray
  fields : List SFld
structure SCho where
  name : ByteArray
  names : List ByteArray
structure Sch where
  structs : List SRec
  enums : List SCho
  root : Nat
def enumName (i : Nat) : ByteArray := ⟨#[69]⟩ ++ strOfNums [97 + (i : Int)]
def valName (k : Nat) : ByteArray := ⟨#[118]⟩ ++ strOfNums [97 + (k : Int) % 26, 97 + (k : Int) / 26]
def recName (i : Nat) : ByteArray := ⟨#[83]⟩ ++ strOfNums [97 + (i : Int)]
def labelHeads : List ByteArray := [⟨#[97]⟩, ⟨#[120, 95]⟩, ⟨#[90, 101, 100]⟩, ⟨#[195, 169]⟩, ⟨#[239, 172, 128]⟩, ⟨#[240, 159, 152, 128]⟩, ⟨#[108, 105, 115, 116]⟩, ⟨#[98, 32, 99]⟩, ⟨#[115, 116, 114, 117, 99, 116]⟩, ⟨#[47]⟩]
def headOf (m : Nat) : ByteArray := labelHeads.getD m ⟨#[]⟩
def labelOf (n i : Nat) : ByteArray := headOf (n % 10) ++ strOfNums [97 + (i : Int) % 26]
def cntOf (p : Plan) (e : Nat) : Nat := p.enums.getD e 0 % 32 + 1
def numP (cnt kind n : Nat) : Nat :=
  if kind = 1 then n % 2 else if kind = 10 then n % cnt else
    let m : Nat := if kSize kind < 8 then n % 2 ^ (8 * (kSize kind).toNat) else n
    if kSign kind = true then (sgnOf m (kSize kind)).toNat else m
def isNumP (kind lists : Nat) : Bool := decide (lists = 0) && decide (0 < kSize kind)
def kind0 (p : Plan) (f : PF) : Nat := if f.kind % 13 + 1 = 10 ∧ p.enums.length = 0 then 7 else f.kind % 13 + 1
def ref0 (p : Plan) (f : PF) : Nat := if kind0 p f = 10 then f.ref % p.enums.length else 0
def kindP (p : Plan) (i : Nat) (f : PF) : Nat := if kind0 p f = 13 ∧ p.tree = true ∧ i + 1 = p.structs.length then 11 else kind0 p f
def refP (p : Plan) (i : Nat) (f : PF) : Nat :=
  if kindP p i f = 13 then (if p.tree = true then i + 1 + f.ref % (p.structs.length - i - 1) else f.ref % p.structs.length) else ref0 p f
def fldP (p : Plan) (i k : Nat) (f : PF) : SFld :=
  ⟨labelOf f.name k, kindP p i f, refP p i f, f.lists % 4, if isNumP (kindP p i f) (f.lists % 4) = true then numP (cntOf p (refP p i f)) (kindP p i f) f.dflt else 0⟩
def noPF : PF := ⟨0, 0, 0, 0, 0⟩
def fldsP (p : Plan) (i : Nat) (l : List PF) (n : Nat) : List SFld := (List.range n).map fun k => fldP p i k (l.getD k noPF)
def recP (p : Plan) (i : Nat) : SRec := ⟨recName i, fldsP p i (p.structs.getD i []) (p.structs.getD i []).length⟩
def choP (p : Plan) (i : Nat) : SCho := ⟨enumName i, (List.range (cntOf p i)).map valName⟩
def recsP (p : Plan) (n : Nat) : List SRec := (List.range n).map (recP p)
def chosP (p : Plan) (n : Nat) : List SCho := (List.range n).map (choP p)
def planOk (p : Plan) : Prop := 1 ≤ p.structs.length ∧ p.structs.length ≤ 16 ∧ p.enums.length ≤ 8 ∧ ∀ l ∈ p.structs, 1 ≤ l.length ∧ l.length ≤ 16
def schP (p : Plan) : Sch := ⟨recsP p p.structs.length, chosP p p.enums.length, p.root % p.structs.length⟩
theorem fldsP_succ (p : Plan) (i : Nat) (l : List PF) (n : Nat) : fldsP p i l (n + 1) = fldsP p i l n ++ [fldP p i n (l.getD n noPF)] := by simp [fldsP, List.range_succ]
theorem recsP_succ (p : Plan) (n : Nat) : recsP p (n + 1) = recsP p n ++ [recP p n] := by simp [recsP, List.range_succ]
theorem chosP_succ (p : Plan) (n : Nat) : chosP p (n + 1) = chosP p n ++ [choP p n] := by simp [chosP, List.range_succ]
theorem fldsP_length (p : Plan) (i : Nat) (l : List PF) (n : Nat) : (fldsP p i l n).length = n := by simp [fldsP]
theorem recsP_length (p : Plan) (n : Nat) : (recsP p n).length = n := by simp [recsP]
theorem chosP_length (p : Plan) (n : Nat) : (chosP p n).length = n := by simp [chosP]

/-! ### in memory -/
def sfldCells (f : SFld) : List Value := [.string f.name, .int .u8 f.kind, .int .i64 f.ref, .int .i64 f.lists, .int .u64 f.dflt]
def sfldsCells (l : List SFld) : List Value := l.flatMap sfldCells
def strCells (s : ByteArray) : List Value := [.string s]
def strsCells (l : List ByteArray) : List Value := l.flatMap strCells
def srecCells (q : SRec × Value) : List Value := [.string q.1.name, q.2]
def schoCells (q : SCho × Value) : List Value := [.string q.1.name, q.2]
def srecsCells (l : List (SRec × Value)) : List Value := l.flatMap srecCells
def schosCells (l : List (SCho × Value)) : List Value := l.flatMap schoCells
theorem sfldsCells_snoc (l : List SFld) (f : SFld) : sfldsCells (l ++ [f]) = sfldsCells l ++ sfldCells f := by simp [sfldsCells]
theorem strsCells_snoc (l : List ByteArray) (s : ByteArray) : strsCells (l ++ [s]) = strsCells l ++ strCells s := by simp [strsCells]
theorem srecsCells_snoc (l : List (SRec × Value)) (q : SRec × Value) : srecsCells (l ++ [q]) = srecsCells l ++ srecCells q := by simp [srecsCells]
theorem schosCells_snoc (l : List (SCho × Value)) (q : SCho × Value) : schosCells (l ++ [q]) = schosCells l ++ schoCells q := by simp [schosCells]
theorem sfld_info : (Tryz.prog.info? 55).map (fun i => (i.zero, i.size, i.bytes)) = some (some (.agg #[.string ⟨#[]⟩, .int .u8 0, .int .i64 0, .int .i64 0, .int .u64 0]), 5, 48) := by kernel_rfl
theorem str_info : (Tryz.prog.info? 9).map (fun i => (i.zero, i.size, i.bytes)) = some (some (.string ⟨#[]⟩), 1, 16) := by kernel_rfl
theorem srec_info : (Tryz.prog.info? 58).map (fun i => (i.zero, i.size, i.bytes)) = some (some (.agg #[.string ⟨#[]⟩, .slice none 0 0]), 2, 40) := by kernel_rfl
theorem scho_info : (Tryz.prog.info? 60).map (fun i => (i.zero, i.size, i.bytes)) = some (some (.agg #[.string ⟨#[]⟩, .slice none 0 0]), 2, 40) := by kernel_rfl
structure SchRows (base : Nat) (W : World) (ss : List (SRec × Value)) (es : List (SCho × Value)) (sv ev : Value) : Prop where
  structs : W.ownsRow base 58 2 sv ss.length (srecsCells ss)
  enums : W.ownsRow base 60 2 ev es.length (schosCells es)
  fields : ∀ q ∈ ss, W.ownsRow base 55 5 q.2 q.1.fields.length (sfldsCells q.1.fields)
  names : ∀ q ∈ es, W.ownsRow base 9 1 q.2 q.1.names.length (strsCells q.1.names)
theorem SchRows.below {base : Nat} {W W' : World} {ss : List (SRec × Value)} {es : List (SCho × Value)} {sv ev : Value} (h : SchRows base W ss es sv ev) (hb : Below W.heap.size W W') : SchRows base W' ss es sv ev :=
  ⟨row_keep hb h.structs, row_keep hb h.enums, fun q hq => row_keep hb (h.fields q hq), fun q hq => row_keep hb (h.names q hq)⟩
theorem SchRows.base {base base' : Nat} {W : World} {ss : List (SRec × Value)} {es : List (SCho × Value)} {sv ev : Value} (h : SchRows base W ss es sv ev) (hb : base' ≤ base) : SchRows base' W ss es sv ev :=
  ⟨ownsRow_base h.structs hb, ownsRow_base h.enums hb, fun q hq => ownsRow_base (h.fields q hq) hb, fun q hq => ownsRow_base (h.names q hq) hb⟩
theorem SchRows.forms {base : Nat} {W : World} {ss : List (SRec × Value)} {es : List (SCho × Value)} {sv ev : Value} (h : SchRows base W ss es sv ev) : ∃ sa sc ea ec, sv = .slice sa ss.length sc ∧ ev = .slice ea es.length ec := by
  obtain ⟨sa, sc, h1⟩ := ownsRow_form h.structs
  obtain ⟨ea, ec, h2⟩ := ownsRow_form h.enums
  exact ⟨sa, sc, ea, ec, h1, h2⟩
theorem SchRows.strct {base : Nat} {W : World} {ss : List (SRec × Value)} {es : List (SCho × Value)} {sv ev : Value} (h : SchRows base W ss es sv ev) (k : Nat) (hk : k < ss.length) :
    ∃ g c a n, sv = .slice (some ⟨g, 0, none⟩) ss.length c ∧ ss.length ≤ c ∧ g < W.heap.size ∧ W.cell? ⟨g, k * 2, none⟩ = some (.string ss[k].1.name) ∧ W.cell? ⟨g, k * 2 + 1, none⟩ = some (.slice a ss[k].1.fields.length n) ∧ ss[k].2 = .slice a ss[k].1.fields.length n := by
  obtain ⟨g, c, hv, hc, hg, hcell⟩ := row_el srecCells 2 (fun _ => rfl) h.structs k hk
  obtain ⟨a, n, hf⟩ := ownsRow_form (h.fields _ (List.getElem_mem hk))
  exact ⟨g, c, a, n, hv, hc, hg, hcell 0 (by omega), by rw [hcell 1 (by omega), ← hf]; rfl, hf⟩
theorem SchRows.enum {base : Nat} {W : World} {ss : List (SRec × Value)} {es : List (SCho × Value)} {sv ev : Value} (h : SchRows base W ss es sv ev) (k : Nat) (hk : k < es.length) :
    ∃ g c a n, ev = .slice (some ⟨g, 0, none⟩) es.length c ∧ es.length ≤ c ∧ g < W.heap.size ∧ W.cell? ⟨g, k * 2, none⟩ = some (.string es[k].1.name) ∧ W.cell? ⟨g, k * 2 + 1, none⟩ = some (.slice a es[k].1.names.length n) ∧ es[k].2 = .slice a es[k].1.names.length n := by
  obtain ⟨g, c, hv, hc, hg, hcell⟩ := row_el schoCells 2 (fun _ => rfl) h.enums k hk
  obtain ⟨a, n, hf⟩ := ownsRow_form (h.names _ (List.getElem_mem hk))
  exact ⟨g, c, a, n, hv, hc, hg, hcell 0 (by omega), by rw [hcell 1 (by omega), ← hf]; rfl, hf⟩
theorem SchRows.field {base : Nat} {W : World} {ss : List (SRec × Value)} {es : List (SCho × Value)} {sv ev : Value} (h : SchRows base W ss es sv ev) (k : Nat) (hk : k < ss.length) (j : Nat) (hj : j < ss[k].1.fields.length) :
    ∃ g c, ss[k].2 = .slice (some ⟨g, 0, none⟩) ss[k].1.fields.length c ∧ ss[k].1.fields.length ≤ c ∧ g < W.heap.size ∧ W.cell? ⟨g, j * 5, none⟩ = some (.string ss[k].1.fields[j].name) ∧ W.cell? ⟨g, j * 5 + 1, none⟩ = some (.int .u8 (ss[k].1.fields[j].kind : Nat)) ∧ W.cell? ⟨g, j * 5 + 2, none⟩ = some (.int .i64 (ss[k].1.fields[j].ref : Nat)) ∧ W.cell? ⟨g, j * 5 + 3, none⟩ = some (.int .i64 (ss[k].1.fields[j].lists : Nat)) ∧ W.cell? ⟨g, j * 5 + 4, none⟩ = some (.int .u64 (ss[k].1.fields[j].dflt : Nat)) := by
  obtain ⟨g, c, hv, hc, hg, hcell⟩ := row_el sfldCells 5 (fun _ => rfl) (h.fields _ (List.getElem_mem hk)) j hj
  exact ⟨g, c, hv, hc, hg, hcell 0 (by omega), hcell 1 (by omega), hcell 2 (by omega), hcell 3 (by omega), hcell 4 (by omega)⟩
theorem SchRows.name {base : Nat} {W : World} {ss : List (SRec × Value)} {es : List (SCho × Value)} {sv ev : Value} (h : SchRows base W ss es sv ev) (k : Nat) (hk : k < es.length) (j : Nat) (hj : j < es[k].1.names.length) :
    ∃ g c, es[k].2 = .slice (some ⟨g, 0, none⟩) es[k].1.names.length c ∧ es[k].1.names.length ≤ c ∧ g < W.heap.size ∧ W.cell? ⟨g, j, none⟩ = some (.string es[k].1.names[j]) := by
  obtain ⟨g, c, hv, hc, hg, hcell⟩ := row_el strCells 1 (fun _ => rfl) (h.names _ (List.getElem_mem hk)) j hj
  have h0 := hcell 0 (by omega)
  rw [Nat.mul_one, Nat.add_zero] at h0
  exact ⟨g, c, hv, hc, hg, h0⟩
structure IsPlan (w : World) (p : Plan) (a0 : Option Addr) (n0 c0 : Nat) (a1 : Option Addr) (n1 c1 : Nat) : Prop where
  e_len : p.enums.length = n0
  s_len : p.structs.length = n1
  e_cap : n0 ≤ c0 ∧ c0 ≤ maxLen
  s_cap : n1 ≤ c1 ∧ c1 ≤ maxLen
  rt : p.root ≤ 255
  e_at : ∀ j, j < n0 → p.enums.getD j 0 ≤ 255 ∧ ∃ b off, a0 = some ⟨b, off, none⟩ ∧ b < w.heap.size ∧ w.cell? ⟨b, off + j, none⟩ = some (.int .u8 (p.enums.getD j 0 : Nat))
  s_at : ∀ r, r < n1 → ∃ b off a n c, a1 = some ⟨b, off, none⟩ ∧ b < w.heap.size ∧ w.cell? ⟨b, off + r, none⟩ = some (.slice a n c) ∧ (p.structs.getD r []).length = n ∧ n ≤ c ∧ c ≤ maxLen ∧
    ∀ k, k < n → ∃ b' off' f, (p.structs.getD r []).getD k noPF = f ∧ a = some ⟨b', off', none⟩ ∧ b' < w.heap.size ∧ w.cell? ⟨b', off' + k * 5, none⟩ = some (.int .u8 (f.kind : Nat)) ∧ w.cell? ⟨b', off' + k * 5 + 1, none⟩ = some (.int .u8 (f.lists : Nat)) ∧ w.cell? ⟨b', off' + k * 5 + 2, none⟩ = some (.int .u8 (f.ref : Nat)) ∧ w.cell? ⟨b', off' + k * 5 + 3, none⟩ = some (.int .u8 (f.name : Nat)) ∧ w.cell? ⟨b', off' + k * 5 + 4, none⟩ = some (.int .u64 (f.dflt : Nat)) ∧
      f.kind ≤ 255 ∧ f.lists ≤ 255 ∧ f.ref ≤ 255 ∧ f.name ≤ 255 ∧ (f.dflt : Int) ≤ 18446744073709551615
end Go.Proofs.YtleclhnlojalbaaGreatDoor
