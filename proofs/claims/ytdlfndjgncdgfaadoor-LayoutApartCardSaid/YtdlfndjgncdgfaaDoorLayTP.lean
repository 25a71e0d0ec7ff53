/-
  A struct as a table, plain: where the fields that are there stand; Inline of the package layout and the document's. Conditions: those that each theorem names.
-/
import Derived.Test.YtdlfndjgncdgfaaDoorLayWP
namespace Go.Proofs.YtdlfndjgncdgfaaDoor
open Go.ChangeShapes Go.WideShapes Go.ChangeAt Go.RowKit Go.Shelf

/-- How many bytes a field has within a table. -/
def inlP (f : SFld) : Int := if isNumP f.kind f.lists = true then kSize f.kind else 4
structure TabSt where
  pl : List Int
  size : Int
  al : Int
def tabStep (z : Int) (b : Bool) (f : SFld) (k : Nat) (s : TabSt) : TabSt :=
  if b = true ∧ inlP f = z then ⟨s.pl.set k (multI s.size z), multI s.size z + z, max s.al z⟩ else s
/-- The first k fields, those that are there and have z bytes. -/
def tabUp (z : Int) (fs : List SFld) (th : List Bool) (s : TabSt) : Nat → TabSt
  | 0 => s
  | k + 1 => tabStep z (th.getD k false) (fs.getD k noSF) k (tabUp z fs th s k)
def inlinesL : List Int := [8, 4, 2, 1]
def tabAll (fs : List SFld) (th : List Bool) : Nat → TabSt
  | 0 => ⟨List.replicate fs.length 0, 4, 4⟩
  | z + 1 => tabUp (inlinesL.getD z 0) fs th (tabAll fs th z) fs.length
theorem inlines_is (z : Nat) (h : z < 4) : inlinesL.getD z 0 = 8 ∨ inlinesL.getD z 0 = 4 ∨ inlinesL.getD z 0 = 2 ∨ inlinesL.getD z 0 = 1 := by
  have : z = 0 ∨ z = 1 ∨ z = 2 ∨ z = 3 := by omega
  rcases this with rfl | rfl | rfl | rfl <;> decide
theorem mult_bd {n z : Int} (hz : z = 8 ∨ z = 4 ∨ z = 2 ∨ z = 1) (_h : 0 ≤ n) : n ≤ multI n z ∧ multI n z ≤ n + 7 := by
  unfold multI
  rcases hz with rfl | rfl | rfl | rfl <;> omega
theorem mult_up {n c z : Int} (hz : z = 8 ∨ z = 4 ∨ z = 2 ∨ z = 1) (h1 : n ≤ c) (h2 : c ≤ multI n z) (h3 : ¬ c % z = 0) : c + 1 ≤ multI n z := by
  unfold multI at *
  rcases hz with rfl | rfl | rfl | rfl <;> omega
theorem mult_end {n c z : Int} (hz : z = 8 ∨ z = 4 ∨ z = 2 ∨ z = 1) (h1 : n ≤ c) (h2 : c ≤ multI n z) (h3 : c % z = 0) : c = multI n z := by
  unfold multI at *
  rcases hz with rfl | rfl | rfl | rfl <;> omega
theorem tabUp_step {z : Int} {fs : List SFld} {th : List Bool} {s : TabSt} {k : Nat} (hk : k < fs.length) (ht : k < th.length) : tabUp z fs th s (k + 1) = tabStep z th[k] fs[k] k (tabUp z fs th s k) := by
  show tabStep z (th.getD k false) (fs.getD k noSF) k _ = _
  rw [List.getD, List.getElem?_eq_getElem ht, List.getD, List.getElem?_eq_getElem hk, Option.getD_some, Option.getD_some]
theorem tabUp_facts {z : Int} (hz : z = 8 ∨ z = 4 ∨ z = 2 ∨ z = 1) (fs : List SFld) (th : List Bool) (s : TabSt) (h0 : 4 ≤ s.size) (h4 : 4 ≤ s.al) (h8 : s.al ≤ 8) : ∀ k : Nat, (tabUp z fs th s k).pl.length = s.pl.length ∧ 4 ≤ (tabUp z fs th s k).size ∧ (tabUp z fs th s k).size ≤ s.size + 15 * k ∧ 4 ≤ (tabUp z fs th s k).al ∧ (tabUp z fs th s k).al ≤ 8
  | 0 => by simp [tabUp]; omega
  | k + 1 => by
    obtain ⟨h1, h2, h3, h5, h6⟩ := tabUp_facts hz fs th s h0 h4 h8 k
    have hm := mult_bd hz (show 0 ≤ (tabUp z fs th s k).size by omega)
    unfold tabUp tabStep
    split
    · simp only [List.length_set]
      refine ⟨h1, ?_, ?_, ?_, ?_⟩
      · omega
      · omega
      · omega
      · omega
    · omega
theorem tabAll_facts (fs : List SFld) (th : List Bool) : ∀ z : Nat, z ≤ 4 → (tabAll fs th z).pl.length = fs.length ∧ 4 ≤ (tabAll fs th z).size ∧ (tabAll fs th z).size ≤ 4 + 15 * (fs.length * z : Nat) ∧ 4 ≤ (tabAll fs th z).al ∧ (tabAll fs th z).al ≤ 8
  | 0, _ => by simp [tabAll]
  | z + 1, hz => by
    obtain ⟨h1, h2, h3, h5, h6⟩ := tabAll_facts fs th z (by omega)
    have hu := tabUp_facts (inlines_is z (by omega)) fs th (tabAll fs th z) h2 h5 h6 fs.length
    rw [Nat.mul_succ]
    unfold tabAll
    obtain ⟨g1, g2, g3, g4, g5⟩ := hu
    refine ⟨g1.trans h1, g2, ?_, g4, g5⟩
    generalize fs.length * z = q at *
    omega
theorem tabStep_yes {z : Int} {b : Bool} {f : SFld} {k : Nat} {s : TabSt} (hb : b = true) (hi : inlP f = z) : tabStep z b f k s = ⟨s.pl.set k (multI s.size z), multI s.size z + z, max s.al z⟩ := if_pos ⟨hb, hi⟩
theorem tabStep_no {z : Int} {b : Bool} {f : SFld} {k : Nat} {s : TabSt} (h : b = false ∨ ¬ inlP f = z) : tabStep z b f k s = s := by
  refine if_neg (fun hc => ?_)
  rcases h with h | h
  · rw [h] at hc; exact absurd hc.1 (by decide)
  · exact h hc.2
theorem inlP_num {fn : ByteArray} {fk fr fl fd : Nat} (h : isNumP fk fl = true) : inlP ⟨fn, fk, fr, fl, fd⟩ = kSize fk := if_pos h
theorem inlP_no {fn : ByteArray} {fk fr fl fd : Nat} (h : isNumP fk fl = false) : inlP ⟨fn, fk, fr, fl, fd⟩ = 4 := if_neg (by rw [h]; decide)
theorem inlP_bd (f : SFld) : 0 ≤ inlP f ∧ inlP f ≤ 8 := by
  unfold inlP
  split
  · exact kSize_bd _
  · omega
theorem linline_any (fn : ByteArray) (fk fr fl fd : Nat) (w : World) :
    Calls Tryd.prog 17 #[.agg #[.string fn, .int .u8 fk, .int .i64 fr, .int .i64 fl, .int .u64 fd]] w fun e w' => e = .returned (.int .i64 (inlP ⟨fn, fk, fr, fl, fd⟩)) ∧ Below w.heap.size w w' := by
  have hq := heap_alloc_new w (.cells #[.string fn, .int .u8 fk, .int .i64 fr, .int .i64 fl, .int .u64 fd] 53)
  have HB := Lib.hid ((Below.refl w.heap.size w).alloc (Nat.le_refl _) (.cells #[.string fn, .int .u8 fk, .int .i64 fr, .int .i64 fl, .int .u64 fd] 53))
  go_enter Tryd.func17, Tryd.ntmps17
  go_upto_region 1 with (fail)
  generalize w.alloc (.cells #[.string fn, .int .u8 fk, .int .i64 fr, .int .i64 fl, .int .u64 fd] 53) = W1 at *
  have hlt := blk_lt hq
  have y1 := (blk_cell hq 1).trans rfl
  have y2 := (blk_cell hq 2).trans rfl
  have y3 := (blk_cell hq 3).trans rfl
  have HQ := Lib.hid hq
  clear hq
  go_wp2_with fail
  refine (lnumber_any fk fr fl W1).mono ?_
  rintro e W2 ⟨rfl, hb2⟩
  have HB2 := Lib.hid (HB.out.trans (hb2.mono HB.out.size))
  have z1 := (blk_cell (blk_below HQ.out hb2 hlt) 1).trans rfl
  clear hb2 y1 y2 y3
  cases hnum : isNumP fk fl
  · have HE := Lib.hid (inlP_no (fn := fn) (fr := fr) (fd := fd) hnum)
    clear hnum
    go_wp2
    go_ret
    exact ⟨ret_int HE.out.symm, HB2.out⟩
  · have HE := Lib.hid (inlP_num (fn := fn) (fr := fr) (fd := fd) hnum)
    clear hnum
    go_wp2_with fail
    refine (wsize_any (fk : Int) W2).mono ?_
    rintro e W3 ⟨rfl, rfl⟩
    go_wp2
    go_ret
    exact ⟨ret_int HE.out.symm, HB2.out⟩
def boolCell (b : Bool) : List Value := [.bool b]
def boolCells (l : List Bool) : List Value := l.flatMap boolCell
theorem boolCells_snoc (l : List Bool) (b : Bool) : boolCells (l ++ [b]) = boolCells l ++ [.bool b] := by simp [boolCells, boolCell]
theorem row_bool {w : World} {base : Nat} {v : Value} {l : List Bool} (h : w.ownsRow base 4 1 v l.length (boolCells l)) (k : Nat) (hk : k < l.length) :
    ∃ g c, v = .slice (some ⟨g, 0, none⟩) l.length c ∧ l.length ≤ c ∧ g < w.heap.size ∧ w.cell? ⟨g, k, none⟩ = some (.bool l[k]) := by
  obtain ⟨g, c, hv, hc, hg, hcell⟩ := row_el boolCell 1 (fun _ => rfl) h k hk
  have h0 := hcell 0 (by omega)
  rw [Nat.mul_one, Nat.add_zero] at h0
  exact ⟨g, c, hv, hc, hg, h0⟩
end Go.Proofs.YtdlfndjgncdgfaaDoor
