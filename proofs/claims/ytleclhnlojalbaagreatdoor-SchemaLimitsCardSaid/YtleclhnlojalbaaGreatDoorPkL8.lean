/-
  The frame of the hand's Made where only some of its slots are known, and written out; the loops' bodies, out of the program's own translation. No run stands in this text. (Made by program: wip/tools/gen-madef.py.)
-/
import Derived.Test.YtleclhnlojalbaaGreatDoorPkL1
import Derived.Test.YtleclhnlojalbaaGreatDoorPkL2
import Derived.Test.YtleclhnlojalbaaGreatDoorPkL3
import Derived.Test.YtleclhnlojalbaaGreatDoorPkL4
import Derived.Test.YtleclhnlojalbaaGreatDoorPkL5
import Derived.Lib.ParseIntB
import Derived.Laws.BitsLemmas
import Derived.IntWalk
import Derived.Maps.Own
import Derived.Laws.BytesArg
import Derived.Deep.RegionHeld3
import Derived.Deep.Cut
import Derived.RegionTactic
import Derived.BigRegion
import Derived.Deep.QuietTactic
import Derived.BigQuiet
import Derived.Deep.RegionWith
namespace Go.Proofs.YtleclhnlojalbaaGreatDoor
open Go.ChangeShapes Go.WideShapes Go.ChangeAt Go.RowKit Go.Shelf
structure SFld where
  name : ByteArray
  kind : Nat
  ref : Nat
  lists : Nat
  dflt : Nat
structure SRec where
  name : ByteArray
  fields : List SFld
structure SCho where
  name : ByteArray
  names : List ByteArray
structure Sch where
  structs : List SRec
  enums : List SCho
  root : Nat
def isNumP (kind lists : Nat) : Bool := decide (lists = 0) && decide (0 < kSize kind)
/-! ### in memory -/
def sfldCells (f : SFld) : List Value := [.string f.name, .int .u8 f.kind, .int .i64 f.ref, .int .i64 f.lists, .int .u64 f.dflt]
def sfldsCells (l : List SFld) : List Value := l.flatMap sfldCells
def strCells (s : ByteArray) : List Value := [.string s]
def strsCells (l : List ByteArray) : List Value := l.flatMap strCells
def srecCells (q : SRec × Value) : List Value := [.string q.1.name, q.2]
def schoCells (q : SCho × Value) : List Value := [.string q.1.name, q.2]
def srecsCells (l : List (SRec × Value)) : List Value := l.flatMap srecCells
def schosCells (l : List (SCho × Value)) : List Value := l.flatMap schoCells
theorem sfldsCells_snoc (l : List SFld) (f : SFld) : sfldsCells (l ++ [f]) = sfldsCells l ++ sfldCells f := by simp [sfldsCells]
theorem strsCells_snoc (l : List ByteArray) (s : ByteArray) : strsCells (l ++ [s]) = strsCells l ++ strCells s := by simp [strsCells]
theorem srecsCells_snoc (l : List (SRec × Value)) (q : SRec × Value) : srecsCells (l ++ [q]) = srecsCells l ++ srecCells q := by simp [srecsCells]
theorem schosCells_snoc (l : List (SCho × Value)) (q : SCho × Value) : schosCells (l ++ [q]) = schosCells l ++ schoCells q := by simp [schosCells]
theorem sfld_info : (Tryz.prog.info? 55).map (fun i => (i.zero, i.size, i.bytes)) = some (some (.agg #[.string ⟨#[]⟩, .int .u8 0, .int .i64 0, .int .i64 0, .int .u64 0]), 5, 48) := by kernel_rfl
theorem str_info : (Tryz.prog.info? 9).map (fun i => (i.zero, i.size, i.bytes)) = some (some (.string ⟨#[]⟩), 1, 16) := by kernel_rfl
theorem srec_info : (Tryz.prog.info? 58).map (fun i => (i.zero, i.size, i.bytes)) = some (some (.agg #[.string ⟨#[]⟩, .slice none 0 0]), 2, 40) := by kernel_rfl
theorem scho_info : (Tryz.prog.info? 60).map (fun i => (i.zero, i.size, i.bytes)) = some (some (.agg #[.string ⟨#[]⟩, .slice none 0 0]), 2, 40) := by kernel_rfl
structure SchRows (base : Nat) (W : World) (ss : List (SRec × Value)) (es : List (SCho × Value)) (sv ev : Value) : Prop where
  structs : W.ownsRow base 58 2 sv ss.length (srecsCells ss)
  enums : W.ownsRow base 60 2 ev es.length (schosCells es)
  fields : ∀ q ∈ ss, W.ownsRow base 55 5 q.2 q.1.fields.length (sfldsCells q.1.fields)
  names : ∀ q ∈ es, W.ownsRow base 9 1 q.2 q.1.names.length (strsCells q.1.names)
theorem SchRows.below {base : Nat} {W W' : World} {ss : List (SRec × Value)} {es : List (SCho × Value)} {sv ev : Value} (h : SchRows base W ss es sv ev) (hb : Below W.heap.size W W') : SchRows base W' ss es sv ev :=
  ⟨row_keep hb h.structs, row_keep hb h.enums, fun q hq => row_keep hb (h.fields q hq), fun q hq => row_keep hb (h.names q hq)⟩
theorem SchRows.base {base base' : Nat} {W : World} {ss : List (SRec × Value)} {es : List (SCho × Value)} {sv ev : Value} (h : SchRows base W ss es sv ev) (hb : base' ≤ base) : SchRows base' W ss es sv ev :=
  ⟨ownsRow_base h.structs hb, ownsRow_base h.enums hb, fun q hq => ownsRow_base (h.fields q hq) hb, fun q hq => ownsRow_base (h.names q hq) hb⟩
theorem SchRows.forms {base : Nat} {W : World} {ss : List (SRec × Value)} {es : List (SCho × Value)} {sv ev : Value} (h : SchRows base W ss es sv ev) : ∃ sa sc ea ec, sv = .slice sa ss.length sc ∧ ev = .slice ea es.length ec := by
  obtain ⟨sa, sc, h1⟩ := ownsRow_form h.structs
  obtain ⟨ea, ec, h2⟩ := ownsRow_form h.enums
  exact ⟨sa, sc, ea, ec, h1, h2⟩
theorem SchRows.strct {base : Nat} {W : World} {ss : List (SRec × Value)} {es : List (SCho × Value)} {sv ev : Value} (h : SchRows base W ss es sv ev) (k : Nat) (hk : k < ss.length) :
    ∃ g c a n, sv = .slice (some ⟨g, 0, none⟩) ss.length c ∧ ss.length ≤ c ∧ g < W.heap.size ∧ W.cell? ⟨g, k * 2, none⟩ = some (.string ss[k].1.name) ∧ W.cell? ⟨g, k * 2 + 1, none⟩ = some (.slice a ss[k].1.fields.length n) ∧ ss[k].2 = .slice a ss[k].1.fields.length n := by
  obtain ⟨g, c, hv, hc, hg, hcell⟩ := row_el srecCells 2 (fun _ => rfl) h.structs k hk
  obtain ⟨a, n, hf⟩ := ownsRow_form (h.fields _ (List.getElem_mem hk))
  exact ⟨g, c, a, n, hv, hc, hg, hcell 0 (by omega), by rw [hcell 1 (by omega), ← hf]; rfl, hf⟩
theorem SchRows.enum {base : Nat} {W : World} {ss : List (SRec × Value)} {es : List (SCho × Value)} {sv ev : Value} (h : SchRows base W ss es sv ev) (k : Nat) (hk : k < es.length) :
    ∃ g c a n, ev = .slice (some ⟨g, 0, none⟩) es.length c ∧ es.length ≤ c ∧ g < W.heap.size ∧ W.cell? ⟨g, k * 2, none⟩ = some (.string es[k].1.name) ∧ W.cell? ⟨g, k * 2 + 1, none⟩ = some (.slice a es[k].1.names.length n) ∧ es[k].2 = .slice a es[k].1.names.length n := by
  obtain ⟨g, c, hv, hc, hg, hcell⟩ := row_el schoCells 2 (fun _ => rfl) h.enums k hk
  obtain ⟨a, n, hf⟩ := ownsRow_form (h.names _ (List.getElem_mem hk))
  exact ⟨g, c, a, n, hv, hc, hg, hcell 0 (by omega), by rw [hcell 1 (by omega), ← hf]; rfl, hf⟩
theorem SchRows.field {base : Nat} {W : World} {ss : List (SRec × Value)} {es : List (SCho × Value)} {sv ev : Value} (h : SchRows base W ss es sv ev) (k : Nat) (hk : k < ss.length) (j : Nat) (hj : j < ss[k].1.fields.length) :
    ∃ g c, ss[k].2 = .slice (some ⟨g, 0, none⟩) ss[k].1.fields.length c ∧ ss[k].1.fields.length ≤ c ∧ g < W.heap.size ∧ W.cell? ⟨g, j * 5, none⟩ = some (.string ss[k].1.fields[j].name) ∧ W.cell? ⟨g, j * 5 + 1, none⟩ = some (.int .u8 (ss[k].1.fields[j].kind : Nat)) ∧ W.cell? ⟨g, j * 5 + 2, none⟩ = some (.int .i64 (ss[k].1.fields[j].ref : Nat)) ∧ W.cell? ⟨g, j * 5 + 3, none⟩ = some (.int .i64 (ss[k].1.fields[j].lists : Nat)) ∧ W.cell? ⟨g, j * 5 + 4, none⟩ = some (.int .u64 (ss[k].1.fields[j].dflt : Nat)) := by
  obtain ⟨g, c, hv, hc, hg, hcell⟩ := row_el sfldCells 5 (fun _ => rfl) (h.fields _ (List.getElem_mem hk)) j hj
  exact ⟨g, c, hv, hc, hg, hcell 0 (by omega), hcell 1 (by omega), hcell 2 (by omega), hcell 3 (by omega), hcell 4 (by omega)⟩
theorem SchRows.name {base : Nat} {W : World} {ss : List (SRec × Value)} {es : List (SCho × Value)} {sv ev : Value} (h : SchRows base W ss es sv ev) (k : Nat) (hk : k < es.length) (j : Nat) (hj : j < es[k].1.names.length) :
    ∃ g c, es[k].2 = .slice (some ⟨g, 0, none⟩) es[k].1.names.length c ∧ es[k].1.names.length ≤ c ∧ g < W.heap.size ∧ W.cell? ⟨g, j, none⟩ = some (.string es[k].1.names[j]) := by
  obtain ⟨g, c, hv, hc, hg, hcell⟩ := row_el strCells 1 (fun _ => rfl) (h.names _ (List.getElem_mem hk)) j hj
  have h0 := hcell 0 (by omega)
  rw [Nat.mul_one, Nat.add_zero] at h0
  exact ⟨g, c, hv, hc, hg, h0⟩
end Go.Proofs.YtleclhnlojalbaaGreatDoor
namespace Go.Proofs.YtleclhnlojalbaaGreatDoor
open Go.RowKit

def dstep (a : Nat) (c : Int) : Nat := a * 10 + (c.toNat - 48)
def decF (acc : Nat) (ds : List Int) : Nat := ds.foldl dstep acc
def maxU : Nat := 18446744073709551615
theorem decF_nil (acc : Nat) : decF acc [] = acc := rfl
theorem decF_cons (acc : Nat) (c : Int) (r : List Int) : decF acc (c :: r) = decF (dstep acc c) r := List.foldl_cons ..
theorem decF_ge (ds : List Int) : ∀ acc : Nat, acc ≤ decF acc ds := by
  induction ds with
  | nil => intro acc; rw [decF_nil]; exact Nat.le_refl acc
  | cons c r ih =>
    intro acc
    rw [decF_cons]
    have := ih (dstep acc c)
    have h2 : acc ≤ dstep acc c := by unfold dstep; omega
    omega
theorem decF_append (ds es : List Int) : ∀ acc : Nat, decF acc (ds ++ es) = decF (decF acc ds) es := by
  induction ds with
  | nil => intro acc; rfl
  | cons c r ih =>
    intro acc
    rw [List.cons_append, decF_cons, decF_cons]
    exact ih _
theorem parseUintM_dec (M : Nat) (hM : M = maxU) (l : List UInt8) : ∀ acc : Nat, (∀ b ∈ l, 48 ≤ b.toNat ∧ b.toNat ≤ 57) → acc ≤ maxU →
    Lib.parseUintM M acc l = if decF acc (l.map fun b => (b.toNat : Int)) ≤ maxU then .ok (decF acc (l.map fun b => (b.toNat : Int))) else .range := by
  induction l with
  | nil =>
    intro acc _ ha
    rw [List.map_nil, decF_nil, if_pos ha]
    rfl
  | cons b r ih =>
    intro acc hd ha
    have hb := hd b List.mem_cons_self
    rw [List.map_cons, decF_cons, show dstep acc (b.toNat : Int) = acc * 10 + (b.toNat - 48) from by unfold dstep; rw [Int.toNat_natCast]]
    have hge := decF_ge (r.map fun b => (b.toNat : Int)) (acc * 10 + (b.toNat - 48))
    simp only [Lib.parseUintM]
    rw [if_pos hb]
    by_cases h1 : 1844674407370955162 ≤ acc
    · rw [if_pos h1, if_neg (by unfold maxU; omega)]
    · rw [if_neg h1]
      by_cases h2 : M < acc * 10 + (b.toNat - 48)
      · rw [if_pos h2, if_neg (by omega)]
      · rw [if_neg h2]
        exact ih _ (fun x hx => hd x (List.mem_cons_of_mem _ hx)) (by omega)
theorem maxU_eq : 2 ^ 64 - 1 = maxU := by decide
theorem parseUintB_dec (l : List UInt8) (hne : l ≠ []) (hd : ∀ b ∈ l, 48 ≤ b.toNat ∧ b.toNat ≤ 57) :
    Lib.parseUintB 64 l = if decF 0 (l.map fun b => (b.toNat : Int)) ≤ maxU then .ok (decF 0 (l.map fun b => (b.toNat : Int))) else .range := by
  unfold Lib.parseUintB
  rw [if_neg hne]
  exact parseUintM_dec _ maxU_eq l 0 hd (Nat.zero_le _)

def goodN (zs : List Int) : Bool := !numBad zs 0 && decide (numEnd zs 0 = zs.length)
def digs (zs : List Int) : List Int := if stA zs (isC 45) 0 = true then zs.drop 1 else zs
theorem digs_drop (zs : List Int) : digs zs = zs.drop (minusTo zs 0) := by
  unfold digs minusTo
  split <;> simp
theorem good_digs {zs : List Int} (h : goodN zs = true) : digs zs ≠ [] ∧ ∀ c ∈ digs zs, 48 ≤ c ∧ c ≤ 57 := by
  unfold goodN at h
  rw [Bool.and_eq_true, Bool.not_eq_true', decide_eq_true_iff] at h
  obtain ⟨h1, h2⟩ := h
  have h0 : decide (runTo zs isDig (minusTo zs 0) - minusTo zs 0 = 0) = false := by
    unfold numBad at h1
    rw [Bool.or_eq_false_iff, Bool.or_eq_false_iff, Bool.or_eq_false_iff] at h1
    exact h1.1.1.1
  have h0' := of_decide_eq_false h0
  unfold numEnd at h2
  rw [digs_drop]
  constructor
  · intro he
    have := congrArg List.length he
    rw [List.length_drop, List.length_nil] at this
    omega
  · intro c hc
    obtain ⟨j, hj, rfl⟩ := List.mem_iff_getElem.1 hc
    rw [List.length_drop] at hj
    have := runTo_all zs isDig (minusTo zs 0) (minusTo zs 0 + j) (by omega) (by omega)
    have hp := of_decide_eq_true (show decide (48 ≤ zs.getD (minusTo zs 0 + j) 0 ∧ zs.getD (minusTo zs 0 + j) 0 ≤ 57) = true from stA_p this)
    have he : zs.getD (minusTo zs 0 + j) 0 = (zs.drop (minusTo zs 0))[j]'(by rw [List.length_drop]; omega) := by
      rw [List.getElem_drop]
      simp [List.getD, show minusTo zs 0 + j < zs.length by omega]
    rw [he] at hp
    exact hp
theorem minusTo_cases (zs : List Int) : (stA zs (isC 45) 0 = true ∧ minusTo zs 0 = 1 ∧ 1 ≤ zs.length ∧ zs.getD 0 0 = 45) ∨ (stA zs (isC 45) 0 = false ∧ minusTo zs 0 = 0) := by
  unfold minusTo
  cases h : stA zs (isC 45) 0
  · exact .inr ⟨rfl, by simp⟩
  · refine .inl ⟨rfl, by simp, stA_lt h, ?_⟩
    exact of_decide_eq_true (show decide (zs.getD 0 0 = 45) = true from stA_p h)
theorem digs_length (zs : List Int) : (digs zs).length = zs.length - minusTo zs 0 := by rw [digs_drop, List.length_drop]
theorem digs_get (zs : List Int) (j : Nat) : (digs zs).getD j 0 = zs.getD (minusTo zs 0 + j) 0 := by
  rw [digs_drop]
  simp [List.getD]
theorem goodN_iff (zs : List Int) : goodN zs = true ↔ (1 ≤ (digs zs).length ∧ (digs zs).length ≤ 20 ∧ ¬ (1 < (digs zs).length ∧ (digs zs).getD 0 0 = 48) ∧ zs ≠ [45, 48] ∧ ∀ j, j < (digs zs).length → isDig ((digs zs).getD j 0) = true) := by
  rw [digs_length]
  have hm := minusTo_cases zs
  unfold goodN numEnd
  rw [Bool.and_eq_true, Bool.not_eq_true', decide_eq_true_iff]
  constructor
  · rintro ⟨h1, h2⟩
    unfold numBad at h1
    rw [Bool.or_eq_false_iff, Bool.or_eq_false_iff, Bool.or_eq_false_iff, h2, decide_eq_false_iff_not, decide_eq_false_iff_not] at h1
    obtain ⟨⟨⟨a1, a2⟩, _⟩, a4⟩ := h1
    have hz : ∀ (_ : 1 ≤ zs.length - minusTo zs 0) (_ : zs.getD (minusTo zs 0) 0 = 48), stA zs (isC 48) (minusTo zs 0) = true := fun hl he => by
      rw [stA_of (by omega)]
      exact decide_eq_true he
    unfold zeroAhead at a4
    rw [h2] at a4
    refine ⟨by omega, by omega, ?_, ?_, ?_⟩
    · rintro ⟨b1, b2⟩
      rw [digs_get, Nat.add_zero] at b2
      rw [hz (by omega) b2, decide_eq_true b1, Bool.or_true] at a4
      cases a4
    · rintro rfl
      exact absurd a4 (by decide)
    · intro j hj
      rw [digs_get]
      exact stA_p (runTo_all zs isDig (minusTo zs 0) (minusTo zs 0 + j) (by omega) (by omega))
  · rintro ⟨b1, b2, b3, b4, b5⟩
    have hE : runTo zs isDig (minusTo zs 0) = zs.length := by
      refine runTo_unique (by omega) (fun j h1 h2 => ?_) (stA_ge (Nat.le_refl _))
      rw [stA_of h2]
      have := b5 (j - minusTo zs 0) (by omega)
      rw [digs_get, show minusTo zs 0 + (j - minusTo zs 0) = j by omega] at this
      exact this
    refine ⟨?_, hE⟩
    unfold numBad zeroAhead
    rw [hE, decide_eq_false (by omega), decide_eq_false (by omega), stA_ge (Nat.le_refl _)]
    simp only [Bool.false_or]
    cases h48 : stA zs (isC 48) (minusTo zs 0)
    · rfl
    · have h48' : zs.getD (minusTo zs 0) 0 = 48 := of_decide_eq_true (show decide (zs.getD (minusTo zs 0) 0 = 48) = true from stA_p h48)
      have c1 : ¬ 1 < zs.length - minusTo zs 0 := fun h => b3 ⟨h, by rw [digs_get, Nat.add_zero]; exact h48'⟩
      rw [decide_eq_false c1, Bool.or_false, Bool.true_and]
      rcases hm with ⟨m1, m2, m3, m4⟩ | ⟨m1, m2⟩
      · exfalso
        apply b4
        rw [m2] at h48' b1 c1
        match zs, b1, c1, m4, h48' with
        | [a, b], _, _, m4, h48' =>
          simp at m4 h48'
          rw [m4, h48']
        | a :: b :: c :: r, _, c1, _, _ => simp at c1
        | [_], b1, _, _, _ => simp at b1
        | [], b1, _, _, _ => simp at b1
      · exact m1
def sizedB (size : Int) : Bool := decide (size = 1 ∨ size = 2 ∨ size = 4 ∨ size = 8)
def span (size : Int) : Int := if size = 1 then 256 else if size = 2 then 65536 else if size = 4 then 4294967296 else 18446744073709551616
def fitsB (v : Int) (below : Bool) (size : Int) (sign : Bool) : Bool :=
  if sign = true then decide (v < span size / 2) || (below && decide (v = span size / 2)) else !below && decide (v < span size)
def numV (zs : List Int) (size : Int) (sign : Bool) : Option Nat :=
  if goodN zs = true ∧ sizedB size = true ∧ decF 0 (digs zs) ≤ maxU ∧ fitsB (decF 0 (digs zs)) (stA zs (isC 45) 0) size sign = true then
    some (if stA zs (isC 45) 0 = true then (18446744073709551616 - decF 0 (digs zs)) % 18446744073709551616 else decF 0 (digs zs))
  else none
theorem xor_max (n : Nat) (h : (n : Int) ≤ 18446744073709551615) : IntKind.u64.wrap (bits BinOp.xor .u64 IntKind.u64.max n + 1) = (((18446744073709551616 - n) % 18446744073709551616 : Nat) : Int) := by
  have e : bits BinOp.xor .u64 IntKind.u64.max n = 18446744073709551615 - n := by
    show IntKind.u64.wrap (((BitVec.ofInt 64 IntKind.u64.max) ^^^ BitVec.ofInt 64 (n : Int)).toNat : Int) = _
    rw [show BitVec.ofInt 64 IntKind.u64.max = BitVec.allOnes 64 from by decide, BitVec.allOnes_xor, BitVec.toNat_not, BitVec.ofInt_natCast, BitVec.toNat_ofNat, Nat.mod_eq_of_lt (by omega), IntKind.wrap_u64]
    omega
  rw [e, IntKind.wrap_u64]
  omega
end Go.Proofs.YtleclhnlojalbaaGreatDoor
namespace Go.Proofs.YtleclhnlojalbaaGreatDoor
open Go.ChangeShapes Go.WideShapes Go.ChangeAt Go.RowKit Go.Shelf Go.ChangeMaps

def MapAt (W : World) (b : Nat) (l : List (ByteArray × Value)) : Prop :=
  ∃ es clock, W.heap[b]? = some (.map es clock) ∧ es.toList.map (fun e => (e.key, e.val)) = l.map (fun p => (Value.string p.1, p.2))
def lookK : List (ByteArray × Value) → ByteArray → Option Value
  | [], _ => none
  | p :: r, s => if s = p.1 then some p.2 else lookK r s
theorem MapAt.lt {W : World} {b : Nat} {l : List (ByteArray × Value)} (h : MapAt W b l) : b < W.heap.size := by
  obtain ⟨es, c, hb, _⟩ := h
  exact blk_lt hb
theorem MapAt.of_block {W W' : World} {b : Nat} {l : List (ByteArray × Value)} (h : MapAt W b l) (hb : W'.heap[b]? = W.heap[b]?) : MapAt W' b l := by
  obtain ⟨es, c, h1, h2⟩ := h
  exact ⟨es, c, hb.trans h1, h2⟩
theorem MapAt.below {W W' : World} {b B : Nat} {l : List (ByteArray × Value)} (h : MapAt W b l) (hb : Below B W W') (hlt : b < B) : MapAt W' b l := h.of_block (hb.block b hlt)
theorem MapAt.exc {W W' : World} {b R B : Nat} {l : List (ByteArray × Value)} (h : MapAt W b l) (hb : Exc R B W W') (hlt : b < B) (hne : b ≠ R) : MapAt W' b l := h.of_block (hb.block b hlt hne)
theorem MapAt.alloc {W : World} {b : Nat} {l : List (ByteArray × Value)} (h : MapAt W b l) (o : Obj) : MapAt (W.alloc o) b l := h.of_block (Below.heap_alloc W o b h.lt)
theorem MapAt.drew {W : World} {b : Nat} {l : List (ByteArray × Value)} (h : MapAt W b l) : MapAt W.drew b l := h
theorem MapAt.setCell {W : World} {b : Nat} {l : List (ByteArray × Value)} (h : MapAt W b l) {p : Addr} (hp : p.block ≠ b) (u : Value) : MapAt (W.setCell p u) b l := h.of_block (Below.heap_setCell W p u b (fun e => hp e.symm))
theorem MapAt.made (W : World) : MapAt (W.alloc (.map #[] 0)) W.heap.size [] := ⟨#[], 0, heap_alloc_new W _, rfl⟩
theorem ba_beq (a b : ByteArray) : (a == b) = decide (a = b) := by
  obtain ⟨a⟩ := a
  obtain ⟨b⟩ := b
  show (a == b) = _
  rw [Bool.eq_iff_iff, beq_iff_eq, decide_eq_true_iff]
  exact ⟨fun h => by rw [h], fun h => by injection h⟩
theorem findNow_str (s : ByteArray) : ∀ (es : List MapEntry) (l : List (ByteArray × Value)) (i : Nat), es.map (fun e => (e.key, e.val)) = l.map (fun p => (Value.string p.1, p.2)) →
    (lookK l s = none ∧ Instr.findNow .string (.string s) es i = some none) ∨ ∃ v j, lookK l s = some v ∧ Instr.findNow .string (.string s) es i = some (some (j, v))
  | [], l, i, h => by
    cases l with
    | nil => exact .inl ⟨rfl, rfl⟩
    | cons p r => cases h
  | e :: es, l, i, h => by
    cases l with
    | nil => cases h
    | cons p r =>
      rw [List.map_cons, List.map_cons] at h
      injection h with h1 h2
      injection h1 with hk hv
      obtain ⟨k, v, bo⟩ := e
      simp only at hk hv
      subst hk hv
      by_cases hs : s = p.1
      · refine .inr ⟨p.2, i, by rw [lookK, if_pos hs], ?_⟩
        have hb : (s == p.1) = true := by rw [ba_beq]; exact decide_eq_true hs
        simp [Instr.findNow, Instr.sameNow, hb]
      · have hb : (s == p.1) = false := by rw [ba_beq]; exact decide_eq_false hs
        rcases findNow_str s es r (i + 1) h2 with ⟨h3, h4⟩ | ⟨v, j, h3, h4⟩
        · refine .inl ⟨by rw [lookK, if_neg hs]; exact h3, ?_⟩
          simp [Instr.findNow, Instr.sameNow, hb, h4]
        · refine .inr ⟨v, j, by rw [lookK, if_neg hs]; exact h3, ?_⟩
          simp [Instr.findNow, Instr.sameNow, hb, h4]
theorem run_findKey_str {P : Program} {k : TypeId} (hk : P.underlying k = some .string) (w : World) {s : ByteArray} {es : List MapEntry} {r : Option (Nat × Value)} (h : Instr.findNow .string (.string s) es 0 = some r) :
    (Instr.findKey k (.string s) es).run P w = .ok r w := by
  simp [Instr.findKey, run_underlying hk, Result.andThen, h]
theorem run_check_str {P : Program} {k : TypeId} (hk : P.underlying k = some .string) (w : World) (em : Bool) (s : ByteArray) : (Instr.checkKey em 10000 k (.string s)).run P w = .ok () w :=
  MapKept.run_checkKey hk (d := .string) (k := .string s) trivial em 9999
theorem MapAt.look {P : Program} {W : World} {b : Nat} {l : List (ByteArray × Value)} (h : MapAt W b l) {t k e : TypeId} (hk : P.underlying k = some .string) (ht : P.underlying t = some (.map k e)) {z : Value} (hz : (zeroValue e).run P W = .ok z W) (s : ByteArray) (c : Bool) :
    (Instr.lookup t (.map (some b)) (.string s) c).run P W = .ok (if c then .tuple #[(lookK l s).getD z, .bool (lookK l s).isSome] else (lookK l s).getD z) W := by
  obtain ⟨es, cl, hb, he⟩ := h
  rcases findNow_str s es.toList l 0 he with ⟨h1, h2⟩ | ⟨v, j, h1, h2⟩
  · simp [Instr.lookup, run_underlying ht, MapKept.run_getObj_map hb, run_check_str hk, run_findKey_str hk W h2, hz, h1, Result.andThen]
  · simp [Instr.lookup, run_underlying ht, MapKept.run_getObj_map hb, run_check_str hk, run_findKey_str hk W h2, h1, Result.andThen]
theorem MapAt.store {P : Program} {W : World} {b : Nat} {l : List (ByteArray × Value)} (h : MapAt W b l) {t k e : TypeId} (hk : P.underlying k = some .string) (ht : P.underlying t = some (.map k e)) (s : ByteArray) (v : Value) (hn : lookK l s = none) :
    ∃ W', (Instr.mapUpdate t (.map (some b)) (.string s) v).run P W = .ok () W' ∧ MapAt W' b (l ++ [(s, v)]) ∧ ∀ B, Exc b B W W' := by
  obtain ⟨es, cl, hb, he⟩ := h
  rcases findNow_str s es.toList l 0 he with ⟨h1, h2⟩ | ⟨v, j, h1, h2⟩
  · refine ⟨setBlock W b (.map (es.push { key := .string s, val := v, born := cl }) (cl + 1)), ?_, ⟨_, _, heap_setBlock_same hb _, ?_⟩, fun B => ⟨rfl, rfl, rfl, by simp [setBlock], fun i _ hi => heap_setBlock_other hb _ hi⟩⟩
    · simp [Instr.mapUpdate, run_underlying ht, MapKept.run_getObj_map hb, run_check_str hk, run_findKey_str hk W h2, MapKept.run_setObj_map _ hb, Result.andThen, setBlock]
    · simp [he]
  · rw [hn] at h1
    cases h1
end Go.Proofs.YtleclhnlojalbaaGreatDoor
namespace Go.Proofs.YtleclhnlojalbaaGreatDoor
open Go.ChangeShapes Go.WideShapes Go.ChangeAt Go.RowKit Go.Shelf

structure NEnt where
  name : ByteArray
  kind : Nat
  ref : Nat
def mtyV (kind ref lists : Nat) : Value := .agg #[.int .u8 (kind : Nat), .int .i64 (ref : Nat), .int .i64 (lists : Nat)]
def entP (q : NEnt) : ByteArray × Value := (q.name, mtyV q.kind q.ref 0)
def lookN : List NEnt → ByteArray → Option (Nat × Nat)
  | [], _ => none
  | q :: r, s => if s = q.name then some (q.kind, q.ref) else lookN r s
theorem look_ents (l : List NEnt) (s : ByteArray) : lookK (l.map entP) s = (lookN l s).map fun q => mtyV q.1 q.2 0 := by
  induction l with
  | nil => rfl
  | cons q r ih =>
    rw [List.map_cons]
    show (if s = q.name then some (mtyV q.kind q.ref 0) else lookK (r.map entP) s) = _
    rw [lookN]
    split
    · rfl
    · exact ih
def basicN : List NEnt :=
  [⟨⟨#[98, 111, 111, 108]⟩, 1, 0⟩, ⟨⟨#[105, 56]⟩, 2, 0⟩, ⟨⟨#[105, 49, 54]⟩, 3, 0⟩, ⟨⟨#[105, 51, 50]⟩, 4, 0⟩, ⟨⟨#[105, 54, 52]⟩, 5, 0⟩, ⟨⟨#[117, 56]⟩, 6, 0⟩, ⟨⟨#[117, 49, 54]⟩, 7, 0⟩, ⟨⟨#[117, 51, 50]⟩, 8, 0⟩, ⟨⟨#[117, 54, 52]⟩, 9, 0⟩,
   ⟨⟨#[116, 101, 120, 116]⟩, 11, 0⟩, ⟨⟨#[100, 97, 116, 97]⟩, 12, 0⟩, ⟨⟨#[108, 105, 115, 116]⟩, 0, 0⟩]
inductive MRes (α : Type) where
  | ok (a : α) : MRes α
  | no (code : Int) (place : Nat) : MRes α
def MRes.bind {α β : Type} (x : MRes α) (f : α → MRes β) : MRes β :=
  match x with
  | .ok a => f a
  | .no c p => .no c p
theorem mbind_ok {α β : Type} (a : α) (f : α → MRes β) : (MRes.ok a).bind f = f a := rfl
def hasS : List ByteArray → ByteArray → Bool
  | [], _ => false
  | a :: r, s => decide (s = a) || hasS r s
def dupFrom : List ByteArray → List ByteArray → Option Nat
  | _, [] => none
  | seen, s :: r => if hasS seen s = true then some seen.length else dupFrom (seen ++ [s]) r
def dup (l : List ByteArray) : Option Nat := dupFrom [] l
def tokT (t : Tok) : ByteArray := strOfNums t.text
def fldT (f : RField) : ByteArray := strOfNums f.name
def choM (i : Nat) (m : List NEnt) (x : RCho) : MRes (List NEnt) :=
  if (lookN m (strOfNums x.name)).isSome = true then .no 13 x.place
  else if i < 8 ∧ 1 ≤ x.names.length ∧ x.names.length ≤ 32 then
    match dup (x.names.map tokT) with
    | some k => .no 13 (x.names.getD k noTok).place
    | none => .ok (m ++ [⟨strOfNums x.name, 10, i⟩])
  else .no 16 x.place
def chosM : Nat → List NEnt → List RCho → MRes (List NEnt)
  | _, m, [] => .ok m
  | i, m, x :: r => (choM i m x).bind fun m' => chosM (i + 1) m' r
def recM (i : Nat) (m : List NEnt) (x : RRec) : MRes (List NEnt) :=
  if (lookN m (strOfNums x.name)).isSome = true then .no 13 x.place
  else if i < 16 ∧ 1 ≤ x.fields.length ∧ x.fields.length ≤ 16 then
    match dup (x.fields.map fldT) with
    | some k => .no 13 (x.fields.getD k noField).place
    | none => .ok (m ++ [⟨strOfNums x.name, 13, i⟩])
  else .no 16 x.place
def recsM : Nat → List NEnt → List RRec → MRes (List NEnt)
  | _, m, [] => .ok m
  | i, m, x :: r => (recM i m x).bind fun m' => recsM (i + 1) m' r
def idx : List ByteArray → ByteArray → Option Nat
  | [], _ => none
  | a :: r, s => if a = s then some 0 else (idx r s).map (· + 1)
def chooseM (w : Tok) (names : List ByteArray) : Option Nat := if w.kind = 1 then idx names (tokT w) else none
def falseTrue : List ByteArray := [⟨#[102, 97, 108, 115, 101]⟩, ⟨#[116, 114, 117, 101]⟩]
def chosenM (es : List RCho) (r : Nat) : List ByteArray := ((es.getD r ⟨[], 0, []⟩).names).map tokT
def valueM (es : List RCho) (k r ls : Nat) (w : Tok) : Option Nat :=
  if w.kind = 0 then some 0 else if ls ≠ 0 then none else if k = 1 then chooseM w falseTrue else if k = 10 then chooseM w (chosenM es r) else
    if w.kind = 2 then numV (bts (tokT w)) (kSize k) (kSign k) else none
def fieldM (m : List NEnt) (es : List RCho) (f : RField) : MRes SFld :=
  match lookN m (strOfNums f.ty.name) with
  | none => .no 14 f.ty.place
  | some q => if q.1 = 0 then .no 14 f.ty.place else
    match valueM es q.1 q.2 f.ty.lists f.dflt with
    | none => .no 15 f.dflt.place
    | some d => .ok ⟨strOfNums f.name, q.1, q.2, f.ty.lists, d⟩
def fldsM (m : List NEnt) (es : List RCho) : List RField → MRes (List SFld)
  | [] => .ok []
  | f :: r => (fieldM m es f).bind fun a => (fldsM m es r).bind fun l => .ok (a :: l)
def bodiesM (m : List NEnt) (es : List RCho) : List RRec → MRes (List SRec)
  | [] => .ok []
  | x :: r => (fldsM m es x.fields).bind fun a => (bodiesM m es r).bind fun l => .ok (⟨strOfNums x.name, a⟩ :: l)
def rootM (m : List NEnt) : List Tok → MRes Nat
  | [] => .no 17 0
  | [t] => match lookN m (tokT t) with
    | none => .no 17 t.place
    | some q => if q.1 = 13 then .ok q.2 else .no 17 t.place
  | _ :: t :: _ => .no 13 t.place
def choOut (x : RCho) : SCho := ⟨strOfNums x.name, x.names.map tokT⟩
def makeM (x : RRaw) : MRes Sch :=
  (chosM 0 basicN x.enums).bind fun m1 => (recsM 0 m1 x.structs).bind fun m => (bodiesM m x.enums x.structs).bind fun l => (rootM m x.roots).bind fun r => .ok ⟨l, x.enums.map choOut, r⟩
end Go.Proofs.YtleclhnlojalbaaGreatDoor
namespace Go.Proofs.YtleclhnlojalbaaGreatDoor
open Go.RowKit

def NGood (ne : Nat) (m : List NEnt) : Prop := ∀ q ∈ m, (q.kind = 10 → q.ref < ne) ∧ q.kind ≤ 13
theorem lookN_mem : ∀ (m : List NEnt) (s : ByteArray) (p : Nat × Nat), lookN m s = some p → ∃ q ∈ m, q.kind = p.1 ∧ q.ref = p.2
  | [], _, _, h => by cases h
  | q :: r, s, p, h => by
    rw [lookN] at h
    split at h
    · cases h
      exact ⟨q, List.mem_cons_self, rfl, rfl⟩
    · obtain ⟨q', h1, h2⟩ := lookN_mem r s p h
      exact ⟨q', List.mem_cons_of_mem _ h1, h2⟩
theorem NGood.look {ne : Nat} {m : List NEnt} (h : NGood ne m) (s : ByteArray) (p : Nat × Nat) (hp : lookN m s = some p) : (p.1 = 10 → p.2 < ne) ∧ p.1 ≤ 13 := by
  obtain ⟨q, h1, h2, h3⟩ := lookN_mem m s p hp
  rw [← h2, ← h3]
  exact h q h1
theorem NGood.snoc {ne : Nat} {m : List NEnt} (h : NGood ne m) {q : NEnt} (hq : (q.kind = 10 → q.ref < ne) ∧ q.kind ≤ 13) : NGood ne (m ++ [q]) := by
  intro p hp
  rcases List.mem_append.1 hp with hp | hp
  · exact h p hp
  · rw [List.mem_singleton.1 hp]
    exact hq
theorem basic_good (ne : Nat) : NGood ne basicN := by
  intro q hq
  simp [basicN] at hq
  rcases hq with rfl | rfl | rfl | rfl | rfl | rfl | rfl | rfl | rfl | rfl | rfl | rfl <;> exact ⟨by simp, by simp⟩
theorem choM_good {ne i : Nat} {m m' : List NEnt} {x : RCho} (h : NGood ne m) (hi : i < ne) (he : choM i m x = .ok m') : NGood ne m' := by
  unfold choM at he
  split at he
  · cases he
  · split at he
    · split at he
      · cases he
      · cases he
        exact h.snoc ⟨fun _ => hi, by simp⟩
    · cases he
theorem chosM_good : ∀ {ne i : Nat} {m m' : List NEnt} {l : List RCho}, NGood ne m → i + l.length ≤ ne → chosM i m l = .ok m' → NGood ne m'
  | _, _, _, _, [], h, _, he => by
    cases he
    exact h
  | ne, i, m, m', x :: r, h, hi, he => by
    rw [chosM] at he
    rw [List.length_cons] at hi
    cases hx : choM i m x with
    | no c p =>
      rw [hx] at he
      cases he
    | ok m1 =>
      rw [hx, mbind_ok] at he
      exact chosM_good (choM_good h (by omega) hx) (by omega) he
theorem recM_good {ne i : Nat} {m m' : List NEnt} {x : RRec} (h : NGood ne m) (he : recM i m x = .ok m') : NGood ne m' ∧ x.fields.length ≤ 16 := by
  unfold recM at he
  split at he
  · cases he
  · split at he
    · rename_i hc
      split at he
      · cases he
      · cases he
        exact ⟨h.snoc ⟨fun h => by simp at h, by simp⟩, hc.2.2⟩
    · cases he
theorem recsM_good : ∀ {ne i : Nat} {m m' : List NEnt} {l : List RRec}, NGood ne m → recsM i m l = .ok m' → NGood ne m' ∧ ∀ x ∈ l, x.fields.length ≤ 16
  | _, _, _, _, [], h, he => by
    cases he
    exact ⟨h, fun x hx => by cases hx⟩
  | ne, i, m, m', x :: r, h, he => by
    rw [recsM] at he
    cases hx : recM i m x with
    | no c p =>
      rw [hx] at he
      cases he
    | ok m1 =>
      rw [hx, mbind_ok] at he
      obtain ⟨h1, h2⟩ := recM_good h hx
      obtain ⟨h3, h4⟩ := recsM_good h1 he
      refine ⟨h3, fun y hy => ?_⟩
      rcases List.mem_cons.1 hy with rfl | hy
      · exact h2
      · exact h4 y hy
structure RawOk (x : RRaw) : Prop where
  en : ∀ e ∈ x.enums, e.name.length ≤ 100 ∧ ∀ t ∈ e.names, t.text.length ≤ 100
  st : ∀ s ∈ x.structs, s.name.length ≤ 100 ∧ ∀ f ∈ s.fields, f.dflt.text.length ≤ 281474976710656 ∧ f.name.length ≤ 281474976710656
end Go.Proofs.YtleclhnlojalbaaGreatDoor
namespace Go.Proofs.YtleclhnlojalbaaGreatDoor
open Go.RowKit

theorem lookN_memS : ∀ (m : List NEnt) (s : ByteArray) (p : Nat × Nat), lookN m s = some p → ∃ q ∈ m, q.kind = p.1 ∧ q.name = s
  | [], _, _, h => by cases h
  | q :: r, s, p, h => by
    rw [lookN] at h
    split at h
    · rename_i e
      cases h
      exact ⟨q, List.mem_cons_self, rfl, e.symm⟩
    · obtain ⟨q', h1, h2⟩ := lookN_memS r s p h
      exact ⟨q', List.mem_cons_of_mem _ h1, h2⟩
theorem hasS_append (a b : List ByteArray) (s : ByteArray) : hasS (a ++ b) s = (hasS a s || hasS b s) := by
  induction a with
  | nil => simp [hasS]
  | cons x r ih => simp [hasS, ih, Bool.or_assoc]
theorem lookN_has (m : List NEnt) (s : ByteArray) : (lookN m s).isSome = hasS (m.map NEnt.name) s := by
  induction m with
  | nil => rfl
  | cons q r ih =>
    rw [lookN, List.map_cons, hasS]
    by_cases h : s = q.name
    · simp [h]
    · simp [h, ih]
theorem look_append (a b : List NEnt) (s : ByteArray) : lookN (a ++ b) s = (lookN a s).or (lookN b s) := by
  induction a with
  | nil => simp [lookN]
  | cons q r ih =>
    simp only [List.cons_append, lookN]
    split
    · rfl
    · exact ih
def basicS : List ByteArray := basicN.map NEnt.name
def takenB (used : List ByteArray) (s : ByteArray) : Bool := hasS basicS s || hasS used s
def basicK (s : ByteArray) : Nat := match lookN basicN s with
  | some q => q.1
  | none => 0
def entsOf (kd : Nat) : Nat → List ByteArray → List NEnt
  | _, [] => []
  | i, s :: r => ⟨s, kd, i⟩ :: entsOf kd (i + 1) r
def choNm (x : RCho) : ByteArray := strOfNums x.name
def recNm (x : RRec) : ByteArray := strOfNums x.name
theorem look_ents_idx (kd : Nat) : ∀ (l : List ByteArray) (i : Nat) (s : ByteArray), lookN (entsOf kd i l) s = (idx l s).map fun k => (kd, i + k)
  | [], _, _ => rfl
  | a :: r, i, s => by
    rw [entsOf, lookN, idx]
    by_cases h : s = a
    · subst h
      simp
    · rw [if_neg h, if_neg (fun e => h e.symm), look_ents_idx kd r (i + 1) s]
      cases idx r s with
      | none => rfl
      | some k =>
        show some (kd, i + 1 + k) = some (kd, i + (k + 1))
        rw [Nat.add_assoc, Nat.add_comm 1 k]
theorem ents_append (kd : Nat) : ∀ (a b : List ByteArray) (i : Nat), entsOf kd i (a ++ b) = entsOf kd i a ++ entsOf kd (i + a.length) b
  | [], b, i => rfl
  | x :: r, b, i => by
    rw [List.cons_append, entsOf, entsOf, List.cons_append, ents_append kd r b (i + 1), List.length_cons, Nat.add_assoc, Nat.add_comm 1 r.length]
theorem ents_names (kd : Nat) : ∀ (l : List ByteArray) (i : Nat), (entsOf kd i l).map NEnt.name = l
  | [], _ => rfl
  | s :: r, i => by rw [entsOf, List.map_cons, ents_names kd r (i + 1)]
theorem choM_ents {i : Nat} {m m' : List NEnt} {x : RCho} (h : choM i m x = .ok m') : m' = m ++ [⟨choNm x, 10, i⟩] ∧ lookN m (choNm x) = none := by
  unfold choM at h
  split at h
  · cases h
  · rename_i hn
    split at h
    · split at h
      · cases h
      · cases h
        exact ⟨rfl, by simpa [choNm] using hn⟩
    · cases h
theorem recM_ents {i : Nat} {m m' : List NEnt} {x : RRec} (h : recM i m x = .ok m') : m' = m ++ [⟨recNm x, 13, i⟩] ∧ lookN m (recNm x) = none := by
  unfold recM at h
  split at h
  · cases h
  · rename_i hn
    split at h
    · split at h
      · cases h
      · cases h
        exact ⟨rfl, by simpa [recNm] using hn⟩
    · cases h
theorem or_none {α : Type} {a b : Option α} (h : a.or b = none) : a = none := by
  cases a with
  | none => rfl
  | some x => simp at h
theorem chosM_ents : ∀ {i : Nat} {m m' : List NEnt} {l : List RCho}, chosM i m l = .ok m' → m' = m ++ entsOf 10 i (l.map choNm) ∧ ∀ x ∈ l, lookN m (choNm x) = none
  | _, _, _, [], h => by
    cases h
    exact ⟨by simp [entsOf], fun x hx => by cases hx⟩
  | i, m, m', x :: r, h => by
    rw [chosM] at h
    cases hx : choM i m x with
    | no c p =>
      rw [hx] at h
      cases h
    | ok m1 =>
      rw [hx, mbind_ok] at h
      obtain ⟨rfl, h1⟩ := choM_ents hx
      obtain ⟨h2, h3⟩ := chosM_ents h
      refine ⟨by rw [h2, List.map_cons, entsOf, List.append_assoc]; rfl, fun y hy => ?_⟩
      rcases List.mem_cons.1 hy with rfl | hy
      · exact h1
      · have := h3 y hy
        rw [look_append] at this
        exact or_none this
theorem recsM_ents : ∀ {i : Nat} {m m' : List NEnt} {l : List RRec}, recsM i m l = .ok m' → m' = m ++ entsOf 13 i (l.map recNm) ∧ ∀ x ∈ l, lookN m (recNm x) = none
  | _, _, _, [], h => by
    cases h
    exact ⟨by simp [entsOf], fun x hx => by cases hx⟩
  | i, m, m', x :: r, h => by
    rw [recsM] at h
    cases hx : recM i m x with
    | no c p =>
      rw [hx] at h
      cases h
    | ok m1 =>
      rw [hx, mbind_ok] at h
      obtain ⟨rfl, h1⟩ := recM_ents hx
      obtain ⟨h2, h3⟩ := recsM_ents h
      refine ⟨by rw [h2, List.map_cons, entsOf, List.append_assoc]; rfl, fun y hy => ?_⟩
      rcases List.mem_cons.1 hy with rfl | hy
      · exact h1
      · have := h3 y hy
        rw [look_append] at this
        exact or_none this
theorem idx_mem : ∀ {l : List ByteArray} {s : ByteArray} {k : Nat}, idx l s = some k → s ∈ l ∧ k < l.length
  | [], _, _, h => by cases h
  | a :: r, s, k, h => by
    rw [idx] at h
    split at h
    · rename_i e
      cases h
      exact ⟨e ▸ List.mem_cons_self, by simp⟩
    · cases hr : idx r s with
      | none => rw [hr] at h; cases h
      | some j =>
        rw [hr] at h
        cases h
        obtain ⟨h1, h2⟩ := idx_mem hr
        exact ⟨List.mem_cons_of_mem _ h1, by simp; omega⟩
def kindD (es ss : List ByteArray) (s : ByteArray) : Option (Nat × Nat) :=
  if basicK s ≠ 0 then some (basicK s, 0) else match idx es s with
    | some k => some (10, k)
    | none => match idx ss s with
      | some k => some (13, k)
      | none => none
theorem basic_ref : ∀ s q, lookN basicN s = some q → q.2 = 0 ∧ q.1 ≠ 10 ∧ q.1 ≠ 13 := by
  intro s q h
  obtain ⟨p, hp, h1, h2⟩ := lookN_mem _ _ _ h
  simp [basicN] at hp
  rcases hp with rfl | rfl | rfl | rfl | rfl | rfl | rfl | rfl | rfl | rfl | rfl | rfl <;> (dsimp only at h1 h2; omega)
structure Named (m : List NEnt) (es ss : List ByteArray) : Prop where
  all : m = basicN ++ entsOf 10 0 es ++ entsOf 13 0 ss
  en : ∀ s ∈ es, lookN basicN s = none
  st : ∀ s ∈ ss, lookN basicN s = none ∧ idx es s = none
theorem named_of {ec : List RCho} {sc : List RRec} {m1 m : List NEnt} (h1 : chosM 0 basicN ec = .ok m1) (h2 : recsM 0 m1 sc = .ok m) : Named m (ec.map choNm) (sc.map recNm) := by
  obtain ⟨rfl, h3⟩ := chosM_ents h1
  obtain ⟨rfl, h4⟩ := recsM_ents h2
  refine ⟨rfl, fun s hs => ?_, fun s hs => ?_⟩
  · obtain ⟨x, hx, rfl⟩ := List.mem_map.1 hs
    exact h3 x hx
  · obtain ⟨x, hx, rfl⟩ := List.mem_map.1 hs
    have := h4 x hx
    rw [look_append] at this
    have hb := or_none this
    rw [hb, Option.none_or, look_ents_idx] at this
    exact ⟨hb, by simpa using this⟩
theorem Named.look {m : List NEnt} {es ss : List ByteArray} (h : Named m es ss) (s : ByteArray) : lookN m s = (lookN basicN s).or (((idx es s).map fun k => (10, k)).or ((idx ss s).map fun k => (13, k))) := by
  rw [h.all, List.append_assoc, look_append, look_append, look_ents_idx, look_ents_idx]
  simp
theorem Named.kind {m : List NEnt} {es ss : List ByteArray} (h : Named m es ss) (s : ByteArray) : kindD es ss s = (lookN m s).bind fun q => if q.1 = 0 then none else some q := by
  rw [h.look, kindD, basicK]
  cases hb : lookN basicN s with
  | some q =>
    obtain ⟨h2, h10, h13⟩ := basic_ref _ _ hb
    obtain ⟨k, r⟩ := q
    simp only at h2 h10 h13
    subst h2
    by_cases hk : k = 0
    · subst hk
      have he : idx es s = none := by
        cases hi : idx es s with
        | none => rfl
        | some j =>
          have := h.en s (idx_mem hi).1
          rw [hb] at this
          cases this
      have hs : idx ss s = none := by
        cases hi : idx ss s with
        | none => rfl
        | some j =>
          have := (h.st s (idx_mem hi).1).1
          rw [hb] at this
          cases this
      simp [he, hs]
    · simp [hk]
  | none =>
    cases idx es s with
    | some k => simp
    | none =>
      cases idx ss s with
      | some k => simp
      | none => simp
theorem Named.root {m : List NEnt} {es ss : List ByteArray} (h : Named m es ss) (s : ByteArray) :
    (match lookN m s with
      | none => (none : Option Nat)
      | some q => if q.1 = 13 then some q.2 else none) = idx ss s := by
  rw [h.look]
  cases hi : idx ss s with
  | some k =>
    obtain ⟨hb, he⟩ := h.st s (idx_mem hi).1
    simp [hb, he]
  | none =>
    cases hb : lookN basicN s with
    | some q =>
      obtain ⟨_, _, h13⟩ := basic_ref _ _ hb
      simp [h13]
    | none =>
      cases idx es s with
      | some k => simp
      | none => simp
/-! ### looked at one by one -/
theorem idx_cut : ∀ (l : List ByteArray) (s : ByteArray) (k : Nat), hasS (l.take k) s = false → idx l s = (idx (l.drop k) s).map (· + k)
  | l, s, 0, _ => by simp
  | [], s, k + 1, _ => by simp [idx]
  | a :: r, s, k + 1, h => by
    rw [List.take_succ_cons, hasS, Bool.or_eq_false_iff] at h
    rw [List.drop_succ_cons, idx, if_neg (fun e => by simp [e] at h), idx_cut r s k h.2]
    cases idx (r.drop k) s with
    | none => rfl
    | some j =>
      show some (j + k + 1) = some (j + (k + 1))
      rw [Nat.add_assoc]
theorem has_take_succ (l : List ByteArray) (s : ByteArray) (k : Nat) (hk : k < l.length) : hasS (l.take (k + 1)) s = (hasS (l.take k) s || decide (s = l[k])) := by
  rw [List.take_succ_eq_append_getElem hk, hasS_append]
  simp [hasS]
theorem has_take_true (l : List ByteArray) (s : ByteArray) (k : Nat) (hk : k < l.length) (h : l[k] = s) : hasS l s = true := by
  rw [← List.take_append_drop (k + 1) l, hasS_append, has_take_succ l s k hk]
  simp [h]
theorem idx_at (l : List ByteArray) (s : ByteArray) (k : Nat) (hk : k < l.length) (hn : hasS (l.take k) s = false) (h : l[k] = s) : idx l s = some k := by
  rw [idx_cut l s k hn, List.drop_eq_getElem_cons hk, idx, if_pos h]
  simp
theorem idx_no (l : List ByteArray) (s : ByteArray) (hn : hasS l s = false) : idx l s = none := by
  rw [idx_cut l s l.length (by rw [List.take_length]; exact hn)]
  simp [idx]
theorem dupD_step (l : List ByteArray) (k : Nat) (hk : k < l.length) : dupFrom (l.take k) (l.drop k) = if hasS (l.take k) l[k] = true then some k else dupFrom (l.take (k + 1)) (l.drop (k + 1)) := by
  rw [List.drop_eq_getElem_cons hk, dupFrom, List.take_succ_eq_append_getElem hk]
  simp only [List.length_take]
  rw [Nat.min_eq_left (Nat.le_of_lt hk)]
end Go.Proofs.YtleclhnlojalbaaGreatDoor
namespace Go.Proofs.YtleclhnlojalbaaGreatDoor
open Go.ChangeShapes Go.WideShapes Go.ChangeAt Go.RowKit Go.Shelf

def basicL : List ByteArray :=
  [⟨#[98, 111, 111, 108]⟩, ⟨#[105, 56]⟩, ⟨#[105, 49, 54]⟩, ⟨#[105, 51, 50]⟩, ⟨#[105, 54, 52]⟩, ⟨#[117, 56]⟩, ⟨#[117, 49, 54]⟩, ⟨#[117, 51, 50]⟩, ⟨#[117, 54, 52]⟩, ⟨#[]⟩, ⟨#[116, 101, 120, 116]⟩, ⟨#[100, 97, 116, 97]⟩]
theorem basicK_at (s : ByteArray) (k : Nat) (hk : k < 12) (h : basicL[k]'hk = s) (hne : s ≠ ⟨#[]⟩) : basicK s = k + 1 := by
  subst h
  have : ∀ k : Fin 12, basicL[k.val]'k.isLt ≠ ⟨#[]⟩ → basicK (basicL[k.val]'k.isLt) = k.val + 1 := by decide
  exact this ⟨k, hk⟩ hne
theorem basicK_no (s : ByteArray) (h : s = ⟨#[]⟩ ∨ hasS basicL s = false) : basicK s = 0 := by
  rcases h with rfl | h
  · decide
  · have hb : ∀ q, lookN basicN s = some q → q.1 = 0 := by
      intro q hq
      by_cases h0 : q.1 = 0
      · exact h0
      · exfalso
        obtain ⟨p, hp, h1, _⟩ := lookN_memS _ _ _ hq
        have : ∀ p ∈ basicN, p.kind ≠ 0 → hasS basicL p.name = true := by decide
        have h2 := this p hp (by omega)
        simp_all
    unfold basicK
    cases hl : lookN basicN s with
    | none => rfl
    | some q => exact hb q hl
theorem taken_eq (used : List ByteArray) (s : ByteArray) : takenB used s = (decide (basicK s ≠ 0) || decide (s = ⟨#[108, 105, 115, 116]⟩) || hasS used s) := by
  unfold takenB
  congr 1
  rw [basicS, ← lookN_has, basicK]
  cases hl : lookN basicN s with
  | none =>
    have : s ≠ ⟨#[108, 105, 115, 116]⟩ := by
      rintro rfl
      revert hl
      decide
    simp [this]
  | some q =>
    by_cases h0 : q.1 = 0
    · have : s = ⟨#[108, 105, 115, 116]⟩ := by
        obtain ⟨p, hp, h1, rfl⟩ := lookN_memS _ _ _ hl
        have : ∀ p ∈ basicN, p.kind = 0 → p.name = ⟨#[108, 105, 115, 116]⟩ := by decide
        exact this p hp (by omega)
      simp [this]
    · simp [h0]
theorem strL_beq (a b : ByteArray) : (a.toList == b.toList) = decide (a = b) := by
  rw [ByteArray.toList_eq, ByteArray.toList_eq, Bool.eq_iff_iff, beq_iff_eq, decide_eq_true_iff]
  refine ⟨fun h => ?_, fun h => by rw [h]⟩
  obtain ⟨⟨a⟩⟩ := a
  obtain ⟨⟨b⟩⟩ := b
  simp only at h
  rw [h]
theorem ba_yes {a b : ByteArray} (h : a = b) : (a.toList == b.toList) = true := by rw [strL_beq]; exact decide_eq_true h
theorem ba_no {a b : ByteArray} (h : a ≠ b) : (a.toList == b.toList) = false := by rw [strL_beq]; exact decide_eq_false h
theorem list_lit : (⟨#[108, 105, 115, 116]⟩ : ByteArray).toList = [108, 105, 115, 116] := by rw [ByteArray.toList_eq]
theorem ba_nil {a : ByteArray} (h : a = ⟨#[]⟩) : a.toList.isEmpty = true := by
  subst h
  rw [ByteArray.toList_eq]
  rfl
theorem ba_some {a : ByteArray} (h : a ≠ ⟨#[]⟩) : a.toList.isEmpty = false := by
  rw [ByteArray.toList_eq]
  cases hl : a.data.toList with
  | cons x r => rfl
  | nil =>
    exfalso
    obtain ⟨⟨l⟩⟩ := a
    simp only at hl
    subst hl
    exact h rfl
set_option maxRecDepth 100000 in
set_option maxHeartbeats 2000000 in
theorem rbasic_any (s : ByteArray) (w : World) : Calls Tryz.prog 77 #[.string s] w fun e w' => e = .returned (.int .u8 (basicK s : Nat)) ∧ Below w.heap.size w w' := by
  have HB := Lib.hid ((Below.refl w.heap.size w).alloc (Nat.le_refl _) (.cells #[Value.string ⟨#[98, 111, 111, 108]⟩, Value.string ⟨#[105, 56]⟩, Value.string ⟨#[105, 49, 54]⟩, Value.string ⟨#[105, 51, 50]⟩, Value.string ⟨#[105, 54, 52]⟩, Value.string ⟨#[117, 56]⟩, Value.string ⟨#[117, 49, 54]⟩, Value.string ⟨#[117, 51, 50]⟩, Value.string ⟨#[117, 54, 52]⟩, Value.string ⟨#[]⟩, Value.string ⟨#[116, 101, 120, 116]⟩, Value.string ⟨#[100, 97, 116, 97]⟩] 9))
  have HN := Lib.hid (heap_alloc_new w (.cells #[Value.string ⟨#[98, 111, 111, 108]⟩, Value.string ⟨#[105, 56]⟩, Value.string ⟨#[105, 49, 54]⟩, Value.string ⟨#[105, 51, 50]⟩, Value.string ⟨#[105, 54, 52]⟩, Value.string ⟨#[117, 56]⟩, Value.string ⟨#[117, 49, 54]⟩, Value.string ⟨#[117, 51, 50]⟩, Value.string ⟨#[117, 54, 52]⟩, Value.string ⟨#[]⟩, Value.string ⟨#[116, 101, 120, 116]⟩, Value.string ⟨#[100, 97, 116, 97]⟩] 9))
  have HK := Lib.hid (basicK_at s)
  have HO := Lib.hid (basicK_no s)
  have HC := Lib.hid (show ∀ k (hk : k < 12), (#[Value.string ⟨#[98, 111, 111, 108]⟩, Value.string ⟨#[105, 56]⟩, Value.string ⟨#[105, 49, 54]⟩, Value.string ⟨#[105, 51, 50]⟩, Value.string ⟨#[105, 54, 52]⟩, Value.string ⟨#[117, 56]⟩, Value.string ⟨#[117, 49, 54]⟩, Value.string ⟨#[117, 51, 50]⟩, Value.string ⟨#[117, 54, 52]⟩, Value.string ⟨#[]⟩, Value.string ⟨#[116, 101, 120, 116]⟩, Value.string ⟨#[100, 97, 116, 97]⟩] : Array Value)[k]? = some (.string (basicL[k]'hk)) from fun k hk => by
    show (basicL.map Value.string).toArray[k]? = _
    rw [List.getElem?_toArray, List.getElem?_map, List.getElem?_eq_getElem (show k < basicL.length from hk)]
    rfl)
  obtain ⟨kk, hkk⟩ : ∃ kk, basicK s = kk := ⟨_, rfl⟩
  rw [hkk] at HK HO ⊢
  clear hkk
  go_enter Tryz.func77, Tryz.ntmps77
  go_wp2
  generalize w.alloc (.cells #[Value.string ⟨#[98, 111, 111, 108]⟩, Value.string ⟨#[105, 56]⟩, Value.string ⟨#[105, 49, 54]⟩, Value.string ⟨#[105, 51, 50]⟩, Value.string ⟨#[105, 54, 52]⟩, Value.string ⟨#[117, 56]⟩, Value.string ⟨#[117, 49, 54]⟩, Value.string ⟨#[117, 51, 50]⟩, Value.string ⟨#[117, 54, 52]⟩, Value.string ⟨#[]⟩, Value.string ⟨#[116, 101, 120, 116]⟩, Value.string ⟨#[100, 97, 116, 97]⟩] 9) = W at *
  go_loop [4] (fun i => ∃ k : Nat, k ≤ 12 ∧ i = .int .i64 k ∧ (s = ⟨#[]⟩ ∨ hasS (basicL.take k) s = false)) (fun i => 12 - (intOf i).toNat)
  case atStart => exact ⟨0, Nat.zero_le _, rfl, .inr rfl⟩
  case round =>
    obtain ⟨k, hk, rfl, hi⟩ := hrel
    have hlt := blk_lt HN.out
    by_cases hkl : k < 12
    · have x0 : W.cell? ⟨w.heap.size, k, none⟩ = some (.string (basicL[k]'hkl)) := (blk_cell HN.out k).trans (HC.out k hkl)
      have hst := has_take_succ basicL s k hkl
      have HD := Lib.hid (HK.out k hkl)
      generalize basicL[k]'hkl = q at *
      by_cases hs : s = ⟨#[]⟩
      · have t1 : s.toList.isEmpty = true := ba_nil hs
        have t2 : (!s.toList.isEmpty) = false := by rw [t1]; rfl
        have HS := Lib.hid hs
        clear hs hi hst
        by_cases hq : q = s
        · have t3 : (q.toList == s.toList) = true := ba_yes hq
          clear hq
          go_wp2
          go_round
          case rel => exact ⟨k + 1, by omega, by go_num, .inl HS.out⟩
          case measure => simp [intOf]; omega
        · have t3 : (q.toList == s.toList) = false := ba_no hq
          clear hq
          go_wp2
          go_round
          case rel => exact ⟨k + 1, by omega, by go_num, .inl HS.out⟩
          case measure => simp [intOf]; omega
      · have t1 : s.toList.isEmpty = false := ba_some hs
        have t2 : (!s.toList.isEmpty) = true := by rw [t1]; rfl
        by_cases hq : q = s
        · have HE := Lib.hid (HD.out hq hs)
          have t3 : (q.toList == s.toList) = true := ba_yes hq
          have hw : IntKind.u8.wrap ((k : Int) + 1) = ((k + 1 : Nat) : Int) := IntWalk.u8_in _ ⟨by omega, by omega⟩
          clear hq hs hi hst
          go_wp2
          go_ret
          exact ⟨ret_int (show ((k : Int) + 1) = ((kk : Nat) : Int) by rw [HE.out]; omega), HB.out⟩
        · have HI := Lib.hid (show hasS (basicL.take (k + 1)) s = false by rw [hst, (hi.resolve_left hs)]; rw [Bool.false_or]; exact decide_eq_false fun e => hq e.symm)
          have t3 : (q.toList == s.toList) = false := ba_no hq
          clear hq hs hi hst
          go_wp2
          go_round
          case rel => exact ⟨k + 1, by omega, by go_num, .inr HI.out⟩
          case measure => simp [intOf]; omega
    · obtain rfl : k = 12 := by omega
      have HE := Lib.hid (HO.out hi)
      clear hi
      go_wp2
      go_ret
      exact ⟨by rw [HE.out]; rfl, HB.out⟩
theorem rtaken_any (used : List ByteArray) (v : Value) (base : Nat) (w : World) (h : w.ownsRow base 9 1 v used.length (strsCells used)) (s : ByteArray) :
    Calls Tryz.prog 44 #[v, .string s] w fun e w' => e = .returned (.bool (takenB used s)) ∧ Below w.heap.size w w' := by
  obtain ⟨a, c, rfl⟩ := ownsRow_form h
  have hfew := row_few h
  have HR := Lib.hid h
  have HT := Lib.hid (taken_eq used s)
  obtain ⟨r, hr⟩ : ∃ r, takenB used s = r := ⟨_, rfl⟩
  rw [hr] at HT ⊢
  clear h hr
  go_enter Tryz.func44, Tryz.ntmps44
  go_wp2_with fail
  refine (rbasic_any s w).mono ?_
  rintro e W1 ⟨rfl, hb⟩
  have HB := Lib.hid hb
  have HR1 := Lib.hid (row_keep hb HR.out)
  clear hb HR
  by_cases hk : basicK s = 0
  · have HT2 := Lib.hid (show r = (decide (s = ⟨#[108, 105, 115, 116]⟩) || hasS used s) by rw [HT.out, hk]; rfl)
    rw [hk]
    clear hk HT
    by_cases hl : s = ⟨#[108, 105, 115, 116]⟩
    · have t1 : (s.toList == [108, 105, 115, 116]) = true := by rw [← list_lit]; exact ba_yes hl
      have HT3 := Lib.hid (show r = true by rw [HT2.out, decide_eq_true hl]; rfl)
      clear hl HT2
      go_wp2
      go_ret
      exact ⟨ret_bool HT3.out.symm, HB.out⟩
    · have t1 : (s.toList == [108, 105, 115, 116]) = false := by rw [← list_lit]; exact ba_no hl
      have HT3 := Lib.hid (show r = hasS used s by rw [HT2.out, decide_eq_false hl]; rfl)
      clear hl HT2
      go_wp2
      go_loop [5] (fun i => ∃ k : Nat, k ≤ used.length ∧ i = .int .i64 k ∧ hasS (used.take k) s = false) (fun i => used.length - (intOf i).toNat)
      case atStart => exact ⟨0, Nat.zero_le _, rfl, rfl⟩
      case round =>
        obtain ⟨k, hk, rfl, hi⟩ := hrel
        by_cases hkl : k < used.length
        · obtain ⟨g, cc, hv, hcc, hg, hcell⟩ := row_el strCells 1 (fun _ => rfl) HR1.out k hkl
          obtain ⟨rfl, rfl⟩ := slice_inj hv
          have x0 : W1.cell? ⟨g, k, none⟩ = some (.string used[k]) := by have := hcell 0 (by omega); rw [Nat.mul_one, Nat.add_zero] at this; exact this
          have hst := has_take_succ used s k hkl
          have HD := Lib.hid (has_take_true used s k hkl)
          generalize used[k] = q at *
          by_cases hq : q = s
          · have HE := Lib.hid (HT3.out.trans (HD.out hq))
            have t3 : (q.toList == s.toList) = true := ba_yes hq
            clear hq hi hst hcell hv
            go_wp2
            go_ret
            exact ⟨ret_bool HE.out.symm, HB.out⟩
          · have HI := Lib.hid (show hasS (used.take (k + 1)) s = false by rw [hst, hi, Bool.false_or]; exact decide_eq_false fun e => hq e.symm)
            have t3 : (q.toList == s.toList) = false := ba_no hq
            clear hq hi hst hcell hv
            go_wp2
            go_round
            case rel => exact ⟨k + 1, by omega, by go_num, HI.out⟩
            case measure => simp [intOf]; omega
        · obtain rfl : k = used.length := by omega
          have HE := Lib.hid (show r = false from HT3.out.trans (by rw [List.take_length] at hi; exact hi))
          clear hi
          go_wp2
          go_ret
          exact ⟨ret_bool HE.out.symm, HB.out⟩
  · have HT2 := Lib.hid (show r = true by rw [HT.out, decide_eq_true hk]; rfl)
    have t1 : ((basicK s : Int) == 0) = false := by simp; omega
    have t2 : ((basicK s : Int) != 0) = true := by simp; omega
    generalize basicK s = kk at *
    clear hk HT
    go_wp2
    go_ret
    exact ⟨ret_bool HT2.out.symm, HB.out⟩
end Go.Proofs.YtleclhnlojalbaaGreatDoor
namespace Go.Proofs.YtleclhnlojalbaaGreatDoor
open Go.ChangeShapes Go.WideShapes Go.ChangeAt Go.RowKit Go.Shelf
theorem bts_strOf (zs : List Int) (h : ∀ z ∈ zs, 0 ≤ z ∧ z ≤ 255) : bts (strOfNums zs) = zs := by
  unfold bts
  rw [strOfNums_data, List.map_map]
  conv => rhs; rw [← List.map_id zs]
  refine List.map_congr_left fun z hz => ?_
  have := h z hz
  simp only [Function.comp, UInt8.toNat_ofNat', id]
  omega
end Go.Proofs.YtleclhnlojalbaaGreatDoor
namespace Go.Proofs.YtleclhnlojalbaaGreatDoor
open Go.ChangeShapes Go.WideShapes Go.ChangeAt Go.RowKit Go.Shelf

set_option maxRecDepth 100000 in
theorem isnum_any (kind ref lists : Nat) (w : World) (hk : kind ≤ 255) :
    Calls Tryz.prog 24 #[.agg #[.int .u8 kind, .int .i64 ref, .int .i64 lists]] w fun e w' => e = .returned (.bool (isNumP kind lists)) ∧ Below w.heap.size w w' := by
  have h0 := heap_alloc_new w (.cells #[.int .u8 kind, .int .i64 ref, .int .i64 lists] 53)
  have HB := Lib.hid ((Below.refl w.heap.size w).alloc (Nat.le_refl _) (.cells #[.int .u8 kind, .int .i64 ref, .int .i64 lists] 53))
  obtain ⟨_, x0, x1, x2, _⟩ := blk3 h0
  clear h0
  have hb1 : (kind : Int) ≤ 255 := by omega
  by_cases hl : lists = 0
  · have HS : Hid (isNumP kind lists = decide (0 < kSize kind)) := Lib.hid (by unfold isNumP; rw [decide_eq_true hl, Bool.true_and])
    subst hl
    go_enter Tryz.func24, Tryz.ntmps24
    go_wp2_with fail
    refine (rsize_any _ _).mono ?_
    rintro e W1 ⟨rfl, rfl⟩
    generalize kSize (kind : Int) = z at *
    by_cases hs : 0 < z
    · go_wp2
      go_ret
      exact ⟨ret_bool (HS.out.trans (decide_eq_true hs)).symm, HB.out⟩
    · go_wp2
      go_ret
      exact ⟨ret_bool HS.out.symm, HB.out⟩
  · have HS : Hid (isNumP kind lists = false) := Lib.hid (by unfold isNumP; rw [decide_eq_false hl, Bool.false_and])
    have hl1 : ((lists : Int) == 0) = false := by simp; omega
    clear hl
    go_enter Tryz.func24, Tryz.ntmps24
    go_wp2
    go_ret
    exact ⟨ret_bool HS.out.symm, HB.out⟩
end Go.Proofs.YtleclhnlojalbaaGreatDoor
namespace Go.Proofs.YtleclhnlojalbaaGreatDoor
open Go.ChangeShapes Go.WideShapes Go.ChangeAt Go.RowKit

def loopsOf : Code → List Code
  | .loop c => c :: loopsOf c
  | .seq a b => loopsOf a ++ loopsOf b
  | .block _ c => loopsOf c
  | .scope c => loopsOf c
  | .cond _ a b => loopsOf a ++ loopsOf b
  | _ => []
end Go.Proofs.YtleclhnlojalbaaGreatDoor
