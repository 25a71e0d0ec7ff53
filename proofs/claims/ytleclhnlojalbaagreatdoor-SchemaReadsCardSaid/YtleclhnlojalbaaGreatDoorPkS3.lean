/-
  Schemas, and what the hand makes of a plan: plain; how both lie in memory. No run of the program stands in this text. Conditions: those that each theorem names.
  Plain facts on decimal numbers as texts: when a text is a number, which one it says, and whether that is one of so many bytes. No run of the program stands in this text. Conditions: those that each theorem names.
  Maps of the call's own whose keys are texts: 'MapAt W b l': block b of W is a map with these keys and values; what a look-up and a store of a new key do to it. Conditions: those that each theorem names.
  Plain facts on what is written as a schema that means something: a function of what is written that hands back the schema, or the first fault and its place. No run of the program stands in this text. Conditions: those that each theorem names.
  Plain facts on the plain Make: the names' kinds and places, how many fields. No run of the program stands in this text. Conditions: those that each theorem names.
-/
import Derived.Test.YtleclhnlojalbaaGreatDoorPkS1
import Derived.Test.YtleclhnlojalbaaGreatDoorPkS2
import Derived.Lib.ParseIntB
import Derived.Laws.BitsLemmas
import Derived.IntWalk
import Derived.Maps.Own
namespace Go.Proofs.YtleclhnlojalbaaGreatDoor
open Go.ChangeShapes Go.WideShapes Go.ChangeAt Go.RowKit Go.Shelf

/-- A field of a plan, a plan: small numbers. -/
structure PF where
  kind : Nat
  lists : Nat
  ref : Nat
  name : Nat
  dflt : Nat
structure Plan where
  enums : List Nat
  structs : List (List PF)
  root : Nat
  tree : Bool
/-- A schema. -/
structure SFld where
  name : ByteArray
  kind : Nat
  ref : Nat
  lists : Nat
  dflt : Nat
structure SRec where
  name : ByteArray
  fields : List SFld
structure SCho where
  name : ByteArray
  names : List ByteArray
structure Sch where
  structs : List SRec
  enums : List SCho
  root : Nat
def enumName (i : Nat) : ByteArray := ⟨#[69]⟩ ++ strOfNums [97 + (i : Int)]
def valName (k : Nat) : ByteArray := ⟨#[118]⟩ ++ strOfNums [97 + (k : Int) % 26, 97 + (k : Int) / 26]
def recName (i : Nat) : ByteArray := ⟨#[83]⟩ ++ strOfNums [97 + (i : Int)]
def labelHeads : List ByteArray := [⟨#[97]⟩, ⟨#[120, 95]⟩, ⟨#[90, 101, 100]⟩, ⟨#[195, 169]⟩, ⟨#[239, 172, 128]⟩, ⟨#[240, 159, 152, 128]⟩, ⟨#[108, 105, 115, 116]⟩, ⟨#[98, 32, 99]⟩, ⟨#[115, 116, 114, 117, 99, 116]⟩, ⟨#[47]⟩]
def headOf (m : Nat) : ByteArray := labelHeads.getD m ⟨#[]⟩
def labelOf (n i : Nat) : ByteArray := headOf (n % 10) ++ strOfNums [97 + (i : Int) % 26]
/-- How many values an enum of a plan has. -/
def cntOf (p : Plan) (e : Nat) : Nat := p.enums.getD e 0 % 32 + 1
/-- A number of a kind out of any bits; cnt: how many values its enum has. -/
def numP (cnt kind n : Nat) : Nat :=
  if kind = 1 then n % 2 else if kind = 10 then n % cnt else
    let m : Nat := if kSize kind < 8 then n % 2 ^ (8 * (kSize kind).toNat) else n
    if kSign kind = true then (sgnOf m (kSize kind)).toNat else m
def isNumP (kind lists : Nat) : Bool := decide (lists = 0) && decide (0 < kSize kind)
def kind0 (p : Plan) (f : PF) : Nat := if f.kind % 13 + 1 = 10 ∧ p.enums.length = 0 then 7 else f.kind % 13 + 1
def ref0 (p : Plan) (f : PF) : Nat := if kind0 p f = 10 then f.ref % p.enums.length else 0
def kindP (p : Plan) (i : Nat) (f : PF) : Nat := if kind0 p f = 13 ∧ p.tree = true ∧ i + 1 = p.structs.length then 11 else kind0 p f
def refP (p : Plan) (i : Nat) (f : PF) : Nat :=
  if kindP p i f = 13 then (if p.tree = true then i + 1 + f.ref % (p.structs.length - i - 1) else f.ref % p.structs.length) else ref0 p f
def fldP (p : Plan) (i k : Nat) (f : PF) : SFld :=
  ⟨labelOf f.name k, kindP p i f, refP p i f, f.lists % 4, if isNumP (kindP p i f) (f.lists % 4) = true then numP (cntOf p (refP p i f)) (kindP p i f) f.dflt else 0⟩
def noPF : PF := ⟨0, 0, 0, 0, 0⟩
def fldsP (p : Plan) (i : Nat) (l : List PF) (n : Nat) : List SFld := (List.range n).map fun k => fldP p i k (l.getD k noPF)
def recP (p : Plan) (i : Nat) : SRec := ⟨recName i, fldsP p i (p.structs.getD i []) (p.structs.getD i []).length⟩
def choP (p : Plan) (i : Nat) : SCho := ⟨enumName i, (List.range (cntOf p i)).map valName⟩
def recsP (p : Plan) (n : Nat) : List SRec := (List.range n).map (recP p)
def chosP (p : Plan) (n : Nat) : List SCho := (List.range n).map (choP p)
/-- Is the plan one of which a schema is made? -/
def planOk (p : Plan) : Prop := 1 ≤ p.structs.length ∧ p.structs.length ≤ 16 ∧ p.enums.length ≤ 8 ∧ ∀ l ∈ p.structs, 1 ≤ l.length ∧ l.length ≤ 16
def schP (p : Plan) : Sch := ⟨recsP p p.structs.length, chosP p p.enums.length, p.root % p.structs.length⟩
theorem fldsP_succ (p : Plan) (i : Nat) (l : List PF) (n : Nat) : fldsP p i l (n + 1) = fldsP p i l n ++ [fldP p i n (l.getD n noPF)] := by simp [fldsP, List.range_succ]
theorem recsP_succ (p : Plan) (n : Nat) : recsP p (n + 1) = recsP p n ++ [recP p n] := by simp [recsP, List.range_succ]
theorem chosP_succ (p : Plan) (n : Nat) : chosP p (n + 1) = chosP p n ++ [choP p n] := by simp [chosP, List.range_succ]
theorem fldsP_length (p : Plan) (i : Nat) (l : List PF) (n : Nat) : (fldsP p i l n).length = n := by simp [fldsP]
theorem recsP_length (p : Plan) (n : Nat) : (recsP p n).length = n := by simp [recsP]
theorem chosP_length (p : Plan) (n : Nat) : (chosP p n).length = n := by simp [chosP]

/-! ### in memory -/
def sfldCells (f : SFld) : List Value := [.string f.name, .int .u8 f.kind, .int .i64 f.ref, .int .i64 f.lists, .int .u64 f.dflt]
def sfldsCells (l : List SFld) : List Value := l.flatMap sfldCells
def strCells (s : ByteArray) : List Value := [.string s]
def strsCells (l : List ByteArray) : List Value := l.flatMap strCells
def srecCells (q : SRec × Value) : List Value := [.string q.1.name, q.2]
def schoCells (q : SCho × Value) : List Value := [.string q.1.name, q.2]
def srecsCells (l : List (SRec × Value)) : List Value := l.flatMap srecCells
def schosCells (l : List (SCho × Value)) : List Value := l.flatMap schoCells
theorem sfldsCells_snoc (l : List SFld) (f : SFld) : sfldsCells (l ++ [f]) = sfldsCells l ++ sfldCells f := by simp [sfldsCells]
theorem strsCells_snoc (l : List ByteArray) (s : ByteArray) : strsCells (l ++ [s]) = strsCells l ++ strCells s := by simp [strsCells]
theorem srecsCells_snoc (l : List (SRec × Value)) (q : SRec × Value) : srecsCells (l ++ [q]) = srecsCells l ++ srecCells q := by simp [srecsCells]
theorem schosCells_snoc (l : List (SCho × Value)) (q : SCho × Value) : schosCells (l ++ [q]) = schosCells l ++ schoCells q := by simp [schosCells]
theorem sfld_info : (Tryz.prog.info? 55).map (fun i => (i.zero, i.size, i.bytes)) = some (some (.agg #[.string ⟨#[]⟩, .int .u8 0, .int .i64 0, .int .i64 0, .int .u64 0]), 5, 48) := by kernel_rfl
theorem str_info : (Tryz.prog.info? 9).map (fun i => (i.zero, i.size, i.bytes)) = some (some (.string ⟨#[]⟩), 1, 16) := by kernel_rfl
theorem srec_info : (Tryz.prog.info? 58).map (fun i => (i.zero, i.size, i.bytes)) = some (some (.agg #[.string ⟨#[]⟩, .slice none 0 0]), 2, 40) := by kernel_rfl
theorem scho_info : (Tryz.prog.info? 60).map (fun i => (i.zero, i.size, i.bytes)) = some (some (.agg #[.string ⟨#[]⟩, .slice none 0 0]), 2, 40) := by kernel_rfl
/-- A schema in rows of the call's own. -/
structure SchRows (base : Nat) (W : World) (ss : List (SRec × Value)) (es : List (SCho × Value)) (sv ev : Value) : Prop where
  structs : W.ownsRow base 58 2 sv ss.length (srecsCells ss)
  enums : W.ownsRow base 60 2 ev es.length (schosCells es)
  fields : ∀ q ∈ ss, W.ownsRow base 55 5 q.2 q.1.fields.length (sfldsCells q.1.fields)
  names : ∀ q ∈ es, W.ownsRow base 9 1 q.2 q.1.names.length (strsCells q.1.names)
theorem SchRows.below {base : Nat} {W W' : World} {ss : List (SRec × Value)} {es : List (SCho × Value)} {sv ev : Value} (h : SchRows base W ss es sv ev) (hb : Below W.heap.size W W') : SchRows base W' ss es sv ev :=
  ⟨row_keep hb h.structs, row_keep hb h.enums, fun q hq => row_keep hb (h.fields q hq), fun q hq => row_keep hb (h.names q hq)⟩
theorem SchRows.base {base base' : Nat} {W : World} {ss : List (SRec × Value)} {es : List (SCho × Value)} {sv ev : Value} (h : SchRows base W ss es sv ev) (hb : base' ≤ base) : SchRows base' W ss es sv ev :=
  ⟨ownsRow_base h.structs hb, ownsRow_base h.enums hb, fun q hq => ownsRow_base (h.fields q hq) hb, fun q hq => ownsRow_base (h.names q hq) hb⟩
theorem SchRows.forms {base : Nat} {W : World} {ss : List (SRec × Value)} {es : List (SCho × Value)} {sv ev : Value} (h : SchRows base W ss es sv ev) : ∃ sa sc ea ec, sv = .slice sa ss.length sc ∧ ev = .slice ea es.length ec := by
  obtain ⟨sa, sc, h1⟩ := ownsRow_form h.structs
  obtain ⟨ea, ec, h2⟩ := ownsRow_form h.enums
  exact ⟨sa, sc, ea, ec, h1, h2⟩
/-- A struct of a schema in memory: its name, its fields; likewise an enum, a field, a value's name. -/
theorem SchRows.strct {base : Nat} {W : World} {ss : List (SRec × Value)} {es : List (SCho × Value)} {sv ev : Value} (h : SchRows base W ss es sv ev) (k : Nat) (hk : k < ss.length) :
    ∃ g c a n, sv = .slice (some ⟨g, 0, none⟩) ss.length c ∧ ss.length ≤ c ∧ g < W.heap.size ∧ W.cell? ⟨g, k * 2, none⟩ = some (.string ss[k].1.name) ∧ W.cell? ⟨g, k * 2 + 1, none⟩ = some (.slice a ss[k].1.fields.length n) ∧ ss[k].2 = .slice a ss[k].1.fields.length n := by
  obtain ⟨g, c, hv, hc, hg, hcell⟩ := row_el srecCells 2 (fun _ => rfl) h.structs k hk
  obtain ⟨a, n, hf⟩ := ownsRow_form (h.fields _ (List.getElem_mem hk))
  exact ⟨g, c, a, n, hv, hc, hg, hcell 0 (by omega), by rw [hcell 1 (by omega), ← hf]; rfl, hf⟩
theorem SchRows.enum {base : Nat} {W : World} {ss : List (SRec × Value)} {es : List (SCho × Value)} {sv ev : Value} (h : SchRows base W ss es sv ev) (k : Nat) (hk : k < es.length) :
    ∃ g c a n, ev = .slice (some ⟨g, 0, none⟩) es.length c ∧ es.length ≤ c ∧ g < W.heap.size ∧ W.cell? ⟨g, k * 2, none⟩ = some (.string es[k].1.name) ∧ W.cell? ⟨g, k * 2 + 1, none⟩ = some (.slice a es[k].1.names.length n) ∧ es[k].2 = .slice a es[k].1.names.length n := by
  obtain ⟨g, c, hv, hc, hg, hcell⟩ := row_el schoCells 2 (fun _ => rfl) h.enums k hk
  obtain ⟨a, n, hf⟩ := ownsRow_form (h.names _ (List.getElem_mem hk))
  exact ⟨g, c, a, n, hv, hc, hg, hcell 0 (by omega), by rw [hcell 1 (by omega), ← hf]; rfl, hf⟩
theorem SchRows.field {base : Nat} {W : World} {ss : List (SRec × Value)} {es : List (SCho × Value)} {sv ev : Value} (h : SchRows base W ss es sv ev) (k : Nat) (hk : k < ss.length) (j : Nat) (hj : j < ss[k].1.fields.length) :
    ∃ g c, ss[k].2 = .slice (some ⟨g, 0, none⟩) ss[k].1.fields.length c ∧ ss[k].1.fields.length ≤ c ∧ g < W.heap.size ∧ W.cell? ⟨g, j * 5, none⟩ = some (.string ss[k].1.fields[j].name) ∧ W.cell? ⟨g, j * 5 + 1, none⟩ = some (.int .u8 (ss[k].1.fields[j].kind : Nat)) ∧ W.cell? ⟨g, j * 5 + 2, none⟩ = some (.int .i64 (ss[k].1.fields[j].ref : Nat)) ∧ W.cell? ⟨g, j * 5 + 3, none⟩ = some (.int .i64 (ss[k].1.fields[j].lists : Nat)) ∧ W.cell? ⟨g, j * 5 + 4, none⟩ = some (.int .u64 (ss[k].1.fields[j].dflt : Nat)) := by
  obtain ⟨g, c, hv, hc, hg, hcell⟩ := row_el sfldCells 5 (fun _ => rfl) (h.fields _ (List.getElem_mem hk)) j hj
  exact ⟨g, c, hv, hc, hg, hcell 0 (by omega), hcell 1 (by omega), hcell 2 (by omega), hcell 3 (by omega), hcell 4 (by omega)⟩
theorem SchRows.name {base : Nat} {W : World} {ss : List (SRec × Value)} {es : List (SCho × Value)} {sv ev : Value} (h : SchRows base W ss es sv ev) (k : Nat) (hk : k < es.length) (j : Nat) (hj : j < es[k].1.names.length) :
    ∃ g c, es[k].2 = .slice (some ⟨g, 0, none⟩) es[k].1.names.length c ∧ es[k].1.names.length ≤ c ∧ g < W.heap.size ∧ W.cell? ⟨g, j, none⟩ = some (.string es[k].1.names[j]) := by
  obtain ⟨g, c, hv, hc, hg, hcell⟩ := row_el strCells 1 (fun _ => rfl) (h.names _ (List.getElem_mem hk)) j hj
  have h0 := hcell 0 (by omega)
  rw [Nat.mul_one, Nat.add_zero] at h0
  exact ⟨g, c, hv, hc, hg, h0⟩
/-- A plan that came in. -/
structure IsPlan (w : World) (p : Plan) (a0 : Option Addr) (n0 c0 : Nat) (a1 : Option Addr) (n1 c1 : Nat) : Prop where
  e_len : p.enums.length = n0
  s_len : p.structs.length = n1
  e_cap : n0 ≤ c0 ∧ c0 ≤ maxLen
  s_cap : n1 ≤ c1 ∧ c1 ≤ maxLen
  rt : p.root ≤ 255
  e_at : ∀ j, j < n0 → p.enums.getD j 0 ≤ 255 ∧ ∃ b off, a0 = some ⟨b, off, none⟩ ∧ b < w.heap.size ∧ w.cell? ⟨b, off + j, none⟩ = some (.int .u8 (p.enums.getD j 0 : Nat))
  s_at : ∀ r, r < n1 → ∃ b off a n c, a1 = some ⟨b, off, none⟩ ∧ b < w.heap.size ∧ w.cell? ⟨b, off + r, none⟩ = some (.slice a n c) ∧ (p.structs.getD r []).length = n ∧ n ≤ c ∧ c ≤ maxLen ∧
    ∀ k, k < n → ∃ b' off' f, (p.structs.getD r []).getD k noPF = f ∧ a = some ⟨b', off', none⟩ ∧ b' < w.heap.size ∧ w.cell? ⟨b', off' + k * 5, none⟩ = some (.int .u8 (f.kind : Nat)) ∧ w.cell? ⟨b', off' + k * 5 + 1, none⟩ = some (.int .u8 (f.lists : Nat)) ∧ w.cell? ⟨b', off' + k * 5 + 2, none⟩ = some (.int .u8 (f.ref : Nat)) ∧ w.cell? ⟨b', off' + k * 5 + 3, none⟩ = some (.int .u8 (f.name : Nat)) ∧ w.cell? ⟨b', off' + k * 5 + 4, none⟩ = some (.int .u64 (f.dflt : Nat)) ∧
      f.kind ≤ 255 ∧ f.lists ≤ 255 ∧ f.ref ≤ 255 ∧ f.name ≤ 255 ∧ (f.dflt : Int) ≤ 18446744073709551615
end Go.Proofs.YtleclhnlojalbaaGreatDoor
namespace Go.Proofs.YtleclhnlojalbaaGreatDoor
open Go.RowKit

/-- What digits say, behind those that said acc. -/
def dstep (a : Nat) (c : Int) : Nat := a * 10 + (c.toNat - 48)
def decF (acc : Nat) (ds : List Int) : Nat := ds.foldl dstep acc
/-- The greatest number of 64 bits. -/
def maxU : Nat := 18446744073709551615
theorem decF_nil (acc : Nat) : decF acc [] = acc := rfl
theorem decF_cons (acc : Nat) (c : Int) (r : List Int) : decF acc (c :: r) = decF (dstep acc c) r := List.foldl_cons ..
theorem decF_ge (ds : List Int) : ∀ acc : Nat, acc ≤ decF acc ds := by
  induction ds with
  | nil => intro acc; rw [decF_nil]; exact Nat.le_refl acc
  | cons c r ih =>
    intro acc
    rw [decF_cons]
    have := ih (dstep acc c)
    have h2 : acc ≤ dstep acc c := by unfold dstep; omega
    omega
theorem decF_append (ds es : List Int) : ∀ acc : Nat, decF acc (ds ++ es) = decF (decF acc ds) es := by
  induction ds with
  | nil => intro acc; rfl
  | cons c r ih =>
    intro acc
    rw [List.cons_append, decF_cons, decF_cons]
    exact ih _
/-- The library's own parse at digits. -/
theorem parseUintM_dec (M : Nat) (hM : M = maxU) (l : List UInt8) : ∀ acc : Nat, (∀ b ∈ l, 48 ≤ b.toNat ∧ b.toNat ≤ 57) → acc ≤ maxU →
    Lib.parseUintM M acc l = if decF acc (l.map fun b => (b.toNat : Int)) ≤ maxU then .ok (decF acc (l.map fun b => (b.toNat : Int))) else .range := by
  induction l with
  | nil =>
    intro acc _ ha
    rw [List.map_nil, decF_nil, if_pos ha]
    rfl
  | cons b r ih =>
    intro acc hd ha
    have hb := hd b List.mem_cons_self
    rw [List.map_cons, decF_cons, show dstep acc (b.toNat : Int) = acc * 10 + (b.toNat - 48) from by unfold dstep; rw [Int.toNat_natCast]]
    have hge := decF_ge (r.map fun b => (b.toNat : Int)) (acc * 10 + (b.toNat - 48))
    simp only [Lib.parseUintM]
    rw [if_pos hb]
    by_cases h1 : 1844674407370955162 ≤ acc
    · rw [if_pos h1, if_neg (by unfold maxU; omega)]
    · rw [if_neg h1]
      by_cases h2 : M < acc * 10 + (b.toNat - 48)
      · rw [if_pos h2, if_neg (by omega)]
      · rw [if_neg h2]
        exact ih _ (fun x hx => hd x (List.mem_cons_of_mem _ hx)) (by omega)
theorem maxU_eq : 2 ^ 64 - 1 = maxU := by decide
theorem parseUintB_dec (l : List UInt8) (hne : l ≠ []) (hd : ∀ b ∈ l, 48 ≤ b.toNat ∧ b.toNat ≤ 57) :
    Lib.parseUintB 64 l = if decF 0 (l.map fun b => (b.toNat : Int)) ≤ maxU then .ok (decF 0 (l.map fun b => (b.toNat : Int))) else .range := by
  unfold Lib.parseUintB
  rw [if_neg hne]
  exact parseUintM_dec _ maxU_eq l 0 hd (Nat.zero_le _)

/-- Is a text a number's? -/
def goodN (zs : List Int) : Bool := !numBad zs 0 && decide (numEnd zs 0 = zs.length)
/-- Its digits. -/
def digs (zs : List Int) : List Int := if stA zs (isC 45) 0 = true then zs.drop 1 else zs
theorem digs_drop (zs : List Int) : digs zs = zs.drop (minusTo zs 0) := by
  unfold digs minusTo
  split <;> simp
theorem good_digs {zs : List Int} (h : goodN zs = true) : digs zs ≠ [] ∧ ∀ c ∈ digs zs, 48 ≤ c ∧ c ≤ 57 := by
  unfold goodN at h
  rw [Bool.and_eq_true, Bool.not_eq_true', decide_eq_true_iff] at h
  obtain ⟨h1, h2⟩ := h
  have h0 : decide (runTo zs isDig (minusTo zs 0) - minusTo zs 0 = 0) = false := by
    unfold numBad at h1
    rw [Bool.or_eq_false_iff, Bool.or_eq_false_iff, Bool.or_eq_false_iff] at h1
    exact h1.1.1.1
  have h0' := of_decide_eq_false h0
  unfold numEnd at h2
  rw [digs_drop]
  constructor
  · intro he
    have := congrArg List.length he
    rw [List.length_drop, List.length_nil] at this
    omega
  · intro c hc
    obtain ⟨j, hj, rfl⟩ := List.mem_iff_getElem.1 hc
    rw [List.length_drop] at hj
    have := runTo_all zs isDig (minusTo zs 0) (minusTo zs 0 + j) (by omega) (by omega)
    have hp := of_decide_eq_true (show decide (48 ≤ zs.getD (minusTo zs 0 + j) 0 ∧ zs.getD (minusTo zs 0 + j) 0 ≤ 57) = true from stA_p this)
    have he : zs.getD (minusTo zs 0 + j) 0 = (zs.drop (minusTo zs 0))[j]'(by rw [List.length_drop]; omega) := by
      rw [List.getElem_drop]
      simp [List.getD, show minusTo zs 0 + j < zs.length by omega]
    rw [he] at hp
    exact hp
theorem minusTo_cases (zs : List Int) : (stA zs (isC 45) 0 = true ∧ minusTo zs 0 = 1 ∧ 1 ≤ zs.length ∧ zs.getD 0 0 = 45) ∨ (stA zs (isC 45) 0 = false ∧ minusTo zs 0 = 0) := by
  unfold minusTo
  cases h : stA zs (isC 45) 0
  · exact .inr ⟨rfl, by simp⟩
  · refine .inl ⟨rfl, by simp, stA_lt h, ?_⟩
    exact of_decide_eq_true (show decide (zs.getD 0 0 = 45) = true from stA_p h)
theorem digs_length (zs : List Int) : (digs zs).length = zs.length - minusTo zs 0 := by rw [digs_drop, List.length_drop]
theorem digs_get (zs : List Int) (j : Nat) : (digs zs).getD j 0 = zs.getD (minusTo zs 0 + j) 0 := by
  rw [digs_drop]
  simp [List.getD]
/-- A text is a number's just if its digits are so many, without a 0 ahead. -/
theorem goodN_iff (zs : List Int) : goodN zs = true ↔ (1 ≤ (digs zs).length ∧ (digs zs).length ≤ 20 ∧ ¬ (1 < (digs zs).length ∧ (digs zs).getD 0 0 = 48) ∧ zs ≠ [45, 48] ∧ ∀ j, j < (digs zs).length → isDig ((digs zs).getD j 0) = true) := by
  rw [digs_length]
  have hm := minusTo_cases zs
  unfold goodN numEnd
  rw [Bool.and_eq_true, Bool.not_eq_true', decide_eq_true_iff]
  constructor
  · rintro ⟨h1, h2⟩
    unfold numBad at h1
    rw [Bool.or_eq_false_iff, Bool.or_eq_false_iff, Bool.or_eq_false_iff, h2, decide_eq_false_iff_not, decide_eq_false_iff_not] at h1
    obtain ⟨⟨⟨a1, a2⟩, _⟩, a4⟩ := h1
    have hz : ∀ (_ : 1 ≤ zs.length - minusTo zs 0) (_ : zs.getD (minusTo zs 0) 0 = 48), stA zs (isC 48) (minusTo zs 0) = true := fun hl he => by
      rw [stA_of (by omega)]
      exact decide_eq_true he
    unfold zeroAhead at a4
    rw [h2] at a4
    refine ⟨by omega, by omega, ?_, ?_, ?_⟩
    · rintro ⟨b1, b2⟩
      rw [digs_get, Nat.add_zero] at b2
      rw [hz (by omega) b2, decide_eq_true b1, Bool.or_true] at a4
      cases a4
    · rintro rfl
      exact absurd a4 (by decide)
    · intro j hj
      rw [digs_get]
      exact stA_p (runTo_all zs isDig (minusTo zs 0) (minusTo zs 0 + j) (by omega) (by omega))
  · rintro ⟨b1, b2, b3, b4, b5⟩
    have hE : runTo zs isDig (minusTo zs 0) = zs.length := by
      refine runTo_unique (by omega) (fun j h1 h2 => ?_) (stA_ge (Nat.le_refl _))
      rw [stA_of h2]
      have := b5 (j - minusTo zs 0) (by omega)
      rw [digs_get, show minusTo zs 0 + (j - minusTo zs 0) = j by omega] at this
      exact this
    refine ⟨?_, hE⟩
    unfold numBad zeroAhead
    rw [hE, decide_eq_false (by omega), decide_eq_false (by omega), stA_ge (Nat.le_refl _)]
    simp only [Bool.false_or]
    cases h48 : stA zs (isC 48) (minusTo zs 0)
    · rfl
    · have h48' : zs.getD (minusTo zs 0) 0 = 48 := of_decide_eq_true (show decide (zs.getD (minusTo zs 0) 0 = 48) = true from stA_p h48)
      have c1 : ¬ 1 < zs.length - minusTo zs 0 := fun h => b3 ⟨h, by rw [digs_get, Nat.add_zero]; exact h48'⟩
      rw [decide_eq_false c1, Bool.or_false, Bool.true_and]
      rcases hm with ⟨m1, m2, m3, m4⟩ | ⟨m1, m2⟩
      · exfalso
        apply b4
        rw [m2] at h48' b1 c1
        match zs, b1, c1, m4, h48' with
        | [a, b], _, _, m4, h48' =>
          simp at m4 h48'
          rw [m4, h48']
        | a :: b :: c :: r, _, c1, _, _ => simp at c1
        | [_], b1, _, _, _ => simp at b1
        | [], b1, _, _, _ => simp at b1
      · exact m1
def sizedB (size : Int) : Bool := decide (size = 1 ∨ size = 2 ∨ size = 4 ∨ size = 8)
/-- How many numbers there are of so many bytes. -/
def span (size : Int) : Int := if size = 1 then 256 else if size = 2 then 65536 else if size = 4 then 4294967296 else 18446744073709551616
/-- Is a number, or its opposite, one of so many bytes? -/
def fitsB (v : Int) (below : Bool) (size : Int) (sign : Bool) : Bool :=
  if sign = true then decide (v < span size / 2) || (below && decide (v = span size / 2)) else !below && decide (v < span size)
/-- The number that a text says, in 64 bits. -/
def numV (zs : List Int) (size : Int) (sign : Bool) : Option Nat :=
  if goodN zs = true ∧ sizedB size = true ∧ decF 0 (digs zs) ≤ maxU ∧ fitsB (decF 0 (digs zs)) (stA zs (isC 45) 0) size sign = true then
    some (if stA zs (isC 45) 0 = true then (18446744073709551616 - decF 0 (digs zs)) % 18446744073709551616 else decF 0 (digs zs))
  else none
theorem xor_max (n : Nat) (h : (n : Int) ≤ 18446744073709551615) : IntKind.u64.wrap (bits BinOp.xor .u64 IntKind.u64.max n + 1) = (((18446744073709551616 - n) % 18446744073709551616 : Nat) : Int) := by
  have e : bits BinOp.xor .u64 IntKind.u64.max n = 18446744073709551615 - n := by
    show IntKind.u64.wrap (((BitVec.ofInt 64 IntKind.u64.max) ^^^ BitVec.ofInt 64 (n : Int)).toNat : Int) = _
    rw [show BitVec.ofInt 64 IntKind.u64.max = BitVec.allOnes 64 from by decide, BitVec.allOnes_xor, BitVec.toNat_not, BitVec.ofInt_natCast, BitVec.toNat_ofNat, Nat.mod_eq_of_lt (by omega), IntKind.wrap_u64]
    omega
  rw [e, IntKind.wrap_u64]
  omega
end Go.Proofs.YtleclhnlojalbaaGreatDoor
namespace Go.Proofs.YtleclhnlojalbaaGreatDoor
open Go.ChangeShapes Go.WideShapes Go.ChangeAt Go.RowKit Go.Shelf Go.ChangeMaps

/-- Block b of W is a map with these keys and values. -/
def MapAt (W : World) (b : Nat) (l : List (ByteArray × Value)) : Prop :=
  ∃ es clock, W.heap[b]? = some (.map es clock) ∧ es.toList.map (fun e => (e.key, e.val)) = l.map (fun p => (Value.string p.1, p.2))
/-- What a list of keys and values says of a key. -/
def lookK : List (ByteArray × Value) → ByteArray → Option Value
  | [], _ => none
  | p :: r, s => if s = p.1 then some p.2 else lookK r s
theorem lookK_snoc (l : List (ByteArray × Value)) (k : ByteArray) (v : Value) (s : ByteArray) : lookK (l ++ [(k, v)]) s = (lookK l s).or (if s = k then some v else none) := by
  induction l with
  | nil => simp [lookK]
  | cons p r ih =>
    simp only [List.cons_append, lookK]
    split
    · rfl
    · exact ih
theorem MapAt.lt {W : World} {b : Nat} {l : List (ByteArray × Value)} (h : MapAt W b l) : b < W.heap.size := by
  obtain ⟨es, c, hb, _⟩ := h
  exact blk_lt hb
theorem MapAt.of_block {W W' : World} {b : Nat} {l : List (ByteArray × Value)} (h : MapAt W b l) (hb : W'.heap[b]? = W.heap[b]?) : MapAt W' b l := by
  obtain ⟨es, c, h1, h2⟩ := h
  exact ⟨es, c, hb.trans h1, h2⟩
theorem MapAt.below {W W' : World} {b B : Nat} {l : List (ByteArray × Value)} (h : MapAt W b l) (hb : Below B W W') (hlt : b < B) : MapAt W' b l := h.of_block (hb.block b hlt)
theorem MapAt.exc {W W' : World} {b R B : Nat} {l : List (ByteArray × Value)} (h : MapAt W b l) (hb : Exc R B W W') (hlt : b < B) (hne : b ≠ R) : MapAt W' b l := h.of_block (hb.block b hlt hne)
theorem MapAt.alloc {W : World} {b : Nat} {l : List (ByteArray × Value)} (h : MapAt W b l) (o : Obj) : MapAt (W.alloc o) b l := h.of_block (Below.heap_alloc W o b h.lt)
theorem MapAt.drew {W : World} {b : Nat} {l : List (ByteArray × Value)} (h : MapAt W b l) : MapAt W.drew b l := h
theorem MapAt.setCell {W : World} {b : Nat} {l : List (ByteArray × Value)} (h : MapAt W b l) {p : Addr} (hp : p.block ≠ b) (u : Value) : MapAt (W.setCell p u) b l := h.of_block (Below.heap_setCell W p u b (fun e => hp e.symm))
/-- A new map. -/
theorem MapAt.made (W : World) : MapAt (W.alloc (.map #[] 0)) W.heap.size [] := ⟨#[], 0, heap_alloc_new W _, rfl⟩
theorem ba_beq (a b : ByteArray) : (a == b) = decide (a = b) := by
  obtain ⟨a⟩ := a
  obtain ⟨b⟩ := b
  show (a == b) = _
  rw [Bool.eq_iff_iff, beq_iff_eq, decide_eq_true_iff]
  exact ⟨fun h => by rw [h], fun h => by injection h⟩
theorem findNow_str (s : ByteArray) : ∀ (es : List MapEntry) (l : List (ByteArray × Value)) (i : Nat), es.map (fun e => (e.key, e.val)) = l.map (fun p => (Value.string p.1, p.2)) →
    (lookK l s = none ∧ Instr.findNow .string (.string s) es i = some none) ∨ ∃ v j, lookK l s = some v ∧ Instr.findNow .string (.string s) es i = some (some (j, v))
  | [], l, i, h => by
    cases l with
    | nil => exact .inl ⟨rfl, rfl⟩
    | cons p r => cases h
  | e :: es, l, i, h => by
    cases l with
    | nil => cases h
    | cons p r =>
      rw [List.map_cons, List.map_cons] at h
      injection h with h1 h2
      injection h1 with hk hv
      obtain ⟨k, v, bo⟩ := e
      simp only at hk hv
      subst hk hv
      by_cases hs : s = p.1
      · refine .inr ⟨p.2, i, by rw [lookK, if_pos hs], ?_⟩
        have hb : (s == p.1) = true := by rw [ba_beq]; exact decide_eq_true hs
        simp [Instr.findNow, Instr.sameNow, hb]
      · have hb : (s == p.1) = false := by rw [ba_beq]; exact decide_eq_false hs
        rcases findNow_str s es r (i + 1) h2 with ⟨h3, h4⟩ | ⟨v, j, h3, h4⟩
        · refine .inl ⟨by rw [lookK, if_neg hs]; exact h3, ?_⟩
          simp [Instr.findNow, Instr.sameNow, hb, h4]
        · refine .inr ⟨v, j, by rw [lookK, if_neg hs]; exact h3, ?_⟩
          simp [Instr.findNow, Instr.sameNow, hb, h4]
theorem run_findKey_str {P : Program} {k : TypeId} (hk : P.underlying k = some .string) (w : World) {s : ByteArray} {es : List MapEntry} {r : Option (Nat × Value)} (h : Instr.findNow .string (.string s) es 0 = some r) :
    (Instr.findKey k (.string s) es).run P w = .ok r w := by
  simp [Instr.findKey, run_underlying hk, Result.andThen, h]
theorem run_check_str {P : Program} {k : TypeId} (hk : P.underlying k = some .string) (w : World) (em : Bool) (s : ByteArray) : (Instr.checkKey em 10000 k (.string s)).run P w = .ok () w :=
  MapKept.run_checkKey hk (d := .string) (k := .string s) trivial em 9999
/-- A look-up: the value, or the zero value; and whether there is one. -/
theorem MapAt.look {P : Program} {W : World} {b : Nat} {l : List (ByteArray × Value)} (h : MapAt W b l) {t k e : TypeId} (hk : P.underlying k = some .string) (ht : P.underlying t = some (.map k e)) {z : Value} (hz : (zeroValue e).run P W = .ok z W) (s : ByteArray) (c : Bool) :
    (Instr.lookup t (.map (some b)) (.string s) c).run P W = .ok (if c then .tuple #[(lookK l s).getD z, .bool (lookK l s).isSome] else (lookK l s).getD z) W := by
  obtain ⟨es, cl, hb, he⟩ := h
  rcases findNow_str s es.toList l 0 he with ⟨h1, h2⟩ | ⟨v, j, h1, h2⟩
  · simp [Instr.lookup, run_underlying ht, MapKept.run_getObj_map hb, run_check_str hk, run_findKey_str hk W h2, hz, h1, Result.andThen]
  · simp [Instr.lookup, run_underlying ht, MapKept.run_getObj_map hb, run_check_str hk, run_findKey_str hk W h2, h1, Result.andThen]
/-- A store of a new key: some world in which the map has it too. -/
theorem MapAt.store {P : Program} {W : World} {b : Nat} {l : List (ByteArray × Value)} (h : MapAt W b l) {t k e : TypeId} (hk : P.underlying k = some .string) (ht : P.underlying t = some (.map k e)) (s : ByteArray) (v : Value) (hn : lookK l s = none) :
    ∃ W', (Instr.mapUpdate t (.map (some b)) (.string s) v).run P W = .ok () W' ∧ MapAt W' b (l ++ [(s, v)]) ∧ ∀ B, Exc b B W W' := by
  obtain ⟨es, cl, hb, he⟩ := h
  rcases findNow_str s es.toList l 0 he with ⟨h1, h2⟩ | ⟨v, j, h1, h2⟩
  · refine ⟨setBlock W b (.map (es.push { key := .string s, val := v, born := cl }) (cl + 1)), ?_, ⟨_, _, heap_setBlock_same hb _, ?_⟩, fun B => ⟨rfl, rfl, rfl, by simp [setBlock], fun i _ hi => heap_setBlock_other hb _ hi⟩⟩
    · simp [Instr.mapUpdate, run_underlying ht, MapKept.run_getObj_map hb, run_check_str hk, run_findKey_str hk W h2, MapKept.run_setObj_map _ hb, Result.andThen, setBlock]
    · simp [he]
  · rw [hn] at h1
    cases h1
end Go.Proofs.YtleclhnlojalbaaGreatDoor
namespace Go.Proofs.YtleclhnlojalbaaGreatDoor
open Go.ChangeShapes Go.WideShapes Go.ChangeAt Go.RowKit Go.Shelf

/-- A name, and what it stands for. -/
structure NEnt where
  name : ByteArray
  kind : Nat
  ref : Nat
def mtyV (kind ref lists : Nat) : Value := .agg #[.int .u8 (kind : Nat), .int .i64 (ref : Nat), .int .i64 (lists : Nat)]
def entP (q : NEnt) : ByteArray × Value := (q.name, mtyV q.kind q.ref 0)
def lookN : List NEnt → ByteArray → Option (Nat × Nat)
  | [], _ => none
  | q :: r, s => if s = q.name then some (q.kind, q.ref) else lookN r s
theorem look_ents (l : List NEnt) (s : ByteArray) : lookK (l.map entP) s = (lookN l s).map fun q => mtyV q.1 q.2 0 := by
  induction l with
  | nil => rfl
  | cons q r ih =>
    rw [List.map_cons]
    show (if s = q.name then some (mtyV q.kind q.ref 0) else lookK (r.map entP) s) = _
    rw [lookN]
    split
    · rfl
    · exact ih
theorem lookN_snoc (l : List NEnt) (q : NEnt) (s : ByteArray) : lookN (l ++ [q]) s = (lookN l s).or (if s = q.name then some (q.kind, q.ref) else none) := by
  induction l with
  | nil => simp [lookN]
  | cons p r ih =>
    simp only [List.cons_append, lookN]
    split
    · rfl
    · exact ih
/-- The names that no struct and no enum may have. -/
def basicN : List NEnt :=
  [⟨⟨#[98, 111, 111, 108]⟩, 1, 0⟩, ⟨⟨#[105, 56]⟩, 2, 0⟩, ⟨⟨#[105, 49, 54]⟩, 3, 0⟩, ⟨⟨#[105, 51, 50]⟩, 4, 0⟩, ⟨⟨#[105, 54, 52]⟩, 5, 0⟩, ⟨⟨#[117, 56]⟩, 6, 0⟩, ⟨⟨#[117, 49, 54]⟩, 7, 0⟩, ⟨⟨#[117, 51, 50]⟩, 8, 0⟩, ⟨⟨#[117, 54, 52]⟩, 9, 0⟩,
   ⟨⟨#[116, 101, 120, 116]⟩, 11, 0⟩, ⟨⟨#[100, 97, 116, 97]⟩, 12, 0⟩, ⟨⟨#[108, 105, 115, 116]⟩, 0, 0⟩]
/-- A result, or a fault and its place. -/
inductive MRes (α : Type) where
  | ok (a : α) : MRes α
  | no (code : Int) (place : Nat) : MRes α
def MRes.bind {α β : Type} (x : MRes α) (f : α → MRes β) : MRes β :=
  match x with
  | .ok a => f a
  | .no c p => .no c p
theorem mbind_ok {α β : Type} (a : α) (f : α → MRes β) : (MRes.ok a).bind f = f a := rfl
theorem mbind_no {α β : Type} (c : Int) (p : Nat) (f : α → MRes β) : (MRes.no c p : MRes α).bind f = .no c p := rfl
/-- The first place whose name an earlier one has; i: how many there are ahead of the list. -/
def hasS : List ByteArray → ByteArray → Bool
  | [], _ => false
  | a :: r, s => decide (s = a) || hasS r s
def dupFrom : List ByteArray → List ByteArray → Option Nat
  | _, [] => none
  | seen, s :: r => if hasS seen s = true then some seen.length else dupFrom (seen ++ [s]) r
def dup (l : List ByteArray) : Option Nat := dupFrom [] l
def tokT (t : Tok) : ByteArray := strOfNums t.text
def fldT (f : RField) : ByteArray := strOfNums f.name
/-- One enum; one struct's name and labels. -/
def choM (i : Nat) (m : List NEnt) (x : RCho) : MRes (List NEnt) :=
  if (lookN m (strOfNums x.name)).isSome = true then .no 13 x.place
  else if i < 8 ∧ 1 ≤ x.names.length ∧ x.names.length ≤ 32 then
    match dup (x.names.map tokT) with
    | some k => .no 13 (x.names.getD k noTok).place
    | none => .ok (m ++ [⟨strOfNums x.name, 10, i⟩])
  else .no 16 x.place
def chosM : Nat → List NEnt → List RCho → MRes (List NEnt)
  | _, m, [] => .ok m
  | i, m, x :: r => (choM i m x).bind fun m' => chosM (i + 1) m' r
def recM (i : Nat) (m : List NEnt) (x : RRec) : MRes (List NEnt) :=
  if (lookN m (strOfNums x.name)).isSome = true then .no 13 x.place
  else if i < 16 ∧ 1 ≤ x.fields.length ∧ x.fields.length ≤ 16 then
    match dup (x.fields.map fldT) with
    | some k => .no 13 (x.fields.getD k noField).place
    | none => .ok (m ++ [⟨strOfNums x.name, 13, i⟩])
  else .no 16 x.place
def recsM : Nat → List NEnt → List RRec → MRes (List NEnt)
  | _, m, [] => .ok m
  | i, m, x :: r => (recM i m x).bind fun m' => recsM (i + 1) m' r
/-- The first place of a text among texts. -/
def idx : List ByteArray → ByteArray → Option Nat
  | [], _ => none
  | a :: r, s => if a = s then some 0 else (idx r s).map (· + 1)
def chooseM (w : Tok) (names : List ByteArray) : Option Nat := if w.kind = 1 then idx names (tokT w) else none
def falseTrue : List ByteArray := [⟨#[102, 97, 108, 115, 101]⟩, ⟨#[116, 114, 117, 101]⟩]
def chosenM (es : List RCho) (r : Nat) : List ByteArray := ((es.getD r ⟨[], 0, []⟩).names).map tokT
/-- The number that a token says as a type's default. -/
def valueM (es : List RCho) (k r ls : Nat) (w : Tok) : Option Nat :=
  if w.kind = 0 then some 0 else if ls ≠ 0 then none else if k = 1 then chooseM w falseTrue else if k = 10 then chooseM w (chosenM es r) else
    if w.kind = 2 then numV (bts (tokT w)) (kSize k) (kSign k) else none
def fieldM (m : List NEnt) (es : List RCho) (f : RField) : MRes SFld :=
  match lookN m (strOfNums f.ty.name) with
  | none => .no 14 f.ty.place
  | some q => if q.1 = 0 then .no 14 f.ty.place else
    match valueM es q.1 q.2 f.ty.lists f.dflt with
    | none => .no 15 f.dflt.place
    | some d => .ok ⟨strOfNums f.name, q.1, q.2, f.ty.lists, d⟩
def fldsM (m : List NEnt) (es : List RCho) : List RField → MRes (List SFld)
  | [] => .ok []
  | f :: r => (fieldM m es f).bind fun a => (fldsM m es r).bind fun l => .ok (a :: l)
def bodiesM (m : List NEnt) (es : List RCho) : List RRec → MRes (List SRec)
  | [] => .ok []
  | x :: r => (fldsM m es x.fields).bind fun a => (bodiesM m es r).bind fun l => .ok (⟨strOfNums x.name, a⟩ :: l)
def rootM (m : List NEnt) : List Tok → MRes Nat
  | [] => .no 17 0
  | [t] => match lookN m (tokT t) with
    | none => .no 17 t.place
    | some q => if q.1 = 13 then .ok q.2 else .no 17 t.place
  | _ :: t :: _ => .no 13 t.place
def choOut (x : RCho) : SCho := ⟨strOfNums x.name, x.names.map tokT⟩
/-- The schema of what is written, or the first fault and its place. -/
def makeM (x : RRaw) : MRes Sch :=
  (chosM 0 basicN x.enums).bind fun m1 => (recsM 0 m1 x.structs).bind fun m => (bodiesM m x.enums x.structs).bind fun l => (rootM m x.roots).bind fun r => .ok ⟨l, x.enums.map choOut, r⟩
end Go.Proofs.YtleclhnlojalbaaGreatDoor
namespace Go.Proofs.YtleclhnlojalbaaGreatDoor
open Go.RowKit

/-- Names whose kinds are some, and whose enums' places are below ne. -/
def NGood (ne : Nat) (m : List NEnt) : Prop := ∀ q ∈ m, (q.kind = 10 → q.ref < ne) ∧ q.kind ≤ 13
theorem lookN_mem : ∀ (m : List NEnt) (s : ByteArray) (p : Nat × Nat), lookN m s = some p → ∃ q ∈ m, q.kind = p.1 ∧ q.ref = p.2
  | [], _, _, h => by cases h
  | q :: r, s, p, h => by
    rw [lookN] at h
    split at h
    · cases h
      exact ⟨q, List.mem_cons_self, rfl, rfl⟩
    · obtain ⟨q', h1, h2⟩ := lookN_mem r s p h
      exact ⟨q', List.mem_cons_of_mem _ h1, h2⟩
theorem NGood.look {ne : Nat} {m : List NEnt} (h : NGood ne m) (s : ByteArray) (p : Nat × Nat) (hp : lookN m s = some p) : (p.1 = 10 → p.2 < ne) ∧ p.1 ≤ 13 := by
  obtain ⟨q, h1, h2, h3⟩ := lookN_mem m s p hp
  rw [← h2, ← h3]
  exact h q h1
theorem NGood.snoc {ne : Nat} {m : List NEnt} (h : NGood ne m) {q : NEnt} (hq : (q.kind = 10 → q.ref < ne) ∧ q.kind ≤ 13) : NGood ne (m ++ [q]) := by
  intro p hp
  rcases List.mem_append.1 hp with hp | hp
  · exact h p hp
  · rw [List.mem_singleton.1 hp]
    exact hq
theorem basic_good (ne : Nat) : NGood ne basicN := by
  intro q hq
  simp [basicN] at hq
  rcases hq with rfl | rfl | rfl | rfl | rfl | rfl | rfl | rfl | rfl | rfl | rfl | rfl <;> exact ⟨by simp, by simp⟩
theorem choM_good {ne i : Nat} {m m' : List NEnt} {x : RCho} (h : NGood ne m) (hi : i < ne) (he : choM i m x = .ok m') : NGood ne m' := by
  unfold choM at he
  split at he
  · cases he
  · split at he
    · split at he
      · cases he
      · cases he
        exact h.snoc ⟨fun _ => hi, by simp⟩
    · cases he
theorem chosM_good : ∀ {ne i : Nat} {m m' : List NEnt} {l : List RCho}, NGood ne m → i + l.length ≤ ne → chosM i m l = .ok m' → NGood ne m'
  | _, _, _, _, [], h, _, he => by
    cases he
    exact h
  | ne, i, m, m', x :: r, h, hi, he => by
    rw [chosM] at he
    rw [List.length_cons] at hi
    cases hx : choM i m x with
    | no c p =>
      rw [hx] at he
      cases he
    | ok m1 =>
      rw [hx, mbind_ok] at he
      exact chosM_good (choM_good h (by omega) hx) (by omega) he
theorem recM_good {ne i : Nat} {m m' : List NEnt} {x : RRec} (h : NGood ne m) (he : recM i m x = .ok m') : NGood ne m' ∧ x.fields.length ≤ 16 := by
  unfold recM at he
  split at he
  · cases he
  · split at he
    · rename_i hc
      split at he
      · cases he
      · cases he
        exact ⟨h.snoc ⟨fun h => by simp at h, by simp⟩, hc.2.2⟩
    · cases he
theorem recsM_good : ∀ {ne i : Nat} {m m' : List NEnt} {l : List RRec}, NGood ne m → recsM i m l = .ok m' → NGood ne m' ∧ ∀ x ∈ l, x.fields.length ≤ 16
  | _, _, _, _, [], h, he => by
    cases he
    exact ⟨h, fun x hx => by cases hx⟩
  | ne, i, m, m', x :: r, h, he => by
    rw [recsM] at he
    cases hx : recM i m x with
    | no c p =>
      rw [hx] at he
      cases he
    | ok m1 =>
      rw [hx, mbind_ok] at he
      obtain ⟨h1, h2⟩ := recM_good h hx
      obtain ⟨h3, h4⟩ := recsM_good h1 he
      refine ⟨h3, fun y hy => ?_⟩
      rcases List.mem_cons.1 hy with rfl | hy
      · exact h2
      · exact h4 y hy
/-- What is written has names that are not too long, and defaults' texts that lie in memory. -/
structure RawOk (x : RRaw) : Prop where
  en : ∀ e ∈ x.enums, e.name.length ≤ 100 ∧ ∀ t ∈ e.names, t.text.length ≤ 100
  st : ∀ s ∈ x.structs, s.name.length ≤ 100 ∧ ∀ f ∈ s.fields, f.dflt.text.length ≤ 281474976710656 ∧ f.name.length ≤ 281474976710656
end Go.Proofs.YtleclhnlojalbaaGreatDoor
