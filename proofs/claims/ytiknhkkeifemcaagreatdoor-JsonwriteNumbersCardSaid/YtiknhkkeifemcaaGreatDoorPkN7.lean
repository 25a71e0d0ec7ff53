/-
  Schemas, and what the hand makes of a plan: plain; how both lie in memory. No run of the program stands in this text. Conditions: those that each theorem names.
-/
import Derived.Test.YtiknhkkeifemcaaGreatDoorPkN5
namespace Go.Proofs.YtiknhkkeifemcaaGreatDoor
open Go.ChangeShapes Go.WideShapes Go.ChangeAt Go.RowKit Go.Shelf

structure PF where
  kind : Nat
  lists : Nat
  ref : Nat
  name : Nat
  dflt : Nat
structure Plan where
  enums : List Nat
  structs : List (List PF)
  root : Nat
  tree : Bool
structure SFld where
  name : ByteArray
  kind : Nat
  ref : Nat
  lists : Nat
  dflt : Nat
structure SRec where
  name : ByteArray
  fields : List SFld
structure SCho where
  name : ByteArray
  names : List ByteArray
def enumName (i : Nat) : ByteArray := ⟨#[69]⟩ ++ strOfNums [97 + (i : Int)]
def valName (k : Nat) : ByteArray := ⟨#[118]⟩ ++ strOfNums [97 + (k : Int) % 26, 97 + (k : Int) / 26]
def recName (i : Nat) : ByteArray := ⟨#[83]⟩ ++ strOfNums [97 + (i : Int)]
def labelHeads : List ByteArray := [⟨#[97]⟩, ⟨#[120, 95]⟩, ⟨#[90, 101, 100]⟩, ⟨#[195, 169]⟩, ⟨#[239, 172, 128]⟩, ⟨#[240, 159, 152, 128]⟩, ⟨#[108, 105, 115, 116]⟩, ⟨#[98, 32, 99]⟩, ⟨#[115, 116, 114, 117, 99, 116]⟩, ⟨#[47]⟩]
def headOf (m : Nat) : ByteArray := labelHeads.getD m ⟨#[]⟩
def labelOf (n i : Nat) : ByteArray := headOf (n % 10) ++ strOfNums [97 + (i : Int) % 26]
def cntOf (p : Plan) (e : Nat) : Nat := p.enums.getD e 0 % 32 + 1
def numP (cnt kind n : Nat) : Nat :=
  if kind = 1 then n % 2 else if kind = 10 then n % cnt else
    let m : Nat := if kSize kind < 8 then n % 2 ^ (8 * (kSize kind).toNat) else n
    if kSign kind = true then (sgnOf m (kSize kind)).toNat else m
def isNumP (kind lists : Nat) : Bool := decide (lists = 0) && decide (0 < kSize kind)
def kind0 (p : Plan) (f : PF) : Nat := if f.kind % 13 + 1 = 10 ∧ p.enums.length = 0 then 7 else f.kind % 13 + 1
def ref0 (p : Plan) (f : PF) : Nat := if kind0 p f = 10 then f.ref % p.enums.length else 0
def kindP (p : Plan) (i : Nat) (f : PF) : Nat := if kind0 p f = 13 ∧ p.tree = true ∧ i + 1 = p.structs.length then 11 else kind0 p f
def refP (p : Plan) (i : Nat) (f : PF) : Nat :=
  if kindP p i f = 13 then (if p.tree = true then i + 1 + f.ref % (p.structs.length - i - 1) else f.ref % p.structs.length) else ref0 p f
def fldP (p : Plan) (i k : Nat) (f : PF) : SFld :=
  ⟨labelOf f.name k, kindP p i f, refP p i f, f.lists % 4, if isNumP (kindP p i f) (f.lists % 4) = true then numP (cntOf p (refP p i f)) (kindP p i f) f.dflt else 0⟩
def noPF : PF := ⟨0, 0, 0, 0, 0⟩
def fldsP (p : Plan) (i : Nat) (l : List PF) (n : Nat) : List SFld := (List.range n).map fun k => fldP p i k (l.getD k noPF)
def recP (p : Plan) (i : Nat) : SRec := ⟨recName i, fldsP p i (p.structs.getD i []) (p.structs.getD i []).length⟩
def choP (p : Plan) (i : Nat) : SCho := ⟨enumName i, (List.range (cntOf p i)).map valName⟩
def recsP (p : Plan) (n : Nat) : List SRec := (List.range n).map (recP p)
def chosP (p : Plan) (n : Nat) : List SCho := (List.range n).map (choP p)
def planOk (p : Plan) : Prop := 1 ≤ p.structs.length ∧ p.structs.length ≤ 16 ∧ p.enums.length ≤ 8 ∧ ∀ l ∈ p.structs, 1 ≤ l.length ∧ l.length ≤ 16
theorem fldsP_succ (p : Plan) (i : Nat) (l : List PF) (n : Nat) : fldsP p i l (n + 1) = fldsP p i l n ++ [fldP p i n (l.getD n noPF)] := by simp [fldsP, List.range_succ]
theorem recsP_succ (p : Plan) (n : Nat) : recsP p (n + 1) = recsP p n ++ [recP p n] := by simp [recsP, List.range_succ]
theorem chosP_succ (p : Plan) (n : Nat) : chosP p (n + 1) = chosP p n ++ [choP p n] := by simp [chosP, List.range_succ]
theorem fldsP_length (p : Plan) (i : Nat) (l : List PF) (n : Nat) : (fldsP p i l n).length = n := by simp [fldsP]
theorem recsP_length (p : Plan) (n : Nat) : (recsP p n).length = n := by simp [recsP]
theorem chosP_length (p : Plan) (n : Nat) : (chosP p n).length = n := by simp [chosP]

/-! ### in memory -/
def sfldCells (f : SFld) : List Value := [.string f.name, .int .u8 f.kind, .int .i64 f.ref, .int .i64 f.lists, .int .u64 f.dflt]
def sfldsCells (l : List SFld) : List Value := l.flatMap sfldCells
def strCells (s : ByteArray) : List Value := [.string s]
def strsCells (l : List ByteArray) : List Value := l.flatMap strCells
def srecCells (q : SRec × Value) : List Value := [.string q.1.name, q.2]
def schoCells (q : SCho × Value) : List Value := [.string q.1.name, q.2]
def srecsCells (l : List (SRec × Value)) : List Value := l.flatMap srecCells
def schosCells (l : List (SCho × Value)) : List Value := l.flatMap schoCells
theorem sfldsCells_snoc (l : List SFld) (f : SFld) : sfldsCells (l ++ [f]) = sfldsCells l ++ sfldCells f := by simp [sfldsCells]
theorem strsCells_snoc (l : List ByteArray) (s : ByteArray) : strsCells (l ++ [s]) = strsCells l ++ strCells s := by simp [strsCells]
theorem srecsCells_snoc (l : List (SRec × Value)) (q : SRec × Value) : srecsCells (l ++ [q]) = srecsCells l ++ srecCells q := by simp [srecsCells]
theorem schosCells_snoc (l : List (SCho × Value)) (q : SCho × Value) : schosCells (l ++ [q]) = schosCells l ++ schoCells q := by simp [schosCells]
theorem sfld_info : (Tryz.prog.info? 60).map (fun i => (i.zero, i.size, i.bytes)) = some (some (.agg #[.string ⟨#[]⟩, .int .u8 0, .int .i64 0, .int .i64 0, .int .u64 0]), 5, 48) := by kernel_rfl
theorem str_info : (Tryz.prog.info? 9).map (fun i => (i.zero, i.size, i.bytes)) = some (some (.string ⟨#[]⟩), 1, 16) := by kernel_rfl
theorem srec_info : (Tryz.prog.info? 63).map (fun i => (i.zero, i.size, i.bytes)) = some (some (.agg #[.string ⟨#[]⟩, .slice none 0 0]), 2, 40) := by kernel_rfl
theorem scho_info : (Tryz.prog.info? 92).map (fun i => (i.zero, i.size, i.bytes)) = some (some (.agg #[.string ⟨#[]⟩, .slice none 0 0]), 2, 40) := by kernel_rfl
structure SchRows (base : Nat) (W : World) (ss : List (SRec × Value)) (es : List (SCho × Value)) (sv ev : Value) : Prop where
  structs : W.ownsRow base 63 2 sv ss.length (srecsCells ss)
  enums : W.ownsRow base 92 2 ev es.length (schosCells es)
  fields : ∀ q ∈ ss, W.ownsRow base 60 5 q.2 q.1.fields.length (sfldsCells q.1.fields)
  names : ∀ q ∈ es, W.ownsRow base 9 1 q.2 q.1.names.length (strsCells q.1.names)
theorem SchRows.below {base : Nat} {W W' : World} {ss : List (SRec × Value)} {es : List (SCho × Value)} {sv ev : Value} (h : SchRows base W ss es sv ev) (hb : Below W.heap.size W W') : SchRows base W' ss es sv ev :=
  ⟨row_keep hb h.structs, row_keep hb h.enums, fun q hq => row_keep hb (h.fields q hq), fun q hq => row_keep hb (h.names q hq)⟩
theorem SchRows.base {base base' : Nat} {W : World} {ss : List (SRec × Value)} {es : List (SCho × Value)} {sv ev : Value} (h : SchRows base W ss es sv ev) (hb : base' ≤ base) : SchRows base' W ss es sv ev :=
  ⟨ownsRow_base h.structs hb, ownsRow_base h.enums hb, fun q hq => ownsRow_base (h.fields q hq) hb, fun q hq => ownsRow_base (h.names q hq) hb⟩
theorem SchRows.forms {base : Nat} {W : World} {ss : List (SRec × Value)} {es : List (SCho × Value)} {sv ev : Value} (h : SchRows base W ss es sv ev) : ∃ sa sc ea ec, sv = .slice sa ss.length sc ∧ ev = .slice ea es.length ec := by
  obtain ⟨sa, sc, h1⟩ := ownsRow_form h.structs
  obtain ⟨ea, ec, h2⟩ := ownsRow_form h.enums
  exact ⟨sa, sc, ea, ec, h1, h2⟩
theorem SchRows.strct {base : Nat} {W : World} {ss : List (SRec × Value)} {es : List (SCho × Value)} {sv ev : Value} (h : SchRows base W ss es sv ev) (k : Nat) (hk : k < ss.length) :
    ∃ g c a n, sv = .slice (some ⟨g, 0, none⟩) ss.length c ∧ ss.length ≤ c ∧ g < W.heap.size ∧ W.cell? ⟨g, k * 2, none⟩ = some (.string ss[k].1.name) ∧ W.cell? ⟨g, k * 2 + 1, none⟩ = some (.slice a ss[k].1.fields.length n) ∧ ss[k].2 = .slice a ss[k].1.fields.length n := by
  obtain ⟨g, c, hv, hc, hg, hcell⟩ := row_el srecCells 2 (fun _ => rfl) h.structs k hk
  obtain ⟨a, n, hf⟩ := ownsRow_form (h.fields _ (List.getElem_mem hk))
  exact ⟨g, c, a, n, hv, hc, hg, hcell 0 (by omega), by rw [hcell 1 (by omega), ← hf]; rfl, hf⟩
theorem SchRows.enum {base : Nat} {W : World} {ss : List (SRec × Value)} {es : List (SCho × Value)} {sv ev : Value} (h : SchRows base W ss es sv ev) (k : Nat) (hk : k < es.length) :
    ∃ g c a n, ev = .slice (some ⟨g, 0, none⟩) es.length c ∧ es.length ≤ c ∧ g < W.heap.size ∧ W.cell? ⟨g, k * 2, none⟩ = some (.string es[k].1.name) ∧ W.cell? ⟨g, k * 2 + 1, none⟩ = some (.slice a es[k].1.names.length n) ∧ es[k].2 = .slice a es[k].1.names.length n := by
  obtain ⟨g, c, hv, hc, hg, hcell⟩ := row_el schoCells 2 (fun _ => rfl) h.enums k hk
  obtain ⟨a, n, hf⟩ := ownsRow_form (h.names _ (List.getElem_mem hk))
  exact ⟨g, c, a, n, hv, hc, hg, hcell 0 (by omega), by rw [hcell 1 (by omega), ← hf]; rfl, hf⟩
theorem SchRows.field {base : Nat} {W : World} {ss : List (SRec × Value)} {es : List (SCho × Value)} {sv ev : Value} (h : SchRows base W ss es sv ev) (k : Nat) (hk : k < ss.length) (j : Nat) (hj : j < ss[k].1.fields.length) :
    ∃ g c, ss[k].2 = .slice (some ⟨g, 0, none⟩) ss[k].1.fields.length c ∧ ss[k].1.fields.length ≤ c ∧ g < W.heap.size ∧ W.cell? ⟨g, j * 5, none⟩ = some (.string ss[k].1.fields[j].name) ∧ W.cell? ⟨g, j * 5 + 1, none⟩ = some (.int .u8 (ss[k].1.fields[j].kind : Nat)) ∧ W.cell? ⟨g, j * 5 + 2, none⟩ = some (.int .i64 (ss[k].1.fields[j].ref : Nat)) ∧ W.cell? ⟨g, j * 5 + 3, none⟩ = some (.int .i64 (ss[k].1.fields[j].lists : Nat)) ∧ W.cell? ⟨g, j * 5 + 4, none⟩ = some (.int .u64 (ss[k].1.fields[j].dflt : Nat)) := by
  obtain ⟨g, c, hv, hc, hg, hcell⟩ := row_el sfldCells 5 (fun _ => rfl) (h.fields _ (List.getElem_mem hk)) j hj
  exact ⟨g, c, hv, hc, hg, hcell 0 (by omega), hcell 1 (by omega), hcell 2 (by omega), hcell 3 (by omega), hcell 4 (by omega)⟩
theorem SchRows.name {base : Nat} {W : World} {ss : List (SRec × Value)} {es : List (SCho × Value)} {sv ev : Value} (h : SchRows base W ss es sv ev) (k : Nat) (hk : k < es.length) (j : Nat) (hj : j < es[k].1.names.length) :
    ∃ g c, es[k].2 = .slice (some ⟨g, 0, none⟩) es[k].1.names.length c ∧ es[k].1.names.length ≤ c ∧ g < W.heap.size ∧ W.cell? ⟨g, j, none⟩ = some (.string es[k].1.names[j]) := by
  obtain ⟨g, c, hv, hc, hg, hcell⟩ := row_el strCells 1 (fun _ => rfl) (h.names _ (List.getElem_mem hk)) j hj
  have h0 := hcell 0 (by omega)
  rw [Nat.mul_one, Nat.add_zero] at h0
  exact ⟨g, c, hv, hc, hg, h0⟩
structure IsPlan (w : World) (p : Plan) (a0 : Option Addr) (n0 c0 : Nat) (a1 : Option Addr) (n1 c1 : Nat) : Prop where
  e_len : p.enums.length = n0
  s_len : p.structs.length = n1
  e_cap : n0 ≤ c0 ∧ c0 ≤ maxLen
  s_cap : n1 ≤ c1 ∧ c1 ≤ maxLen
  rt : p.root ≤ 255
  e_at : ∀ j, j < n0 → p.enums.getD j 0 ≤ 255 ∧ ∃ b off, a0 = some ⟨b, off, none⟩ ∧ b < w.heap.size ∧ w.cell? ⟨b, off + j, none⟩ = some (.int .u8 (p.enums.getD j 0 : Nat))
  s_at : ∀ r, r < n1 → ∃ b off a n c, a1 = some ⟨b, off, none⟩ ∧ b < w.heap.size ∧ w.cell? ⟨b, off + r, none⟩ = some (.slice a n c) ∧ (p.structs.getD r []).length = n ∧ n ≤ c ∧ c ≤ maxLen ∧
    ∀ k, k < n → ∃ b' off' f, (p.structs.getD r []).getD k noPF = f ∧ a = some ⟨b', off', none⟩ ∧ b' < w.heap.size ∧ w.cell? ⟨b', off' + k * 5, none⟩ = some (.int .u8 (f.kind : Nat)) ∧ w.cell? ⟨b', off' + k * 5 + 1, none⟩ = some (.int .u8 (f.lists : Nat)) ∧ w.cell? ⟨b', off' + k * 5 + 2, none⟩ = some (.int .u8 (f.ref : Nat)) ∧ w.cell? ⟨b', off' + k * 5 + 3, none⟩ = some (.int .u8 (f.name : Nat)) ∧ w.cell? ⟨b', off' + k * 5 + 4, none⟩ = some (.int .u64 (f.dflt : Nat)) ∧
      f.kind ≤ 255 ∧ f.lists ≤ 255 ∧ f.ref ≤ 255 ∧ f.name ≤ 255 ∧ (f.dflt : Int) ≤ 18446744073709551615
end Go.Proofs.YtiknhkkeifemcaaGreatDoor
