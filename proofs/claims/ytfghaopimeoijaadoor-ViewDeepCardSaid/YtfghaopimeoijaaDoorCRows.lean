/-
  Schemas of any numbers, as they lie in memory; which numbers fit a type. Conditions: those that each theorem names.
-/
import Derived.Test.YtfghaopimeoijaaDoorSch
import Derived.Test.YtfghaopimeoijaaDoorMadeM
namespace Go.Proofs.YtfghaopimeoijaaDoor
open Go.ChangeShapes Go.WideShapes Go.ChangeAt Go.RowKit Go.Shelf

/-- A field, a struct, a schema, of any numbers. -/
structure CFld where
  name : ByteArray
  kind : Nat
  ref : Int
  lists : Int
  dflt : Nat
structure CRec where
  name : ByteArray
  fields : List CFld
structure CSch where
  structs : List CRec
  enums : List SCho
  root : Int
def cfldCells (f : CFld) : List Value := [.string f.name, .int .u8 f.kind, .int .i64 f.ref, .int .i64 f.lists, .int .u64 f.dflt]
def cfldsCells (l : List CFld) : List Value := l.flatMap cfldCells
def crecCells (q : CRec × Value) : List Value := [.string q.1.name, q.2]
def crecsCells (l : List (CRec × Value)) : List Value := l.flatMap crecCells
structure CRows (base : Nat) (W : World) (ss : List (CRec × Value)) (es : List (SCho × Value)) (sv ev : Value) : Prop where
  structs : W.ownsRow base 51 2 sv ss.length (crecsCells ss)
  enums : W.ownsRow base 64 2 ev es.length (schosCells es)
  fields : ∀ q ∈ ss, W.ownsRow base 57 5 q.2 q.1.fields.length (cfldsCells q.1.fields)
  names : ∀ q ∈ es, W.ownsRow base 9 1 q.2 q.1.names.length (strsCells q.1.names)
theorem CRows.below {base : Nat} {W W' : World} {ss : List (CRec × Value)} {es : List (SCho × Value)} {sv ev : Value} (h : CRows base W ss es sv ev) (hb : Below W.heap.size W W') : CRows base W' ss es sv ev :=
  ⟨row_keep hb h.structs, row_keep hb h.enums, fun q hq => row_keep hb (h.fields q hq), fun q hq => row_keep hb (h.names q hq)⟩
theorem CRows.forms {base : Nat} {W : World} {ss : List (CRec × Value)} {es : List (SCho × Value)} {sv ev : Value} (h : CRows base W ss es sv ev) : ∃ sa sc ea ec, sv = .slice sa ss.length sc ∧ ev = .slice ea es.length ec := by
  obtain ⟨sa, sc, h1⟩ := ownsRow_form h.structs
  obtain ⟨ea, ec, h2⟩ := ownsRow_form h.enums
  exact ⟨sa, sc, ea, ec, h1, h2⟩
def cF (f : SFld) : CFld := ⟨f.name, f.kind, (f.ref : Nat), (f.lists : Nat), f.dflt⟩
def cR (r : SRec) : CRec := ⟨r.name, r.fields.map cF⟩
def cS (S : Sch) : CSch := ⟨S.structs.map cR, S.enums, (S.root : Nat)⟩
theorem cflds_eq (l : List SFld) : cfldsCells (l.map cF) = sfldsCells l := by
  unfold cfldsCells sfldsCells
  rw [List.flatMap_map]
  rfl
theorem crecs_eq (l : List (SRec × Value)) : crecsCells (l.map fun q => (cR q.1, q.2)) = srecsCells l := by
  unfold crecsCells srecsCells
  rw [List.flatMap_map]
  rfl
theorem SchRows.crows {base : Nat} {W : World} {ss : List (SRec × Value)} {es : List (SCho × Value)} {sv ev : Value} (h : SchRows base W ss es sv ev) : CRows base W (ss.map fun q => (cR q.1, q.2)) es sv ev := by
  refine ⟨by rw [crecs_eq, List.length_map]; exact h.structs, h.enums, fun q hq => ?_, h.names⟩
  obtain ⟨p, hp, rfl⟩ := List.mem_map.1 hq
  show W.ownsRow base _ 5 p.2 (p.1.fields.map cF).length (cfldsCells (p.1.fields.map cF))
  rw [cflds_eq, List.length_map]
  exact h.fields p hp
def numTB (k : Nat) (lists : Int) : Bool := decide (lists = 0) && decide (0 < kSize k)
def fitsT (es : List SCho) (k : Nat) (ref lists : Int) (n : Nat) : Bool :=
  if numTB k lists = false then false else if k = 1 then decide (n ≤ 1) else
    if k = 10 then decide (0 ≤ ref ∧ ref < es.length) && decide (n < (es.getD ref.toNat ⟨⟨#[]⟩, []⟩).names.length) else
      if kSign k = true then decide (sgnOf n (kSize k) = n) else decide (n / 2 ^ (8 * (kSize k).toNat) = 0)
end Go.Proofs.YtfghaopimeoijaaDoor
