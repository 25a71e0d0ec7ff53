/-
  Values (package api's Val): plain, and as they lie in memory; types' sorts; what fits, plain. Conditions: those that each theorem names.
-/
import Derived.Test.YtfghaopimeoijaaDoorPV
import Derived.Test.YtfghaopimeoijaaDoorUtf8
namespace Go.Proofs.YtfghaopimeoijaaDoor
open Go.ChangeShapes Go.WideShapes Go.ChangeAt Go.RowKit Go.Shelf

/-- What a type's values are made of: numbers 1, bytes 2, a list 3, a struct 4; 0: it is no type. -/
def sortP (k : Nat) (lists : Int) : Nat := if 0 < lists then 3 else if lists < 0 then 0 else if 0 < kSize k then 1 else if k = 11 ∨ k = 12 then 2 else if k = 13 then 4 else 0
def bareP (o : Nat) (v : PV) : Bool :=
  (decide (o = 1) || decide (v.num = 0)) && ((decide (o = 2) || decide (v.bytes.length = 0)) && (((decide (o = 3) || v.has) || decide (v.kids.length = 0)) && (decide (o = 4) || !v.has)))
/-- A struct's fields, one by one, from the k-th on. -/
def fieldsP (f : Nat → Int → Int → PV → Bool) : List CFld → List PV → Bool
  | [], _ => true
  | _ :: _, [] => false
  | x :: xs, v :: vs => f x.kind x.ref x.lists v && fieldsP f xs vs
def fitsV1 (ss : List CRec) (es : List SCho) (next : Option (Nat → Int → Int → PV → Bool)) (k : Nat) (ref lists : Int) (v : PV) : Bool :=
  bareP (sortP k lists) v &&
    (if sortP k lists = 1 then fitsT es k ref lists v.num
     else if sortP k lists = 2 then decide (k = 12) || decide (u8At v.bytes 0 < 0)
     else if sortP k lists = 3 then (match next with
       | none => decide (v.kids.length = 0)
       | some f => v.kids.all fun q => !(decide (sortP k (lists - 1) = 4) && !q.has) && f k ref (lists - 1) q)
     else if sortP k lists = 4 then !v.has || (match next with
       | none => false
       | some f => decide (0 ≤ ref ∧ ref < ss.length) && (decide (v.kids.length = (ss.getD ref.toNat ⟨⟨#[]⟩, []⟩).fields.length) && fieldsP f (ss.getD ref.toNat ⟨⟨#[]⟩, []⟩).fields v.kids))
     else false)
/-- Does a value fit a type, where it may be so deep? -/
def fitsP (ss : List CRec) (es : List SCho) : Nat → Nat → Int → Int → PV → Bool
  | 0 => fitsV1 ss es none
  | r + 1 => fitsV1 ss es (some (fitsP ss es r))
end Go.Proofs.YtfghaopimeoijaaDoor
