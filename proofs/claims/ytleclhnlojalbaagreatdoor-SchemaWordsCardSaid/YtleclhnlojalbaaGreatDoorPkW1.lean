/-
  Contracts of Go's library, laid at this translation: no walk, one application each. Conditions: those that each theorem names.
-/
import Derived.WalkKit
import Derived.Laws.BitsLemmas
import Derived.Laws.EntriesVeiled
import Derived.Shelf.Abstract
import Derived.Test.YtleclhnlojalbaaGreatDoorRows
import Derived.ProofKit
import Derived.OpenShut
import Derived.ShutString
import Derived.ChangeOld
import Derived.Below
import Derived.WalkLawsBesides
import Derived.WalkSpells
import Derived.Lib.Hide
import Derived.Outline
import Derived.Handy
import Derived.Shelf.Small.Strs
namespace Go.Proofs.YtleclhnlojalbaaGreatDoor
open Go.RowKit

def isBlank (c : Int) : Bool := decide (c = 32 ∨ c = 9 ∨ c = 10 ∨ c = 13)
def isDig (c : Int) : Bool := decide (48 ≤ c ∧ c ≤ 57)
def isLet (c : Int) : Bool := decide (c = 95 ∨ (97 ≤ c ∧ c ≤ 122) ∨ (65 ≤ c ∧ c ≤ 90))
def isPlain (c : Int) : Bool := decide (c ≠ 34 ∧ c ≠ 92 ∧ c ≠ 127 ∧ ¬ (0 ≤ c ∧ c ≤ 31))
def isC (x : Int) (c : Int) : Bool := decide (c = x)
def notLf (c : Int) : Bool := decide (c ≠ 10)
def stA (zs : List Int) (p : Int → Bool) (i : Nat) : Bool := decide (i < zs.length) && p (zs.getD i 0)
def runTo (zs : List Int) (p : Int → Bool) (i : Nat) : Nat := i + ((zs.drop i).takeWhile p).length

theorem stA_lt {zs : List Int} {p : Int → Bool} {i : Nat} (h : stA zs p i = true) : i < zs.length := by
  unfold stA at h
  simp at h
  exact h.1
theorem stA_p {zs : List Int} {p : Int → Bool} {i : Nat} (h : stA zs p i = true) : p (zs.getD i 0) = true := by
  unfold stA at h
  rw [Bool.and_eq_true] at h
  exact h.2
theorem stA_of {zs : List Int} {p : Int → Bool} {i : Nat} (h : i < zs.length) : stA zs p i = p (zs.getD i 0) := by
  unfold stA
  rw [decide_eq_true h, Bool.true_and]
theorem stA_ge {zs : List Int} {p : Int → Bool} {i : Nat} (h : zs.length ≤ i) : stA zs p i = false := by
  unfold stA
  rw [decide_eq_false (by omega), Bool.false_and]
theorem drop_cons {zs : List Int} {i : Nat} (h : i < zs.length) : zs.drop i = zs.getD i 0 :: zs.drop (i + 1) := by
  rw [List.drop_eq_getElem_cons h]
  simp [List.getD, h]
theorem runTo_stop {zs : List Int} {p : Int → Bool} {i : Nat} (h : stA zs p i = false) : runTo zs p i = i := by
  unfold runTo
  by_cases hi : i < zs.length
  · rw [stA_of hi] at h
    rw [drop_cons hi, List.takeWhile_cons, h]
    simp
  · rw [List.drop_eq_nil_of_le (by omega)]
    simp
theorem runTo_step {zs : List Int} {p : Int → Bool} {i : Nat} (h : stA zs p i = true) : runTo zs p i = runTo zs p (i + 1) := by
  unfold runTo
  rw [drop_cons (stA_lt h), List.takeWhile_cons, stA_p h]
  simp
  omega
theorem runTo_ge (zs : List Int) (p : Int → Bool) (i : Nat) : i ≤ runTo zs p i := by unfold runTo; omega
theorem length_takeWhile_le' (p : Int → Bool) : ∀ l : List Int, (l.takeWhile p).length ≤ l.length
  | [] => by simp
  | a :: r => by
    have := length_takeWhile_le' p r
    rw [List.takeWhile_cons]
    split <;> simp <;> omega
theorem runTo_le (zs : List Int) (p : Int → Bool) (i : Nat) (h : i ≤ zs.length) : runTo zs p i ≤ zs.length := by
  unfold runTo
  have := length_takeWhile_le' p (zs.drop i)
  rw [List.length_drop] at this
  omega
theorem runTo_rec (zs : List Int) (p : Int → Bool) (Q : Nat → Prop) (hend : ∀ i, stA zs p i = false → Q i) (hstep : ∀ i, stA zs p i = true → Q (i + 1) → Q i) : ∀ i, Q i := by
  have h : ∀ n i, zs.length ≤ n + i → Q i := by
    intro n
    induction n with
    | zero => intro i hi; exact hend i (stA_ge (by omega))
    | succ n ih =>
      intro i hi
      cases hs : stA zs p i
      · exact hend i hs
      · exact hstep i hs (ih (i + 1) (by omega))
  intro i
  exact h zs.length i (by omega)
theorem runTo_all (zs : List Int) (p : Int → Bool) : ∀ i, ∀ j, i ≤ j → j < runTo zs p i → stA zs p j = true :=
  runTo_rec zs p _ (fun i h j h1 h2 => by rw [runTo_stop h] at h2; omega) (fun i h ih j h1 h2 => by
    rw [runTo_step h] at h2
    rcases Nat.lt_or_ge i j with hj | hj
    · exact ih j (by omega) h2
    · obtain rfl : i = j := by omega
      exact h)
theorem runTo_unique {zs : List Int} {p : Int → Bool} {i k : Nat} (h1 : i ≤ k) (h2 : ∀ j, i ≤ j → j < k → stA zs p j = true) (h3 : stA zs p k = false) : runTo zs p i = k := by
  have h : ∀ n i, i + n = k → (∀ j, i ≤ j → j < k → stA zs p j = true) → runTo zs p i = k := by
    intro n
    induction n with
    | zero => intro i hi _; obtain rfl : i = k := by omega
              exact runTo_stop h3
    | succ n ih =>
      intro i hi hj
      rw [runTo_step (hj i (Nat.le_refl _) (by omega))]
      exact ih (i + 1) (by omega) (fun j a b => hj j (by omega) b)
  exact h (k - i) i (by omega) h2
/-! ### blanks and remarks -/
def slash2 (zs : List Int) (i : Nat) : Bool := stA zs (isC 47) i && stA zs (isC 47) (i + 1)
def gapF (zs : List Int) : Nat → Nat → Nat
  | 0, i => i
  | f + 1, i => if slash2 zs i = true then gapF zs f (runTo zs isBlank (runTo zs notLf i)) else i
def gap (zs : List Int) (i : Nat) : Nat := gapF zs zs.length (runTo zs isBlank i)
theorem slash2_lt {zs : List Int} {i : Nat} (h : slash2 zs i = true) : i + 1 < zs.length := by
  unfold slash2 at h
  rw [Bool.and_eq_true] at h
  exact stA_lt h.2
theorem slash2_run {zs : List Int} {i : Nat} (h : slash2 zs i = true) : i + 2 ≤ runTo zs notLf i := by
  unfold slash2 at h
  rw [Bool.and_eq_true] at h
  have e : ∀ j, stA zs (isC 47) j = true → stA zs notLf j = true := fun j hj => by
    rw [stA_of (stA_lt hj)]
    have := of_decide_eq_true (show decide (zs.getD j 0 = 47) = true from stA_p hj)
    unfold notLf
    exact decide_eq_true (by omega)
  rw [runTo_step (e _ h.1), runTo_step (e _ h.2)]
  exact runTo_ge _ _ _
theorem remark_grows {zs : List Int} {i : Nat} (h : slash2 zs i = true) : i + 2 ≤ runTo zs isBlank (runTo zs notLf i) :=
  Nat.le_trans (slash2_run h) (runTo_ge _ _ _)
theorem gapF_fuel (zs : List Int) : ∀ f g i, zs.length ≤ f + i → zs.length ≤ g + i → gapF zs f i = gapF zs g i
  | 0, 0, _, _, _ => rfl
  | 0, g + 1, i, hf, _ => by
    simp only [gapF]
    rw [if_neg (fun h => by have := slash2_lt h; omega)]
  | f + 1, 0, i, _, hg => by
    simp only [gapF]
    rw [if_neg (fun h => by have := slash2_lt h; omega)]
  | f + 1, g + 1, i, hf, hg => by
    simp only [gapF]
    split
    · rename_i h
      have := remark_grows h
      exact gapF_fuel zs f g _ (by omega) (by omega)
    · rfl
theorem gapF_stop {zs : List Int} {i : Nat} (f : Nat) (h : slash2 zs i = false) : gapF zs f i = i := by
  cases f
  · rfl
  · simp only [gapF]
    rw [if_neg (by rw [h]; decide)]
theorem gapF_step {zs : List Int} {i : Nat} (h : slash2 zs i = true) : gapF zs zs.length i = gapF zs zs.length (runTo zs isBlank (runTo zs notLf i)) := by
  have h1 := remark_grows h
  have h2 := slash2_lt h
  obtain ⟨n, hn⟩ : ∃ n, zs.length = n + 1 := ⟨zs.length - 1, by omega⟩
  conv => lhs; rw [hn]; simp only [gapF]
  rw [if_pos h]
  exact gapF_fuel zs _ _ _ (by omega) (by omega)
theorem gapF_le (zs : List Int) : ∀ f i, i ≤ zs.length → gapF zs f i ≤ zs.length
  | 0, _, h => h
  | f + 1, i, h => by
    simp only [gapF]
    split
    · exact gapF_le zs f _ (runTo_le _ _ _ (runTo_le _ _ _ h))
    · exact h
theorem gap_le (zs : List Int) (i : Nat) (h : i ≤ zs.length) : gap zs i ≤ zs.length := gapF_le _ _ _ (runTo_le _ _ _ h)

/-! ### numbers, quoted texts, a token -/
def minusTo (zs : List Int) (i : Nat) : Nat := if stA zs (isC 45) i = true then i + 1 else i
def zeroAhead (zs : List Int) (i : Nat) : Bool := stA zs (isC 48) (minusTo zs i) && (stA zs (isC 45) i || decide (1 < runTo zs isDig (minusTo zs i) - minusTo zs i))
def numBad (zs : List Int) (i : Nat) : Bool :=
  decide (runTo zs isDig (minusTo zs i) - minusTo zs i = 0) || decide (20 < runTo zs isDig (minusTo zs i) - minusTo zs i) || stA zs isLet (runTo zs isDig (minusTo zs i)) || zeroAhead zs i
def numEnd (zs : List Int) (i : Nat) : Nat := runTo zs isDig (minusTo zs i)
def quoEnd (zs : List Int) (i : Nat) : Nat := runTo zs isPlain (i + 1)
def sub (zs : List Int) (i j : Nat) : List Int := (zs.drop i).take (j - i)
def quoBad (ok : List Int → Bool) (zs : List Int) (i : Nat) : Bool := !stA zs (isC 34) (quoEnd zs i) || !ok (sub zs (i + 1) (quoEnd zs i))
def begins (zs : List Int) (i : Nat) : Bool := stA zs isDig i || (stA zs (isC 45) i && stA zs isDig (i + 1))
structure Tok where
  kind : Int
  text : List Int
  place : Nat
def tok (ok : List Int → Bool) (sg : Int → Bool) (zs : List Int) (i : Nat) : Option (Tok × Nat) :=
  if i = zs.length then some (⟨0, [], i⟩, i)
  else if stA zs isLet i = true then some (⟨1, sub zs i (runTo zs (fun c => isLet c || isDig c) i), i⟩, runTo zs (fun c => isLet c || isDig c) i)
  else if begins zs i = true then (if numBad zs i = true then none else some (⟨2, sub zs i (numEnd zs i), i⟩, numEnd zs i))
  else if stA zs (isC 34) i = true then (if quoBad ok zs i = true then none else some (⟨3, sub zs (i + 1) (quoEnd zs i), i⟩, quoEnd zs i + 1))
  else if stA zs sg i = true then some (⟨4, sub zs i (i + 1), i⟩, i + 1)
  else none
section
variable {ok : List Int → Bool} {sg : Int → Bool} {zs : List Int} {i : Nat}
theorem tok_end (h : i = zs.length) : tok ok sg zs i = some (⟨0, [], i⟩, i) := by unfold tok; rw [if_pos h]
theorem tok_name (h : i < zs.length) (h1 : stA zs isLet i = true) : tok ok sg zs i = some (⟨1, sub zs i (runTo zs (fun c => isLet c || isDig c) i), i⟩, runTo zs (fun c => isLet c || isDig c) i) := by
  unfold tok
  rw [if_neg (by omega), if_pos h1]
theorem tok_num (h : i < zs.length) (h1 : stA zs isLet i = false) (h2 : begins zs i = true) : tok ok sg zs i = if numBad zs i = true then none else some (⟨2, sub zs i (numEnd zs i), i⟩, numEnd zs i) := by
  unfold tok
  rw [if_neg (by omega), if_neg (by rw [h1]; decide), if_pos h2]
theorem tok_quo (h : i < zs.length) (h1 : stA zs isLet i = false) (h2 : begins zs i = false) (h3 : stA zs (isC 34) i = true) : tok ok sg zs i = if quoBad ok zs i = true then none else some (⟨3, sub zs (i + 1) (quoEnd zs i), i⟩, quoEnd zs i + 1) := by
  unfold tok
  rw [if_neg (by omega), if_neg (by rw [h1]; decide), if_neg (by rw [h2]; decide), if_pos h3]
theorem tok_sign (h : i < zs.length) (h1 : stA zs isLet i = false) (h2 : begins zs i = false) (h3 : stA zs (isC 34) i = false) (h4 : stA zs sg i = true) : tok ok sg zs i = some (⟨4, sub zs i (i + 1), i⟩, i + 1) := by
  unfold tok
  rw [if_neg (by omega), if_neg (by rw [h1]; decide), if_neg (by rw [h2]; decide), if_neg (by rw [h3]; decide), if_pos h4]
theorem tok_none (h : i < zs.length) (h1 : stA zs isLet i = false) (h2 : begins zs i = false) (h3 : stA zs (isC 34) i = false) (h4 : stA zs sg i = false) : tok ok sg zs i = none := by
  unfold tok
  rw [if_neg (by omega), if_neg (by rw [h1]; decide), if_neg (by rw [h2]; decide), if_neg (by rw [h3]; decide), if_neg (by rw [h4]; decide)]
end
theorem tok_le {ok : List Int → Bool} {sg : Int → Bool} {zs : List Int} {i : Nat} {t : Tok} {e : Nat} (hi : i ≤ zs.length) (h : tok ok sg zs i = some (t, e)) : e ≤ zs.length := by
  have hm : minusTo zs i ≤ zs.length := by
    unfold minusTo
    split
    · rename_i h1
      have := stA_lt h1
      omega
    · exact hi
  unfold tok at h
  split at h
  · cases h; exact hi
  split at h
  · cases h; exact runTo_le _ _ _ hi
  split at h
  · split at h
    · cases h
    · cases h; exact runTo_le _ _ _ hm
  split at h
  · rename_i h1
    have := stA_lt h1
    split at h
    · cases h
    · rename_i h2
      cases h
      unfold quoBad at h2
      cases h3 : stA zs (isC 34) (quoEnd zs i)
      · rw [h3] at h2
        exact absurd rfl h2
      · exact stA_lt h3
  split at h
  · rename_i h1
    have := stA_lt h1
    cases h
    omega
  · cases h
def toksF (ok : List Int → Bool) (sg : Int → Bool) (zs : List Int) : Nat → Nat → List Tok → List Tok × Int × Nat
  | 0, i, l => (l, 0, i)
  | f + 1, i, l =>
    if l.length = 2048 then ([], 16, gap zs i) else
    match tok ok sg zs (gap zs i) with
    | none => ([], 10, gap zs i)
    | some (t, e) => if t.kind = 0 then (l ++ [t], 0, 0) else toksF ok sg zs f e (l ++ [t])
def toks (ok : List Int → Bool) (sg : Int → Bool) (zs : List Int) : List Tok × Int × Nat :=
  if 8192 < zs.length then ([], 16, 8192) else toksF ok sg zs 2049 0 []
end Go.Proofs.YtleclhnlojalbaaGreatDoor
namespace Go.Proofs.YtleclhnlojalbaaGreatDoor
open Go.RowKit

structure RTy where
  name : List Int
  lists : Nat
  place : Nat
structure RField where
  name : List Int
  place : Nat
  ty : RTy
  dflt : Tok
structure RRec where
  name : List Int
  place : Nat
  fields : List RField
structure RCho where
  name : List Int
  place : Nat
  names : List Tok
structure RRaw where
  structs : List RRec
  enums : List RCho
  roots : List Tok
inductive Res (α : Type) where
  | ok (a : α) (r : List Tok) : Res α
  | no (code : Int) (place : Nat) : Res α
def Res.bind {α β : Type} (x : Res α) (f : α → List Tok → Res β) : Res β :=
  match x with
  | .ok a r => f a r
  | .no c p => .no c p
theorem bind_ok {α β : Type} (a : α) (r : List Tok) (f : α → List Tok → Res β) : (Res.ok a r).bind f = f a r := rfl
theorem bind_no {α β : Type} (c : Int) (p : Nat) (f : α → List Tok → Res β) : (Res.no c p : Res α).bind f = .no c p := rfl
def noTok : Tok := ⟨0, [], 0⟩
def noTy : RTy := ⟨[], 0, 0⟩
def noField : RField := ⟨[], 0, noTy, noTok⟩
def hd (r : List Tok) : Tok := r.headD noTok
def isT (k : Int) (s : List Int) (r : List Tok) : Bool := decide ((hd r).kind = k) && decide ((hd r).text = s)
def bad {α : Type} (code : Int) (r : List Tok) : Res α := .no code (hd r).place
def wantR (s : List Int) (r : List Tok) : Res Unit := if isT 4 s r = true then .ok () r.tail else bad 11 r
def sizedR (r : List Tok) : Res Tok := if (hd r).text.length = 0 ∨ 40 < (hd r).text.length then bad 12 r else .ok (hd r) r.tail
def nameR (r : List Tok) : Res Tok := if (hd r).kind = 1 then sizedR r else bad 11 r
def labelR (r : List Tok) : Res Tok := if (hd r).kind = 1 ∨ (hd r).kind = 3 then sizedR r else bad 11 r
def valueR (r : List Tok) : Res Tok := if (hd r).kind = 1 ∨ (hd r).kind = 2 then .ok (hd r) r.tail else bad 11 r
def wStruct : List Int := [115, 116, 114, 117, 99, 116]
def wEnum : List Int := [101, 110, 117, 109]
def wRoot : List Int := [114, 111, 111, 116]
def wList : List Int := [108, 105, 115, 116]
def listsR : Nat → Nat → List Tok → Res Nat
  | f, n, r => if isT 1 wList r = true then (match f with
    | 0 => bad 16 r
    | f + 1 => (wantR [60] r.tail).bind fun _ r' => listsR f (n + 1) r') else .ok n r
def closeR : Nat → List Tok → Res Unit
  | 0, r => .ok () r
  | n + 1, r => (wantR [62] r).bind fun _ r' => closeR n r'
def tyR (r : List Tok) : Res RTy :=
  (listsR 3 0 r).bind fun n r1 => (nameR r1).bind fun t r2 => (closeR n r2).bind fun _ r3 => .ok ⟨t.text, n, (hd r).place⟩ r3
def dfltR (r : List Tok) : Res Tok := if isT 4 [61] r = true then valueR r.tail else .ok noTok r
def fieldR (r : List Tok) : Res RField :=
  (labelR r).bind fun t r1 => (wantR [58] r1).bind fun _ r2 => (tyR r2).bind fun ty r3 => (dfltR r3).bind fun d r4 => (wantR [59] r4).bind fun _ r5 => .ok ⟨t.text, t.place, ty, d⟩ r5
def fieldsR : Nat → List RField → List Tok → Res (List RField)
  | 0, _, r => bad 11 r
  | f + 1, acc, r => if isT 4 [125] r = true then .ok acc r.tail else (fieldR r).bind fun x r' => fieldsR f (acc ++ [x]) r'
def recR (r : List Tok) : Res RRec :=
  (nameR r).bind fun t r1 => (wantR [123] r1).bind fun _ r2 => (fieldsR r2.length [] r2).bind fun fs r3 => .ok ⟨t.text, t.place, fs⟩ r3
def commaR (r : List Tok) : Res Unit := if isT 4 [125] r = true then .ok () r else wantR [44] r
def namesR : Nat → List Tok → List Tok → Res (List Tok)
  | 0, _, r => bad 11 r
  | f + 1, acc, r => if isT 4 [125] r = true then .ok acc r.tail else (nameR r).bind fun t r1 => (commaR r1).bind fun _ r2 => namesR f (acc ++ [t]) r2
def choR (r : List Tok) : Res RCho :=
  (nameR r).bind fun t r1 => (wantR [123] r1).bind fun _ r2 => (namesR r2.length [] r2).bind fun ns r3 => .ok ⟨t.text, t.place, ns⟩ r3
def partR (a : RRaw) (r : List Tok) : Res RRaw :=
  if isT 1 wStruct r = true then (recR r.tail).bind fun s r' => .ok ⟨a.structs ++ [s], a.enums, a.roots⟩ r'
  else if isT 1 wEnum r = true then (choR r.tail).bind fun s r' => .ok ⟨a.structs, a.enums ++ [s], a.roots⟩ r'
  else if isT 1 wRoot r = true then (nameR r.tail).bind fun t r1 => (wantR [59] r1).bind fun _ r' => .ok ⟨a.structs, a.enums, a.roots ++ [t]⟩ r'
  else bad 11 r
def noRaw : RRaw := ⟨[], [], []⟩
def schemaR : Nat → RRaw → List Tok → Res RRaw
  | 0, _, r => bad 11 r
  | f + 1, a, r => if (hd r).kind = 0 then .ok a r else (partR a r).bind fun a' r' => schemaR f a' r'
def rawR (l : List Tok) : Res RRaw := schemaR l.length noRaw l

def Ends : List Tok → Prop
  | [] => False
  | t :: q => (t.kind = 0 ∧ t.text = [] ∧ q = []) ∨ (t.kind ≠ 0 ∧ Ends q)
theorem Ends.ne {r : List Tok} (h : Ends r) : r ≠ [] := by
  rintro rfl
  exact h
theorem Ends.tail {r : List Tok} (h : Ends r) (h0 : (hd r).kind ≠ 0) : Ends r.tail := by
  cases r with
  | nil => exact h.elim
  | cons t q =>
    rcases h with h | h
    · exact absurd h.1 h0
    · exact h.2
theorem Ends.cons {r : List Tok} (h : Ends r) : r = hd r :: r.tail := by
  cases r with
  | nil => exact h.elim
  | cons t q => rfl
theorem Ends.len {r : List Tok} (h : Ends r) : r.length = r.tail.length + 1 := by
  conv => lhs; rw [h.cons]
  rfl
theorem Ends.two {r : List Tok} (h : Ends r) (h0 : (hd r).kind ≠ 0) : 2 ≤ r.length := by
  have := (h.tail h0).len
  rw [h.len]
  omega
theorem isT_kind {k : Int} {s : List Int} {r : List Tok} (h : isT k s r = true) : (hd r).kind = k ∧ (hd r).text = s := by
  unfold isT at h
  rw [Bool.and_eq_true] at h
  exact ⟨of_decide_eq_true h.1, of_decide_eq_true h.2⟩
def Eats {α : Type} (r : List Tok) (x : Res α) : Prop := ∀ a r', x = .ok a r' → Ends r' ∧ r'.length < r.length
def Keeps {α : Type} (r : List Tok) (x : Res α) : Prop := ∀ a r', x = .ok a r' → Ends r' ∧ r'.length ≤ r.length
theorem Eats.keeps {α : Type} {r : List Tok} {x : Res α} (h : Eats r x) : Keeps r x := fun a r' e => ⟨(h a r' e).1, Nat.le_of_lt (h a r' e).2⟩
theorem eats_no {α : Type} {r : List Tok} {c : Int} {p : Nat} : Eats r (.no c p : Res α) := fun _ _ e => by cases e
theorem eats_bind {α β : Type} {r : List Tok} {x : Res α} {f : α → List Tok → Res β} (h : Eats r x) (hf : ∀ a r', Ends r' → Keeps r' (f a r')) : Eats r (x.bind f) := by
  cases x with
  | no c p => exact eats_no
  | ok a r' =>
    intro b r'' e
    obtain ⟨h1, h2⟩ := h a r' rfl
    obtain ⟨h3, h4⟩ := hf a r' h1 b r'' e
    exact ⟨h3, Nat.lt_of_le_of_lt h4 h2⟩
theorem keeps_bind {α β : Type} {r : List Tok} {x : Res α} {f : α → List Tok → Res β} (h : Keeps r x) (hf : ∀ a r', Ends r' → Keeps r' (f a r')) : Keeps r (x.bind f) := by
  cases x with
  | no c p => exact fun _ _ e => by cases e
  | ok a r' =>
    intro b r'' e
    obtain ⟨h1, h2⟩ := h a r' rfl
    obtain ⟨h3, h4⟩ := hf a r' h1 b r'' e
    exact ⟨h3, Nat.le_trans h4 h2⟩
theorem keeps_ok {α : Type} {r : List Tok} (a : α) (h : Ends r) : Keeps r (.ok a r) := fun _ _ e => by cases e; exact ⟨h, Nat.le_refl _⟩
theorem eats_tail {α : Type} {r : List Tok} (a : α) (h : Ends r) (h0 : (hd r).kind ≠ 0) : Eats r (.ok a r.tail) := fun _ _ e => by
  cases e
  refine ⟨h.tail h0, ?_⟩
  rw [h.len]
  omega
theorem want_eats {s : List Int} {r : List Tok} (h : Ends r) : Eats r (wantR s r) := by
  unfold wantR
  split
  · rename_i hs
    exact eats_tail _ h (by rw [(isT_kind hs).1]; decide)
  · exact eats_no
theorem sized_eats {r : List Tok} (h : Ends r) (h0 : (hd r).kind ≠ 0) : Eats r (sizedR r) := by
  unfold sizedR
  split
  · exact eats_no
  · exact eats_tail _ h h0
theorem name_eats {r : List Tok} (h : Ends r) : Eats r (nameR r) := by
  unfold nameR
  split
  · rename_i hs
    exact sized_eats h (by rw [hs]; decide)
  · exact eats_no
theorem label_eats {r : List Tok} (h : Ends r) : Eats r (labelR r) := by
  unfold labelR
  split
  · rename_i hs
    exact sized_eats h (by omega)
  · exact eats_no
theorem value_eats {r : List Tok} (h : Ends r) : Eats r (valueR r) := by
  unfold valueR
  split
  · rename_i hs
    exact eats_tail _ h (by omega)
  · exact eats_no
theorem lists_keeps : ∀ (f n : Nat) (r : List Tok), Ends r → Keeps r (listsR f n r)
  | 0, n, r, h => by
    unfold listsR
    split
    · exact eats_no.keeps
    · exact keeps_ok _ h
  | f + 1, n, r, h => by
    unfold listsR
    split
    · rename_i hs
      have h0 : (hd r).kind ≠ 0 := by rw [(isT_kind hs).1]; decide
      refine fun a r' e => ?_
      obtain ⟨h1, h2⟩ := (keeps_bind (want_eats (h.tail h0)).keeps (fun _ r' h' => lists_keeps f (n + 1) r' h')) a r' e
      exact ⟨h1, Nat.le_trans h2 (by rw [h.len]; omega)⟩
    · exact keeps_ok _ h
theorem close_keeps : ∀ (n : Nat) (r : List Tok), Ends r → Keeps r (closeR n r)
  | 0, _, h => keeps_ok _ h
  | n + 1, _, h => keeps_bind (want_eats h).keeps (fun _ r' h' => close_keeps n r' h')
theorem ty_keeps {r : List Tok} (h : Ends r) : Keeps r (tyR r) :=
  keeps_bind (lists_keeps 3 0 r h) fun _ _ h1 => keeps_bind (name_eats h1).keeps fun _ _ h2 => keeps_bind (close_keeps _ _ h2) fun _ _ h3 => keeps_ok _ h3
theorem dflt_keeps {r : List Tok} (h : Ends r) : Keeps r (dfltR r) := by
  unfold dfltR
  split
  · rename_i hs
    have h0 : (hd r).kind ≠ 0 := by rw [(isT_kind hs).1]; decide
    intro a r' e
    obtain ⟨h1, h2⟩ := (value_eats (h.tail h0)).keeps a r' e
    exact ⟨h1, Nat.le_trans h2 (by rw [h.len]; omega)⟩
  · exact keeps_ok _ h
theorem field_eats {r : List Tok} (h : Ends r) : Eats r (fieldR r) :=
  eats_bind (label_eats h) fun _ _ h1 => keeps_bind (want_eats h1).keeps fun _ _ h2 => keeps_bind (ty_keeps h2) fun _ _ h3 => keeps_bind (dflt_keeps h3) fun _ _ h4 => keeps_bind (want_eats h4).keeps fun _ _ h5 => keeps_ok _ h5
theorem comma_keeps {r : List Tok} (h : Ends r) : Keeps r (commaR r) := by
  unfold commaR
  split
  · exact keeps_ok _ h
  · exact (want_eats h).keeps
theorem tail_keeps {α : Type} {r : List Tok} (a : α) {k : Int} {s : List Int} (h : Ends r) (hs : isT k s r = true) (hk : k ≠ 0) : Keeps r (.ok a r.tail) :=
  (eats_tail a h (by rw [(isT_kind hs).1]; exact hk)).keeps
theorem fields_keeps : ∀ (f : Nat) (acc : List RField) (r : List Tok), Ends r → Keeps r (fieldsR f acc r)
  | 0, _, _, _ => eats_no.keeps
  | f + 1, acc, r, h => by
    unfold fieldsR
    split
    · rename_i hs
      exact tail_keeps _ h hs (by decide)
    · exact keeps_bind (field_eats h).keeps fun _ _ h1 => fields_keeps f _ _ h1
theorem names_keeps : ∀ (f : Nat) (acc : List Tok) (r : List Tok), Ends r → Keeps r (namesR f acc r)
  | 0, _, _, _ => eats_no.keeps
  | f + 1, acc, r, h => by
    unfold namesR
    split
    · rename_i hs
      exact tail_keeps _ h hs (by decide)
    · exact keeps_bind (name_eats h).keeps fun _ _ h1 => keeps_bind (comma_keeps h1) fun _ _ h2 => names_keeps f _ _ h2
theorem rec_eats {r : List Tok} (h : Ends r) : Eats r (recR r) :=
  eats_bind (name_eats h) fun _ _ h1 => keeps_bind (want_eats h1).keeps fun _ _ h2 => keeps_bind (fields_keeps _ _ _ h2) fun _ _ h3 => keeps_ok _ h3
theorem cho_eats {r : List Tok} (h : Ends r) : Eats r (choR r) :=
  eats_bind (name_eats h) fun _ _ h1 => keeps_bind (want_eats h1).keeps fun _ _ h2 => keeps_bind (names_keeps _ _ _ h2) fun _ _ h3 => keeps_ok _ h3
theorem eats_of_tail {α : Type} {r : List Tok} {x : Res α} (h : Ends r) (hx : Keeps r.tail x) : Eats r x := fun a r' e => by
  obtain ⟨h1, h2⟩ := hx a r' e
  exact ⟨h1, by rw [h.len]; omega⟩
theorem part_eats {a : RRaw} {r : List Tok} (h : Ends r) : Eats r (partR a r) := by
  have h0 : ∀ {k s}, k ≠ 0 → isT k s r = true → Ends r.tail := fun hk hs => h.tail (by rw [(isT_kind hs).1]; exact hk)
  unfold partR
  split
  · rename_i hs
    exact eats_of_tail h (keeps_bind (rec_eats (h0 (by decide) hs)).keeps fun _ _ h1 => keeps_ok _ h1)
  split
  · rename_i hs
    exact eats_of_tail h (keeps_bind (cho_eats (h0 (by decide) hs)).keeps fun _ _ h1 => keeps_ok _ h1)
  split
  · rename_i hs
    exact eats_of_tail h (keeps_bind (name_eats (h0 (by decide) hs)).keeps fun _ _ h1 => keeps_bind (want_eats h1).keeps fun _ _ h2 => keeps_ok _ h2)
  · exact eats_no
theorem fields_fuel : ∀ (f g : Nat) (acc : List RField) (r : List Tok), Ends r → r.length ≤ f → r.length ≤ g → fieldsR f acc r = fieldsR g acc r
  | 0, _, _, r, h, hf, _ => by rw [h.len] at hf; omega
  | _, 0, _, r, h, _, hg => by rw [h.len] at hg; omega
  | f + 1, g + 1, acc, r, h, hf, hg => by
    simp only [fieldsR]
    split
    · rfl
    · cases hx : fieldR r with
      | no c p => rfl
      | ok a r' =>
        obtain ⟨h1, h2⟩ := field_eats h a r' hx
        exact fields_fuel f g _ _ h1 (by omega) (by omega)
theorem names_fuel : ∀ (f g : Nat) (acc : List Tok) (r : List Tok), Ends r → r.length ≤ f → r.length ≤ g → namesR f acc r = namesR g acc r
  | 0, _, _, r, h, hf, _ => by rw [h.len] at hf; omega
  | _, 0, _, r, h, _, hg => by rw [h.len] at hg; omega
  | f + 1, g + 1, acc, r, h, hf, hg => by
    simp only [namesR]
    split
    · rfl
    · cases hx : nameR r with
      | no c p => rfl
      | ok a r' =>
        obtain ⟨h1, h2⟩ := name_eats h a r' hx
        simp only [bind_ok]
        cases hy : commaR r' with
        | no c p => rfl
        | ok b r'' =>
          obtain ⟨h3, h4⟩ := comma_keeps h1 b r'' hy
          exact names_fuel f g _ _ h3 (by omega) (by omega)
theorem schema_fuel : ∀ (f g : Nat) (a : RRaw) (r : List Tok), Ends r → r.length ≤ f → r.length ≤ g → schemaR f a r = schemaR g a r
  | 0, _, _, r, h, hf, _ => by rw [h.len] at hf; omega
  | _, 0, _, r, h, _, hg => by rw [h.len] at hg; omega
  | f + 1, g + 1, a, r, h, hf, hg => by
    simp only [schemaR]
    split
    · rfl
    · cases hx : partR a r with
      | no c p => rfl
      | ok b r' =>
        obtain ⟨h1, h2⟩ := part_eats h b r' hx
        exact schema_fuel f g _ _ h1 (by omega) (by omega)
def fieldsL (acc : List RField) (r : List Tok) : Res (List RField) := fieldsR r.length acc r
def namesL (acc : List Tok) (r : List Tok) : Res (List Tok) := namesR r.length acc r
def schemaL (a : RRaw) (r : List Tok) : Res RRaw := schemaR r.length a r
theorem fieldsL_step {acc : List RField} {r : List Tok} (h : Ends r) : fieldsL acc r = if isT 4 [125] r = true then .ok acc r.tail else (fieldR r).bind fun x r' => fieldsL (acc ++ [x]) r' := by
  unfold fieldsL
  rw [h.len]
  simp only [fieldsR]
  split
  · rfl
  · cases hx : fieldR r with
    | no c p => rfl
    | ok a r' =>
      obtain ⟨h1, h2⟩ := field_eats h a r' hx
      exact fields_fuel _ _ _ _ h1 (by rw [h.len] at h2; omega) (Nat.le_refl _)
theorem namesL_step {acc : List Tok} {r : List Tok} (h : Ends r) : namesL acc r = if isT 4 [125] r = true then .ok acc r.tail else (nameR r).bind fun t r1 => (commaR r1).bind fun _ r2 => namesL (acc ++ [t]) r2 := by
  unfold namesL
  rw [h.len]
  simp only [namesR]
  split
  · rfl
  · cases hx : nameR r with
    | no c p => rfl
    | ok a r' =>
      obtain ⟨h1, h2⟩ := name_eats h a r' hx
      simp only [bind_ok]
      cases hy : commaR r' with
      | no c p => rfl
      | ok b r'' =>
        obtain ⟨h3, h4⟩ := comma_keeps h1 b r'' hy
        exact names_fuel _ _ _ _ h3 (by rw [h.len] at h2; omega) (Nat.le_refl _)
theorem schemaL_step {a : RRaw} {r : List Tok} (h : Ends r) : schemaL a r = if (hd r).kind = 0 then .ok a r else (partR a r).bind fun a' r' => schemaL a' r' := by
  unfold schemaL
  rw [h.len]
  simp only [schemaR]
  split
  · rfl
  · cases hx : partR a r with
    | no c p => rfl
    | ok b r' =>
      obtain ⟨h1, h2⟩ := part_eats h b r' hx
      exact schema_fuel _ _ _ _ h1 (by rw [h.len] at h2; omega) (Nat.le_refl _)
end Go.Proofs.YtleclhnlojalbaaGreatDoor
namespace Go.Proofs.YtleclhnlojalbaaGreatDoor
open Go.RowKit
theorem ret_int {k : IntKind} {a b : Int} (h : a = b) : Ending.returned (.int k a) = .returned (.int k b) := by rw [h]
theorem ret_bool {a b : Bool} (h : a = b) : Ending.returned (.bool a) = .returned (.bool b) := by rw [h]
theorem ret_int_bool {k : IntKind} {a b : Int} {c : Bool} (h : a = b) : Ending.returned (.tuple #[.int k a, .bool c]) = .returned (.tuple #[.int k b, .bool c]) := by rw [h]
def kSize (n : Int) : Int :=
  if n = 1 ∨ n = 2 ∨ n = 6 ∨ n = 10 then 1 else if n = 3 ∨ n = 7 then 2 else if n = 4 ∨ n = 8 then 4 else if n = 5 ∨ n = 9 then 8 else 0
theorem kSize_else (n : Int) (h : n < 1 ∨ 10 < n) : kSize n = 0 := by
  unfold kSize
  rw [if_neg (by omega), if_neg (by omega), if_neg (by omega), if_neg (by omega)]
def kSign (n : Int) : Bool := decide (2 ≤ n ∧ n ≤ 5)
def sgn (m n : Int) : Int := if n % (2 * m) < m then n % (2 * m) else n % (2 * m) + (18446744073709551616 - 2 * m)
def sgnOf (n s : Int) : Int := if s = 1 then sgn 128 n else if s = 2 then sgn 32768 n else if s = 4 then sgn 2147483648 n else n
theorem sgnOf_else (n s : Int) (h1 : ¬ s = 1) (h2 : ¬ s = 2) (h4 : ¬ s = 4) : sgnOf n s = n := by
  unfold sgnOf
  rw [if_neg h1, if_neg h2, if_neg h4]
theorem and_8 (n : Int) (h0 : 0 ≤ n) (h1 : n ≤ 18446744073709551615) : bits BinOp.and .u64 n 255 = n % 256 :=
  bits_mask .u64 64 (by decide) (fun n h0 h1 => IntWalk.u64_in n ⟨h0, by omega⟩) 8 (by decide) n h0 (by omega)
theorem and_16 (n : Int) (h0 : 0 ≤ n) (h1 : n ≤ 18446744073709551615) : bits BinOp.and .u64 n 65535 = n % 65536 :=
  bits_mask .u64 64 (by decide) (fun n h0 h1 => IntWalk.u64_in n ⟨h0, by omega⟩) 16 (by decide) n h0 (by omega)
theorem and_32 (n : Int) (h0 : 0 ≤ n) (h1 : n ≤ 18446744073709551615) : bits BinOp.and .u64 n 4294967295 = n % 4294967296 :=
  bits_mask .u64 64 (by decide) (fun n h0 h1 => IntWalk.u64_in n ⟨h0, by omega⟩) 32 (by decide) n h0 (by omega)
theorem or_comm64 (x y : Int) : bits BinOp.or .u64 x y = bits BinOp.or .u64 y x := by simp only [bits, BitVec.or_comm]
theorem or_8 (y : Int) (h0 : 0 ≤ y) (h1 : y < 256) : bits BinOp.or .u64 y 18446744073709551360 = y + 18446744073709551360 := by
  rw [or_comm64, bits_join .u64 64 (by decide) (fun n h0 h1 => IntWalk.u64_in n ⟨h0, by omega⟩) 8 _ _ (by decide) (by decide) (by decide) h0 h1 (by omega)]
  omega
theorem or_16 (y : Int) (h0 : 0 ≤ y) (h1 : y < 65536) : bits BinOp.or .u64 y 18446744073709486080 = y + 18446744073709486080 := by
  rw [or_comm64, bits_join .u64 64 (by decide) (fun n h0 h1 => IntWalk.u64_in n ⟨h0, by omega⟩) 16 _ _ (by decide) (by decide) (by decide) h0 h1 (by omega)]
  omega
theorem or_32 (y : Int) (h0 : 0 ≤ y) (h1 : y < 4294967296) : bits BinOp.or .u64 y 18446744069414584320 = y + 18446744069414584320 := by
  rw [or_comm64, bits_join .u64 64 (by decide) (fun n h0 h1 => IntWalk.u64_in n ⟨h0, by omega⟩) 32 _ _ (by decide) (by decide) (by decide) h0 h1 (by omega)]
  omega
theorem sgnOf_1 (n : Int) : sgnOf n 1 = if n % 256 < 128 then n % 256 else n % 256 + 18446744073709551360 := rfl
theorem sgnOf_2 (n : Int) : sgnOf n 2 = if n % 65536 < 32768 then n % 65536 else n % 65536 + 18446744073709486080 := rfl
theorem sgnOf_4 (n : Int) : sgnOf n 4 = if n % 4294967296 < 2147483648 then n % 4294967296 else n % 4294967296 + 18446744069414584320 := rfl
end Go.Proofs.YtleclhnlojalbaaGreatDoor
namespace Go.Proofs.YtleclhnlojalbaaGreatDoor
open Go.ChangeShapes Go.WideShapes Go.ChangeAt Go.RowKit Go.Shelf

structure IsKind (w : World) (g : Nat) (lb : Array Value) (p : Int → Bool) : Prop where
  enters : ∀ args w, (callFunc g args).run Tryz.prog w = .ok (.enter g args) w
  gives : ∀ (W : World) (c : Int), 0 ≤ c → c ≤ 255 → Below w.heap.size w W → Calls Tryz.prog g (#[.int .u8 c] ++ lb) W fun e w' => e = .returned (.bool (p c)) ∧ Below W.heap.size W w'
theorem IsKind.later {w W : World} {g : Nat} {lb : Array Value} {p : Int → Bool} (h : IsKind w g lb p) (hb : Below w.heap.size w W) : IsKind W g lb p :=
  ⟨h.enters, fun W' c h0 h1 hb' => h.gives W' c h0 h1 (hb.trans (hb'.mono hb.size))⟩
theorem IsKind.congr {w : World} {g : Nat} {lb : Array Value} {p q : Int → Bool} (h : IsKind w g lb p) (hpq : ∀ c, 0 ≤ c → c ≤ 255 → p c = q c) : IsKind w g lb q :=
  ⟨h.enters, fun W c h0 h1 hb => by rw [← hpq c h0 h1]; exact h.gives W c h0 h1 hb⟩
def KindV (w : World) (v : Value) (p : Int → Bool) : Prop := ∃ g lb, v = .func (.func g) #[] lb ∧ IsKind w g lb p

def betw (a b : Int) (c : Int) : Bool := decide (a ≤ c ∧ c ≤ b)
theorem between1 (W : World) (B C : Nat) (a b c : Int) (hB : W.cell? ⟨B, 0, none⟩ = some (.int .u8 a)) (hC : W.cell? ⟨C, 0, none⟩ = some (.int .u8 b)) :
    Calls Tryz.prog 161 #[.int .u8 c, .pointer (some ⟨B, 0, none⟩), .pointer (some ⟨C, 0, none⟩)] W fun e w' => e = .returned (.bool (betw a b c)) ∧ Below W.heap.size W w' := by
  by_cases h1 : a ≤ c
  · have h1' : decide (a ≤ c) = true := by simpa using h1
    by_cases h2 : c ≤ b
    · have e : betw a b c = true := by simp [betw, h1, h2]
      rw [e]
      clear e
      go_enter Tryz.func161, Tryz.ntmps161
      go_wp2
      go_ret
      exact ⟨rfl, Below.refl _ _⟩
    · have e : betw a b c = false := by simp [betw, h1, h2]
      rw [e]
      clear e
      go_enter Tryz.func161, Tryz.ntmps161
      go_wp2
      go_ret
      exact ⟨rfl, Below.refl _ _⟩
  · have e : betw a b c = false := by simp [betw, h1]
    rw [e]
    clear e
    go_enter Tryz.func161, Tryz.ntmps161
    go_wp2
    go_ret
    exact ⟨rfl, Below.refl _ _⟩
theorem between_any (a b : Int) (w : World) :
    Calls Tryz.prog 140 #[.int .u8 a, .int .u8 b] w fun e w' => ∃ v, e = .returned v ∧ Below w.heap.size w w' ∧ KindV w' v (betw a b) := by
  go_enter Tryz.func140, Tryz.ntmps140
  go_wp2
  go_ret
  refine ⟨_, rfl, ((Below.refl _ _).alloc (Nat.le_refl _) _).alloc (by simp) _, _, _, rfl, enters_of Tryz.func161 (by kernel_rfl) rfl, fun W c _ _ hb => ?_⟩
  have h1 : ∀ i, i < 2 → W.cell? ⟨w.heap.size + i, 0, none⟩ = _ := fun i hi => hb.cell (p := ⟨w.heap.size + i, 0, none⟩) (by simp; omega)
  refine between1 W _ _ a b c ((h1 0 (by omega)).trans ?_) ((h1 1 (by omega)).trans ?_)
  · simp [go_sem]
  · simp [go_sem]
theorem either1 (W w1 w2 : World) (B C g1 g2 : Nat) (l1 l2 : Array Value) (p1 p2 : Int → Bool) (c : Int) (hc0 : 0 ≤ c) (hc1 : c ≤ 255) (hB : W.cell? ⟨B, 0, none⟩ = some (.func (.func g1) #[] l1)) (hC : W.cell? ⟨C, 0, none⟩ = some (.func (.func g2) #[] l2)) (hCs : C < W.heap.size)
    (h1 : IsKind w1 g1 l1 p1) (hb1 : Below w1.heap.size w1 W) (h2 : IsKind w2 g2 l2 p2) (hb2 : Below w2.heap.size w2 W) :
    Calls Tryz.prog 141 #[.int .u8 c, .pointer (some ⟨B, 0, none⟩), .pointer (some ⟨C, 0, none⟩)] W fun e w' => e = .returned (.bool (p1 c || p2 c)) ∧ Below W.heap.size W w' := by
  have e1 := h1.enters
  have e2 := h2.enters
  have H1 := Lib.hid (h1.gives W c hc0 hc1 hb1)
  have H2 := Lib.hid (fun W' hb => h2.gives W' c hc0 hc1 hb)
  have HB := Lib.hid hb2
  have HC := Lib.hid hC
  clear h1 h2 hb1 hb2 hC
  cases hp : p1 c
  · rw [hp] at H1
    rw [Bool.false_or]
    clear hp
    go_enter Tryz.func141, Tryz.ntmps141
    go_wp2_with fail
    refine H1.out.mono ?_
    rintro e W1 ⟨rfl, hb⟩
    have hC' : W1.cell? ⟨C, 0, none⟩ = some (.func (.func g2) #[] l2) := (hb.cell (p := ⟨C, 0, none⟩) hCs).trans HC.out
    have H := Lib.hid hb
    clear hb
    go_wp2_with fail
    refine (H2.out _ (HB.out.trans (H.out.mono HB.out.size))).mono ?_
    rintro e W2 ⟨rfl, hb⟩
    clear hC'
    go_wp2
    go_ret
    exact ⟨rfl, H.out.trans (hb.mono H.out.size)⟩
  · rw [hp] at H1
    rw [Bool.true_or]
    clear hp
    go_enter Tryz.func141, Tryz.ntmps141
    go_wp2_with fail
    refine H1.out.mono ?_
    rintro e W1 ⟨rfl, hb⟩
    go_wp2
    go_ret
    exact ⟨rfl, hb⟩
theorem either_any (v1 v2 : Value) (p1 p2 : Int → Bool) (w : World) (h1 : KindV w v1 p1) (h2 : KindV w v2 p2) :
    Calls Tryz.prog 116 #[v1, v2] w fun e w' => ∃ v, e = .returned v ∧ Below w.heap.size w w' ∧ KindV w' v (fun c => p1 c || p2 c) := by
  obtain ⟨g1, l1, rfl, h1⟩ := h1
  obtain ⟨g2, l2, rfl, h2⟩ := h2
  go_enter Tryz.func116, Tryz.ntmps116
  go_wp2
  go_ret
  refine ⟨_, rfl, ((Below.refl _ _).alloc (Nat.le_refl _) _).alloc (by simp) _, _, _, rfl, enters_of Tryz.func141 (by kernel_rfl) rfl, fun W c h0 h1' hb => ?_⟩
  have hk : ∀ i, i < 2 → W.cell? ⟨w.heap.size + i, 0, none⟩ = _ := fun i hi => hb.cell (p := ⟨w.heap.size + i, 0, none⟩) (by simp; omega)
  have hs := hb.size
  simp at hs
  have hbw : Below w.heap.size w W := (((Below.refl _ _).alloc (Nat.le_refl _) _).alloc (by simp) _).trans (hb.mono (by simp; omega))
  refine either1 W w w _ _ g1 g2 l1 l2 p1 p2 c h0 h1' ((hk 0 (by omega)).trans ?_) ((hk 1 (by omega)).trans ?_) (by omega) h1 hbw h2 hbw
  · simp [go_sem]
  · simp [go_sem]
theorem but1 (W w1 : World) (B g1 : Nat) (l1 : Array Value) (p1 : Int → Bool) (c : Int) (hc0 : 0 ≤ c) (hc1 : c ≤ 255) (hB : W.cell? ⟨B, 0, none⟩ = some (.func (.func g1) #[] l1))
    (h1 : IsKind w1 g1 l1 p1) (hb1 : Below w1.heap.size w1 W) :
    Calls Tryz.prog 139 #[.int .u8 c, .pointer (some ⟨B, 0, none⟩)] W fun e w' => e = .returned (.bool (!p1 c)) ∧ Below W.heap.size W w' := by
  have e1 := h1.enters
  have H1 := Lib.hid (h1.gives W c hc0 hc1 hb1)
  clear h1 hb1
  generalize p1 c = x at H1 ⊢
  go_enter Tryz.func139, Tryz.ntmps139
  go_wp2_with fail
  refine H1.out.mono ?_
  rintro e W1 ⟨rfl, hb⟩
  go_wp2
  go_ret
  exact ⟨rfl, hb⟩
theorem but_any (v1 : Value) (p1 : Int → Bool) (w : World) (h1 : KindV w v1 p1) :
    Calls Tryz.prog 113 #[v1] w fun e w' => ∃ v, e = .returned v ∧ Below w.heap.size w w' ∧ KindV w' v (fun c => !p1 c) := by
  obtain ⟨g1, l1, rfl, h1⟩ := h1
  go_enter Tryz.func113, Tryz.ntmps113
  go_wp2
  go_ret
  refine ⟨_, rfl, (Below.refl _ _).alloc (Nat.le_refl _) _, _, _, rfl, enters_of Tryz.func139 (by kernel_rfl) rfl, fun W c h0 h1' hb => ?_⟩
  have hk : W.cell? ⟨w.heap.size, 0, none⟩ = _ := hb.cell (p := ⟨w.heap.size, 0, none⟩) (by simp)
  have hbw : Below w.heap.size w W := ((Below.refl _ _).alloc (Nat.le_refl _) _).trans (hb.mono (by simp))
  refine but1 W w _ g1 l1 p1 c h0 h1' (hk.trans ?_) h1 hbw
  simp [go_sem]
end Go.Proofs.YtleclhnlojalbaaGreatDoor
namespace Go.Proofs.YtleclhnlojalbaaGreatDoor
open Go.Proofs Go.Shelf
def Tryz.lays137_ren : Go.Shelf.Ren := ⟨fun | 137 => 123 | 217 => 145 | 266 => 162 | n => n, fun | 9 => 9 | 5 => 5 | 3 => 3 | n => n, fun | n => n⟩
theorem Tryz.lays137 : Go.Proofs.Lays.n137 Tryz.prog Tryz.lays137_ren := {
  mixed := by kernel_rfl
  f137 := Tryz.func123.trans (congrArg some (by kernel_rfl))
  f217 := Tryz.func145.trans (congrArg some (by kernel_rfl))
  f266 := Tryz.func162.trans (congrArg some (by kernel_rfl))
  t3 := Tryz.underlying3
  a3 := Tryz.isAgg3
  z3 := Tryz.sizeOf3
  v3 := Tryz.zeroValue3
  t5 := Tryz.underlying5
  a5 := Tryz.isAgg5
  z5 := Tryz.sizeOf5
  v5 := Tryz.zeroValue5
  t9 := Tryz.underlying9
  a9 := Tryz.isAgg9
  z9 := Tryz.sizeOf9
  v9 := Tryz.zeroValue9 }
open Go.RowKit in
theorem Tryz.strings_IndexByte (s : ByteArray) (c : Int) (w : World) :
    Calls Tryz.prog 123 #[.string s, .int .u8 c] w fun e w' => e = .returned (.int .i64 (Lib.indexByte s.data.toList c.toNat.toUInt8)) ∧ w' = w := Any.strings_IndexByte Tryz.lays137 s c w
end Go.Proofs.YtleclhnlojalbaaGreatDoor
