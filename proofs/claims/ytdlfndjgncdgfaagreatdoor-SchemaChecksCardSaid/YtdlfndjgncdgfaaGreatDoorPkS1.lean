/-
  What the frames of this seat's proofs share: the program's own facts, and what a walk is told of a slice of integers that came in. No conditions.
-/
import Derived.WalkKit
import Derived.Test.YtdlfndjgncdgfaaGreatDoorRows
import Derived.ProofKit
import Derived.OpenShut
import Derived.ShutString
import Derived.ChangeOld
import Derived.Below
import Derived.Deep.DeepHandedRow
namespace Go.Proofs.YtdlfndjgncdgfaaGreatDoor
open Go.RowKit

def isBlank (c : Int) : Bool := decide (c = 32 ∨ c = 9 ∨ c = 10 ∨ c = 13)
def isDig (c : Int) : Bool := decide (48 ≤ c ∧ c ≤ 57)
def isLet (c : Int) : Bool := decide (c = 95 ∨ (97 ≤ c ∧ c ≤ 122) ∨ (65 ≤ c ∧ c ≤ 90))
def isPlain (c : Int) : Bool := decide (c ≠ 34 ∧ c ≠ 92 ∧ c ≠ 127 ∧ ¬ (0 ≤ c ∧ c ≤ 31))
def isC (x : Int) (c : Int) : Bool := decide (c = x)
def notLf (c : Int) : Bool := decide (c ≠ 10)
def stA (zs : List Int) (p : Int → Bool) (i : Nat) : Bool := decide (i < zs.length) && p (zs.getD i 0)
def runTo (zs : List Int) (p : Int → Bool) (i : Nat) : Nat := i + ((zs.drop i).takeWhile p).length

theorem stA_lt {zs : List Int} {p : Int → Bool} {i : Nat} (h : stA zs p i = true) : i < zs.length := by
  unfold stA at h
  simp at h
  exact h.1
theorem stA_p {zs : List Int} {p : Int → Bool} {i : Nat} (h : stA zs p i = true) : p (zs.getD i 0) = true := by
  unfold stA at h
  rw [Bool.and_eq_true] at h
  exact h.2
theorem stA_of {zs : List Int} {p : Int → Bool} {i : Nat} (h : i < zs.length) : stA zs p i = p (zs.getD i 0) := by
  unfold stA
  rw [decide_eq_true h, Bool.true_and]
theorem stA_ge {zs : List Int} {p : Int → Bool} {i : Nat} (h : zs.length ≤ i) : stA zs p i = false := by
  unfold stA
  rw [decide_eq_false (by omega), Bool.false_and]
theorem drop_cons {zs : List Int} {i : Nat} (h : i < zs.length) : zs.drop i = zs.getD i 0 :: zs.drop (i + 1) := by
  rw [List.drop_eq_getElem_cons h]
  simp [List.getD, h]
theorem runTo_stop {zs : List Int} {p : Int → Bool} {i : Nat} (h : stA zs p i = false) : runTo zs p i = i := by
  unfold runTo
  by_cases hi : i < zs.length
  · rw [stA_of hi] at h
    rw [drop_cons hi, List.takeWhile_cons, h]
    simp
  · rw [List.drop_eq_nil_of_le (by omega)]
    simp
theorem runTo_step {zs : List Int} {p : Int → Bool} {i : Nat} (h : stA zs p i = true) : runTo zs p i = runTo zs p (i + 1) := by
  unfold runTo
  rw [drop_cons (stA_lt h), List.takeWhile_cons, stA_p h]
  simp
  omega
theorem runTo_ge (zs : List Int) (p : Int → Bool) (i : Nat) : i ≤ runTo zs p i := by unfold runTo; omega
theorem length_takeWhile_le' (p : Int → Bool) : ∀ l : List Int, (l.takeWhile p).length ≤ l.length
  | [] => by simp
  | a :: r => by
    have := length_takeWhile_le' p r
    rw [List.takeWhile_cons]
    split <;> simp <;> omega
theorem runTo_le (zs : List Int) (p : Int → Bool) (i : Nat) (h : i ≤ zs.length) : runTo zs p i ≤ zs.length := by
  unfold runTo
  have := length_takeWhile_le' p (zs.drop i)
  rw [List.length_drop] at this
  omega
theorem runTo_rec (zs : List Int) (p : Int → Bool) (Q : Nat → Prop) (hend : ∀ i, stA zs p i = false → Q i) (hstep : ∀ i, stA zs p i = true → Q (i + 1) → Q i) : ∀ i, Q i := by
  have h : ∀ n i, zs.length ≤ n + i → Q i := by
    intro n
    induction n with
    | zero => intro i hi; exact hend i (stA_ge (by omega))
    | succ n ih =>
      intro i hi
      cases hs : stA zs p i
      · exact hend i hs
      · exact hstep i hs (ih (i + 1) (by omega))
  intro i
  exact h zs.length i (by omega)
theorem runTo_all (zs : List Int) (p : Int → Bool) : ∀ i, ∀ j, i ≤ j → j < runTo zs p i → stA zs p j = true :=
  runTo_rec zs p _ (fun i h j h1 h2 => by rw [runTo_stop h] at h2; omega) (fun i h ih j h1 h2 => by
    rw [runTo_step h] at h2
    rcases Nat.lt_or_ge i j with hj | hj
    · exact ih j (by omega) h2
    · obtain rfl : i = j := by omega
      exact h)
theorem runTo_unique {zs : List Int} {p : Int → Bool} {i k : Nat} (h1 : i ≤ k) (h2 : ∀ j, i ≤ j → j < k → stA zs p j = true) (h3 : stA zs p k = false) : runTo zs p i = k := by
  have h : ∀ n i, i + n = k → (∀ j, i ≤ j → j < k → stA zs p j = true) → runTo zs p i = k := by
    intro n
    induction n with
    | zero => intro i hi _; obtain rfl : i = k := by omega
              exact runTo_stop h3
    | succ n ih =>
      intro i hi hj
      rw [runTo_step (hj i (Nat.le_refl _) (by omega))]
      exact ih (i + 1) (by omega) (fun j a b => hj j (by omega) b)
  exact h (k - i) i (by omega) h2
/-! ### blanks and remarks -/
def slash2 (zs : List Int) (i : Nat) : Bool := stA zs (isC 47) i && stA zs (isC 47) (i + 1)
def gapF (zs : List Int) : Nat → Nat → Nat
  | 0, i => i
  | f + 1, i => if slash2 zs i = true then gapF zs f (runTo zs isBlank (runTo zs notLf i)) else i
def gap (zs : List Int) (i : Nat) : Nat := gapF zs zs.length (runTo zs isBlank i)
theorem slash2_lt {zs : List Int} {i : Nat} (h : slash2 zs i = true) : i + 1 < zs.length := by
  unfold slash2 at h
  rw [Bool.and_eq_true] at h
  exact stA_lt h.2
theorem slash2_run {zs : List Int} {i : Nat} (h : slash2 zs i = true) : i + 2 ≤ runTo zs notLf i := by
  unfold slash2 at h
  rw [Bool.and_eq_true] at h
  have e : ∀ j, stA zs (isC 47) j = true → stA zs notLf j = true := fun j hj => by
    rw [stA_of (stA_lt hj)]
    have := of_decide_eq_true (show decide (zs.getD j 0 = 47) = true from stA_p hj)
    unfold notLf
    exact decide_eq_true (by omega)
  rw [runTo_step (e _ h.1), runTo_step (e _ h.2)]
  exact runTo_ge _ _ _
theorem remark_grows {zs : List Int} {i : Nat} (h : slash2 zs i = true) : i + 2 ≤ runTo zs isBlank (runTo zs notLf i) :=
  Nat.le_trans (slash2_run h) (runTo_ge _ _ _)
theorem gapF_fuel (zs : List Int) : ∀ f g i, zs.length ≤ f + i → zs.length ≤ g + i → gapF zs f i = gapF zs g i
  | 0, 0, _, _, _ => rfl
  | 0, g + 1, i, hf, _ => by
    simp only [gapF]
    rw [if_neg (fun h => by have := slash2_lt h; omega)]
  | f + 1, 0, i, _, hg => by
    simp only [gapF]
    rw [if_neg (fun h => by have := slash2_lt h; omega)]
  | f + 1, g + 1, i, hf, hg => by
    simp only [gapF]
    split
    · rename_i h
      have := remark_grows h
      exact gapF_fuel zs f g _ (by omega) (by omega)
    · rfl
theorem gapF_stop {zs : List Int} {i : Nat} (f : Nat) (h : slash2 zs i = false) : gapF zs f i = i := by
  cases f
  · rfl
  · simp only [gapF]
    rw [if_neg (by rw [h]; decide)]
theorem gapF_step {zs : List Int} {i : Nat} (h : slash2 zs i = true) : gapF zs zs.length i = gapF zs zs.length (runTo zs isBlank (runTo zs notLf i)) := by
  have h1 := remark_grows h
  have h2 := slash2_lt h
  obtain ⟨n, hn⟩ : ∃ n, zs.length = n + 1 := ⟨zs.length - 1, by omega⟩
  conv => lhs; rw [hn]; simp only [gapF]
  rw [if_pos h]
  exact gapF_fuel zs _ _ _ (by omega) (by omega)
theorem gapF_le (zs : List Int) : ∀ f i, i ≤ zs.length → gapF zs f i ≤ zs.length
  | 0, _, h => h
  | f + 1, i, h => by
    simp only [gapF]
    split
    · exact gapF_le zs f _ (runTo_le _ _ _ (runTo_le _ _ _ h))
    · exact h
theorem gap_le (zs : List Int) (i : Nat) (h : i ≤ zs.length) : gap zs i ≤ zs.length := gapF_le _ _ _ (runTo_le _ _ _ h)

/-! ### numbers, quoted texts, a token -/
def minusTo (zs : List Int) (i : Nat) : Nat := if stA zs (isC 45) i = true then i + 1 else i
def zeroAhead (zs : List Int) (i : Nat) : Bool := stA zs (isC 48) (minusTo zs i) && (stA zs (isC 45) i || decide (1 < runTo zs isDig (minusTo zs i) - minusTo zs i))
def numBad (zs : List Int) (i : Nat) : Bool :=
  decide (runTo zs isDig (minusTo zs i) - minusTo zs i = 0) || decide (20 < runTo zs isDig (minusTo zs i) - minusTo zs i) || stA zs isLet (runTo zs isDig (minusTo zs i)) || zeroAhead zs i
def numEnd (zs : List Int) (i : Nat) : Nat := runTo zs isDig (minusTo zs i)
def quoEnd (zs : List Int) (i : Nat) : Nat := runTo zs isPlain (i + 1)
def sub (zs : List Int) (i j : Nat) : List Int := (zs.drop i).take (j - i)
def quoBad (ok : List Int → Bool) (zs : List Int) (i : Nat) : Bool := !stA zs (isC 34) (quoEnd zs i) || !ok (sub zs (i + 1) (quoEnd zs i))
def begins (zs : List Int) (i : Nat) : Bool := stA zs isDig i || (stA zs (isC 45) i && stA zs isDig (i + 1))
structure Tok where
  kind : Int
  text : List Int
  place : Nat
def tok (ok : List Int → Bool) (sg : Int → Bool) (zs : List Int) (i : Nat) : Option (Tok × Nat) :=
  if i = zs.length then some (⟨0, [], i⟩, i)
  else if stA zs isLet i = true then some (⟨1, sub zs i (runTo zs (fun c => isLet c || isDig c) i), i⟩, runTo zs (fun c => isLet c || isDig c) i)
  else if begins zs i = true then (if numBad zs i = true then none else some (⟨2, sub zs i (numEnd zs i), i⟩, numEnd zs i))
  else if stA zs (isC 34) i = true then (if quoBad ok zs i = true then none else some (⟨3, sub zs (i + 1) (quoEnd zs i), i⟩, quoEnd zs i + 1))
  else if stA zs sg i = true then some (⟨4, sub zs i (i + 1), i⟩, i + 1)
  else none
section
variable {ok : List Int → Bool} {sg : Int → Bool} {zs : List Int} {i : Nat}
theorem tok_end (h : i = zs.length) : tok ok sg zs i = some (⟨0, [], i⟩, i) := by unfold tok; rw [if_pos h]
theorem tok_name (h : i < zs.length) (h1 : stA zs isLet i = true) : tok ok sg zs i = some (⟨1, sub zs i (runTo zs (fun c => isLet c || isDig c) i), i⟩, runTo zs (fun c => isLet c || isDig c) i) := by
  unfold tok
  rw [if_neg (by omega), if_pos h1]
theorem tok_num (h : i < zs.length) (h1 : stA zs isLet i = false) (h2 : begins zs i = true) : tok ok sg zs i = if numBad zs i = true then none else some (⟨2, sub zs i (numEnd zs i), i⟩, numEnd zs i) := by
  unfold tok
  rw [if_neg (by omega), if_neg (by rw [h1]; decide), if_pos h2]
theorem tok_quo (h : i < zs.length) (h1 : stA zs isLet i = false) (h2 : begins zs i = false) (h3 : stA zs (isC 34) i = true) : tok ok sg zs i = if quoBad ok zs i = true then none else some (⟨3, sub zs (i + 1) (quoEnd zs i), i⟩, quoEnd zs i + 1) := by
  unfold tok
  rw [if_neg (by omega), if_neg (by rw [h1]; decide), if_neg (by rw [h2]; decide), if_pos h3]
theorem tok_sign (h : i < zs.length) (h1 : stA zs isLet i = false) (h2 : begins zs i = false) (h3 : stA zs (isC 34) i = false) (h4 : stA zs sg i = true) : tok ok sg zs i = some (⟨4, sub zs i (i + 1), i⟩, i + 1) := by
  unfold tok
  rw [if_neg (by omega), if_neg (by rw [h1]; decide), if_neg (by rw [h2]; decide), if_neg (by rw [h3]; decide), if_pos h4]
theorem tok_none (h : i < zs.length) (h1 : stA zs isLet i = false) (h2 : begins zs i = false) (h3 : stA zs (isC 34) i = false) (h4 : stA zs sg i = false) : tok ok sg zs i = none := by
  unfold tok
  rw [if_neg (by omega), if_neg (by rw [h1]; decide), if_neg (by rw [h2]; decide), if_neg (by rw [h3]; decide), if_neg (by rw [h4]; decide)]
end
theorem tok_le {ok : List Int → Bool} {sg : Int → Bool} {zs : List Int} {i : Nat} {t : Tok} {e : Nat} (hi : i ≤ zs.length) (h : tok ok sg zs i = some (t, e)) : e ≤ zs.length := by
  have hm : minusTo zs i ≤ zs.length := by
    unfold minusTo
    split
    · rename_i h1
      have := stA_lt h1
      omega
    · exact hi
  unfold tok at h
  split at h
  · cases h; exact hi
  split at h
  · cases h; exact runTo_le _ _ _ hi
  split at h
  · split at h
    · cases h
    · cases h; exact runTo_le _ _ _ hm
  split at h
  · rename_i h1
    have := stA_lt h1
    split at h
    · cases h
    · rename_i h2
      cases h
      unfold quoBad at h2
      cases h3 : stA zs (isC 34) (quoEnd zs i)
      · rw [h3] at h2
        exact absurd rfl h2
      · exact stA_lt h3
  split at h
  · rename_i h1
    have := stA_lt h1
    cases h
    omega
  · cases h
def toksF (ok : List Int → Bool) (sg : Int → Bool) (zs : List Int) : Nat → Nat → List Tok → List Tok × Int × Nat
  | 0, i, l => (l, 0, i)
  | f + 1, i, l =>
    if l.length = 2048 then ([], 16, gap zs i) else
    match tok ok sg zs (gap zs i) with
    | none => ([], 10, gap zs i)
    | some (t, e) => if t.kind = 0 then (l ++ [t], 0, 0) else toksF ok sg zs f e (l ++ [t])
def toks (ok : List Int → Bool) (sg : Int → Bool) (zs : List Int) : List Tok × Int × Nat :=
  if 8192 < zs.length then ([], 16, 8192) else toksF ok sg zs 2049 0 []
end Go.Proofs.YtdlfndjgncdgfaaGreatDoor
namespace Go.Proofs.YtdlfndjgncdgfaaGreatDoor
open Go.RowKit

structure RTy where
  name : List Int
  lists : Nat
  place : Nat
structure RField where
  name : List Int
  place : Nat
  ty : RTy
  dflt : Tok
structure RRec where
  name : List Int
  place : Nat
  fields : List RField
structure RCho where
  name : List Int
  place : Nat
  names : List Tok
structure RRaw where
  structs : List RRec
  enums : List RCho
  roots : List Tok
inductive Res (α : Type) where
  | ok (a : α) (r : List Tok) : Res α
  | no (code : Int) (place : Nat) : Res α
def Res.bind {α β : Type} (x : Res α) (f : α → List Tok → Res β) : Res β :=
  match x with
  | .ok a r => f a r
  | .no c p => .no c p
theorem bind_ok {α β : Type} (a : α) (r : List Tok) (f : α → List Tok → Res β) : (Res.ok a r).bind f = f a r := rfl
theorem bind_no {α β : Type} (c : Int) (p : Nat) (f : α → List Tok → Res β) : (Res.no c p : Res α).bind f = .no c p := rfl
def noTok : Tok := ⟨0, [], 0⟩
def noTy : RTy := ⟨[], 0, 0⟩
def noField : RField := ⟨[], 0, noTy, noTok⟩
def hd (r : List Tok) : Tok := r.headD noTok
def isT (k : Int) (s : List Int) (r : List Tok) : Bool := decide ((hd r).kind = k) && decide ((hd r).text = s)
def bad {α : Type} (code : Int) (r : List Tok) : Res α := .no code (hd r).place
def wantR (s : List Int) (r : List Tok) : Res Unit := if isT 4 s r = true then .ok () r.tail else bad 11 r
def sizedR (r : List Tok) : Res Tok := if (hd r).text.length = 0 ∨ 40 < (hd r).text.length then bad 12 r else .ok (hd r) r.tail
def nameR (r : List Tok) : Res Tok := if (hd r).kind = 1 then sizedR r else bad 11 r
def labelR (r : List Tok) : Res Tok := if (hd r).kind = 1 ∨ (hd r).kind = 3 then sizedR r else bad 11 r
def valueR (r : List Tok) : Res Tok := if (hd r).kind = 1 ∨ (hd r).kind = 2 then .ok (hd r) r.tail else bad 11 r
def wStruct : List Int := [115, 116, 114, 117, 99, 116]
def wEnum : List Int := [101, 110, 117, 109]
def wRoot : List Int := [114, 111, 111, 116]
def wList : List Int := [108, 105, 115, 116]
def listsR : Nat → Nat → List Tok → Res Nat
  | f, n, r => if isT 1 wList r = true then (match f with
    | 0 => bad 16 r
    | f + 1 => (wantR [60] r.tail).bind fun _ r' => listsR f (n + 1) r') else .ok n r
def closeR : Nat → List Tok → Res Unit
  | 0, r => .ok () r
  | n + 1, r => (wantR [62] r).bind fun _ r' => closeR n r'
def tyR (r : List Tok) : Res RTy :=
  (listsR 3 0 r).bind fun n r1 => (nameR r1).bind fun t r2 => (closeR n r2).bind fun _ r3 => .ok ⟨t.text, n, (hd r).place⟩ r3
def dfltR (r : List Tok) : Res Tok := if isT 4 [61] r = true then valueR r.tail else .ok noTok r
def fieldR (r : List Tok) : Res RField :=
  (labelR r).bind fun t r1 => (wantR [58] r1).bind fun _ r2 => (tyR r2).bind fun ty r3 => (dfltR r3).bind fun d r4 => (wantR [59] r4).bind fun _ r5 => .ok ⟨t.text, t.place, ty, d⟩ r5
def fieldsR : Nat → List RField → List Tok → Res (List RField)
  | 0, _, r => bad 11 r
  | f + 1, acc, r => if isT 4 [125] r = true then .ok acc r.tail else (fieldR r).bind fun x r' => fieldsR f (acc ++ [x]) r'
def recR (r : List Tok) : Res RRec :=
  (nameR r).bind fun t r1 => (wantR [123] r1).bind fun _ r2 => (fieldsR r2.length [] r2).bind fun fs r3 => .ok ⟨t.text, t.place, fs⟩ r3
def commaR (r : List Tok) : Res Unit := if isT 4 [125] r = true then .ok () r else wantR [44] r
def namesR : Nat → List Tok → List Tok → Res (List Tok)
  | 0, _, r => bad 11 r
  | f + 1, acc, r => if isT 4 [125] r = true then .ok acc r.tail else (nameR r).bind fun t r1 => (commaR r1).bind fun _ r2 => namesR f (acc ++ [t]) r2
def choR (r : List Tok) : Res RCho :=
  (nameR r).bind fun t r1 => (wantR [123] r1).bind fun _ r2 => (namesR r2.length [] r2).bind fun ns r3 => .ok ⟨t.text, t.place, ns⟩ r3
def partR (a : RRaw) (r : List Tok) : Res RRaw :=
  if isT 1 wStruct r = true then (recR r.tail).bind fun s r' => .ok ⟨a.structs ++ [s], a.enums, a.roots⟩ r'
  else if isT 1 wEnum r = true then (choR r.tail).bind fun s r' => .ok ⟨a.structs, a.enums ++ [s], a.roots⟩ r'
  else if isT 1 wRoot r = true then (nameR r.tail).bind fun t r1 => (wantR [59] r1).bind fun _ r' => .ok ⟨a.structs, a.enums, a.roots ++ [t]⟩ r'
  else bad 11 r
def noRaw : RRaw := ⟨[], [], []⟩
def schemaR : Nat → RRaw → List Tok → Res RRaw
  | 0, _, r => bad 11 r
  | f + 1, a, r => if (hd r).kind = 0 then .ok a r else (partR a r).bind fun a' r' => schemaR f a' r'
def rawR (l : List Tok) : Res RRaw := schemaR l.length noRaw l

def Ends : List Tok → Prop
  | [] => False
  | t :: q => (t.kind = 0 ∧ t.text = [] ∧ q = []) ∨ (t.kind ≠ 0 ∧ Ends q)
theorem Ends.ne {r : List Tok} (h : Ends r) : r ≠ [] := by
  rintro rfl
  exact h
theorem Ends.tail {r : List Tok} (h : Ends r) (h0 : (hd r).kind ≠ 0) : Ends r.tail := by
  cases r with
  | nil => exact h.elim
  | cons t q =>
    rcases h with h | h
    · exact absurd h.1 h0
    · exact h.2
theorem Ends.cons {r : List Tok} (h : Ends r) : r = hd r :: r.tail := by
  cases r with
  | nil => exact h.elim
  | cons t q => rfl
theorem Ends.len {r : List Tok} (h : Ends r) : r.length = r.tail.length + 1 := by
  conv => lhs; rw [h.cons]
  rfl
theorem Ends.two {r : List Tok} (h : Ends r) (h0 : (hd r).kind ≠ 0) : 2 ≤ r.length := by
  have := (h.tail h0).len
  rw [h.len]
  omega
theorem isT_kind {k : Int} {s : List Int} {r : List Tok} (h : isT k s r = true) : (hd r).kind = k ∧ (hd r).text = s := by
  unfold isT at h
  rw [Bool.and_eq_true] at h
  exact ⟨of_decide_eq_true h.1, of_decide_eq_true h.2⟩
def Eats {α : Type} (r : List Tok) (x : Res α) : Prop := ∀ a r', x = .ok a r' → Ends r' ∧ r'.length < r.length
def Keeps {α : Type} (r : List Tok) (x : Res α) : Prop := ∀ a r', x = .ok a r' → Ends r' ∧ r'.length ≤ r.length
theorem Eats.keeps {α : Type} {r : List Tok} {x : Res α} (h : Eats r x) : Keeps r x := fun a r' e => ⟨(h a r' e).1, Nat.le_of_lt (h a r' e).2⟩
theorem eats_no {α : Type} {r : List Tok} {c : Int} {p : Nat} : Eats r (.no c p : Res α) := fun _ _ e => by cases e
theorem eats_bind {α β : Type} {r : List Tok} {x : Res α} {f : α → List Tok → Res β} (h : Eats r x) (hf : ∀ a r', Ends r' → Keeps r' (f a r')) : Eats r (x.bind f) := by
  cases x with
  | no c p => exact eats_no
  | ok a r' =>
    intro b r'' e
    obtain ⟨h1, h2⟩ := h a r' rfl
    obtain ⟨h3, h4⟩ := hf a r' h1 b r'' e
    exact ⟨h3, Nat.lt_of_le_of_lt h4 h2⟩
theorem keeps_bind {α β : Type} {r : List Tok} {x : Res α} {f : α → List Tok → Res β} (h : Keeps r x) (hf : ∀ a r', Ends r' → Keeps r' (f a r')) : Keeps r (x.bind f) := by
  cases x with
  | no c p => exact fun _ _ e => by cases e
  | ok a r' =>
    intro b r'' e
    obtain ⟨h1, h2⟩ := h a r' rfl
    obtain ⟨h3, h4⟩ := hf a r' h1 b r'' e
    exact ⟨h3, Nat.le_trans h4 h2⟩
theorem keeps_ok {α : Type} {r : List Tok} (a : α) (h : Ends r) : Keeps r (.ok a r) := fun _ _ e => by cases e; exact ⟨h, Nat.le_refl _⟩
theorem eats_tail {α : Type} {r : List Tok} (a : α) (h : Ends r) (h0 : (hd r).kind ≠ 0) : Eats r (.ok a r.tail) := fun _ _ e => by
  cases e
  refine ⟨h.tail h0, ?_⟩
  rw [h.len]
  omega
theorem want_eats {s : List Int} {r : List Tok} (h : Ends r) : Eats r (wantR s r) := by
  unfold wantR
  split
  · rename_i hs
    exact eats_tail _ h (by rw [(isT_kind hs).1]; decide)
  · exact eats_no
theorem sized_eats {r : List Tok} (h : Ends r) (h0 : (hd r).kind ≠ 0) : Eats r (sizedR r) := by
  unfold sizedR
  split
  · exact eats_no
  · exact eats_tail _ h h0
theorem name_eats {r : List Tok} (h : Ends r) : Eats r (nameR r) := by
  unfold nameR
  split
  · rename_i hs
    exact sized_eats h (by rw [hs]; decide)
  · exact eats_no
theorem label_eats {r : List Tok} (h : Ends r) : Eats r (labelR r) := by
  unfold labelR
  split
  · rename_i hs
    exact sized_eats h (by omega)
  · exact eats_no
theorem value_eats {r : List Tok} (h : Ends r) : Eats r (valueR r) := by
  unfold valueR
  split
  · rename_i hs
    exact eats_tail _ h (by omega)
  · exact eats_no
theorem lists_keeps : ∀ (f n : Nat) (r : List Tok), Ends r → Keeps r (listsR f n r)
  | 0, n, r, h => by
    unfold listsR
    split
    · exact eats_no.keeps
    · exact keeps_ok _ h
  | f + 1, n, r, h => by
    unfold listsR
    split
    · rename_i hs
      have h0 : (hd r).kind ≠ 0 := by rw [(isT_kind hs).1]; decide
      refine fun a r' e => ?_
      obtain ⟨h1, h2⟩ := (keeps_bind (want_eats (h.tail h0)).keeps (fun _ r' h' => lists_keeps f (n + 1) r' h')) a r' e
      exact ⟨h1, Nat.le_trans h2 (by rw [h.len]; omega)⟩
    · exact keeps_ok _ h
theorem close_keeps : ∀ (n : Nat) (r : List Tok), Ends r → Keeps r (closeR n r)
  | 0, _, h => keeps_ok _ h
  | n + 1, _, h => keeps_bind (want_eats h).keeps (fun _ r' h' => close_keeps n r' h')
theorem ty_keeps {r : List Tok} (h : Ends r) : Keeps r (tyR r) :=
  keeps_bind (lists_keeps 3 0 r h) fun _ _ h1 => keeps_bind (name_eats h1).keeps fun _ _ h2 => keeps_bind (close_keeps _ _ h2) fun _ _ h3 => keeps_ok _ h3
theorem dflt_keeps {r : List Tok} (h : Ends r) : Keeps r (dfltR r) := by
  unfold dfltR
  split
  · rename_i hs
    have h0 : (hd r).kind ≠ 0 := by rw [(isT_kind hs).1]; decide
    intro a r' e
    obtain ⟨h1, h2⟩ := (value_eats (h.tail h0)).keeps a r' e
    exact ⟨h1, Nat.le_trans h2 (by rw [h.len]; omega)⟩
  · exact keeps_ok _ h
theorem field_eats {r : List Tok} (h : Ends r) : Eats r (fieldR r) :=
  eats_bind (label_eats h) fun _ _ h1 => keeps_bind (want_eats h1).keeps fun _ _ h2 => keeps_bind (ty_keeps h2) fun _ _ h3 => keeps_bind (dflt_keeps h3) fun _ _ h4 => keeps_bind (want_eats h4).keeps fun _ _ h5 => keeps_ok _ h5
theorem comma_keeps {r : List Tok} (h : Ends r) : Keeps r (commaR r) := by
  unfold commaR
  split
  · exact keeps_ok _ h
  · exact (want_eats h).keeps
theorem tail_keeps {α : Type} {r : List Tok} (a : α) {k : Int} {s : List Int} (h : Ends r) (hs : isT k s r = true) (hk : k ≠ 0) : Keeps r (.ok a r.tail) :=
  (eats_tail a h (by rw [(isT_kind hs).1]; exact hk)).keeps
theorem fields_keeps : ∀ (f : Nat) (acc : List RField) (r : List Tok), Ends r → Keeps r (fieldsR f acc r)
  | 0, _, _, _ => eats_no.keeps
  | f + 1, acc, r, h => by
    unfold fieldsR
    split
    · rename_i hs
      exact tail_keeps _ h hs (by decide)
    · exact keeps_bind (field_eats h).keeps fun _ _ h1 => fields_keeps f _ _ h1
theorem names_keeps : ∀ (f : Nat) (acc : List Tok) (r : List Tok), Ends r → Keeps r (namesR f acc r)
  | 0, _, _, _ => eats_no.keeps
  | f + 1, acc, r, h => by
    unfold namesR
    split
    · rename_i hs
      exact tail_keeps _ h hs (by decide)
    · exact keeps_bind (name_eats h).keeps fun _ _ h1 => keeps_bind (comma_keeps h1) fun _ _ h2 => names_keeps f _ _ h2
theorem rec_eats {r : List Tok} (h : Ends r) : Eats r (recR r) :=
  eats_bind (name_eats h) fun _ _ h1 => keeps_bind (want_eats h1).keeps fun _ _ h2 => keeps_bind (fields_keeps _ _ _ h2) fun _ _ h3 => keeps_ok _ h3
theorem cho_eats {r : List Tok} (h : Ends r) : Eats r (choR r) :=
  eats_bind (name_eats h) fun _ _ h1 => keeps_bind (want_eats h1).keeps fun _ _ h2 => keeps_bind (names_keeps _ _ _ h2) fun _ _ h3 => keeps_ok _ h3
theorem eats_of_tail {α : Type} {r : List Tok} {x : Res α} (h : Ends r) (hx : Keeps r.tail x) : Eats r x := fun a r' e => by
  obtain ⟨h1, h2⟩ := hx a r' e
  exact ⟨h1, by rw [h.len]; omega⟩
theorem part_eats {a : RRaw} {r : List Tok} (h : Ends r) : Eats r (partR a r) := by
  have h0 : ∀ {k s}, k ≠ 0 → isT k s r = true → Ends r.tail := fun hk hs => h.tail (by rw [(isT_kind hs).1]; exact hk)
  unfold partR
  split
  · rename_i hs
    exact eats_of_tail h (keeps_bind (rec_eats (h0 (by decide) hs)).keeps fun _ _ h1 => keeps_ok _ h1)
  split
  · rename_i hs
    exact eats_of_tail h (keeps_bind (cho_eats (h0 (by decide) hs)).keeps fun _ _ h1 => keeps_ok _ h1)
  split
  · rename_i hs
    exact eats_of_tail h (keeps_bind (name_eats (h0 (by decide) hs)).keeps fun _ _ h1 => keeps_bind (want_eats h1).keeps fun _ _ h2 => keeps_ok _ h2)
  · exact eats_no
theorem fields_fuel : ∀ (f g : Nat) (acc : List RField) (r : List Tok), Ends r → r.length ≤ f → r.length ≤ g → fieldsR f acc r = fieldsR g acc r
  | 0, _, _, r, h, hf, _ => by rw [h.len] at hf; omega
  | _, 0, _, r, h, _, hg => by rw [h.len] at hg; omega
  | f + 1, g + 1, acc, r, h, hf, hg => by
    simp only [fieldsR]
    split
    · rfl
    · cases hx : fieldR r with
      | no c p => rfl
      | ok a r' =>
        obtain ⟨h1, h2⟩ := field_eats h a r' hx
        exact fields_fuel f g _ _ h1 (by omega) (by omega)
theorem names_fuel : ∀ (f g : Nat) (acc : List Tok) (r : List Tok), Ends r → r.length ≤ f → r.length ≤ g → namesR f acc r = namesR g acc r
  | 0, _, _, r, h, hf, _ => by rw [h.len] at hf; omega
  | _, 0, _, r, h, _, hg => by rw [h.len] at hg; omega
  | f + 1, g + 1, acc, r, h, hf, hg => by
    simp only [namesR]
    split
    · rfl
    · cases hx : nameR r with
      | no c p => rfl
      | ok a r' =>
        obtain ⟨h1, h2⟩ := name_eats h a r' hx
        simp only [bind_ok]
        cases hy : commaR r' with
        | no c p => rfl
        | ok b r'' =>
          obtain ⟨h3, h4⟩ := comma_keeps h1 b r'' hy
          exact names_fuel f g _ _ h3 (by omega) (by omega)
theorem schema_fuel : ∀ (f g : Nat) (a : RRaw) (r : List Tok), Ends r → r.length ≤ f → r.length ≤ g → schemaR f a r = schemaR g a r
  | 0, _, _, r, h, hf, _ => by rw [h.len] at hf; omega
  | _, 0, _, r, h, _, hg => by rw [h.len] at hg; omega
  | f + 1, g + 1, a, r, h, hf, hg => by
    simp only [schemaR]
    split
    · rfl
    · cases hx : partR a r with
      | no c p => rfl
      | ok b r' =>
        obtain ⟨h1, h2⟩ := part_eats h b r' hx
        exact schema_fuel f g _ _ h1 (by omega) (by omega)
def fieldsL (acc : List RField) (r : List Tok) : Res (List RField) := fieldsR r.length acc r
def namesL (acc : List Tok) (r : List Tok) : Res (List Tok) := namesR r.length acc r
def schemaL (a : RRaw) (r : List Tok) : Res RRaw := schemaR r.length a r
theorem fieldsL_step {acc : List RField} {r : List Tok} (h : Ends r) : fieldsL acc r = if isT 4 [125] r = true then .ok acc r.tail else (fieldR r).bind fun x r' => fieldsL (acc ++ [x]) r' := by
  unfold fieldsL
  rw [h.len]
  simp only [fieldsR]
  split
  · rfl
  · cases hx : fieldR r with
    | no c p => rfl
    | ok a r' =>
      obtain ⟨h1, h2⟩ := field_eats h a r' hx
      exact fields_fuel _ _ _ _ h1 (by rw [h.len] at h2; omega) (Nat.le_refl _)
theorem namesL_step {acc : List Tok} {r : List Tok} (h : Ends r) : namesL acc r = if isT 4 [125] r = true then .ok acc r.tail else (nameR r).bind fun t r1 => (commaR r1).bind fun _ r2 => namesL (acc ++ [t]) r2 := by
  unfold namesL
  rw [h.len]
  simp only [namesR]
  split
  · rfl
  · cases hx : nameR r with
    | no c p => rfl
    | ok a r' =>
      obtain ⟨h1, h2⟩ := name_eats h a r' hx
      simp only [bind_ok]
      cases hy : commaR r' with
      | no c p => rfl
      | ok b r'' =>
        obtain ⟨h3, h4⟩ := comma_keeps h1 b r'' hy
        exact names_fuel _ _ _ _ h3 (by rw [h.len] at h2; omega) (Nat.le_refl _)
theorem schemaL_step {a : RRaw} {r : List Tok} (h : Ends r) : schemaL a r = if (hd r).kind = 0 then .ok a r else (partR a r).bind fun a' r' => schemaL a' r' := by
  unfold schemaL
  rw [h.len]
  simp only [schemaR]
  split
  · rfl
  · cases hx : partR a r with
    | no c p => rfl
    | ok b r' =>
      obtain ⟨h1, h2⟩ := part_eats h b r' hx
      exact schema_fuel _ _ _ _ h1 (by rw [h.len] at h2; omega) (Nat.le_refl _)
end Go.Proofs.YtdlfndjgncdgfaaGreatDoor
namespace Go.Proofs.YtdlfndjgncdgfaaGreatDoor
open Go.ChangeShapes Go.WideShapes Go.ChangeAt Go.RowKit

theorem own : ownKnob Tryz.prog.godebug = none := by kernel_rfl
theorem laidOut : laidOutB Tryz.prog = true := by kernel_rfl
def IsRow (k : IntKind) (w : World) (a : Option Addr) (len cap : Nat) (zs : List Int) : Prop :=
  len ≤ cap ∧ cap ≤ maxLen ∧ zs.length = cap ∧ (∀ n ∈ zs, (Lit.int k n).wf = true) ∧
  (zs ≠ [] → ∃ b off, a = some ⟨b, off, none⟩ ∧ b < w.heap.size ∧ ∀ j, j < zs.length → w.cell? ⟨b, off + j, none⟩ = some (.int k (zs.getD j 0)))
theorem isRow_nil (k : IntKind) (w : World) (a : Option Addr) : IsRow k w a 0 0 [] :=
  ⟨Nat.le_refl _, Nat.zero_le _, rfl, (fun n h => by simp at h), (fun h => absurd rfl h)⟩
theorem isRow_of {k : IntKind} {w : World} {x : Addr} {len cap : Nat} {zs : List Int} (hl : len ≤ cap) (hm : cap ≤ maxLen) (hz : zs.length = cap)
    (hc : ∀ i, i < zs.length → w.cell? (x.add i) = some (.int k (zs.getD i 0))) (hw : ∀ n ∈ zs, (Lit.int k n).wf = true) : IsRow k w (some x) len cap zs := by
  refine ⟨hl, hm, hz, hw, fun hne => ?_⟩
  have h0 : 0 < zs.length := List.length_pos_iff.2 hne
  obtain ⟨b, off, rfl, hc'⟩ := ints_at hc h0
  exact ⟨b, off, rfl, World.block_lt_of_cell? _ _ (hc' 0 h0), hc'⟩
end Go.Proofs.YtdlfndjgncdgfaaGreatDoor
