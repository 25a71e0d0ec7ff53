/-
  A row of so many zeros that is made. Conditions: those that each theorem names.
-/
import Derived.Test.YtiknhkkeifemcaaGreatDoorPkM1
import Derived.Test.YtiknhkkeifemcaaGreatDoorPkM2
import Derived.Test.YtiknhkkeifemcaaGreatDoorPkM3
import Derived.Test.YtiknhkkeifemcaaGreatDoorPkM4
import Derived.Test.YtiknhkkeifemcaaGreatDoorPkM5
import Derived.Test.YtiknhkkeifemcaaGreatDoorPkM6
import Derived.Test.YtiknhkkeifemcaaGreatDoorPkM7
import Derived.Test.YtiknhkkeifemcaaGreatDoorPkM9
import Derived.BigQuiet
import Derived.Lib.OthersKept
import Derived.Laws.RangeAny
import Derived.Lib.TrimU
import Derived.Deep.QuietTactic
import Derived.Lib.RuneBytes
import Derived.Deep.Cut
import Derived.Deep.RegionLaw
import Derived.Deep.AppendLies
import Derived.Deep.AppendSrc
import Derived.Laws.IdiomCopy
import Derived.Laws.IdiomStrings
import Derived.Laws.Cover4
import Derived.Laws.MakeOwn
namespace Go.Proofs.YtiknhkkeifemcaaGreatDoor
open Go.RowKit

def uLt : List Int → List Int → Bool
  | [], [] => false
  | [], _ :: _ => true
  | _ :: _, [] => false
  | x :: xs, y :: ys => if x = y then uLt xs ys else decide (x < y)
theorem uLt_trans : ∀ {a b c : List Int}, uLt a b = true → uLt c b = false → uLt a c = true
  | [], [], _, h, _ => by cases h
  | [], _ :: _, [], _, h => by cases h
  | [], _ :: _, _ :: _, _, _ => rfl
  | _ :: _, [], _, h, _ => by cases h
  | _ :: _, _ :: _, [], _, h => by cases h
  | x :: xs, y :: ys, z :: zs, h1, h2 => by
    rw [uLt] at h1 h2 ⊢
    by_cases e1 : x = y
    · subst e1
      rw [if_pos rfl] at h1
      by_cases e2 : z = x
      · subst e2
        rw [if_pos rfl] at h2 ⊢
        exact uLt_trans h1 h2
      · rw [if_neg e2] at h2
        rw [if_neg (fun e => e2 e.symm)]
        have := of_decide_eq_false h2
        exact decide_eq_true (by omega)
    · rw [if_neg e1] at h1
      have h3 := of_decide_eq_true h1
      by_cases e2 : z = y
      · subst e2
        rw [if_neg e1]
        exact h1
      · rw [if_neg e2] at h2
        have h4 := of_decide_eq_false h2
        rw [if_neg (by omega)]
        exact decide_eq_true (by omega)
def insD (lt : Nat → Nat → Bool) (x : Nat) : List Nat → List Nat
  | [] => [x]
  | y :: r => if lt x y = true then x :: y :: r else y :: insD lt x r
def sortD (lt : Nat → Nat → Bool) : Nat → List Nat
  | 0 => []
  | n + 1 => insD lt n (sortD lt n)
theorem insD_split (lt : Nat → Nat → Bool) (x : Nat) : ∀ (pre post : List Nat), (∀ p ∈ pre, lt x p = false) → (∀ p ∈ post, lt x p = true) → insD lt x (pre ++ post) = pre ++ x :: post
  | [], [], _, _ => rfl
  | [], y :: r, _, h => by rw [List.nil_append, insD, if_pos (h y (List.mem_cons_self))]; rfl
  | y :: pre, post, h, h2 => by
    rw [List.cons_append, insD, h y List.mem_cons_self, if_neg (by decide), insD_split lt x pre post (fun p hp => h p (List.mem_cons_of_mem _ hp)) h2]; rfl
theorem insD_mem (lt : Nat → Nat → Bool) (x : Nat) : ∀ (l : List Nat) (p : Nat), p ∈ insD lt x l ↔ p = x ∨ p ∈ l
  | [], p => by simp [insD]
  | y :: r, p => by
    rw [insD]
    split
    · simp
    · rw [List.mem_cons, insD_mem lt x r p, List.mem_cons]
      constructor
      · rintro (h | h | h) <;> simp [h]
      · rintro (h | h | h) <;> simp [h]
theorem insD_len (lt : Nat → Nat → Bool) (x : Nat) : ∀ (l : List Nat), (insD lt x l).length = l.length + 1
  | [] => rfl
  | y :: r => by
    rw [insD]
    split
    · rfl
    · rw [List.length_cons, insD_len lt x r]; rfl
theorem sortD_len (lt : Nat → Nat → Bool) : ∀ n, (sortD lt n).length = n
  | 0 => rfl
  | n + 1 => by rw [sortD, insD_len, sortD_len lt n]
theorem sortD_mem (lt : Nat → Nat → Bool) : ∀ n p, p ∈ sortD lt n ↔ p < n
  | 0, p => by simp [sortD]
  | n + 1, p => by rw [sortD, insD_mem, sortD_mem lt n]; omega
theorem uLt_asym : ∀ {a b : List Int}, uLt a b = true → uLt b a = false
  | [], [], h => by cases h
  | [], _ :: _, _ => rfl
  | _ :: _, [], h => by cases h
  | x :: xs, y :: ys, h => by
    rw [uLt] at h ⊢
    by_cases e : x = y
    · subst e
      rw [if_pos rfl] at h ⊢
      exact uLt_asym h
    · rw [if_neg e] at h
      rw [if_neg (fun e2 => e e2.symm)]
      have := of_decide_eq_true h
      exact decide_eq_false (by omega)
structure OrdL (lt : Nat → Nat → Bool) : Prop where
  asym : ∀ a b, lt a b = true → lt b a = false
  tr : ∀ a b c, lt a b = true → lt c b = false → lt a c = true
theorem ord_of (u : Nat → List Int) : OrdL fun a b => uLt (u a) (u b) := ⟨fun _ _ => uLt_asym, fun _ _ _ => uLt_trans⟩
def UpL (lt : Nat → Nat → Bool) (l : List Nat) : Prop := l.Pairwise fun p q => lt q p = false
theorem insD_up {lt : Nat → Nat → Bool} (h : OrdL lt) (x : Nat) : ∀ {l : List Nat}, UpL lt l → UpL lt (insD lt x l)
  | [], _ => by simp [insD, UpL]
  | y :: r, hl => by
    unfold UpL at hl ⊢
    rw [List.pairwise_cons] at hl
    rw [insD]
    split
    · rename_i hx
      refine List.pairwise_cons.2 ⟨fun q hq => ?_, List.pairwise_cons.2 hl⟩
      rcases List.mem_cons.1 hq with rfl | hq
      · exact h.asym _ _ hx
      · exact h.asym _ _ (h.tr _ _ _ hx (hl.1 q hq))
    · rename_i hx
      refine List.pairwise_cons.2 ⟨fun q hq => ?_, insD_up h x hl.2⟩
      rcases (insD_mem lt x r q).1 hq with rfl | hq
      · simpa using hx
      · exact hl.1 q hq
theorem sortD_up {lt : Nat → Nat → Bool} (h : OrdL lt) : ∀ n, UpL lt (sortD lt n)
  | 0 => List.Pairwise.nil
  | n + 1 => insD_up h n (sortD_up h n)
theorem up_stop {lt : Nat → Nat → Bool} (h : OrdL lt) {A B : List Nat} {x y : Nat} (hu : UpL lt (A ++ y :: B)) (hx : lt x y = false) : ∀ a ∈ A ++ [y], lt x a = false := by
  intro a ha
  rcases List.mem_append.1 ha with ha | ha
  · cases hxa : lt x a with
    | false => rfl
    | true =>
      unfold UpL at hu
      rw [List.pairwise_append] at hu
      have h1 := hu.2.2 a ha y List.mem_cons_self
      rw [h.tr x a y hxa h1] at hx
      cases hx
  · rw [List.mem_singleton.1 ha]; exact hx
def cmpU : List Int → List Int → Int
  | [], [] => 0
  | [], _ :: _ => -1
  | _ :: _, [] => 1
  | x :: xs, y :: ys => if x < y then -1 else if y < x then 1 else cmpU xs ys
theorem cmpU_lt : ∀ a b : List Int, decide (cmpU a b < 0) = uLt a b
  | [], [] => rfl
  | [], _ :: _ => rfl
  | _ :: _, [] => rfl
  | x :: xs, y :: ys => by
    rw [cmpU, uLt]
    by_cases h : x < y
    · rw [if_pos h, if_neg (by omega), decide_eq_true h]; rfl
    · rw [if_neg h]
      by_cases h2 : y < x
      · rw [if_pos h2, if_neg (by omega), decide_eq_false h]; rfl
      · rw [if_neg h2, if_pos (by omega)]
        exact cmpU_lt xs ys
theorem cmpU_drop (a b : List Int) (k : Nat) (ha : k < a.length) (hb : k < b.length) : cmpU (a.drop k) (b.drop k) = if a.getD k 0 < b.getD k 0 then -1 else if b.getD k 0 < a.getD k 0 then 1 else cmpU (a.drop (k + 1)) (b.drop (k + 1)) := by
  rw [List.drop_eq_getElem_cons ha, List.drop_eq_getElem_cons hb, cmpU, List.getD, List.getElem?_eq_getElem ha, List.getD, List.getElem?_eq_getElem hb]
  rfl
theorem cmpU_end (a b : List Int) (k : Nat) (ha : k = a.length) (hb : k ≤ b.length) : cmpU (a.drop k) (b.drop k) = if a.length < b.length then -1 else 0 := by
  subst ha
  rw [List.drop_of_length_le (Nat.le_refl _)]
  by_cases h : a.length < b.length
  · rw [List.drop_eq_getElem_cons h, if_pos h]; rfl
  · rw [List.drop_of_length_le (by omega), if_neg h]; rfl
theorem cmpU_out (a b : List Int) (k : Nat) (ha : k < a.length) (hb : b.length ≤ k) : cmpU (a.drop k) (b.drop k) = 1 := by
  rw [List.drop_eq_getElem_cons ha, List.drop_of_length_le hb]; rfl
end Go.Proofs.YtiknhkkeifemcaaGreatDoor
namespace Go.Proofs.YtiknhkkeifemcaaGreatDoor
open Go.ChangeShapes Go.WideShapes Go.ChangeAt Go.RowKit Go.Shelf

def i64Cell (z : Int) : List Value := [.int .i64 z]
def i64Cells (l : List Int) : List Value := l.flatMap i64Cell
theorem i64Cells_map (l : List Int) : i64Cells l = l.map (Value.int .i64) := by
  induction l with
  | nil => rfl
  | cons a r ih => rw [List.map_cons, ← ih]; rfl
end Go.Proofs.YtiknhkkeifemcaaGreatDoor
namespace Go.Proofs.YtiknhkkeifemcaaGreatDoor
open Go.ChangeShapes Go.WideShapes Go.ChangeAt Go.RowKit Go.Shelf

def runesL (s : ByteArray) : Nat → Nat → List Int
  | 0, _ => []
  | f + 1, pos => if pos < s.size then ((Utf8.decode s pos).1 : Int) :: runesL s f (pos + (Utf8.decode s pos).2) else []
def runesP (s : ByteArray) : List Int := runesL s s.size 0
def unitR (c : Int) : List Int := if c < 65536 then [c] else [55296 + (c - 65536) / 1024, 56320 + (c - 65536) % 1024]
def unitsP (s : ByteArray) : List Int := (runesP s).flatMap unitR
theorem width_pos (s : ByteArray) (pos : Nat) (h : pos < s.size) : 1 ≤ (Utf8.decode s pos).2 := by
  by_cases ha : (s[pos]'h).toNat < 128
  · rw [decode_ascii s pos h ha]
    exact Nat.le_refl _
  · exact (decode_high s pos h (by omega)).2
theorem runesL_end (s : ByteArray) (f pos : Nat) (h : ¬ pos < s.size) : runesL s f pos = [] := by
  cases f with
  | zero => rfl
  | succ f => simp [runesL, h]
theorem runesL_step (s : ByteArray) (f pos : Nat) (h : pos < s.size) : runesL s (f + 1) pos = ((Utf8.decode s pos).1 : Int) :: runesL s f (pos + (Utf8.decode s pos).2) := by
  simp [runesL, h]
theorem unitR_le (c : Int) : (unitR c).length ≤ 2 := by
  unfold unitR
  split <;> simp
theorem unitR_small (c : Int) (h : c < 65536) : unitR c = [c] := if_pos h
theorem unitR_great (c : Int) (h : ¬ c < 65536) : unitR c = [55296 + (c - 65536) / 1024, 56320 + (c - 65536) % 1024] := if_neg h
def u16s (l : List Int) : List Value := l.map (Value.int .u16)
end Go.Proofs.YtiknhkkeifemcaaGreatDoor
namespace Go.Proofs.YtiknhkkeifemcaaGreatDoor
open Go.ChangeShapes Go.WideShapes Go.ChangeAt Go.RowKit Go.Shelf

def noSF : SFld := ⟨⟨#[]⟩, 0, 0, 0, 0⟩
theorem i64_zeros (n : Nat) : (i64Cells (List.replicate n 0)) = List.replicate n (.int .i64 0) := by rw [i64Cells_map]; simp
end Go.Proofs.YtiknhkkeifemcaaGreatDoor
namespace Go.Proofs.YtiknhkkeifemcaaGreatDoor
open Go.ChangeShapes Go.WideShapes Go.ChangeAt Go.RowKit

structure RdSc (W : World) (r : Nat) (x0 x1 x2 : Value) (p : Option Addr) (n cap : Nat) (zs : List Int) (bad : Value) (a : Nat) : Prop where
  blk : W.heap[r]? = some (.cells #[x0, x1, x2, .slice p n cap, .int .i64 (a : Nat), bad] 155 (0, 0))
  by_ : Bytes W p zs
  len : zs.length = n
  cap_ : n ≤ cap
  np : zs ≠ [] → ∀ q, p = some q → q.block ≠ r
  le : a ≤ n + 1
  high : n ≤ 1099511627776
section
variable {w : World} {r : Nat} {x0 x1 x2 : Value} {p : Option Addr} {n cap : Nat} {zs : List Int} {bad : Value} {a : Nat}
theorem Bytes.excR {W W' : World} {R : Nat} {p : Option Addr} {zs : List Int} (h : Bytes W p zs) (hb : Exc R W.heap.size W W') (hp : zs ≠ [] → ∀ q, p = some q → q.block ≠ R) : Bytes W' p zs := by
  refine ⟨h.1, fun hne => ?_⟩
  obtain ⟨b, off, rfl, hlt, hc⟩ := h.2 hne
  exact ⟨b, off, rfl, Nat.lt_of_lt_of_le hlt hb.size, fun i hi => (hb.cell (p := ⟨b, off + i, none⟩) hlt (hp hne ⟨b, off, none⟩ rfl)).trans (hc i hi)⟩
theorem RdSc.below {w' : World} (h : RdSc w r x0 x1 x2 p n cap zs bad a) (hb : Below w.heap.size w w') : RdSc w' r x0 x1 x2 p n cap zs bad a :=
  ⟨blk_below h.blk hb (blk_lt h.blk), h.by_.below (Nat.le_refl _) hb, h.len, h.cap_, h.np, h.le, h.high⟩
def RdTo (w : World) (r : Nat) (x0 x1 x2 : Value) (p : Option Addr) (n cap : Nat) (zs : List Int) (bad : Value) (a : Nat) (w' : World) : Prop := Exc r w.heap.size w w' ∧ RdSc w' r x0 x1 x2 p n cap zs bad a
theorem RdTo.then {w1 w2 : World} {b c : Nat} (h : RdTo w r x0 x1 x2 p n cap zs bad b w1) (k : RdTo w1 r x0 x1 x2 p n cap zs bad c w2) : RdTo w r x0 x1 x2 p n cap zs bad c w2 := ⟨h.1.then k.1, k.2⟩
theorem RdTo.bel {w1 w2 : World} {c : Nat} (h : RdTo w r x0 x1 x2 p n cap zs bad c w1) (k : Below w1.heap.size w1 w2) : RdTo w r x0 x1 x2 p n cap zs bad c w2 := ⟨h.1.then (.of_below k), h.2.below k⟩
theorem RdTo.refl (h : RdSc w r x0 x1 x2 p n cap zs bad a) : RdTo w r x0 x1 x2 p n cap zs bad a w := ⟨.refl _ _ _, h⟩
end
end Go.Proofs.YtiknhkkeifemcaaGreatDoor
namespace Go.Proofs.YtiknhkkeifemcaaGreatDoor
open Go.ChangeShapes Go.WideShapes Go.ChangeAt Go.RowKit Go.Shelf

def EscPost (w : World) (r : Nat) (x0 x1 x2 : Value) (p : Option Addr) (n cap : Nat) (zs : List Int) (bad : Value) (o : Option (Nat × Nat)) (e : Ending) (w' : World) : Prop :=
  (∃ rn b g, o = some (rn, b) ∧ e = .returned (.tuple #[.slice (some ⟨g, 0, none⟩) (enc rn).length (enc rn).length, .bool true]) ∧ w'.heap[g]? = some (.cells ((enc rn).map (Value.int .u8)).toArray 5 (0, 0)) ∧ w.heap.size ≤ g ∧ RdTo w r x0 x1 x2 p n cap zs bad b w') ∨
  (o = none ∧ e = .returned (.tuple #[.slice none 0 0, .bool false]) ∧ ∃ a', RdTo w r x0 x1 x2 p n cap zs bad a' w')
section
variable {w w' : World} {r : Nat} {x0 x1 x2 : Value} {p : Option Addr} {n cap : Nat} {zs : List Int} {bad : Value} {o : Option (Nat × Nat)}
theorem EscPost.no {a' : Nat} (h : o = none) (h2 : RdTo w r x0 x1 x2 p n cap zs bad a' w') : EscPost w r x0 x1 x2 p n cap zs bad o (.returned (.tuple #[.slice none 0 0, .bool false])) w' := .inr ⟨h, rfl, a', h2⟩
theorem EscPost.yes {W : World} {rn b : Nat} (h : o = some (rn, b)) (h2 : RdTo w r x0 x1 x2 p n cap zs bad b W) : EscPost w r x0 x1 x2 p n cap zs bad o (.returned (.tuple #[.slice (some ⟨W.heap.size, 0, none⟩) (enc rn).length (enc rn).length, .bool true])) (W.alloc (.cells ((enc rn).map (Value.int .u8)).toArray 5)) :=
  .inl ⟨rn, b, W.heap.size, h, rfl, heap_alloc_new W _, h2.1.size, h2.bel ((Below.refl _ _).alloc (Nat.le_refl _) _)⟩
theorem EscPost.one {W : World} {m b : Nat} {x : Int} (h : o = some (m, b)) (hm : m < 128) (hx : x = (m : Nat)) (h2 : RdTo w r x0 x1 x2 p n cap zs bad b W) : EscPost w r x0 x1 x2 p n cap zs bad o (.returned (.tuple #[.slice (some ⟨W.heap.size, 0, none⟩) 1 1, .bool true])) (W.alloc (.cells #[.int .u8 x] 5)) := by
  subst hx
  have e : enc m = [((m : Nat) : Int)] := if_pos hm
  have := EscPost.yes h h2
  rw [e] at this
  exact this
end
end Go.Proofs.YtiknhkkeifemcaaGreatDoor
namespace Go.Proofs.YtiknhkkeifemcaaGreatDoor
open Go.ChangeShapes Go.WideShapes Go.ChangeAt Go.RowKit Go.Shelf
theorem sbytes_mem {w : World} {p : Option Addr} {zs : List Int} (h : Bytes w p zs) : ∀ z ∈ zs, 0 ≤ z ∧ z ≤ 255 := bd_mem h.1
structure Duo (w0 W : World) (s mb r : Nat) (p q : Option Addr) (n c1 c2 K : Nat) (zs : List Int) (a b : Nat) : Prop where
  sc : ScSt W s mb p n c1 K zs a
  rd : RdSc W r (.slice none 0 0) (.slice none 0 0) (.int .i64 0) q n c2 zs (.bool false) b
  n1 : r ≠ s
  n2 : r ≠ mb
  n3 : zs ≠ [] → ∀ x, q = some x → x.block ≠ s ∧ x.block ≠ mb
  n4 : ∀ x, p = some x → x.block ≠ r
  bel : Below w0.heap.size w0 W
  l1 : w0.heap.size ≤ s
  l2 : w0.heap.size ≤ mb
  l3 : w0.heap.size ≤ r
theorem bytes_exw {W W' : World} {R S : Nat} {p : Option Addr} {zs : List Int} (h : Bytes W p zs) (hb : Exw R S W.heap.size W W') (hp : zs ≠ [] → ∀ q, p = some q → q.block ≠ R ∧ q.block ≠ S) : Bytes W' p zs := by
  refine ⟨h.1, fun hne => ?_⟩
  obtain ⟨b, off, rfl, hlt, hc⟩ := h.2 hne
  obtain ⟨h1, h2⟩ := hp hne _ rfl
  exact ⟨b, off, rfl, Nat.lt_of_lt_of_le hlt hb.size, fun i hi => cell_exw hb (hc i hi) h1 h2⟩
section
variable {w0 W W' : World} {s mb r : Nat} {p q : Option Addr} {n c1 c2 K : Nat} {zs : List Int} {a b : Nat}
theorem Duo.left {a' : Nat} (h : Duo w0 W s mb r p q n c1 c2 K zs a b) (k : ScTo W s mb p n c1 K zs a' W') : Duo w0 W' s mb r p q n c1 c2 K zs a' b :=
  ⟨k.2, ⟨blk_exw h.rd.blk k.1 (blk_lt h.rd.blk) h.n1 h.n2, bytes_exw h.rd.by_ k.1 h.n3, h.rd.len, h.rd.cap_, h.rd.np, h.rd.le, h.rd.high⟩, h.n1, h.n2, h.n3, h.n4, ScTo.new h.bel k h.l1 h.l2, h.l1, h.l2, h.l3⟩
theorem Duo.right {b' : Nat} (h : Duo w0 W s mb r p q n c1 c2 K zs a b) (k : RdTo W r (.slice none 0 0) (.slice none 0 0) (.int .i64 0) q n c2 zs (.bool false) b' W') : Duo w0 W' s mb r p q n c1 c2 K zs a b' :=
  ⟨⟨blk_exc h.sc.blk k.1 (blk_lt h.sc.blk) (fun e => h.n1 e.symm), blk_exc h.sc.met k.1 (blk_lt h.sc.met) (fun e => h.n2 e.symm), h.sc.by_.excR k.1 (fun _ => h.n4), h.sc.len, h.sc.cap_, h.sc.ne, h.sc.np, h.sc.le, h.sc.low, h.sc.high⟩, k.2, h.n1, h.n2, h.n3, h.n4, h.bel.trans ((k.1.mono h.bel.size).below h.l3), h.l1, h.l2, h.l3⟩
theorem Duo.below (h : Duo w0 W s mb r p q n c1 c2 K zs a b) (hb : Below W.heap.size W W') : Duo w0 W' s mb r p q n c1 c2 K zs a b :=
  ⟨h.sc.below hb, h.rd.below hb, h.n1, h.n2, h.n3, h.n4, h.bel.trans (hb.mono h.bel.size), h.l1, h.l2, h.l3⟩
end
end Go.Proofs.YtiknhkkeifemcaaGreatDoor
namespace Go.Proofs.YtiknhkkeifemcaaGreatDoor
open Go.ChangeShapes Go.WideShapes Go.ChangeAt Go.RowKit Go.Shelf
theorem grown_below' {w w' : World} {B : Nat} {e : TypeId} {v : Value} {n : Nat} {xs : List Value} (ho : w.ownsRow B e 1 v n xs) (hg : w.grownBy w' v.ownBlock) (hB : B ≤ w.heap.size) : Below B w w' :=
  ⟨hg.os, hg.tape, hg.output, hg.size, fun k hk => hg.block k (by omega) (fun h => by have := (ownsRow_lt ho k h.symm).1; omega)⟩
theorem RdSc.keep {w w' : World} {r : Nat} {x0 x1 x2 : Value} {p : Option Addr} {n cap : Nat} {zs : List Int} {bad : Value} {a B : Nat} (h : RdSc w r x0 x1 x2 p n cap zs bad a) (hb : Below B w w') (hr : r < B) (hp : zs ≠ [] → ∀ q, p = some q → q.block < B) : RdSc w' r x0 x1 x2 p n cap zs bad a := by
  refine ⟨blk_below h.blk hb hr, ⟨h.by_.1, fun hne => ?_⟩, h.len, h.cap_, h.np, h.le, h.high⟩
  obtain ⟨b, off, rfl, hlt, hc⟩ := h.by_.2 hne
  exact ⟨b, off, rfl, Nat.lt_of_lt_of_le hlt hb.size, fun i hi => (hb.cell (p := ⟨b, off + i, none⟩) (show b < B from hp hne ⟨b, off, none⟩ rfl)).trans (hc i hi)⟩
theorem Tabs.exc {w w' : World} {R : Nat} (h : Tabs w) (hb : Exc R w.heap.size w w') (hn : 3 ≠ R ∧ 4 ≠ R) : Tabs w' := by
  obtain ⟨s0, s1⟩ := h.sizes
  refine ⟨fun c hc => ?_, fun i hi => ⟨?_, ?_⟩⟩
  · exact (hb.cell (p := ⟨_, c, none⟩) s0 hn.1).trans (h.1 c hc)
  · exact (hb.cell (p := ⟨_, 2 * i, none⟩) s1 hn.2).trans (h.2 i hi).1
  · exact (hb.cell (p := ⟨_, 2 * i + 1, none⟩) s1 hn.2).trans (h.2 i hi).2
end Go.Proofs.YtiknhkkeifemcaaGreatDoor
namespace Go.Proofs.YtiknhkkeifemcaaGreatDoor
open Go.RowKit Go.Lib

def NoCont (Y : List Int) : Prop := Y = [] ∨ Y.getD 0 0 < 128 ∨ 192 ≤ Y.getD 0 0
theorem NoCont.app {M X : List Int} (h : NoCont M) (hx : NoCont X) : NoCont (M ++ X) := by
  cases M with
  | nil => exact hx
  | cons a M =>
    right
    rcases h with h | h
    · cases h
    · exact h
end Go.Proofs.YtiknhkkeifemcaaGreatDoor
namespace Go.Proofs.YtiknhkkeifemcaaGreatDoor
open Go.ChangeShapes Go.WideShapes Go.ChangeAt Go.RowKit Go.Shelf

def hexC (k : Int) : Int := if k < 10 then 48 + k else 87 + k
def digL (zs : List Int) : List Int := zs.flatMap fun z => [hexC (z / 16), hexC (z % 16)]
theorem hexC_bd {k : Int} (h0 : 0 ≤ k) (h1 : k < 16) : 0 ≤ hexC k ∧ hexC k ≤ 255 := by unfold hexC; split <;> omega
theorem digL_bd {zs : List Int} (h : ∀ z ∈ zs, 0 ≤ z ∧ z ≤ 255) : ∀ z ∈ digL zs, 0 ≤ z ∧ z ≤ 255 := by
  intro y hy
  obtain ⟨z, hz, hy⟩ := List.mem_flatMap.1 hy
  have := h z hz
  simp at hy
  rcases hy with rfl | rfl
  · exact hexC_bd (by omega) (by omega)
  · exact hexC_bd (by omega) (by omega)
theorem digL_len (zs : List Int) : (digL zs).length = 2 * zs.length := by
  induction zs with
  | nil => rfl
  | cons z zs ih => unfold digL at ih ⊢; rw [List.flatMap_cons, List.length_append, ih]; simp; omega
theorem digL_take {zs : List Int} {k : Nat} (h : k < zs.length) : digL (zs.take (k + 1)) = digL (zs.take k) ++ [hexC (zs.getD k 0 / 16), hexC (zs.getD k 0 % 16)] := by
  rw [List.take_succ_eq_append_getElem h]
  unfold digL
  rw [List.flatMap_append]
  simp [List.getD, h]
theorem hex_get {k : Int} (h0 : 0 ≤ k) (h1 : k < 16) : ((((⟨#[48, 49, 50, 51, 52, 53, 54, 55, 56, 57, 97, 98, 99, 100, 101, 102]⟩ : ByteArray)[k.toNat]'(by show k.toNat < 16; omega)).toNat : Nat) : Int) = hexC k := by
  have h : k = 0 ∨ k = 1 ∨ k = 2 ∨ k = 3 ∨ k = 4 ∨ k = 5 ∨ k = 6 ∨ k = 7 ∨ k = 8 ∨ k = 9 ∨ k = 10 ∨ k = 11 ∨ k = 12 ∨ k = 13 ∨ k = 14 ∨ k = 15 := by omega
  rcases h with rfl | rfl | rfl | rfl | rfl | rfl | rfl | rfl | rfl | rfl | rfl | rfl | rfl | rfl | rfl | rfl <;> rfl
theorem make_u8c (c : Nat) (hn : c ≤ 1000000) (W : World) : (Instr.makeSlice 22 (.int .i64 0) (.int .i64 (c : Int))).run Tryz.prog W = .ok (.slice (some ⟨W.heap.size, 0, none⟩) 0 c) (W.alloc (.cells (madeCells (Value.int .u8 0).cells (c * 1)) 5)) := by
  obtain ⟨i, hi, hz, hs, hb⟩ := info_parts su8_info
  have h := run_make W 22 5 i (.int .u8 0) Tryz.underlying22 hi hz .i64 .i64 0 c (by omega) (by omega) (by rw [hb]; omega) (by omega)
  rw [hs, Int.toNat_natCast] at h
  exact h
theorem own_made (c : Nat) (hn : c ≤ 1000000) (W : World) : (W.alloc (.cells (madeCells (Value.int .u8 0).cells (c * 1)) 5)).ownsRow W.heap.size 5 1 (.slice (some ⟨W.heap.size, 0, none⟩) 0 c) 0 [] :=
  ⟨rfl, .inr ⟨W.heap.size, c, _, rfl, Nat.le_refl _, heap_alloc_new W _, Nat.zero_le _, by unfold maxLen; omega, size_madeCells _ _, rfl⟩⟩
theorem digits_any (p : Option Addr) (n cap : Nat) (zs : List Int) (w : World) (hz : Bytes w p zs) (hn : zs.length = n) (_hcap : n ≤ cap) (hl : n ≤ 100000) :
    Calls Tryz.prog 105 #[.slice p n cap] w fun e w' => e = .returned (.string (strOfNums (digL zs))) ∧ Below w.heap.size w w' := by
  have mk : ∀ W, (Instr.makeSlice 22 (.int .i64 0) (.int .i64 (2 * (n : Int)))).run Tryz.prog W = .ok (.slice (some ⟨W.heap.size, 0, none⟩) 0 (2 * n)) (W.alloc (.cells (madeCells (Value.int .u8 0).cells (2 * n * 1)) 5)) := fun W => by
    have := make_u8c (2 * n) (by omega) W
    rw [Int.natCast_mul] at this
    exact this
  have HM : Hid ((w.alloc (.cells (madeCells #[Value.int .u8 0] (2 * n)) 5)).ownsRow w.heap.size 5 1 (.slice (some ⟨w.heap.size, 0, none⟩) 0 (2 * n)) 0 []) := by
    have := own_made (2 * n) (by omega) w
    rw [Nat.mul_one] at this
    exact this
  have HZ := Lib.hid hz
  have HN := Lib.hid hn
  obtain ⟨S, hS⟩ : ∃ S, strOfNums (digL zs) = S := ⟨_, rfl⟩
  rw [hS]
  have HSS := Lib.hid hS
  clear hS
  clear hz hn
  go_enter Tryz.func105, Tryz.ntmps105
  obtain ⟨i0, hi0, hzz0, hzz1, hzz2⟩ := info_parts su8_info
  have I1 := Lib.hid hi0
  have I2 := Lib.hid hzz0
  have I3 := Lib.hid hzz1
  have I4 := Lib.hid hzz2
  clear hi0 hzz0 hzz1 hzz2
  go_wp2
  go_loopw [3, 12] (fun v i wr => ∃ k : Nat, k ≤ n ∧ i = .int .i64 k ∧ wr.ownsRow w.heap.size 5 1 v (2 * k) ((digL (zs.take k)).map (Value.int .u8)) ∧ Below w.heap.size w wr) (fun _ i _ => n - (intOf i).toNat)
  case atStart => exact ⟨0, Nat.zero_le _, rfl, HM.out, (Below.refl _ _).alloc (Nat.le_refl _) _⟩
  case round =>
    obtain ⟨k, hk, rfl, ho, hb⟩ := hrel
    obtain ⟨va, vc, rfl⟩ := ownsRow_form ho
    have HO := Lib.hid ho
    have HB := Lib.hid hb
    clear ho hb HM
    by_cases hkn : k < n
    · obtain ⟨b, off, rfl, hlt, hc⟩ := HZ.out.2 (by intro e; have := HN.out; rw [e] at this; simp at this; omega)
      have hci := (HB.out.cell (p := ⟨b, off + k, none⟩) hlt).trans (hc k (by rw [HN.out]; exact hkn))
      have HT := Lib.hid (digL_take (zs := zs) (k := k) (by rw [HN.out]; exact hkn))
      obtain ⟨c0, c1⟩ := HZ.out.1 k
      generalize zs.getD k 0 = c at hci HT c0 c1
      clear hc
      obtain ⟨H, hH⟩ : ∃ H, c / 16 = H := ⟨_, rfl⟩
      obtain ⟨L, hL⟩ : ∃ L, c % 16 = L := ⟨_, rfl⟩
      have aL : bits BinOp.and .u8 c 15 = L := (u8_and15 (x := c) c0 (by omega)).trans hL
      have h0 : 0 ≤ H := by omega
      have h1 : H < 16 := by omega
      have l0 : 0 ≤ L := by omega
      have l1 : L < 16 := by omega
      rw [hH, hL] at HT
      obtain ⟨A, hA⟩ : ∃ A, (⟨#[48, 49, 50, 51, 52, 53, 54, 55, 56, 57, 97, 98, 99, 100, 101, 102]⟩ : ByteArray)[H.toNat]'(by show H.toNat < 16; omega) = A := ⟨_, rfl⟩
      obtain ⟨E, hE⟩ : ∃ E, (⟨#[48, 49, 50, 51, 52, 53, 54, 55, 56, 57, 97, 98, 99, 100, 101, 102]⟩ : ByteArray)[L.toNat]'(by show L.toNat < 16; omega) = E := ⟨_, rfl⟩
      have HA : Hid ((A.toNat : Int) = hexC H) := by unfold Hid; rw [← hA]; exact hex_get h0 h1
      have HE : Hid ((E.toNat : Int) = hexC L) := by unfold Hid; rw [← hE]; exact hex_get l0 l1
      have HW : Hid (∀ (X : World), ((X.alloc (.cells #[.int .u8 (A.toNat : Int), .int .u8 (E.toNat : Int)] 5)).drew).heap[X.heap.size]? = some (.cells #[.int .u8 (A.toNat : Int), .int .u8 (E.toNat : Int)] 5 (0, 0))) := fun X => heap_alloc_new X _
      have HOA : Hid ((wr.alloc (.cells #[.int .u8 (A.toNat : Int), .int .u8 (E.toNat : Int)] 5)).ownsRow w.heap.size 5 1 (.slice va (2 * k) vc) (2 * k) ((digL (zs.take k)).map (Value.int .u8))) := HO.out.alloc _
      go_wp2
      go_region_law (first | (refine step_append_lies _ rfl (.tmp 16) (.tmp 23) 22 rfl w.heap.size 5 i0 _ 1 1 Tryz.underlying22 I1.out I2.out I3.out I4.out rfl (by decide) _ (2 * k) ((digL (zs.take k)).map (Value.int .u8)) rfl HOA.out _ 2 2 [.int .u8 (A.toNat : Int), .int .u8 (E.toNat : Int)] rfl rfl (World.news_of_block (HW.out wr)) (by intro u hu; simp at hu; rcases hu with rfl | rfl <;> rfl) (by decide) (by unfold maxLen; omega) (by omega) (by have := HB.out.size; simp; omega) _ rfl ?_; rintro g4 c4 W8 hown4 hg4 hat4 hlt4; clear hat4))
      all_goals
        have hX : Below w.heap.size w (wr.alloc (.cells #[.int .u8 (A.toNat : Int), .int .u8 (E.toNat : Int)] 5)).drew := (HB.out.alloc HB.out.size _).drew
        have HB8 := Lib.hid (hX.trans (grown_below' HOA.out hg4 (by have := HB.out.size; simp; omega)))
        have HO8 := Lib.hid hown4
        clear hown4 hg4 hX hlt4
        simp only [Exit.inBlock, Exit.then]
        go_wp2
        go_roundw
        case rel =>
          refine ⟨k + 1, by omega, by go_num, ?_, HB8.out⟩
          rw [HT.out, List.map_append]
          have := HO8.out
          rw [HA.out, HE.out] at this
          exact this
        case measure => simp [intOf]; omega
    · obtain rfl : n = k := by omega
      have hT : zs.take n = zs := List.take_of_length_le (by rw [HN.out]; exact Nat.le_refl _)
      have hBY := own_bytes (T := digL zs) (by rw [digL_len, HN.out]; have := HO.out; rw [hT] at this; exact this) (digL_bd (sbytes_mem HZ.out))
      obtain ⟨p', c', e1, h1, h2, _⟩ := hBY
      rw [digL_len, HN.out] at e1
      injection e1 with e2 e3 e4
      subst e2 e4
      have cv := conv_own h2 (show _ = 2 * n by rw [digL_len, HN.out]) vc
      clear h1 h2 hT
      rw [HSS.out] at cv
      go_wp2
      go_ret
      exact ⟨rfl, HB.out⟩
end Go.Proofs.YtiknhkkeifemcaaGreatDoor
namespace Go.Proofs.YtiknhkkeifemcaaGreatDoor
open Go.ChangeShapes Go.WideShapes Go.ChangeAt Go.RowKit Go.Shelf
section
open Go.Lib
def qB (z : Int) : List Int :=
  if z = 34 then [92, 34] else if z = 92 then [92, 92] else if z = 8 then [92, 98] else if z = 9 then [92, 116] else if z = 10 then [92, 110] else if z = 12 then [92, 102] else if z = 13 then [92, 114]
  else if z < 32 then [92, 117, 48, 48, hexC (z / 16), hexC (z % 16)] else [z]
def quot (T : List Int) : List Int := 34 :: (T.flatMap qB ++ [34])
theorem qB_len (z : Int) : (qB z).length ≤ 6 := by unfold qB; repeat' split
                                                   all_goals (simp only [List.length_cons, List.length_nil]; omega)
theorem qBs_len (T : List Int) : (T.flatMap qB).length ≤ 6 * T.length := by
  induction T with
  | nil => simp
  | cons z T ih => rw [List.flatMap_cons, List.length_append]; have := qB_len z; simp only [List.length_cons]; omega
theorem qB_take {zs : List Int} {k : Nat} (h : k < zs.length) : (zs.take (k + 1)).flatMap qB = (zs.take k).flatMap qB ++ qB (zs.getD k 0) := by
  rw [List.take_succ_eq_append_getElem h, List.flatMap_append]
  simp [List.getD, h]
end
theorem bytes_at {W : World} {b off : Nat} {z : Int} (h0 : 0 ≤ z) (h1 : z ≤ 255) (hb : b < W.heap.size) (h : W.cell? ⟨b, off, none⟩ = some (.int .u8 z)) : Bytes W (some ⟨b, off, none⟩) [z] :=
  ⟨bd_le (fun y hy => by rw [List.mem_singleton.1 hy]; exact ⟨h0, h1⟩), fun _ => ⟨b, off, rfl, hb, fun i hi => by
    have : i = 0 := by simpa using hi
    subst this
    exact h⟩⟩
end Go.Proofs.YtiknhkkeifemcaaGreatDoor
namespace Go.Proofs.YtiknhkkeifemcaaGreatDoor
open Go.ChangeShapes Go.WideShapes Go.ChangeAt Go.RowKit Go.Shelf

theorem int_info : (Tryz.prog.info? 3).map (fun i => (i.zero, i.size, i.bytes)) = some (some (.int .i64 0), 1, 8) := by kernel_rfl
theorem made_zerosI (n : Nat) : madeCells (Value.int .i64 0).cells (n * 1) = (i64Cells (List.replicate n 0)).toArray := by
  rw [i64_zeros]
  apply Array.ext'
  apply List.ext_getElem?
  intro k
  simp only [madeCells, Array.toList_map, Array.toList_range, Nat.mul_one, List.getElem?_map, List.getElem?_replicate]
  by_cases hk : k < n
  · rw [List.getElem?_range hk, if_pos hk, Option.map_some]
    show some (#[Value.int .i64 0][k % 1]!) = _
    rw [Nat.mod_one]
    rfl
  · rw [List.getElem?_eq_none (by simp; omega), if_neg hk]
    rfl
theorem make_ints (n : Nat) (hn : n ≤ 1000000) (W : World) : (Instr.makeSlice 35 (.int .i64 (n : Int)) (.int .i64 (n : Int))).run Tryz.prog W = .ok (.slice (some ⟨W.heap.size, 0, none⟩) n n) (W.alloc (.cells (i64Cells (List.replicate n 0)).toArray 3)) := by
  obtain ⟨i, hi, hz, hs, hb⟩ := info_parts int_info
  have h := run_make W 35 3 i (.int .i64 0) Tryz.underlying35 hi hz .i64 .i64 n n (by omega) (Int.le_refl _) (by rw [hb]; omega) (by omega)
  rw [hs, Int.toNat_natCast, made_zerosI] at h
  exact h
end Go.Proofs.YtiknhkkeifemcaaGreatDoor
