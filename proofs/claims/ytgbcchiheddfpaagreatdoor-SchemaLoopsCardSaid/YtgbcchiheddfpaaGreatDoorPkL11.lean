/-
  Plain facts on the plain Make: the names' kinds and places, how many fields. No run of the program stands in this text. Conditions: those that each theorem names.
-/
import Derived.Test.YtgbcchiheddfpaaGreatDoorPkL1
import Derived.Test.YtgbcchiheddfpaaGreatDoorPkL2
import Derived.Test.YtgbcchiheddfpaaGreatDoorPkL3
import Derived.Test.YtgbcchiheddfpaaGreatDoorPkL5
import Derived.Test.YtgbcchiheddfpaaGreatDoorPkL6
import Derived.Test.YtgbcchiheddfpaaGreatDoorPkL7
import Derived.Test.YtgbcchiheddfpaaGreatDoorRows
import Derived.WalkKit
import Derived.ProofKit
import Derived.OpenShut
import Derived.ShutString
import Derived.ChangeOld
import Derived.Below
import Derived.WalkLawsBesides
import Derived.WalkSpells
import Derived.Lib.Hide
import Derived.Outline
import Derived.Handy
import Derived.Lib.ParseIntB
import Derived.Laws.BitsLemmas
import Derived.IntWalk
import Derived.Maps.Own
namespace Go.Proofs.YtgbcchiheddfpaaGreatDoor
open Go.ChangeShapes Go.WideShapes Go.ChangeAt Go.RowKit

def Bytes (w : World) (p : Option Addr) (zs : List Int) : Prop :=
  (∀ i, 0 ≤ zs.getD i 0 ∧ zs.getD i 0 ≤ 255) ∧ (zs ≠ [] → ∃ b off, p = some ⟨b, off, none⟩ ∧ b < w.heap.size ∧ ∀ i, i < zs.length → w.cell? ⟨b, off + i, none⟩ = some (.int .u8 (zs.getD i 0)))
theorem Bytes.below {w w' : World} {p : Option Addr} {zs : List Int} {B : Nat} (h : Bytes w p zs) (hB : w.heap.size ≤ B) (hb : Below B w w') : Bytes w' p zs := by
  refine ⟨h.1, fun hne => ?_⟩
  obtain ⟨b, off, rfl, hlt, hc⟩ := h.2 hne
  exact ⟨b, off, rfl, Nat.lt_of_lt_of_le hlt hb.size, fun i hi => (hb.cell (p := ⟨b, off + i, none⟩) (Nat.lt_of_lt_of_le hlt hB)).trans (hc i hi)⟩
end Go.Proofs.YtgbcchiheddfpaaGreatDoor
namespace Go.Proofs.YtgbcchiheddfpaaGreatDoor
open Go.RowKit

def dstep (a : Nat) (c : Int) : Nat := a * 10 + (c.toNat - 48)
def decF (acc : Nat) (ds : List Int) : Nat := ds.foldl dstep acc
def maxU : Nat := 18446744073709551615
theorem decF_nil (acc : Nat) : decF acc [] = acc := rfl
theorem decF_cons (acc : Nat) (c : Int) (r : List Int) : decF acc (c :: r) = decF (dstep acc c) r := List.foldl_cons ..
theorem decF_ge (ds : List Int) : ∀ acc : Nat, acc ≤ decF acc ds := by
  induction ds with
  | nil => intro acc; rw [decF_nil]; exact Nat.le_refl acc
  | cons c r ih =>
    intro acc
    rw [decF_cons]
    have := ih (dstep acc c)
    have h2 : acc ≤ dstep acc c := by unfold dstep; omega
    omega
theorem parseUintM_dec (M : Nat) (hM : M = maxU) (l : List UInt8) : ∀ acc : Nat, (∀ b ∈ l, 48 ≤ b.toNat ∧ b.toNat ≤ 57) → acc ≤ maxU →
    Lib.parseUintM M acc l = if decF acc (l.map fun b => (b.toNat : Int)) ≤ maxU then .ok (decF acc (l.map fun b => (b.toNat : Int))) else .range := by
  induction l with
  | nil =>
    intro acc _ ha
    rw [List.map_nil, decF_nil, if_pos ha]
    rfl
  | cons b r ih =>
    intro acc hd ha
    have hb := hd b List.mem_cons_self
    rw [List.map_cons, decF_cons, show dstep acc (b.toNat : Int) = acc * 10 + (b.toNat - 48) from by unfold dstep; rw [Int.toNat_natCast]]
    have hge := decF_ge (r.map fun b => (b.toNat : Int)) (acc * 10 + (b.toNat - 48))
    simp only [Lib.parseUintM]
    rw [if_pos hb]
    by_cases h1 : 1844674407370955162 ≤ acc
    · rw [if_pos h1, if_neg (by unfold maxU; omega)]
    · rw [if_neg h1]
      by_cases h2 : M < acc * 10 + (b.toNat - 48)
      · rw [if_pos h2, if_neg (by omega)]
      · rw [if_neg h2]
        exact ih _ (fun x hx => hd x (List.mem_cons_of_mem _ hx)) (by omega)
theorem maxU_eq : 2 ^ 64 - 1 = maxU := by decide
theorem parseUintB_dec (l : List UInt8) (hne : l ≠ []) (hd : ∀ b ∈ l, 48 ≤ b.toNat ∧ b.toNat ≤ 57) :
    Lib.parseUintB 64 l = if decF 0 (l.map fun b => (b.toNat : Int)) ≤ maxU then .ok (decF 0 (l.map fun b => (b.toNat : Int))) else .range := by
  unfold Lib.parseUintB
  rw [if_neg hne]
  exact parseUintM_dec _ maxU_eq l 0 hd (Nat.zero_le _)

def goodN (zs : List Int) : Bool := !numBad zs 0 && decide (numEnd zs 0 = zs.length)
def digs (zs : List Int) : List Int := if stA zs (isC 45) 0 = true then zs.drop 1 else zs
theorem digs_drop (zs : List Int) : digs zs = zs.drop (minusTo zs 0) := by
  unfold digs minusTo
  split <;> simp
theorem good_digs {zs : List Int} (h : goodN zs = true) : digs zs ≠ [] ∧ ∀ c ∈ digs zs, 48 ≤ c ∧ c ≤ 57 := by
  unfold goodN at h
  rw [Bool.and_eq_true, Bool.not_eq_true', decide_eq_true_iff] at h
  obtain ⟨h1, h2⟩ := h
  have h0 : decide (runTo zs isDig (minusTo zs 0) - minusTo zs 0 = 0) = false := by
    unfold numBad at h1
    rw [Bool.or_eq_false_iff, Bool.or_eq_false_iff, Bool.or_eq_false_iff] at h1
    exact h1.1.1.1
  have h0' := of_decide_eq_false h0
  unfold numEnd at h2
  rw [digs_drop]
  constructor
  · intro he
    have := congrArg List.length he
    rw [List.length_drop, List.length_nil] at this
    omega
  · intro c hc
    obtain ⟨j, hj, rfl⟩ := List.mem_iff_getElem.1 hc
    rw [List.length_drop] at hj
    have := runTo_all zs isDig (minusTo zs 0) (minusTo zs 0 + j) (by omega) (by omega)
    have hp := of_decide_eq_true (show decide (48 ≤ zs.getD (minusTo zs 0 + j) 0 ∧ zs.getD (minusTo zs 0 + j) 0 ≤ 57) = true from stA_p this)
    have he : zs.getD (minusTo zs 0 + j) 0 = (zs.drop (minusTo zs 0))[j]'(by rw [List.length_drop]; omega) := by
      rw [List.getElem_drop]
      simp [List.getD, show minusTo zs 0 + j < zs.length by omega]
    rw [he] at hp
    exact hp
theorem minusTo_cases (zs : List Int) : (stA zs (isC 45) 0 = true ∧ minusTo zs 0 = 1 ∧ 1 ≤ zs.length ∧ zs.getD 0 0 = 45) ∨ (stA zs (isC 45) 0 = false ∧ minusTo zs 0 = 0) := by
  unfold minusTo
  cases h : stA zs (isC 45) 0
  · exact .inr ⟨rfl, by simp⟩
  · refine .inl ⟨rfl, by simp, stA_lt h, ?_⟩
    exact of_decide_eq_true (show decide (zs.getD 0 0 = 45) = true from stA_p h)
def sizedB (size : Int) : Bool := decide (size = 1 ∨ size = 2 ∨ size = 4 ∨ size = 8)
def span (size : Int) : Int := if size = 1 then 256 else if size = 2 then 65536 else if size = 4 then 4294967296 else 18446744073709551616
def fitsB (v : Int) (below : Bool) (size : Int) (sign : Bool) : Bool :=
  if sign = true then decide (v < span size / 2) || (below && decide (v = span size / 2)) else !below && decide (v < span size)
def numV (zs : List Int) (size : Int) (sign : Bool) : Option Nat :=
  if goodN zs = true ∧ sizedB size = true ∧ decF 0 (digs zs) ≤ maxU ∧ fitsB (decF 0 (digs zs)) (stA zs (isC 45) 0) size sign = true then
    some (if stA zs (isC 45) 0 = true then (18446744073709551616 - decF 0 (digs zs)) % 18446744073709551616 else decF 0 (digs zs))
  else none
end Go.Proofs.YtgbcchiheddfpaaGreatDoor
namespace Go.Proofs.YtgbcchiheddfpaaGreatDoor
open Go.ChangeShapes Go.WideShapes Go.ChangeAt Go.RowKit Go.Shelf Go.ChangeMaps

def MapAt (W : World) (b : Nat) (l : List (ByteArray × Value)) : Prop :=
  ∃ es clock, W.heap[b]? = some (.map es clock) ∧ es.toList.map (fun e => (e.key, e.val)) = l.map (fun p => (Value.string p.1, p.2))
def lookK : List (ByteArray × Value) → ByteArray → Option Value
  | [], _ => none
  | p :: r, s => if s = p.1 then some p.2 else lookK r s
theorem MapAt.lt {W : World} {b : Nat} {l : List (ByteArray × Value)} (h : MapAt W b l) : b < W.heap.size := by
  obtain ⟨es, c, hb, _⟩ := h
  exact blk_lt hb
theorem MapAt.of_block {W W' : World} {b : Nat} {l : List (ByteArray × Value)} (h : MapAt W b l) (hb : W'.heap[b]? = W.heap[b]?) : MapAt W' b l := by
  obtain ⟨es, c, h1, h2⟩ := h
  exact ⟨es, c, hb.trans h1, h2⟩
theorem MapAt.below {W W' : World} {b B : Nat} {l : List (ByteArray × Value)} (h : MapAt W b l) (hb : Below B W W') (hlt : b < B) : MapAt W' b l := h.of_block (hb.block b hlt)
theorem MapAt.exc {W W' : World} {b R B : Nat} {l : List (ByteArray × Value)} (h : MapAt W b l) (hb : Exc R B W W') (hlt : b < B) (hne : b ≠ R) : MapAt W' b l := h.of_block (hb.block b hlt hne)
theorem MapAt.alloc {W : World} {b : Nat} {l : List (ByteArray × Value)} (h : MapAt W b l) (o : Obj) : MapAt (W.alloc o) b l := h.of_block (Below.heap_alloc W o b h.lt)
theorem MapAt.drew {W : World} {b : Nat} {l : List (ByteArray × Value)} (h : MapAt W b l) : MapAt W.drew b l := h
theorem MapAt.setCell {W : World} {b : Nat} {l : List (ByteArray × Value)} (h : MapAt W b l) {p : Addr} (hp : p.block ≠ b) (u : Value) : MapAt (W.setCell p u) b l := h.of_block (Below.heap_setCell W p u b (fun e => hp e.symm))
theorem MapAt.made (W : World) : MapAt (W.alloc (.map #[] 0)) W.heap.size [] := ⟨#[], 0, heap_alloc_new W _, rfl⟩
theorem ba_beq (a b : ByteArray) : (a == b) = decide (a = b) := by
  obtain ⟨a⟩ := a
  obtain ⟨b⟩ := b
  show (a == b) = _
  rw [Bool.eq_iff_iff, beq_iff_eq, decide_eq_true_iff]
  exact ⟨fun h => by rw [h], fun h => by injection h⟩
theorem findNow_str (s : ByteArray) : ∀ (es : List MapEntry) (l : List (ByteArray × Value)) (i : Nat), es.map (fun e => (e.key, e.val)) = l.map (fun p => (Value.string p.1, p.2)) →
    (lookK l s = none ∧ Instr.findNow .string (.string s) es i = some none) ∨ ∃ v j, lookK l s = some v ∧ Instr.findNow .string (.string s) es i = some (some (j, v))
  | [], l, i, h => by
    cases l with
    | nil => exact .inl ⟨rfl, rfl⟩
    | cons p r => cases h
  | e :: es, l, i, h => by
    cases l with
    | nil => cases h
    | cons p r =>
      rw [List.map_cons, List.map_cons] at h
      injection h with h1 h2
      injection h1 with hk hv
      obtain ⟨k, v, bo⟩ := e
      simp only at hk hv
      subst hk hv
      by_cases hs : s = p.1
      · refine .inr ⟨p.2, i, by rw [lookK, if_pos hs], ?_⟩
        have hb : (s == p.1) = true := by rw [ba_beq]; exact decide_eq_true hs
        simp [Instr.findNow, Instr.sameNow, hb]
      · have hb : (s == p.1) = false := by rw [ba_beq]; exact decide_eq_false hs
        rcases findNow_str s es r (i + 1) h2 with ⟨h3, h4⟩ | ⟨v, j, h3, h4⟩
        · refine .inl ⟨by rw [lookK, if_neg hs]; exact h3, ?_⟩
          simp [Instr.findNow, Instr.sameNow, hb, h4]
        · refine .inr ⟨v, j, by rw [lookK, if_neg hs]; exact h3, ?_⟩
          simp [Instr.findNow, Instr.sameNow, hb, h4]
theorem run_findKey_str {P : Program} {k : TypeId} (hk : P.underlying k = some .string) (w : World) {s : ByteArray} {es : List MapEntry} {r : Option (Nat × Value)} (h : Instr.findNow .string (.string s) es 0 = some r) :
    (Instr.findKey k (.string s) es).run P w = .ok r w := by
  simp [Instr.findKey, run_underlying hk, Result.andThen, h]
theorem run_check_str {P : Program} {k : TypeId} (hk : P.underlying k = some .string) (w : World) (em : Bool) (s : ByteArray) : (Instr.checkKey em 10000 k (.string s)).run P w = .ok () w :=
  MapKept.run_checkKey hk (d := .string) (k := .string s) trivial em 9999
theorem MapAt.look {P : Program} {W : World} {b : Nat} {l : List (ByteArray × Value)} (h : MapAt W b l) {t k e : TypeId} (hk : P.underlying k = some .string) (ht : P.underlying t = some (.map k e)) {z : Value} (hz : (zeroValue e).run P W = .ok z W) (s : ByteArray) (c : Bool) :
    (Instr.lookup t (.map (some b)) (.string s) c).run P W = .ok (if c then .tuple #[(lookK l s).getD z, .bool (lookK l s).isSome] else (lookK l s).getD z) W := by
  obtain ⟨es, cl, hb, he⟩ := h
  rcases findNow_str s es.toList l 0 he with ⟨h1, h2⟩ | ⟨v, j, h1, h2⟩
  · simp [Instr.lookup, run_underlying ht, MapKept.run_getObj_map hb, run_check_str hk, run_findKey_str hk W h2, hz, h1, Result.andThen]
  · simp [Instr.lookup, run_underlying ht, MapKept.run_getObj_map hb, run_check_str hk, run_findKey_str hk W h2, h1, Result.andThen]
theorem MapAt.store {P : Program} {W : World} {b : Nat} {l : List (ByteArray × Value)} (h : MapAt W b l) {t k e : TypeId} (hk : P.underlying k = some .string) (ht : P.underlying t = some (.map k e)) (s : ByteArray) (v : Value) (hn : lookK l s = none) :
    ∃ W', (Instr.mapUpdate t (.map (some b)) (.string s) v).run P W = .ok () W' ∧ MapAt W' b (l ++ [(s, v)]) ∧ ∀ B, Exc b B W W' := by
  obtain ⟨es, cl, hb, he⟩ := h
  rcases findNow_str s es.toList l 0 he with ⟨h1, h2⟩ | ⟨v, j, h1, h2⟩
  · refine ⟨setBlock W b (.map (es.push { key := .string s, val := v, born := cl }) (cl + 1)), ?_, ⟨_, _, heap_setBlock_same hb _, ?_⟩, fun B => ⟨rfl, rfl, rfl, by simp [setBlock], fun i _ hi => heap_setBlock_other hb _ hi⟩⟩
    · simp [Instr.mapUpdate, run_underlying ht, MapKept.run_getObj_map hb, run_check_str hk, run_findKey_str hk W h2, MapKept.run_setObj_map _ hb, Result.andThen, setBlock]
    · simp [he]
  · rw [hn] at h1
    cases h1
end Go.Proofs.YtgbcchiheddfpaaGreatDoor
namespace Go.Proofs.YtgbcchiheddfpaaGreatDoor
open Go.ChangeShapes Go.WideShapes Go.ChangeAt Go.RowKit Go.Shelf

structure NEnt where
  name : ByteArray
  kind : Nat
  ref : Nat
def mtyV (kind ref lists : Nat) : Value := .agg #[.int .u8 (kind : Nat), .int .i64 (ref : Nat), .int .i64 (lists : Nat)]
def entP (q : NEnt) : ByteArray × Value := (q.name, mtyV q.kind q.ref 0)
def lookN : List NEnt → ByteArray → Option (Nat × Nat)
  | [], _ => none
  | q :: r, s => if s = q.name then some (q.kind, q.ref) else lookN r s
theorem look_ents (l : List NEnt) (s : ByteArray) : lookK (l.map entP) s = (lookN l s).map fun q => mtyV q.1 q.2 0 := by
  induction l with
  | nil => rfl
  | cons q r ih =>
    rw [List.map_cons]
    show (if s = q.name then some (mtyV q.kind q.ref 0) else lookK (r.map entP) s) = _
    rw [lookN]
    split
    · rfl
    · exact ih
def basicN : List NEnt :=
  [⟨⟨#[98, 111, 111, 108]⟩, 1, 0⟩, ⟨⟨#[105, 56]⟩, 2, 0⟩, ⟨⟨#[105, 49, 54]⟩, 3, 0⟩, ⟨⟨#[105, 51, 50]⟩, 4, 0⟩, ⟨⟨#[105, 54, 52]⟩, 5, 0⟩, ⟨⟨#[117, 56]⟩, 6, 0⟩, ⟨⟨#[117, 49, 54]⟩, 7, 0⟩, ⟨⟨#[117, 51, 50]⟩, 8, 0⟩, ⟨⟨#[117, 54, 52]⟩, 9, 0⟩,
   ⟨⟨#[116, 101, 120, 116]⟩, 11, 0⟩, ⟨⟨#[100, 97, 116, 97]⟩, 12, 0⟩, ⟨⟨#[108, 105, 115, 116]⟩, 0, 0⟩]
inductive MRes (α : Type) where
  | ok (a : α) : MRes α
  | no (code : Int) (place : Nat) : MRes α
def MRes.bind {α β : Type} (x : MRes α) (f : α → MRes β) : MRes β :=
  match x with
  | .ok a => f a
  | .no c p => .no c p
theorem mbind_ok {α β : Type} (a : α) (f : α → MRes β) : (MRes.ok a).bind f = f a := rfl
def hasS : List ByteArray → ByteArray → Bool
  | [], _ => false
  | a :: r, s => decide (s = a) || hasS r s
def dupFrom : List ByteArray → List ByteArray → Option Nat
  | _, [] => none
  | seen, s :: r => if hasS seen s = true then some seen.length else dupFrom (seen ++ [s]) r
def dup (l : List ByteArray) : Option Nat := dupFrom [] l
def tokT (t : Tok) : ByteArray := strOfNums t.text
def fldT (f : RField) : ByteArray := strOfNums f.name
def choM (i : Nat) (m : List NEnt) (x : RCho) : MRes (List NEnt) :=
  if (lookN m (strOfNums x.name)).isSome = true then .no 13 x.place
  else if i < 8 ∧ 1 ≤ x.names.length ∧ x.names.length ≤ 32 then
    match dup (x.names.map tokT) with
    | some k => .no 13 (x.names.getD k noTok).place
    | none => .ok (m ++ [⟨strOfNums x.name, 10, i⟩])
  else .no 16 x.place
def chosM : Nat → List NEnt → List RCho → MRes (List NEnt)
  | _, m, [] => .ok m
  | i, m, x :: r => (choM i m x).bind fun m' => chosM (i + 1) m' r
def recM (i : Nat) (m : List NEnt) (x : RRec) : MRes (List NEnt) :=
  if (lookN m (strOfNums x.name)).isSome = true then .no 13 x.place
  else if i < 16 ∧ 1 ≤ x.fields.length ∧ x.fields.length ≤ 16 then
    match dup (x.fields.map fldT) with
    | some k => .no 13 (x.fields.getD k noField).place
    | none => .ok (m ++ [⟨strOfNums x.name, 13, i⟩])
  else .no 16 x.place
def recsM : Nat → List NEnt → List RRec → MRes (List NEnt)
  | _, m, [] => .ok m
  | i, m, x :: r => (recM i m x).bind fun m' => recsM (i + 1) m' r
def idx : List ByteArray → ByteArray → Option Nat
  | [], _ => none
  | a :: r, s => if a = s then some 0 else (idx r s).map (· + 1)
def chooseM (w : Tok) (names : List ByteArray) : Option Nat := if w.kind = 1 then idx names (tokT w) else none
def falseTrue : List ByteArray := [⟨#[102, 97, 108, 115, 101]⟩, ⟨#[116, 114, 117, 101]⟩]
def chosenM (es : List RCho) (r : Nat) : List ByteArray := ((es.getD r ⟨[], 0, []⟩).names).map tokT
def valueM (es : List RCho) (k r ls : Nat) (w : Tok) : Option Nat :=
  if w.kind = 0 then some 0 else if ls ≠ 0 then none else if k = 1 then chooseM w falseTrue else if k = 10 then chooseM w (chosenM es r) else
    if w.kind = 2 then numV (bts (tokT w)) (kSize k) (kSign k) else none
def fieldM (m : List NEnt) (es : List RCho) (f : RField) : MRes SFld :=
  match lookN m (strOfNums f.ty.name) with
  | none => .no 14 f.ty.place
  | some q => if q.1 = 0 then .no 14 f.ty.place else
    match valueM es q.1 q.2 f.ty.lists f.dflt with
    | none => .no 15 f.dflt.place
    | some d => .ok ⟨strOfNums f.name, q.1, q.2, f.ty.lists, d⟩
def fldsM (m : List NEnt) (es : List RCho) : List RField → MRes (List SFld)
  | [] => .ok []
  | f :: r => (fieldM m es f).bind fun a => (fldsM m es r).bind fun l => .ok (a :: l)
def bodiesM (m : List NEnt) (es : List RCho) : List RRec → MRes (List SRec)
  | [] => .ok []
  | x :: r => (fldsM m es x.fields).bind fun a => (bodiesM m es r).bind fun l => .ok (⟨strOfNums x.name, a⟩ :: l)
def rootM (m : List NEnt) : List Tok → MRes Nat
  | [] => .no 17 0
  | [t] => match lookN m (tokT t) with
    | none => .no 17 t.place
    | some q => if q.1 = 13 then .ok q.2 else .no 17 t.place
  | _ :: t :: _ => .no 13 t.place
def choOut (x : RCho) : SCho := ⟨strOfNums x.name, x.names.map tokT⟩
def makeM (x : RRaw) : MRes Sch :=
  (chosM 0 basicN x.enums).bind fun m1 => (recsM 0 m1 x.structs).bind fun m => (bodiesM m x.enums x.structs).bind fun l => (rootM m x.roots).bind fun r => .ok ⟨l, x.enums.map choOut, r⟩
end Go.Proofs.YtgbcchiheddfpaaGreatDoor
namespace Go.Proofs.YtgbcchiheddfpaaGreatDoor
open Go.ChangeShapes Go.WideShapes Go.ChangeAt Go.RowKit Go.Shelf

theorem ty_key : Tryz.prog.underlying 9 = some .string := by kernel_rfl
theorem ty_map : Tryz.prog.underlying 241 = some (.map 9 62) := by kernel_rfl
theorem int_map : Tryz.prog.underlying 343 = some (.map 9 3) := by kernel_rfl
theorem ty_zero (w : World) : (zeroValue 62).run Tryz.prog w = .ok (mtyV 0 0 0) w := by kernel_rfl
theorem int_zero (w : World) : (zeroValue 3).run Tryz.prog w = .ok (.int .i64 0) w := by kernel_rfl
set_option maxRecDepth 100000 in
set_option maxHeartbeats 2000000 in
theorem basic_any (w : World) : Calls Tryz.prog 120 #[] w fun e w' => ∃ b, e = .returned (.map (some b)) ∧ MapAt w' b (basicN.map entP) ∧ Below w.heap.size w w' ∧ w.heap.size ≤ b := by
  have hmm := @run_makeMap Tryz.prog
  obtain ⟨W1, r1, m1, x1⟩ := (MapAt.made w).store ty_key ty_map ⟨#[98, 111, 111, 108]⟩ (.agg #[.int .u8 1, .int .i64 0, .int .i64 0]) (by decide)
  obtain ⟨W2, r2, m2, x2⟩ := m1.store ty_key ty_map ⟨#[105, 56]⟩ (.agg #[.int .u8 2, .int .i64 0, .int .i64 0]) (by decide)
  obtain ⟨W3, r3, m3, x3⟩ := m2.store ty_key ty_map ⟨#[105, 49, 54]⟩ (.agg #[.int .u8 3, .int .i64 0, .int .i64 0]) (by decide)
  obtain ⟨W4, r4, m4, x4⟩ := m3.store ty_key ty_map ⟨#[105, 51, 50]⟩ (.agg #[.int .u8 4, .int .i64 0, .int .i64 0]) (by decide)
  obtain ⟨W5, r5, m5, x5⟩ := m4.store ty_key ty_map ⟨#[105, 54, 52]⟩ (.agg #[.int .u8 5, .int .i64 0, .int .i64 0]) (by decide)
  obtain ⟨W6, r6, m6, x6⟩ := m5.store ty_key ty_map ⟨#[117, 56]⟩ (.agg #[.int .u8 6, .int .i64 0, .int .i64 0]) (by decide)
  obtain ⟨W7, r7, m7, x7⟩ := m6.store ty_key ty_map ⟨#[117, 49, 54]⟩ (.agg #[.int .u8 7, .int .i64 0, .int .i64 0]) (by decide)
  obtain ⟨W8, r8, m8, x8⟩ := m7.store ty_key ty_map ⟨#[117, 51, 50]⟩ (.agg #[.int .u8 8, .int .i64 0, .int .i64 0]) (by decide)
  obtain ⟨W9, r9, m9, x9⟩ := m8.store ty_key ty_map ⟨#[117, 54, 52]⟩ (.agg #[.int .u8 9, .int .i64 0, .int .i64 0]) (by decide)
  obtain ⟨W10, r10, m10, x10⟩ := m9.store ty_key ty_map ⟨#[116, 101, 120, 116]⟩ (.agg #[.int .u8 11, .int .i64 0, .int .i64 0]) (by decide)
  obtain ⟨W11, r11, m11, x11⟩ := m10.store ty_key ty_map ⟨#[100, 97, 116, 97]⟩ (.agg #[.int .u8 12, .int .i64 0, .int .i64 0]) (by decide)
  obtain ⟨W12, r12, m12, x12⟩ := m11.store ty_key ty_map ⟨#[108, 105, 115, 116]⟩ (.agg #[.int .u8 0, .int .i64 0, .int .i64 0]) (by decide)
  have HX : Hid (Below w.heap.size w W12) := Lib.hid (by
    have h0 : Below w.heap.size w (w.alloc (.map #[] 0)) := (Below.refl _ _).alloc (Nat.le_refl _) _
    have h1 : Exc w.heap.size w.heap.size (w.alloc (.map #[] 0)) W12 := (((((((((((x1 _).trans (x2 _)).trans (x3 _)).trans (x4 _)).trans (x5 _)).trans (x6 _)).trans (x7 _)).trans (x8 _)).trans (x9 _)).trans (x10 _)).trans (x11 _)).trans (x12 _)
    exact h0.trans (h1.below (Nat.le_refl _)))
  have HM := Lib.hid m12
  clear x1 x2 x3 x4 x5 x6 x7 x8 x9 x10 x11 x12 m1 m2 m3 m4 m5 m6 m7 m8 m9 m10 m11 m12
  go_enter Tryz.func120, Tryz.ntmps120
  go_wp2
  go_ret
  exact ⟨_, rfl, HM.out, HX.out, Nat.le_refl _⟩
end Go.Proofs.YtgbcchiheddfpaaGreatDoor
namespace Go.Proofs.YtgbcchiheddfpaaGreatDoor
open Go.ChangeShapes Go.WideShapes Go.ChangeAt Go.RowKit Go.Shelf

theorem fits_un (v : Int) (size m : Int) (h : span size = m) (hm : 0 < m) (h0 : 0 ≤ v) : (v / m == 0) = fitsB v false size false := by
  unfold fitsB
  rw [h, if_neg (by decide), Bool.not_false, Bool.true_and, Bool.eq_iff_iff, beq_iff_eq, decide_eq_true_iff]
  constructor
  · intro hz
    have h1 := Int.emod_lt_of_pos v hm
    have h2 := Int.mul_ediv_add_emod v m
    rw [hz, Int.mul_zero] at h2
    omega
  · intro hl
    exact Int.ediv_eq_zero_of_lt h0 hl
theorem fits_below (v : Int) (size : Int) : false = fitsB v true size false := by
  unfold fitsB
  rw [if_neg (by decide), Bool.not_true, Bool.false_and]
theorem fits_sg (v : Int) (size m : Int) (h : span size / 2 = m) : decide (v < m) = fitsB v false size true := by
  unfold fitsB
  rw [h, if_pos rfl, Bool.false_and, Bool.or_false]
theorem fits_sb (v : Int) (size m : Int) (h : span size / 2 = m) : (decide (v < m) || v == m) = fitsB v true size true := by
  unfold fitsB
  rw [h, if_pos rfl, Bool.true_and]
  rfl
theorem span_1 : span 1 = 256 := rfl
theorem span_2 : span 2 = 65536 := rfl
theorem span_4 : span 4 = 4294967296 := rfl
theorem span_8 : span 8 = 18446744073709551616 := rfl
theorem half_1 : span 1 / 2 = 128 := rfl
theorem half_2 : span 2 / 2 = 32768 := rfl
theorem half_4 : span 4 / 2 = 2147483648 := rfl
theorem half_8 : span 8 / 2 = 9223372036854775808 := rfl
set_option maxHeartbeats 1000000 in
theorem fits_any (v : Int) (below : Bool) (size : Int) (sign : Bool) (w : World) (h0 : 0 ≤ v) (hs : size = 1 ∨ size = 2 ∨ size = 4 ∨ size = 8) :
    Calls Tryz.prog 253 #[.int .u64 v, .bool below, .int .i64 size, .bool sign] w fun e w' => e = .returned (.bool (fitsB v below size sign)) ∧ w = w' := by
  rcases hs with rfl | rfl | rfl | rfl
  · cases sign <;> cases below
    · have e := Lib.hid (fits_un v 1 256 span_1 (by decide) h0)
      go_enter Tryz.func253, Tryz.ntmps253
      go_wp2
      all_goals
        go_ret
        exact ⟨ret_bool e.out, rfl⟩
    · have e := Lib.hid (fits_below v 1)
      go_enter Tryz.func253, Tryz.ntmps253
      go_wp2
      all_goals
        go_ret
        exact ⟨ret_bool e.out, rfl⟩
    · by_cases hl : v < 128
      · have e := Lib.hid (fits_sg v 1 128 half_1)
        have t : decide (v < 128) = true := by simpa using hl
        rw [t] at e
        go_enter Tryz.func253, Tryz.ntmps253
        go_wp2
        go_ret
        exact ⟨ret_bool (e.out), rfl⟩
      · have e := Lib.hid (fits_sg v 1 128 half_1)
        have t : decide (v < 128) = false := by simpa using hl
        rw [t] at e
        go_enter Tryz.func253, Tryz.ntmps253
        go_wp2
        go_ret
        exact ⟨ret_bool (e.out), rfl⟩
    · by_cases hl : v < 128
      · have e := Lib.hid (fits_sb v 1 128 half_1)
        have t : decide (v < 128) = true := by simpa using hl
        rw [t] at e
        go_enter Tryz.func253, Tryz.ntmps253
        go_wp2
        go_ret
        exact ⟨ret_bool (e.out), rfl⟩
      · have e := Lib.hid (fits_sb v 1 128 half_1)
        have t : decide (v < 128) = false := by simpa using hl
        rw [t] at e
        go_enter Tryz.func253, Tryz.ntmps253
        go_wp2
        go_ret
        exact ⟨ret_bool (e.out), rfl⟩
  · cases sign <;> cases below
    · have e := Lib.hid (fits_un v 2 65536 span_2 (by decide) h0)
      go_enter Tryz.func253, Tryz.ntmps253
      go_wp2
      all_goals
        go_ret
        exact ⟨ret_bool e.out, rfl⟩
    · have e := Lib.hid (fits_below v 2)
      go_enter Tryz.func253, Tryz.ntmps253
      go_wp2
      all_goals
        go_ret
        exact ⟨ret_bool e.out, rfl⟩
    · by_cases hl : v < 32768
      · have e := Lib.hid (fits_sg v 2 32768 half_2)
        have t : decide (v < 32768) = true := by simpa using hl
        rw [t] at e
        go_enter Tryz.func253, Tryz.ntmps253
        go_wp2
        go_ret
        exact ⟨ret_bool (e.out), rfl⟩
      · have e := Lib.hid (fits_sg v 2 32768 half_2)
        have t : decide (v < 32768) = false := by simpa using hl
        rw [t] at e
        go_enter Tryz.func253, Tryz.ntmps253
        go_wp2
        go_ret
        exact ⟨ret_bool (e.out), rfl⟩
    · by_cases hl : v < 32768
      · have e := Lib.hid (fits_sb v 2 32768 half_2)
        have t : decide (v < 32768) = true := by simpa using hl
        rw [t] at e
        go_enter Tryz.func253, Tryz.ntmps253
        go_wp2
        go_ret
        exact ⟨ret_bool (e.out), rfl⟩
      · have e := Lib.hid (fits_sb v 2 32768 half_2)
        have t : decide (v < 32768) = false := by simpa using hl
        rw [t] at e
        go_enter Tryz.func253, Tryz.ntmps253
        go_wp2
        go_ret
        exact ⟨ret_bool (e.out), rfl⟩
  · cases sign <;> cases below
    · have e := Lib.hid (fits_un v 4 4294967296 span_4 (by decide) h0)
      go_enter Tryz.func253, Tryz.ntmps253
      go_wp2
      all_goals
        go_ret
        exact ⟨ret_bool e.out, rfl⟩
    · have e := Lib.hid (fits_below v 4)
      go_enter Tryz.func253, Tryz.ntmps253
      go_wp2
      all_goals
        go_ret
        exact ⟨ret_bool e.out, rfl⟩
    · by_cases hl : v < 2147483648
      · have e := Lib.hid (fits_sg v 4 2147483648 half_4)
        have t : decide (v < 2147483648) = true := by simpa using hl
        rw [t] at e
        go_enter Tryz.func253, Tryz.ntmps253
        go_wp2
        go_ret
        exact ⟨ret_bool (e.out), rfl⟩
      · have e := Lib.hid (fits_sg v 4 2147483648 half_4)
        have t : decide (v < 2147483648) = false := by simpa using hl
        rw [t] at e
        go_enter Tryz.func253, Tryz.ntmps253
        go_wp2
        go_ret
        exact ⟨ret_bool (e.out), rfl⟩
    · by_cases hl : v < 2147483648
      · have e := Lib.hid (fits_sb v 4 2147483648 half_4)
        have t : decide (v < 2147483648) = true := by simpa using hl
        rw [t] at e
        go_enter Tryz.func253, Tryz.ntmps253
        go_wp2
        go_ret
        exact ⟨ret_bool (e.out), rfl⟩
      · have e := Lib.hid (fits_sb v 4 2147483648 half_4)
        have t : decide (v < 2147483648) = false := by simpa using hl
        rw [t] at e
        go_enter Tryz.func253, Tryz.ntmps253
        go_wp2
        go_ret
        exact ⟨ret_bool (e.out), rfl⟩
  · cases sign <;> cases below
    · have e := Lib.hid (fits_un v 8 18446744073709551616 span_8 (by decide) h0)
      go_enter Tryz.func253, Tryz.ntmps253
      go_wp2
      all_goals
        go_ret
        exact ⟨ret_bool e.out, rfl⟩
    · have e := Lib.hid (fits_below v 8)
      go_enter Tryz.func253, Tryz.ntmps253
      go_wp2
      all_goals
        go_ret
        exact ⟨ret_bool e.out, rfl⟩
    · by_cases hl : v < 9223372036854775808
      · have e := Lib.hid (fits_sg v 8 9223372036854775808 half_8)
        have t : decide (v < 9223372036854775808) = true := by simpa using hl
        rw [t] at e
        go_enter Tryz.func253, Tryz.ntmps253
        go_wp2
        go_ret
        exact ⟨ret_bool (e.out), rfl⟩
      · have e := Lib.hid (fits_sg v 8 9223372036854775808 half_8)
        have t : decide (v < 9223372036854775808) = false := by simpa using hl
        rw [t] at e
        go_enter Tryz.func253, Tryz.ntmps253
        go_wp2
        go_ret
        exact ⟨ret_bool (e.out), rfl⟩
    · by_cases hl : v < 9223372036854775808
      · have e := Lib.hid (fits_sb v 8 9223372036854775808 half_8)
        have t : decide (v < 9223372036854775808) = true := by simpa using hl
        rw [t] at e
        go_enter Tryz.func253, Tryz.ntmps253
        go_wp2
        go_ret
        exact ⟨ret_bool (e.out), rfl⟩
      · have e := Lib.hid (fits_sb v 8 9223372036854775808 half_8)
        have t : decide (v < 9223372036854775808) = false := by simpa using hl
        rw [t] at e
        go_enter Tryz.func253, Tryz.ntmps253
        go_wp2
        go_ret
        exact ⟨ret_bool (e.out), rfl⟩
end Go.Proofs.YtgbcchiheddfpaaGreatDoor
namespace Go.Proofs.YtgbcchiheddfpaaGreatDoor
open Go.RowKit

def NGood (ne : Nat) (m : List NEnt) : Prop := ∀ q ∈ m, (q.kind = 10 → q.ref < ne) ∧ q.kind ≤ 13
theorem lookN_mem : ∀ (m : List NEnt) (s : ByteArray) (p : Nat × Nat), lookN m s = some p → ∃ q ∈ m, q.kind = p.1 ∧ q.ref = p.2
  | [], _, _, h => by cases h
  | q :: r, s, p, h => by
    rw [lookN] at h
    split at h
    · cases h
      exact ⟨q, List.mem_cons_self, rfl, rfl⟩
    · obtain ⟨q', h1, h2⟩ := lookN_mem r s p h
      exact ⟨q', List.mem_cons_of_mem _ h1, h2⟩
theorem NGood.look {ne : Nat} {m : List NEnt} (h : NGood ne m) (s : ByteArray) (p : Nat × Nat) (hp : lookN m s = some p) : (p.1 = 10 → p.2 < ne) ∧ p.1 ≤ 13 := by
  obtain ⟨q, h1, h2, h3⟩ := lookN_mem m s p hp
  rw [← h2, ← h3]
  exact h q h1
theorem NGood.snoc {ne : Nat} {m : List NEnt} (h : NGood ne m) {q : NEnt} (hq : (q.kind = 10 → q.ref < ne) ∧ q.kind ≤ 13) : NGood ne (m ++ [q]) := by
  intro p hp
  rcases List.mem_append.1 hp with hp | hp
  · exact h p hp
  · rw [List.mem_singleton.1 hp]
    exact hq
theorem basic_good (ne : Nat) : NGood ne basicN := by
  intro q hq
  simp [basicN] at hq
  rcases hq with rfl | rfl | rfl | rfl | rfl | rfl | rfl | rfl | rfl | rfl | rfl | rfl <;> exact ⟨by simp, by simp⟩
theorem choM_good {ne i : Nat} {m m' : List NEnt} {x : RCho} (h : NGood ne m) (hi : i < ne) (he : choM i m x = .ok m') : NGood ne m' := by
  unfold choM at he
  split at he
  · cases he
  · split at he
    · split at he
      · cases he
      · cases he
        exact h.snoc ⟨fun _ => hi, by simp⟩
    · cases he
theorem chosM_good : ∀ {ne i : Nat} {m m' : List NEnt} {l : List RCho}, NGood ne m → i + l.length ≤ ne → chosM i m l = .ok m' → NGood ne m'
  | _, _, _, _, [], h, _, he => by
    cases he
    exact h
  | ne, i, m, m', x :: r, h, hi, he => by
    rw [chosM] at he
    rw [List.length_cons] at hi
    cases hx : choM i m x with
    | no c p =>
      rw [hx] at he
      cases he
    | ok m1 =>
      rw [hx, mbind_ok] at he
      exact chosM_good (choM_good h (by omega) hx) (by omega) he
theorem recM_good {ne i : Nat} {m m' : List NEnt} {x : RRec} (h : NGood ne m) (he : recM i m x = .ok m') : NGood ne m' ∧ x.fields.length ≤ 16 := by
  unfold recM at he
  split at he
  · cases he
  · split at he
    · rename_i hc
      split at he
      · cases he
      · cases he
        exact ⟨h.snoc ⟨fun h => by simp at h, by simp⟩, hc.2.2⟩
    · cases he
theorem recsM_good : ∀ {ne i : Nat} {m m' : List NEnt} {l : List RRec}, NGood ne m → recsM i m l = .ok m' → NGood ne m' ∧ ∀ x ∈ l, x.fields.length ≤ 16
  | _, _, _, _, [], h, he => by
    cases he
    exact ⟨h, fun x hx => by cases hx⟩
  | ne, i, m, m', x :: r, h, he => by
    rw [recsM] at he
    cases hx : recM i m x with
    | no c p =>
      rw [hx] at he
      cases he
    | ok m1 =>
      rw [hx, mbind_ok] at he
      obtain ⟨h1, h2⟩ := recM_good h hx
      obtain ⟨h3, h4⟩ := recsM_good h1 he
      refine ⟨h3, fun y hy => ?_⟩
      rcases List.mem_cons.1 hy with rfl | hy
      · exact h2
      · exact h4 y hy
structure RawOk (x : RRaw) : Prop where
  en : ∀ e ∈ x.enums, e.name.length ≤ 100 ∧ ∀ t ∈ e.names, t.text.length ≤ 100
  st : ∀ s ∈ x.structs, s.name.length ≤ 100 ∧ ∀ f ∈ s.fields, f.dflt.text.length ≤ 281474976710656 ∧ f.name.length ≤ 281474976710656
end Go.Proofs.YtgbcchiheddfpaaGreatDoor
