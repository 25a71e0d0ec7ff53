/-
  A plan that came in lies in every later world. Conditions: those that each theorem names.
-/
import Derived.Test.YtdlfndjgncdgfaaGreatDoorPkS1
import Derived.Test.YtdlfndjgncdgfaaGreatDoorPkS4
import Derived.Test.YtdlfndjgncdgfaaGreatDoorPkS5
import Derived.Maps.Own
namespace Go.Proofs.YtdlfndjgncdgfaaGreatDoor
open Go.ChangeShapes Go.WideShapes Go.ChangeAt Go.RowKit Go.Shelf

structure PF where
  kind : Nat
  lists : Nat
  ref : Nat
  name : Nat
  dflt : Nat
structure Plan where
  enums : List Nat
  structs : List (List PF)
  root : Nat
  tree : Bool
structure SFld where
  name : ByteArray
  kind : Nat
  ref : Nat
  lists : Nat
  dflt : Nat
structure SRec where
  name : ByteArray
  fields : List SFld
structure SCho where
  name : ByteArray
  names : List ByteArray
structure Sch where
  structs : List SRec
  enums : List SCho
  root : Nat
def enumName (i : Nat) : ByteArray := ⟨#[69]⟩ ++ strOfNums [97 + (i : Int)]
def valName (k : Nat) : ByteArray := ⟨#[118]⟩ ++ strOfNums [97 + (k : Int) % 26, 97 + (k : Int) / 26]
def recName (i : Nat) : ByteArray := ⟨#[83]⟩ ++ strOfNums [97 + (i : Int)]
def labelHeads : List ByteArray := [⟨#[97]⟩, ⟨#[120, 95]⟩, ⟨#[90, 101, 100]⟩, ⟨#[195, 169]⟩, ⟨#[239, 172, 128]⟩, ⟨#[240, 159, 152, 128]⟩, ⟨#[108, 105, 115, 116]⟩, ⟨#[98, 32, 99]⟩, ⟨#[115, 116, 114, 117, 99, 116]⟩, ⟨#[47]⟩]
def headOf (m : Nat) : ByteArray := labelHeads.getD m ⟨#[]⟩
def labelOf (n i : Nat) : ByteArray := headOf (n % 10) ++ strOfNums [97 + (i : Int) % 26]
def cntOf (p : Plan) (e : Nat) : Nat := p.enums.getD e 0 % 32 + 1
def numP (cnt kind n : Nat) : Nat :=
  if kind = 1 then n % 2 else if kind = 10 then n % cnt else
    let m : Nat := if kSize kind < 8 then n % 2 ^ (8 * (kSize kind).toNat) else n
    if kSign kind = true then (sgnOf m (kSize kind)).toNat else m
def isNumP (kind lists : Nat) : Bool := decide (lists = 0) && decide (0 < kSize kind)
def kind0 (p : Plan) (f : PF) : Nat := if f.kind % 13 + 1 = 10 ∧ p.enums.length = 0 then 7 else f.kind % 13 + 1
def ref0 (p : Plan) (f : PF) : Nat := if kind0 p f = 10 then f.ref % p.enums.length else 0
def kindP (p : Plan) (i : Nat) (f : PF) : Nat := if kind0 p f = 13 ∧ p.tree = true ∧ i + 1 = p.structs.length then 11 else kind0 p f
def refP (p : Plan) (i : Nat) (f : PF) : Nat :=
  if kindP p i f = 13 then (if p.tree = true then i + 1 + f.ref % (p.structs.length - i - 1) else f.ref % p.structs.length) else ref0 p f
def fldP (p : Plan) (i k : Nat) (f : PF) : SFld :=
  ⟨labelOf f.name k, kindP p i f, refP p i f, f.lists % 4, if isNumP (kindP p i f) (f.lists % 4) = true then numP (cntOf p (refP p i f)) (kindP p i f) f.dflt else 0⟩
def noPF : PF := ⟨0, 0, 0, 0, 0⟩
def fldsP (p : Plan) (i : Nat) (l : List PF) (n : Nat) : List SFld := (List.range n).map fun k => fldP p i k (l.getD k noPF)
def recP (p : Plan) (i : Nat) : SRec := ⟨recName i, fldsP p i (p.structs.getD i []) (p.structs.getD i []).length⟩
def choP (p : Plan) (i : Nat) : SCho := ⟨enumName i, (List.range (cntOf p i)).map valName⟩
def recsP (p : Plan) (n : Nat) : List SRec := (List.range n).map (recP p)
def chosP (p : Plan) (n : Nat) : List SCho := (List.range n).map (choP p)
def planOk (p : Plan) : Prop := 1 ≤ p.structs.length ∧ p.structs.length ≤ 16 ∧ p.enums.length ≤ 8 ∧ ∀ l ∈ p.structs, 1 ≤ l.length ∧ l.length ≤ 16
theorem fldsP_succ (p : Plan) (i : Nat) (l : List PF) (n : Nat) : fldsP p i l (n + 1) = fldsP p i l n ++ [fldP p i n (l.getD n noPF)] := by simp [fldsP, List.range_succ]
theorem recsP_succ (p : Plan) (n : Nat) : recsP p (n + 1) = recsP p n ++ [recP p n] := by simp [recsP, List.range_succ]
theorem chosP_succ (p : Plan) (n : Nat) : chosP p (n + 1) = chosP p n ++ [choP p n] := by simp [chosP, List.range_succ]
theorem fldsP_length (p : Plan) (i : Nat) (l : List PF) (n : Nat) : (fldsP p i l n).length = n := by simp [fldsP]
theorem recsP_length (p : Plan) (n : Nat) : (recsP p n).length = n := by simp [recsP]
theorem chosP_length (p : Plan) (n : Nat) : (chosP p n).length = n := by simp [chosP]

/-! ### in memory -/
def sfldCells (f : SFld) : List Value := [.string f.name, .int .u8 f.kind, .int .i64 f.ref, .int .i64 f.lists, .int .u64 f.dflt]
def sfldsCells (l : List SFld) : List Value := l.flatMap sfldCells
def strCells (s : ByteArray) : List Value := [.string s]
def strsCells (l : List ByteArray) : List Value := l.flatMap strCells
def srecCells (q : SRec × Value) : List Value := [.string q.1.name, q.2]
def schoCells (q : SCho × Value) : List Value := [.string q.1.name, q.2]
def srecsCells (l : List (SRec × Value)) : List Value := l.flatMap srecCells
def schosCells (l : List (SCho × Value)) : List Value := l.flatMap schoCells
theorem sfldsCells_snoc (l : List SFld) (f : SFld) : sfldsCells (l ++ [f]) = sfldsCells l ++ sfldCells f := by simp [sfldsCells]
theorem strsCells_snoc (l : List ByteArray) (s : ByteArray) : strsCells (l ++ [s]) = strsCells l ++ strCells s := by simp [strsCells]
theorem srecsCells_snoc (l : List (SRec × Value)) (q : SRec × Value) : srecsCells (l ++ [q]) = srecsCells l ++ srecCells q := by simp [srecsCells]
theorem schosCells_snoc (l : List (SCho × Value)) (q : SCho × Value) : schosCells (l ++ [q]) = schosCells l ++ schoCells q := by simp [schosCells]
theorem sfld_info : (Tryz.prog.info? 51).map (fun i => (i.zero, i.size, i.bytes)) = some (some (.agg #[.string ⟨#[]⟩, .int .u8 0, .int .i64 0, .int .i64 0, .int .u64 0]), 5, 48) := by kernel_rfl
theorem str_info : (Tryz.prog.info? 9).map (fun i => (i.zero, i.size, i.bytes)) = some (some (.string ⟨#[]⟩), 1, 16) := by kernel_rfl
theorem srec_info : (Tryz.prog.info? 54).map (fun i => (i.zero, i.size, i.bytes)) = some (some (.agg #[.string ⟨#[]⟩, .slice none 0 0]), 2, 40) := by kernel_rfl
theorem scho_info : (Tryz.prog.info? 57).map (fun i => (i.zero, i.size, i.bytes)) = some (some (.agg #[.string ⟨#[]⟩, .slice none 0 0]), 2, 40) := by kernel_rfl
structure SchRows (base : Nat) (W : World) (ss : List (SRec × Value)) (es : List (SCho × Value)) (sv ev : Value) : Prop where
  structs : W.ownsRow base 54 2 sv ss.length (srecsCells ss)
  enums : W.ownsRow base 57 2 ev es.length (schosCells es)
  fields : ∀ q ∈ ss, W.ownsRow base 51 5 q.2 q.1.fields.length (sfldsCells q.1.fields)
  names : ∀ q ∈ es, W.ownsRow base 9 1 q.2 q.1.names.length (strsCells q.1.names)
theorem SchRows.below {base : Nat} {W W' : World} {ss : List (SRec × Value)} {es : List (SCho × Value)} {sv ev : Value} (h : SchRows base W ss es sv ev) (hb : Below W.heap.size W W') : SchRows base W' ss es sv ev :=
  ⟨row_keep hb h.structs, row_keep hb h.enums, fun q hq => row_keep hb (h.fields q hq), fun q hq => row_keep hb (h.names q hq)⟩
theorem SchRows.base {base base' : Nat} {W : World} {ss : List (SRec × Value)} {es : List (SCho × Value)} {sv ev : Value} (h : SchRows base W ss es sv ev) (hb : base' ≤ base) : SchRows base' W ss es sv ev :=
  ⟨ownsRow_base h.structs hb, ownsRow_base h.enums hb, fun q hq => ownsRow_base (h.fields q hq) hb, fun q hq => ownsRow_base (h.names q hq) hb⟩
theorem SchRows.forms {base : Nat} {W : World} {ss : List (SRec × Value)} {es : List (SCho × Value)} {sv ev : Value} (h : SchRows base W ss es sv ev) : ∃ sa sc ea ec, sv = .slice sa ss.length sc ∧ ev = .slice ea es.length ec := by
  obtain ⟨sa, sc, h1⟩ := ownsRow_form h.structs
  obtain ⟨ea, ec, h2⟩ := ownsRow_form h.enums
  exact ⟨sa, sc, ea, ec, h1, h2⟩
theorem SchRows.strct {base : Nat} {W : World} {ss : List (SRec × Value)} {es : List (SCho × Value)} {sv ev : Value} (h : SchRows base W ss es sv ev) (k : Nat) (hk : k < ss.length) :
    ∃ g c a n, sv = .slice (some ⟨g, 0, none⟩) ss.length c ∧ ss.length ≤ c ∧ g < W.heap.size ∧ W.cell? ⟨g, k * 2, none⟩ = some (.string ss[k].1.name) ∧ W.cell? ⟨g, k * 2 + 1, none⟩ = some (.slice a ss[k].1.fields.length n) ∧ ss[k].2 = .slice a ss[k].1.fields.length n := by
  obtain ⟨g, c, hv, hc, hg, hcell⟩ := row_el srecCells 2 (fun _ => rfl) h.structs k hk
  obtain ⟨a, n, hf⟩ := ownsRow_form (h.fields _ (List.getElem_mem hk))
  exact ⟨g, c, a, n, hv, hc, hg, hcell 0 (by omega), by rw [hcell 1 (by omega), ← hf]; rfl, hf⟩
theorem SchRows.enum {base : Nat} {W : World} {ss : List (SRec × Value)} {es : List (SCho × Value)} {sv ev : Value} (h : SchRows base W ss es sv ev) (k : Nat) (hk : k < es.length) :
    ∃ g c a n, ev = .slice (some ⟨g, 0, none⟩) es.length c ∧ es.length ≤ c ∧ g < W.heap.size ∧ W.cell? ⟨g, k * 2, none⟩ = some (.string es[k].1.name) ∧ W.cell? ⟨g, k * 2 + 1, none⟩ = some (.slice a es[k].1.names.length n) ∧ es[k].2 = .slice a es[k].1.names.length n := by
  obtain ⟨g, c, hv, hc, hg, hcell⟩ := row_el schoCells 2 (fun _ => rfl) h.enums k hk
  obtain ⟨a, n, hf⟩ := ownsRow_form (h.names _ (List.getElem_mem hk))
  exact ⟨g, c, a, n, hv, hc, hg, hcell 0 (by omega), by rw [hcell 1 (by omega), ← hf]; rfl, hf⟩
theorem SchRows.field {base : Nat} {W : World} {ss : List (SRec × Value)} {es : List (SCho × Value)} {sv ev : Value} (h : SchRows base W ss es sv ev) (k : Nat) (hk : k < ss.length) (j : Nat) (hj : j < ss[k].1.fields.length) :
    ∃ g c, ss[k].2 = .slice (some ⟨g, 0, none⟩) ss[k].1.fields.length c ∧ ss[k].1.fields.length ≤ c ∧ g < W.heap.size ∧ W.cell? ⟨g, j * 5, none⟩ = some (.string ss[k].1.fields[j].name) ∧ W.cell? ⟨g, j * 5 + 1, none⟩ = some (.int .u8 (ss[k].1.fields[j].kind : Nat)) ∧ W.cell? ⟨g, j * 5 + 2, none⟩ = some (.int .i64 (ss[k].1.fields[j].ref : Nat)) ∧ W.cell? ⟨g, j * 5 + 3, none⟩ = some (.int .i64 (ss[k].1.fields[j].lists : Nat)) ∧ W.cell? ⟨g, j * 5 + 4, none⟩ = some (.int .u64 (ss[k].1.fields[j].dflt : Nat)) := by
  obtain ⟨g, c, hv, hc, hg, hcell⟩ := row_el sfldCells 5 (fun _ => rfl) (h.fields _ (List.getElem_mem hk)) j hj
  exact ⟨g, c, hv, hc, hg, hcell 0 (by omega), hcell 1 (by omega), hcell 2 (by omega), hcell 3 (by omega), hcell 4 (by omega)⟩
theorem SchRows.name {base : Nat} {W : World} {ss : List (SRec × Value)} {es : List (SCho × Value)} {sv ev : Value} (h : SchRows base W ss es sv ev) (k : Nat) (hk : k < es.length) (j : Nat) (hj : j < es[k].1.names.length) :
    ∃ g c, es[k].2 = .slice (some ⟨g, 0, none⟩) es[k].1.names.length c ∧ es[k].1.names.length ≤ c ∧ g < W.heap.size ∧ W.cell? ⟨g, j, none⟩ = some (.string es[k].1.names[j]) := by
  obtain ⟨g, c, hv, hc, hg, hcell⟩ := row_el strCells 1 (fun _ => rfl) (h.names _ (List.getElem_mem hk)) j hj
  have h0 := hcell 0 (by omega)
  rw [Nat.mul_one, Nat.add_zero] at h0
  exact ⟨g, c, hv, hc, hg, h0⟩
structure IsPlan (w : World) (p : Plan) (a0 : Option Addr) (n0 c0 : Nat) (a1 : Option Addr) (n1 c1 : Nat) : Prop where
  e_len : p.enums.length = n0
  s_len : p.structs.length = n1
  e_cap : n0 ≤ c0 ∧ c0 ≤ maxLen
  s_cap : n1 ≤ c1 ∧ c1 ≤ maxLen
  rt : p.root ≤ 255
  e_at : ∀ j, j < n0 → p.enums.getD j 0 ≤ 255 ∧ ∃ b off, a0 = some ⟨b, off, none⟩ ∧ b < w.heap.size ∧ w.cell? ⟨b, off + j, none⟩ = some (.int .u8 (p.enums.getD j 0 : Nat))
  s_at : ∀ r, r < n1 → ∃ b off a n c, a1 = some ⟨b, off, none⟩ ∧ b < w.heap.size ∧ w.cell? ⟨b, off + r, none⟩ = some (.slice a n c) ∧ (p.structs.getD r []).length = n ∧ n ≤ c ∧ c ≤ maxLen ∧
    ∀ k, k < n → ∃ b' off' f, (p.structs.getD r []).getD k noPF = f ∧ a = some ⟨b', off', none⟩ ∧ b' < w.heap.size ∧ w.cell? ⟨b', off' + k * 5, none⟩ = some (.int .u8 (f.kind : Nat)) ∧ w.cell? ⟨b', off' + k * 5 + 1, none⟩ = some (.int .u8 (f.lists : Nat)) ∧ w.cell? ⟨b', off' + k * 5 + 2, none⟩ = some (.int .u8 (f.ref : Nat)) ∧ w.cell? ⟨b', off' + k * 5 + 3, none⟩ = some (.int .u8 (f.name : Nat)) ∧ w.cell? ⟨b', off' + k * 5 + 4, none⟩ = some (.int .u64 (f.dflt : Nat)) ∧
      f.kind ≤ 255 ∧ f.lists ≤ 255 ∧ f.ref ≤ 255 ∧ f.name ≤ 255 ∧ (f.dflt : Int) ≤ 18446744073709551615
end Go.Proofs.YtdlfndjgncdgfaaGreatDoor
namespace Go.Proofs.YtdlfndjgncdgfaaGreatDoor
open Go.ChangeShapes Go.WideShapes Go.ChangeAt Go.RowKit Go.Shelf Go.ChangeMaps

def MapAt (W : World) (b : Nat) (l : List (ByteArray × Value)) : Prop :=
  ∃ es clock, W.heap[b]? = some (.map es clock) ∧ es.toList.map (fun e => (e.key, e.val)) = l.map (fun p => (Value.string p.1, p.2))
def lookK : List (ByteArray × Value) → ByteArray → Option Value
  | [], _ => none
  | p :: r, s => if s = p.1 then some p.2 else lookK r s
theorem MapAt.lt {W : World} {b : Nat} {l : List (ByteArray × Value)} (h : MapAt W b l) : b < W.heap.size := by
  obtain ⟨es, c, hb, _⟩ := h
  exact blk_lt hb
theorem MapAt.of_block {W W' : World} {b : Nat} {l : List (ByteArray × Value)} (h : MapAt W b l) (hb : W'.heap[b]? = W.heap[b]?) : MapAt W' b l := by
  obtain ⟨es, c, h1, h2⟩ := h
  exact ⟨es, c, hb.trans h1, h2⟩
theorem MapAt.below {W W' : World} {b B : Nat} {l : List (ByteArray × Value)} (h : MapAt W b l) (hb : Below B W W') (hlt : b < B) : MapAt W' b l := h.of_block (hb.block b hlt)
theorem MapAt.exc {W W' : World} {b R B : Nat} {l : List (ByteArray × Value)} (h : MapAt W b l) (hb : Exc R B W W') (hlt : b < B) (hne : b ≠ R) : MapAt W' b l := h.of_block (hb.block b hlt hne)
theorem MapAt.alloc {W : World} {b : Nat} {l : List (ByteArray × Value)} (h : MapAt W b l) (o : Obj) : MapAt (W.alloc o) b l := h.of_block (Below.heap_alloc W o b h.lt)
theorem MapAt.drew {W : World} {b : Nat} {l : List (ByteArray × Value)} (h : MapAt W b l) : MapAt W.drew b l := h
theorem MapAt.setCell {W : World} {b : Nat} {l : List (ByteArray × Value)} (h : MapAt W b l) {p : Addr} (hp : p.block ≠ b) (u : Value) : MapAt (W.setCell p u) b l := h.of_block (Below.heap_setCell W p u b (fun e => hp e.symm))
theorem MapAt.made (W : World) : MapAt (W.alloc (.map #[] 0)) W.heap.size [] := ⟨#[], 0, heap_alloc_new W _, rfl⟩
theorem ba_beq (a b : ByteArray) : (a == b) = decide (a = b) := by
  obtain ⟨a⟩ := a
  obtain ⟨b⟩ := b
  show (a == b) = _
  rw [Bool.eq_iff_iff, beq_iff_eq, decide_eq_true_iff]
  exact ⟨fun h => by rw [h], fun h => by injection h⟩
theorem findNow_str (s : ByteArray) : ∀ (es : List MapEntry) (l : List (ByteArray × Value)) (i : Nat), es.map (fun e => (e.key, e.val)) = l.map (fun p => (Value.string p.1, p.2)) →
    (lookK l s = none ∧ Instr.findNow .string (.string s) es i = some none) ∨ ∃ v j, lookK l s = some v ∧ Instr.findNow .string (.string s) es i = some (some (j, v))
  | [], l, i, h => by
    cases l with
    | nil => exact .inl ⟨rfl, rfl⟩
    | cons p r => cases h
  | e :: es, l, i, h => by
    cases l with
    | nil => cases h
    | cons p r =>
      rw [List.map_cons, List.map_cons] at h
      injection h with h1 h2
      injection h1 with hk hv
      obtain ⟨k, v, bo⟩ := e
      simp only at hk hv
      subst hk hv
      by_cases hs : s = p.1
      · refine .inr ⟨p.2, i, by rw [lookK, if_pos hs], ?_⟩
        have hb : (s == p.1) = true := by rw [ba_beq]; exact decide_eq_true hs
        simp [Instr.findNow, Instr.sameNow, hb]
      · have hb : (s == p.1) = false := by rw [ba_beq]; exact decide_eq_false hs
        rcases findNow_str s es r (i + 1) h2 with ⟨h3, h4⟩ | ⟨v, j, h3, h4⟩
        · refine .inl ⟨by rw [lookK, if_neg hs]; exact h3, ?_⟩
          simp [Instr.findNow, Instr.sameNow, hb, h4]
        · refine .inr ⟨v, j, by rw [lookK, if_neg hs]; exact h3, ?_⟩
          simp [Instr.findNow, Instr.sameNow, hb, h4]
theorem run_findKey_str {P : Program} {k : TypeId} (hk : P.underlying k = some .string) (w : World) {s : ByteArray} {es : List MapEntry} {r : Option (Nat × Value)} (h : Instr.findNow .string (.string s) es 0 = some r) :
    (Instr.findKey k (.string s) es).run P w = .ok r w := by
  simp [Instr.findKey, run_underlying hk, Result.andThen, h]
theorem run_check_str {P : Program} {k : TypeId} (hk : P.underlying k = some .string) (w : World) (em : Bool) (s : ByteArray) : (Instr.checkKey em 10000 k (.string s)).run P w = .ok () w :=
  MapKept.run_checkKey hk (d := .string) (k := .string s) trivial em 9999
theorem MapAt.look {P : Program} {W : World} {b : Nat} {l : List (ByteArray × Value)} (h : MapAt W b l) {t k e : TypeId} (hk : P.underlying k = some .string) (ht : P.underlying t = some (.map k e)) {z : Value} (hz : (zeroValue e).run P W = .ok z W) (s : ByteArray) (c : Bool) :
    (Instr.lookup t (.map (some b)) (.string s) c).run P W = .ok (if c then .tuple #[(lookK l s).getD z, .bool (lookK l s).isSome] else (lookK l s).getD z) W := by
  obtain ⟨es, cl, hb, he⟩ := h
  rcases findNow_str s es.toList l 0 he with ⟨h1, h2⟩ | ⟨v, j, h1, h2⟩
  · simp [Instr.lookup, run_underlying ht, MapKept.run_getObj_map hb, run_check_str hk, run_findKey_str hk W h2, hz, h1, Result.andThen]
  · simp [Instr.lookup, run_underlying ht, MapKept.run_getObj_map hb, run_check_str hk, run_findKey_str hk W h2, h1, Result.andThen]
theorem MapAt.store {P : Program} {W : World} {b : Nat} {l : List (ByteArray × Value)} (h : MapAt W b l) {t k e : TypeId} (hk : P.underlying k = some .string) (ht : P.underlying t = some (.map k e)) (s : ByteArray) (v : Value) (hn : lookK l s = none) :
    ∃ W', (Instr.mapUpdate t (.map (some b)) (.string s) v).run P W = .ok () W' ∧ MapAt W' b (l ++ [(s, v)]) ∧ ∀ B, Exc b B W W' := by
  obtain ⟨es, cl, hb, he⟩ := h
  rcases findNow_str s es.toList l 0 he with ⟨h1, h2⟩ | ⟨v, j, h1, h2⟩
  · refine ⟨setBlock W b (.map (es.push { key := .string s, val := v, born := cl }) (cl + 1)), ?_, ⟨_, _, heap_setBlock_same hb _, ?_⟩, fun B => ⟨rfl, rfl, rfl, by simp [setBlock], fun i _ hi => heap_setBlock_other hb _ hi⟩⟩
    · simp [Instr.mapUpdate, run_underlying ht, MapKept.run_getObj_map hb, run_check_str hk, run_findKey_str hk W h2, MapKept.run_setObj_map _ hb, Result.andThen, setBlock]
    · simp [he]
  · rw [hn] at h1
    cases h1
end Go.Proofs.YtdlfndjgncdgfaaGreatDoor
namespace Go.Proofs.YtdlfndjgncdgfaaGreatDoor
open Go.ChangeShapes Go.WideShapes Go.ChangeAt Go.RowKit Go.Shelf

structure NEnt where
  name : ByteArray
  kind : Nat
  ref : Nat
def mtyV (kind ref lists : Nat) : Value := .agg #[.int .u8 (kind : Nat), .int .i64 (ref : Nat), .int .i64 (lists : Nat)]
def entP (q : NEnt) : ByteArray × Value := (q.name, mtyV q.kind q.ref 0)
def lookN : List NEnt → ByteArray → Option (Nat × Nat)
  | [], _ => none
  | q :: r, s => if s = q.name then some (q.kind, q.ref) else lookN r s
theorem look_ents (l : List NEnt) (s : ByteArray) : lookK (l.map entP) s = (lookN l s).map fun q => mtyV q.1 q.2 0 := by
  induction l with
  | nil => rfl
  | cons q r ih =>
    rw [List.map_cons]
    show (if s = q.name then some (mtyV q.kind q.ref 0) else lookK (r.map entP) s) = _
    rw [lookN]
    split
    · rfl
    · exact ih
def basicN : List NEnt :=
  [⟨⟨#[98, 111, 111, 108]⟩, 1, 0⟩, ⟨⟨#[105, 56]⟩, 2, 0⟩, ⟨⟨#[105, 49, 54]⟩, 3, 0⟩, ⟨⟨#[105, 51, 50]⟩, 4, 0⟩, ⟨⟨#[105, 54, 52]⟩, 5, 0⟩, ⟨⟨#[117, 56]⟩, 6, 0⟩, ⟨⟨#[117, 49, 54]⟩, 7, 0⟩, ⟨⟨#[117, 51, 50]⟩, 8, 0⟩, ⟨⟨#[117, 54, 52]⟩, 9, 0⟩,
   ⟨⟨#[116, 101, 120, 116]⟩, 11, 0⟩, ⟨⟨#[100, 97, 116, 97]⟩, 12, 0⟩, ⟨⟨#[108, 105, 115, 116]⟩, 0, 0⟩]
inductive MRes (α : Type) where
  | ok (a : α) : MRes α
  | no (code : Int) (place : Nat) : MRes α
def MRes.bind {α β : Type} (x : MRes α) (f : α → MRes β) : MRes β :=
  match x with
  | .ok a => f a
  | .no c p => .no c p
theorem mbind_ok {α β : Type} (a : α) (f : α → MRes β) : (MRes.ok a).bind f = f a := rfl
def hasS : List ByteArray → ByteArray → Bool
  | [], _ => false
  | a :: r, s => decide (s = a) || hasS r s
def dupFrom : List ByteArray → List ByteArray → Option Nat
  | _, [] => none
  | seen, s :: r => if hasS seen s = true then some seen.length else dupFrom (seen ++ [s]) r
def dup (l : List ByteArray) : Option Nat := dupFrom [] l
def tokT (t : Tok) : ByteArray := strOfNums t.text
def fldT (f : RField) : ByteArray := strOfNums f.name
def choM (i : Nat) (m : List NEnt) (x : RCho) : MRes (List NEnt) :=
  if (lookN m (strOfNums x.name)).isSome = true then .no 13 x.place
  else if i < 8 ∧ 1 ≤ x.names.length ∧ x.names.length ≤ 32 then
    match dup (x.names.map tokT) with
    | some k => .no 13 (x.names.getD k noTok).place
    | none => .ok (m ++ [⟨strOfNums x.name, 10, i⟩])
  else .no 16 x.place
def chosM : Nat → List NEnt → List RCho → MRes (List NEnt)
  | _, m, [] => .ok m
  | i, m, x :: r => (choM i m x).bind fun m' => chosM (i + 1) m' r
def recM (i : Nat) (m : List NEnt) (x : RRec) : MRes (List NEnt) :=
  if (lookN m (strOfNums x.name)).isSome = true then .no 13 x.place
  else if i < 16 ∧ 1 ≤ x.fields.length ∧ x.fields.length ≤ 16 then
    match dup (x.fields.map fldT) with
    | some k => .no 13 (x.fields.getD k noField).place
    | none => .ok (m ++ [⟨strOfNums x.name, 13, i⟩])
  else .no 16 x.place
def recsM : Nat → List NEnt → List RRec → MRes (List NEnt)
  | _, m, [] => .ok m
  | i, m, x :: r => (recM i m x).bind fun m' => recsM (i + 1) m' r
def idx : List ByteArray → ByteArray → Option Nat
  | [], _ => none
  | a :: r, s => if a = s then some 0 else (idx r s).map (· + 1)
def chooseM (w : Tok) (names : List ByteArray) : Option Nat := if w.kind = 1 then idx names (tokT w) else none
def falseTrue : List ByteArray := [⟨#[102, 97, 108, 115, 101]⟩, ⟨#[116, 114, 117, 101]⟩]
def chosenM (es : List RCho) (r : Nat) : List ByteArray := ((es.getD r ⟨[], 0, []⟩).names).map tokT
def valueM (es : List RCho) (k r ls : Nat) (w : Tok) : Option Nat :=
  if w.kind = 0 then some 0 else if ls ≠ 0 then none else if k = 1 then chooseM w falseTrue else if k = 10 then chooseM w (chosenM es r) else
    if w.kind = 2 then numV (bts (tokT w)) (kSize k) (kSign k) else none
def fieldM (m : List NEnt) (es : List RCho) (f : RField) : MRes SFld :=
  match lookN m (strOfNums f.ty.name) with
  | none => .no 14 f.ty.place
  | some q => if q.1 = 0 then .no 14 f.ty.place else
    match valueM es q.1 q.2 f.ty.lists f.dflt with
    | none => .no 15 f.dflt.place
    | some d => .ok ⟨strOfNums f.name, q.1, q.2, f.ty.lists, d⟩
def fldsM (m : List NEnt) (es : List RCho) : List RField → MRes (List SFld)
  | [] => .ok []
  | f :: r => (fieldM m es f).bind fun a => (fldsM m es r).bind fun l => .ok (a :: l)
def bodiesM (m : List NEnt) (es : List RCho) : List RRec → MRes (List SRec)
  | [] => .ok []
  | x :: r => (fldsM m es x.fields).bind fun a => (bodiesM m es r).bind fun l => .ok (⟨strOfNums x.name, a⟩ :: l)
def rootM (m : List NEnt) : List Tok → MRes Nat
  | [] => .no 17 0
  | [t] => match lookN m (tokT t) with
    | none => .no 17 t.place
    | some q => if q.1 = 13 then .ok q.2 else .no 17 t.place
  | _ :: t :: _ => .no 13 t.place
def choOut (x : RCho) : SCho := ⟨strOfNums x.name, x.names.map tokT⟩
def makeM (x : RRaw) : MRes Sch :=
  (chosM 0 basicN x.enums).bind fun m1 => (recsM 0 m1 x.structs).bind fun m => (bodiesM m x.enums x.structs).bind fun l => (rootM m x.roots).bind fun r => .ok ⟨l, x.enums.map choOut, r⟩
end Go.Proofs.YtdlfndjgncdgfaaGreatDoor
namespace Go.Proofs.YtdlfndjgncdgfaaGreatDoor
open Go.RowKit

def NGood (ne : Nat) (m : List NEnt) : Prop := ∀ q ∈ m, (q.kind = 10 → q.ref < ne) ∧ q.kind ≤ 13
theorem lookN_mem : ∀ (m : List NEnt) (s : ByteArray) (p : Nat × Nat), lookN m s = some p → ∃ q ∈ m, q.kind = p.1 ∧ q.ref = p.2
  | [], _, _, h => by cases h
  | q :: r, s, p, h => by
    rw [lookN] at h
    split at h
    · cases h
      exact ⟨q, List.mem_cons_self, rfl, rfl⟩
    · obtain ⟨q', h1, h2⟩ := lookN_mem r s p h
      exact ⟨q', List.mem_cons_of_mem _ h1, h2⟩
theorem NGood.look {ne : Nat} {m : List NEnt} (h : NGood ne m) (s : ByteArray) (p : Nat × Nat) (hp : lookN m s = some p) : (p.1 = 10 → p.2 < ne) ∧ p.1 ≤ 13 := by
  obtain ⟨q, h1, h2, h3⟩ := lookN_mem m s p hp
  rw [← h2, ← h3]
  exact h q h1
theorem NGood.snoc {ne : Nat} {m : List NEnt} (h : NGood ne m) {q : NEnt} (hq : (q.kind = 10 → q.ref < ne) ∧ q.kind ≤ 13) : NGood ne (m ++ [q]) := by
  intro p hp
  rcases List.mem_append.1 hp with hp | hp
  · exact h p hp
  · rw [List.mem_singleton.1 hp]
    exact hq
theorem basic_good (ne : Nat) : NGood ne basicN := by
  intro q hq
  simp [basicN] at hq
  rcases hq with rfl | rfl | rfl | rfl | rfl | rfl | rfl | rfl | rfl | rfl | rfl | rfl <;> exact ⟨by simp, by simp⟩
theorem choM_good {ne i : Nat} {m m' : List NEnt} {x : RCho} (h : NGood ne m) (hi : i < ne) (he : choM i m x = .ok m') : NGood ne m' := by
  unfold choM at he
  split at he
  · cases he
  · split at he
    · split at he
      · cases he
      · cases he
        exact h.snoc ⟨fun _ => hi, by simp⟩
    · cases he
theorem chosM_good : ∀ {ne i : Nat} {m m' : List NEnt} {l : List RCho}, NGood ne m → i + l.length ≤ ne → chosM i m l = .ok m' → NGood ne m'
  | _, _, _, _, [], h, _, he => by
    cases he
    exact h
  | ne, i, m, m', x :: r, h, hi, he => by
    rw [chosM] at he
    rw [List.length_cons] at hi
    cases hx : choM i m x with
    | no c p =>
      rw [hx] at he
      cases he
    | ok m1 =>
      rw [hx, mbind_ok] at he
      exact chosM_good (choM_good h (by omega) hx) (by omega) he
theorem recM_good {ne i : Nat} {m m' : List NEnt} {x : RRec} (h : NGood ne m) (he : recM i m x = .ok m') : NGood ne m' ∧ x.fields.length ≤ 16 := by
  unfold recM at he
  split at he
  · cases he
  · split at he
    · rename_i hc
      split at he
      · cases he
      · cases he
        exact ⟨h.snoc ⟨fun h => by simp at h, by simp⟩, hc.2.2⟩
    · cases he
theorem recsM_good : ∀ {ne i : Nat} {m m' : List NEnt} {l : List RRec}, NGood ne m → recsM i m l = .ok m' → NGood ne m' ∧ ∀ x ∈ l, x.fields.length ≤ 16
  | _, _, _, _, [], h, he => by
    cases he
    exact ⟨h, fun x hx => by cases hx⟩
  | ne, i, m, m', x :: r, h, he => by
    rw [recsM] at he
    cases hx : recM i m x with
    | no c p =>
      rw [hx] at he
      cases he
    | ok m1 =>
      rw [hx, mbind_ok] at he
      obtain ⟨h1, h2⟩ := recM_good h hx
      obtain ⟨h3, h4⟩ := recsM_good h1 he
      refine ⟨h3, fun y hy => ?_⟩
      rcases List.mem_cons.1 hy with rfl | hy
      · exact h2
      · exact h4 y hy
structure RawOk (x : RRaw) : Prop where
  en : ∀ e ∈ x.enums, e.name.length ≤ 100 ∧ ∀ t ∈ e.names, t.text.length ≤ 100
  st : ∀ s ∈ x.structs, s.name.length ≤ 100 ∧ ∀ f ∈ s.fields, f.dflt.text.length ≤ 281474976710656 ∧ f.name.length ≤ 281474976710656
end Go.Proofs.YtdlfndjgncdgfaaGreatDoor
namespace Go.Proofs.YtdlfndjgncdgfaaGreatDoor
open Go.RowKit

theorem lookN_memS : ∀ (m : List NEnt) (s : ByteArray) (p : Nat × Nat), lookN m s = some p → ∃ q ∈ m, q.kind = p.1 ∧ q.name = s
  | [], _, _, h => by cases h
  | q :: r, s, p, h => by
    rw [lookN] at h
    split at h
    · rename_i e
      cases h
      exact ⟨q, List.mem_cons_self, rfl, e.symm⟩
    · obtain ⟨q', h1, h2⟩ := lookN_memS r s p h
      exact ⟨q', List.mem_cons_of_mem _ h1, h2⟩
theorem hasS_append (a b : List ByteArray) (s : ByteArray) : hasS (a ++ b) s = (hasS a s || hasS b s) := by
  induction a with
  | nil => simp [hasS]
  | cons x r ih => simp [hasS, ih, Bool.or_assoc]
theorem lookN_has (m : List NEnt) (s : ByteArray) : (lookN m s).isSome = hasS (m.map NEnt.name) s := by
  induction m with
  | nil => rfl
  | cons q r ih =>
    rw [lookN, List.map_cons, hasS]
    by_cases h : s = q.name
    · simp [h]
    · simp [h, ih]
theorem look_append (a b : List NEnt) (s : ByteArray) : lookN (a ++ b) s = (lookN a s).or (lookN b s) := by
  induction a with
  | nil => simp [lookN]
  | cons q r ih =>
    simp only [List.cons_append, lookN]
    split
    · rfl
    · exact ih
def basicS : List ByteArray := basicN.map NEnt.name
def takenB (used : List ByteArray) (s : ByteArray) : Bool := hasS basicS s || hasS used s
def basicK (s : ByteArray) : Nat := match lookN basicN s with
  | some q => q.1
  | none => 0
def entsOf (kd : Nat) : Nat → List ByteArray → List NEnt
  | _, [] => []
  | i, s :: r => ⟨s, kd, i⟩ :: entsOf kd (i + 1) r
theorem look_ents_idx (kd : Nat) : ∀ (l : List ByteArray) (i : Nat) (s : ByteArray), lookN (entsOf kd i l) s = (idx l s).map fun k => (kd, i + k)
  | [], _, _ => rfl
  | a :: r, i, s => by
    rw [entsOf, lookN, idx]
    by_cases h : s = a
    · subst h
      simp
    · rw [if_neg h, if_neg (fun e => h e.symm), look_ents_idx kd r (i + 1) s]
      cases idx r s with
      | none => rfl
      | some k =>
        show some (kd, i + 1 + k) = some (kd, i + (k + 1))
        rw [Nat.add_assoc, Nat.add_comm 1 k]
theorem idx_mem : ∀ {l : List ByteArray} {s : ByteArray} {k : Nat}, idx l s = some k → s ∈ l ∧ k < l.length
  | [], _, _, h => by cases h
  | a :: r, s, k, h => by
    rw [idx] at h
    split at h
    · rename_i e
      cases h
      exact ⟨e ▸ List.mem_cons_self, by simp⟩
    · cases hr : idx r s with
      | none => rw [hr] at h; cases h
      | some j =>
        rw [hr] at h
        cases h
        obtain ⟨h1, h2⟩ := idx_mem hr
        exact ⟨List.mem_cons_of_mem _ h1, by simp; omega⟩
def kindD (es ss : List ByteArray) (s : ByteArray) : Option (Nat × Nat) :=
  if basicK s ≠ 0 then some (basicK s, 0) else match idx es s with
    | some k => some (10, k)
    | none => match idx ss s with
      | some k => some (13, k)
      | none => none
theorem basic_ref : ∀ s q, lookN basicN s = some q → q.2 = 0 ∧ q.1 ≠ 10 ∧ q.1 ≠ 13 := by
  intro s q h
  obtain ⟨p, hp, h1, h2⟩ := lookN_mem _ _ _ h
  simp [basicN] at hp
  rcases hp with rfl | rfl | rfl | rfl | rfl | rfl | rfl | rfl | rfl | rfl | rfl | rfl <;> (dsimp only at h1 h2; omega)
structure Named (m : List NEnt) (es ss : List ByteArray) : Prop where
  all : m = basicN ++ entsOf 10 0 es ++ entsOf 13 0 ss
  en : ∀ s ∈ es, lookN basicN s = none
  st : ∀ s ∈ ss, lookN basicN s = none ∧ idx es s = none
theorem Named.look {m : List NEnt} {es ss : List ByteArray} (h : Named m es ss) (s : ByteArray) : lookN m s = (lookN basicN s).or (((idx es s).map fun k => (10, k)).or ((idx ss s).map fun k => (13, k))) := by
  rw [h.all, List.append_assoc, look_append, look_append, look_ents_idx, look_ents_idx]
  simp
theorem Named.kind {m : List NEnt} {es ss : List ByteArray} (h : Named m es ss) (s : ByteArray) : kindD es ss s = (lookN m s).bind fun q => if q.1 = 0 then none else some q := by
  rw [h.look, kindD, basicK]
  cases hb : lookN basicN s with
  | some q =>
    obtain ⟨h2, h10, h13⟩ := basic_ref _ _ hb
    obtain ⟨k, r⟩ := q
    simp only at h2 h10 h13
    subst h2
    by_cases hk : k = 0
    · subst hk
      have he : idx es s = none := by
        cases hi : idx es s with
        | none => rfl
        | some j =>
          have := h.en s (idx_mem hi).1
          rw [hb] at this
          cases this
      have hs : idx ss s = none := by
        cases hi : idx ss s with
        | none => rfl
        | some j =>
          have := (h.st s (idx_mem hi).1).1
          rw [hb] at this
          cases this
      simp [he, hs]
    · simp [hk]
  | none =>
    cases idx es s with
    | some k => simp
    | none =>
      cases idx ss s with
      | some k => simp
      | none => simp
theorem Named.root {m : List NEnt} {es ss : List ByteArray} (h : Named m es ss) (s : ByteArray) :
    (match lookN m s with
      | none => (none : Option Nat)
      | some q => if q.1 = 13 then some q.2 else none) = idx ss s := by
  rw [h.look]
  cases hi : idx ss s with
  | some k =>
    obtain ⟨hb, he⟩ := h.st s (idx_mem hi).1
    simp [hb, he]
  | none =>
    cases hb : lookN basicN s with
    | some q =>
      obtain ⟨_, _, h13⟩ := basic_ref _ _ hb
      simp [h13]
    | none =>
      cases idx es s with
      | some k => simp
      | none => simp
/-! ### looked at one by one -/
theorem has_take_succ (l : List ByteArray) (s : ByteArray) (k : Nat) (hk : k < l.length) : hasS (l.take (k + 1)) s = (hasS (l.take k) s || decide (s = l[k])) := by
  rw [List.take_succ_eq_append_getElem hk, hasS_append]
  simp [hasS]
theorem has_take_true (l : List ByteArray) (s : ByteArray) (k : Nat) (hk : k < l.length) (h : l[k] = s) : hasS l s = true := by
  rw [← List.take_append_drop (k + 1) l, hasS_append, has_take_succ l s k hk]
  simp [h]
end Go.Proofs.YtdlfndjgncdgfaaGreatDoor
namespace Go.Proofs.YtdlfndjgncdgfaaGreatDoor
open Go.ChangeShapes Go.WideShapes Go.ChangeAt Go.RowKit Go.Shelf

theorem IsPlan.below {w W : World} {p : Plan} {a0 a1 : Option Addr} {n0 e0 n1 c1 : Nat} (h : IsPlan w p a0 n0 e0 a1 n1 c1) (hb : Below w.heap.size w W) : IsPlan W p a0 n0 e0 a1 n1 c1 := by
  refine ⟨h.e_len, h.s_len, h.e_cap, h.s_cap, h.rt, fun j hj => ?_, fun r hr => ?_⟩
  · obtain ⟨h1, b, off, h2, h3, h4⟩ := h.e_at j hj
    exact ⟨h1, b, off, h2, Nat.lt_of_lt_of_le h3 hb.size, (hb.cell (p := ⟨b, off + j, none⟩) h3).trans h4⟩
  · obtain ⟨b, off, a, n, c, h2, h3, h4, h5, h6, h7, h8⟩ := h.s_at r hr
    refine ⟨b, off, a, n, c, h2, Nat.lt_of_lt_of_le h3 hb.size, (hb.cell (p := ⟨b, off + r, none⟩) h3).trans h4, h5, h6, h7, fun k hk => ?_⟩
    obtain ⟨b', off', f, g1, g2, g3, x0, x1, x2, x3, x4, q⟩ := h8 k hk
    exact ⟨b', off', f, g1, g2, Nat.lt_of_lt_of_le g3 hb.size, (hb.cell (p := ⟨b', off' + k * 5, none⟩) g3).trans x0, (hb.cell (p := ⟨b', off' + k * 5 + 1, none⟩) g3).trans x1, (hb.cell (p := ⟨b', off' + k * 5 + 2, none⟩) g3).trans x2, (hb.cell (p := ⟨b', off' + k * 5 + 3, none⟩) g3).trans x3, (hb.cell (p := ⟨b', off' + k * 5 + 4, none⟩) g3).trans x4, q⟩
theorem blk4p {w : World} {g : Nat} {x y z u : Value} {t : TypeId} (h : w.heap[g]? = some (.cells #[x, y, z, u] t (0, 0))) :
    g < w.heap.size ∧ w.cell? ⟨g, 0, none⟩ = some x ∧ w.cell? ⟨g, 1, none⟩ = some y ∧ w.cell? ⟨g, 2, none⟩ = some z ∧ w.cell? ⟨g, 3, none⟩ = some u :=
  ⟨blk_lt h, (blk_cell h 0).trans rfl, (blk_cell h 1).trans rfl, (blk_cell h 2).trans rfl, (blk_cell h 3).trans rfl⟩
end Go.Proofs.YtdlfndjgncdgfaaGreatDoor
