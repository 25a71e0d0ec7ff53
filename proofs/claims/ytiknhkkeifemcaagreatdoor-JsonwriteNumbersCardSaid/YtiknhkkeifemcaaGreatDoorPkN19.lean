/-
  Views of values in memory: a kid that is a list, one that is a struct; a list's length, its elements that are structs. Conditions: those that each theorem names.
-/
import Derived.Test.YtiknhkkeifemcaaGreatDoorPkN3
import Derived.Test.YtiknhkkeifemcaaGreatDoorPkN7
import Derived.Test.YtiknhkkeifemcaaGreatDoorPkN8
import Derived.Test.YtiknhkkeifemcaaGreatDoorPkN13
import Derived.Test.YtiknhkkeifemcaaGreatDoorPkN15
import Derived.Test.YtiknhkkeifemcaaGreatDoorPkN16
import Derived.Deep.Cut
import Derived.IntWalk
import Derived.BigQuiet
import Derived.OwnWalk
namespace Go.Proofs.YtiknhkkeifemcaaGreatDoor
open Go.ChangeShapes Go.WideShapes Go.ChangeAt Go.RowKit Go.Shelf

structure CFld where
  name : ByteArray
  kind : Nat
  ref : Int
  lists : Int
  dflt : Nat
structure CRec where
  name : ByteArray
  fields : List CFld
def cfldCells (f : CFld) : List Value := [.string f.name, .int .u8 f.kind, .int .i64 f.ref, .int .i64 f.lists, .int .u64 f.dflt]
def cfldsCells (l : List CFld) : List Value := l.flatMap cfldCells
def crecCells (q : CRec × Value) : List Value := [.string q.1.name, q.2]
def crecsCells (l : List (CRec × Value)) : List Value := l.flatMap crecCells
structure CRows (base : Nat) (W : World) (ss : List (CRec × Value)) (es : List (SCho × Value)) (sv ev : Value) : Prop where
  structs : W.ownsRow base 63 2 sv ss.length (crecsCells ss)
  enums : W.ownsRow base 92 2 ev es.length (schosCells es)
  fields : ∀ q ∈ ss, W.ownsRow base 60 5 q.2 q.1.fields.length (cfldsCells q.1.fields)
  names : ∀ q ∈ es, W.ownsRow base 9 1 q.2 q.1.names.length (strsCells q.1.names)
theorem CRows.below {base : Nat} {W W' : World} {ss : List (CRec × Value)} {es : List (SCho × Value)} {sv ev : Value} (h : CRows base W ss es sv ev) (hb : Below W.heap.size W W') : CRows base W' ss es sv ev :=
  ⟨row_keep hb h.structs, row_keep hb h.enums, fun q hq => row_keep hb (h.fields q hq), fun q hq => row_keep hb (h.names q hq)⟩
theorem CRows.forms {base : Nat} {W : World} {ss : List (CRec × Value)} {es : List (SCho × Value)} {sv ev : Value} (h : CRows base W ss es sv ev) : ∃ sa sc ea ec, sv = .slice sa ss.length sc ∧ ev = .slice ea es.length ec := by
  obtain ⟨sa, sc, h1⟩ := ownsRow_form h.structs
  obtain ⟨ea, ec, h2⟩ := ownsRow_form h.enums
  exact ⟨sa, sc, ea, ec, h1, h2⟩
def cF (f : SFld) : CFld := ⟨f.name, f.kind, (f.ref : Nat), (f.lists : Nat), f.dflt⟩
def cR (r : SRec) : CRec := ⟨r.name, r.fields.map cF⟩
theorem cflds_eq (l : List SFld) : cfldsCells (l.map cF) = sfldsCells l := by
  unfold cfldsCells sfldsCells
  rw [List.flatMap_map]
  rfl
def numTB (k : Nat) (lists : Int) : Bool := decide (lists = 0) && decide (0 < kSize k)
def fitsT (es : List SCho) (k : Nat) (ref lists : Int) (n : Nat) : Bool :=
  if numTB k lists = false then false else if k = 1 then decide (n ≤ 1) else
    if k = 10 then decide (0 ≤ ref ∧ ref < es.length) && decide (n < (es.getD ref.toNat ⟨⟨#[]⟩, []⟩).names.length) else
      if kSign k = true then decide (sgnOf n (kSize k) = n) else decide (n / 2 ^ (8 * (kSize k).toNat) = 0)
end Go.Proofs.YtiknhkkeifemcaaGreatDoor
namespace Go.Proofs.YtiknhkkeifemcaaGreatDoor
open Go.ChangeShapes Go.WideShapes Go.ChangeAt Go.RowKit Go.Shelf

inductive PV where
  | mk (num : Nat) (bytes : List Int) (kids : List PV) (has : Bool)
def PV.num : PV → Nat | .mk n _ _ _ => n
def PV.bytes : PV → List Int | .mk _ b _ _ => b
def PV.kids : PV → List PV | .mk _ _ k _ => k
def PV.has : PV → Bool | .mk _ _ _ h => h
inductive IsV (w : World) : PV → Value → Prop
  | mk (n : Nat) (bs : List Int) (ks : List PV) (h : Bool) (ba ka : Option Addr) (bc kc kb ko : Nat) (c0 c1 c2 c3 : Nat → Value) (hn : n ≤ 18446744073709551615) (hb : Bytes w ba bs) (hbl : bs.length ≤ bc) (hbm : (bs.length : Int) ≤ 9223372036854775807)
      (hkl : ks.length ≤ kc) (hkm : (ks.length : Int) ≤ 9223372036854775807) (hka : ks.length ≠ 0 → ka = some ⟨kb, ko, none⟩)
      (hc : ∀ i, i < ks.length → w.cell? ⟨kb, ko + i * 4, none⟩ = some (c0 i) ∧ w.cell? ⟨kb, ko + i * 4 + 1, none⟩ = some (c1 i) ∧ w.cell? ⟨kb, ko + i * 4 + 2, none⟩ = some (c2 i) ∧ w.cell? ⟨kb, ko + i * 4 + 3, none⟩ = some (c3 i))
      (hk : ∀ i (hi : i < ks.length), IsV w (ks[i]'hi) (.agg #[c0 i, c1 i, c2 i, c3 i])) :
      IsV w (.mk n bs ks h) (.agg #[.int .u64 n, .slice ba bs.length bc, .slice ka ks.length kc, .bool h])
theorem cell_stays {w W : World} (h : Below w.heap.size w W) {p : Addr} {v : Value} (hp : w.cell? p = some v) : W.cell? p = some v := (h.cell (World.block_lt_of_cell? _ _ hp)).trans hp
theorem IsV.later {w W : World} {v : PV} {val : Value} (h : IsV w v val) (hb : Below w.heap.size w W) : IsV W v val := by
  induction h with
  | mk n bs ks h ba ka bc kc kb ko c0 c1 c2 c3 hn hbb hbl hbm hkl hkm hka hc _ ih =>
    exact .mk n bs ks h ba ka bc kc kb ko c0 c1 c2 c3 hn (hbb.below (Nat.le_refl _) hb) hbl hbm hkl hkm hka (fun i hi => by obtain ⟨h0, h1, h2, h3⟩ := hc i hi; exact ⟨cell_stays hb h0, cell_stays hb h1, cell_stays hb h2, cell_stays hb h3⟩) ih
theorem IsV.form {w : World} {v : PV} {val : Value} (h : IsV w v val) : ∃ (ba ka : Option Addr) (bc kc : Nat), val = .agg #[.int .u64 v.num, .slice ba v.bytes.length bc, .slice ka v.kids.length kc, .bool v.has] ∧ v.num ≤ 18446744073709551615 ∧ Bytes w ba v.bytes ∧ v.bytes.length ≤ bc ∧ (v.bytes.length : Int) ≤ 9223372036854775807 ∧ v.kids.length ≤ kc ∧ (v.kids.length : Int) ≤ 9223372036854775807 ∧
    ∀ i (hi : i < v.kids.length), ∃ (kb ko : Nat) (u0 u1 u2 u3 : Value), ka = some ⟨kb, ko, none⟩ ∧ w.cell? ⟨kb, ko + i * 4, none⟩ = some u0 ∧ w.cell? ⟨kb, ko + i * 4 + 1, none⟩ = some u1 ∧ w.cell? ⟨kb, ko + i * 4 + 2, none⟩ = some u2 ∧ w.cell? ⟨kb, ko + i * 4 + 3, none⟩ = some u3 ∧ IsV w (v.kids[i]'hi) (.agg #[u0, u1, u2, u3]) := by
  cases h with
  | mk n bs ks h ba ka bc kc kb ko c0 c1 c2 c3 hn hbb hbl hbm hkl hkm hka hc hk =>
    refine ⟨ba, ka, bc, kc, rfl, hn, hbb, hbl, hbm, hkl, hkm, fun i hi => ?_⟩
    obtain ⟨h0, h1, h2, h3⟩ := hc i hi
    exact ⟨kb, ko, _, _, _, _, hka (Nat.ne_of_gt (Nat.lt_of_le_of_lt (Nat.zero_le _) hi)), h0, h1, h2, h3, hk i hi⟩
def nilV : PV := .mk 0 [] [] false
theorem bytes_nil (w : World) : Bytes w none [] := ⟨fun i => by simp, fun h => absurd rfl h⟩
theorem isV_nil (w : World) : IsV w nilV (.agg #[.int .u64 0, .slice none 0 0, .slice none 0 0, .bool false]) :=
  .mk 0 [] [] false none none 0 0 0 0 (fun _ => .bool false) (fun _ => .bool false) (fun _ => .bool false) (fun _ => .bool false) (by decide) (bytes_nil w) (Nat.le_refl _) (by decide) (Nat.le_refl _) (by decide) (fun h => absurd rfl h) (fun i hi => absurd hi (Nat.not_lt_zero i)) (fun i hi => absurd hi (Nat.not_lt_zero i))
end Go.Proofs.YtiknhkkeifemcaaGreatDoor
namespace Go.Proofs.YtiknhkkeifemcaaGreatDoor
open Go.ChangeShapes Go.WideShapes Go.ChangeAt Go.RowKit Go.Shelf

def kidP (x : PV) (i : Int) : PV := if 0 ≤ i ∧ i < (x.kids.length : Int) then x.kids.getD i.toNat nilV else nilV
theorem kidP_no (x : PV) (i : Int) (h : ¬ (0 ≤ i ∧ i < (x.kids.length : Int))) : kidP x i = nilV := by unfold kidP; rw [if_neg h]
theorem kidP_at (x : PV) (i : Nat) (h : i < x.kids.length) : kidP x i = x.kids[i] := by
  unfold kidP
  rw [if_pos (by omega), List.getD, List.getElem?_eq_getElem (by simpa using h), Option.getD_some]
  rfl
theorem agg4_inj {a b c d a' b' c' d' : Value} (h : Value.agg #[a, b, c, d] = .agg #[a', b', c', d']) : a = a' ∧ b = b' ∧ c = c' ∧ d = d' := by
  injection h with h
  have e0 := congrArg (fun x : Array Value => x[0]?) h
  have e1 := congrArg (fun x : Array Value => x[1]?) h
  have e2 := congrArg (fun x : Array Value => x[2]?) h
  have e3 := congrArg (fun x : Array Value => x[3]?) h
  simp at e0 e1 e2 e3
  exact ⟨e0, e1, e2, e3⟩
theorem blk_set4 {w : World} {g : Nat} {x y z u : Value} {t : TypeId} (h : w.heap[g]? = some (.cells #[x, y, z, u] t (0, 0))) (x' y' z' u' : Value) :
    ((((w.setCell ⟨g, 0, none⟩ x').setCell ⟨g, 1, none⟩ y').setCell ⟨g, 2, none⟩ z').setCell ⟨g, 3, none⟩ u').heap[g]? = some (.cells #[x', y', z', u'] t (0, 0)) :=
  (blk_set (blk_set (blk_set (blk_set h 0 x') 1 y') 2 z') 3 u').trans rfl
theorem below_set4 {B : Nat} {a w : World} (h : Below B a w) {g : Nat} (hg : B ≤ g) (x y z u : Value) : Below B a ((((w.setCell ⟨g, 0, none⟩ x).setCell ⟨g, 1, none⟩ y).setCell ⟨g, 2, none⟩ z).setCell ⟨g, 3, none⟩ u) :=
  (((h.setCell (p := ⟨g, 0, none⟩) hg x).setCell (p := ⟨g, 1, none⟩) hg y).setCell (p := ⟨g, 2, none⟩) hg z).setCell (p := ⟨g, 3, none⟩) hg u
set_option maxHeartbeats 4000000 in
theorem kid_any (w : World) (x : PV) (val : Value) (hx : IsV w x val) (i : Int) :
    Calls Tryz.prog 263 #[val, .int .i64 i] w fun e w' => (∃ kv, e = .returned kv ∧ IsV w' (kidP x i) kv) ∧ Below w.heap.size w w' := by
  have HX := Lib.hid hx
  obtain ⟨ba, ka, bc, kc, rfl, hn, hby, hbl, hbm, hkl, hkm, hks⟩ := hx.form
  obtain ⟨hb, hq1, hq2⟩ := two_start w #[.int .u64 x.num, .slice ba x.bytes.length bc, .slice ka x.kids.length kc, .bool x.has] #[.int .u64 0, .slice none 0 0, .slice none 0 0, .bool false] 116 116
  have HB := Lib.hid hb
  have HQ2 := Lib.hid hq2
  obtain ⟨_, s0, s1, s2, s3⟩ := blk4p hq1
  obtain ⟨_, z0, z1, z2, z3⟩ := blk4p hq2
  have z4 := blk_frozen hq2 0
  have z5 := blk_frozen hq2 1
  have z6 := blk_frozen hq2 2
  have z7 := blk_frozen hq2 3
  clear hq1 hq2 hby hn hbl hbm hx
  by_cases h0 : i < 0
  · have HK := Lib.hid (kidP_no x i (by omega))
    clear hks hb
    go_enter Tryz.func263, Tryz.ntmps263
    go_upto_region 1 with (fail)
    generalize (w.alloc (.cells #[.int .u64 x.num, .slice ba x.bytes.length bc, .slice ka x.kids.length kc, .bool x.has] 116)).alloc (.cells #[.int .u64 0, .slice none 0 0, .slice none 0 0, .bool false] 116) = W0 at *
    go_wp2
    refine post_gen (fun Wf => Wf.heap[w.heap.size + 1]? = some (.cells #[.int .u64 0, .slice none 0 0, .slice none 0 0, .bool false] 116 (0, 0)) ∧ Below w.heap.size w Wf) ⟨?_, ?_⟩ ?_
    · exact blk_set4 HQ2.out _ _ _ _
    · exact below_set4 HB.out (Nat.le_succ _) _ _ _ _
    · rintro Wf ⟨e1, e2⟩
      obtain ⟨_, d0, d1, d2, d3⟩ := blk4p e1
      exact bodyPost_ret (v := .agg #[.int .u64 0, .slice none 0 0, .slice none 0 0, .bool false]) (by simp [results, Tryz.results263, go_sem, d0, d1, d2, d3]) rfl ⟨⟨_, rfl, by rw [HK.out]; exact isV_nil _⟩, e2⟩
  · obtain ⟨j, rfl⟩ := Int.eq_ofNat_of_zero_le (by omega : 0 ≤ i)
    by_cases h1 : x.kids.length ≤ j
    · have t1 : (x.kids.length : Int) ≤ (j : Int) := by omega
      have HK := Lib.hid (kidP_no x j (by omega))
      clear hks hb
      go_enter Tryz.func263, Tryz.ntmps263
      go_upto_region 1 with (fail)
      generalize (w.alloc (.cells #[.int .u64 x.num, .slice ba x.bytes.length bc, .slice ka x.kids.length kc, .bool x.has] 116)).alloc (.cells #[.int .u64 0, .slice none 0 0, .slice none 0 0, .bool false] 116) = W0 at *
      go_wp2
      refine post_gen (fun Wf => Wf.heap[w.heap.size + 1]? = some (.cells #[.int .u64 0, .slice none 0 0, .slice none 0 0, .bool false] 116 (0, 0)) ∧ Below w.heap.size w Wf) ⟨?_, ?_⟩ ?_
      · exact blk_set4 HQ2.out _ _ _ _
      · exact below_set4 HB.out (Nat.le_succ _) _ _ _ _
      · rintro Wf ⟨e1, e2⟩
        obtain ⟨_, d0, d1, d2, d3⟩ := blk4p e1
        exact bodyPost_ret (v := .agg #[.int .u64 0, .slice none 0 0, .slice none 0 0, .bool false]) (by simp [results, Tryz.results263, go_sem, d0, d1, d2, d3]) rfl ⟨⟨_, rfl, by rw [HK.out]; exact isV_nil _⟩, e2⟩
    · have t1 : ¬ (x.kids.length : Int) ≤ (j : Int) := by omega
      have hjl : j < x.kids.length := by omega
      have hji : (j : Int) < x.kids.length := by omega
      have hji0 : (0 : Int) ≤ (j : Int) := by omega
      have HK := Lib.hid (kidP_at x j hjl)
      obtain ⟨kb, ko, u0, u1, u2, u3, rfl, c0, c1, c2, c3, hiv⟩ := hks j hjl
      have HIV := Lib.hid hiv
      obtain ⟨q, hq⟩ : ∃ q, x.kids[j] = q := ⟨_, rfl⟩
      rw [hq] at HIV HK
      obtain ⟨ba', qa, bc', qc, hval, _⟩ := HIV.out.form
      obtain ⟨rfl, rfl, rfl, rfl⟩ := agg4_inj hval
      have g0 := cell_stays hb c0
      have g1 := cell_stays hb c1
      have g2 := cell_stays hb c2
      have g3 := cell_stays hb c3
      clear hks c0 c1 c2 c3 hiv hb hq hval
      go_enter Tryz.func263, Tryz.ntmps263
      go_upto_region 1 with (fail)
      generalize (w.alloc (.cells #[.int .u64 x.num, .slice ba x.bytes.length bc, .slice (some ⟨kb, ko, none⟩) x.kids.length kc, .bool x.has] 116)).alloc (.cells #[.int .u64 0, .slice none 0 0, .slice none 0 0, .bool false] 116) = W0 at *
      go_wp2
      refine post_gen (fun Wf => Wf.heap[w.heap.size + 1]? = some (.cells #[.int .u64 q.num, .slice ba' q.bytes.length bc', .slice qa q.kids.length qc, .bool q.has] 116 (0, 0)) ∧ Below w.heap.size w Wf) ⟨?_, ?_⟩ ?_
      · exact blk_set4 HQ2.out _ _ _ _
      · exact below_set4 HB.out (Nat.le_succ _) _ _ _ _
      · rintro Wf ⟨e1, e2⟩
        obtain ⟨_, d0, d1, d2, d3⟩ := blk4p e1
        exact bodyPost_ret (v := .agg #[.int .u64 q.num, .slice ba' q.bytes.length bc', .slice qa q.kids.length qc, .bool q.has]) (by simp [results, Tryz.results263, go_sem, d0, d1, d2, d3]) rfl ⟨⟨_, rfl, by rw [HK.out]; exact HIV.out.later e2⟩, e2⟩
end Go.Proofs.YtiknhkkeifemcaaGreatDoor
namespace Go.Proofs.YtiknhkkeifemcaaGreatDoor
open Go.ChangeShapes Go.WideShapes Go.ChangeAt Go.RowKit Go.Shelf

def viewI (val : Value) : Value := .iface 118 val
theorem fldV : ∀ (n : Int) (a b : Option Addr) (l c m e : Nat) (h : Bool) (W : World), (Instr.field 116 (.agg #[.int .u64 n, .slice a l c, .slice b m e, .bool h]) 0).run Tryz.prog W = .ok (.agg #[.int .u64 n, .slice a l c, .slice b m e, .bool h]) W := fun _ _ _ _ _ _ _ _ _ => by kernel_rfl
theorem fldA0 : ∀ (n : Int) (a b : Option Addr) (l c m e : Nat) (h : Bool) (W : World), (Instr.field 40 (.agg #[.int .u64 n, .slice a l c, .slice b m e, .bool h]) 0).run Tryz.prog W = .ok (.int .u64 n) W := fun _ _ _ _ _ _ _ _ _ => by kernel_rfl
theorem fldA1 : ∀ (n : Int) (a b : Option Addr) (l c m e : Nat) (h : Bool) (W : World), (Instr.field 40 (.agg #[.int .u64 n, .slice a l c, .slice b m e, .bool h]) 1).run Tryz.prog W = .ok (.slice a l c) W := fun _ _ _ _ _ _ _ _ _ => by kernel_rfl
set_option maxRecDepth 100000 in
set_option maxHeartbeats 4000000 in
theorem num_any (w : World) (x : PV) (val : Value) (hx : IsV w x val) (i : Int) :
    Calls Tryz.prog 262 #[val, .int .i64 i] w fun e w' => e = .returned (.int .u64 (kidP x i).num) ∧ Below w.heap.size w w' := by
  have HX := Lib.hid hx
  obtain ⟨ba, ka, bc, kc, rfl, hn, hby, hbl, hbm, hkl, hkm, hks⟩ := hx.form
  have hb := (Below.refl w.heap.size w).alloc (Nat.le_refl _) (.cells #[.int .u64 x.num, .slice ba x.bytes.length bc, .slice ka x.kids.length kc, .bool x.has] 116)
  have HB := Lib.hid hb
  obtain ⟨_, s0, s1, s2, s3⟩ := blk4p (heap_alloc_new w (.cells #[.int .u64 x.num, .slice ba x.bytes.length bc, .slice ka x.kids.length kc, .bool x.has] 116))
  have HK := Lib.hid (kid_any _ x _ (hx.later hb) i)
  clear hb hby hks hx HX hn hbl hbm hkl hkm
  generalize kidP x i = q at *
  go_enter Tryz.func262, Tryz.ntmps262
  go_upto_region 1 with (fail)
  generalize w.alloc (.cells #[.int .u64 x.num, .slice ba x.bytes.length bc, .slice ka x.kids.length kc, .bool x.has] 116) = W0 at *
  go_wp2_with fail
  refine HK.out.mono ?_
  rintro e W1 ⟨⟨kv, rfl, hkv⟩, hb1⟩
  have HB1 := Lib.hid (HB.out.trans (hb1.mono HB.out.size))
  obtain ⟨ba', ka', bc', kc', rfl, _⟩ := hkv.form
  clear hb1 hkv s0 s1 s2 s3 HK
  have f0 := fldV
  have f1 := fldA0
  go_wp2
  go_ret
  exact ⟨rfl, HB1.out⟩
theorem of_any (w : World) (x : PV) (val : Value) (hx : IsV w x val) :
    Calls Tryz.prog 27 #[val] w fun e w' => e = .returned (viewI val) ∧ Below w.heap.size w w' := by
  obtain ⟨ba, ka, bc, kc, rfl, hn, hby, hbl, hbm, hkl, hkm, hks⟩ := hx.form
  have hb := (Below.refl w.heap.size w).alloc (Nat.le_refl _) (.cells #[.int .u64 x.num, .slice ba x.bytes.length bc, .slice ka x.kids.length kc, .bool x.has] 40)
  have HB := Lib.hid hb
  obtain ⟨_, s0, s1, s2, s3⟩ := blk4p (heap_alloc_new w (.cells #[.int .u64 x.num, .slice ba x.bytes.length bc, .slice ka x.kids.length kc, .bool x.has] 40))
  clear hb hby hks hx hn hbl hbm hkl hkm
  go_enter Tryz.func27, Tryz.ntmps27
  go_upto_region 1 with (fail)
  generalize w.alloc (.cells #[.int .u64 x.num, .slice ba x.bytes.length bc, .slice ka x.kids.length kc, .bool x.has] 40) = W0 at *
  go_wp2
  go_ret
  exact ⟨rfl, HB.out⟩
end Go.Proofs.YtiknhkkeifemcaaGreatDoor
namespace Go.Proofs.YtiknhkkeifemcaaGreatDoor
open Go.ChangeShapes Go.WideShapes Go.ChangeAt Go.RowKit Go.Shelf

def sortP (k : Nat) (lists : Int) : Nat := if 0 < lists then 3 else if lists < 0 then 0 else if 0 < kSize k then 1 else if k = 11 ∨ k = 12 then 2 else if k = 13 then 4 else 0
def bareP (o : Nat) (v : PV) : Bool :=
  (decide (o = 1) || decide (v.num = 0)) && ((decide (o = 2) || decide (v.bytes.length = 0)) && (((decide (o = 3) || v.has) || decide (v.kids.length = 0)) && (decide (o = 4) || !v.has)))
def fieldsP (f : Nat → Int → Int → PV → Bool) : List CFld → List PV → Bool
  | [], _ => true
  | _ :: _, [] => false
  | x :: xs, v :: vs => f x.kind x.ref x.lists v && fieldsP f xs vs
def fitsV1 (ss : List CRec) (es : List SCho) (next : Option (Nat → Int → Int → PV → Bool)) (k : Nat) (ref lists : Int) (v : PV) : Bool :=
  bareP (sortP k lists) v &&
    (if sortP k lists = 1 then fitsT es k ref lists v.num
     else if sortP k lists = 2 then decide (k = 12) || decide (u8At v.bytes 0 < 0)
     else if sortP k lists = 3 then (match next with
       | none => decide (v.kids.length = 0)
       | some f => v.kids.all fun q => !(decide (sortP k (lists - 1) = 4) && !q.has) && f k ref (lists - 1) q)
     else if sortP k lists = 4 then !v.has || (match next with
       | none => false
       | some f => decide (0 ≤ ref ∧ ref < ss.length) && (decide (v.kids.length = (ss.getD ref.toNat ⟨⟨#[]⟩, []⟩).fields.length) && fieldsP f (ss.getD ref.toNat ⟨⟨#[]⟩, []⟩).fields v.kids))
     else false)
def fitsP (ss : List CRec) (es : List SCho) : Nat → Nat → Int → Int → PV → Bool
  | 0 => fitsV1 ss es none
  | r + 1 => fitsV1 ss es (some (fitsP ss es r))
end Go.Proofs.YtiknhkkeifemcaaGreatDoor
namespace Go.Proofs.YtiknhkkeifemcaaGreatDoor
open Go.ChangeShapes Go.WideShapes Go.ChangeAt Go.RowKit Go.Shelf

theorem sorts_any (k : Nat) (ref lists : Int) (w : World) :
    Calls Tryz.prog 59 #[.agg #[.int .u8 k, .int .i64 ref, .int .i64 lists]] w fun e w' => e = .returned (.int .i64 (sortP k lists : Nat)) ∧ Below w.heap.size w w' := by
  have h0 := heap_alloc_new w (.cells #[.int .u8 k, .int .i64 ref, .int .i64 lists] 47)
  have HB := Lib.hid ((Below.refl w.heap.size w).alloc (Nat.le_refl _) (.cells #[.int .u8 k, .int .i64 ref, .int .i64 lists] 47))
  obtain ⟨_, x0, x1, x2, _⟩ := blk3 h0
  obtain ⟨o, ho⟩ : ∃ o, sortP k lists = o := ⟨_, rfl⟩
  have HO := Lib.hid ho
  rw [ho]
  clear h0 ho
  by_cases h1 : 0 < lists
  · have HE : Hid (o = 3) := Lib.hid (by rw [← HO.out]; unfold sortP; rw [if_pos h1])
    obtain rfl := HE.out
    go_enter Tryz.func59, Tryz.ntmps59
    go_wp2
    go_ret
    exact ⟨rfl, HB.out⟩
  by_cases h2 : lists < 0
  · have HE : Hid (o = 0) := Lib.hid (by rw [← HO.out]; unfold sortP; rw [if_neg h1, if_pos h2])
    obtain rfl := HE.out
    go_enter Tryz.func59, Tryz.ntmps59
    go_wp2
    go_ret
    exact ⟨rfl, HB.out⟩
  have hz : Hid (sortP k lists = if 0 < kSize k then 1 else if k = 11 ∨ k = 12 then 2 else if k = 13 then 4 else 0) := Lib.hid (by unfold sortP; rw [if_neg h1, if_neg h2])
  go_enter Tryz.func59, Tryz.ntmps59
  go_wp2_with fail
  refine (wsize_any (k : Int) _).mono ?_
  rintro e W1 ⟨rfl, rfl⟩
  by_cases h3 : 0 < kSize (k : Int)
  · have HE : Hid (o = 1) := Lib.hid (by rw [← HO.out, hz.out, if_pos h3])
    obtain rfl := HE.out
    generalize kSize (k : Int) = z at *
    go_wp2
    go_ret
    exact ⟨rfl, HB.out⟩
  have hz2 : Hid (o = if k = 11 ∨ k = 12 then 2 else if k = 13 then 4 else 0) := Lib.hid (by rw [← HO.out, hz.out, if_neg h3])
  generalize kSize (k : Int) = z at *
  by_cases h11 : k = 11
  · have HE : Hid (o = 2) := Lib.hid (by rw [hz2.out, if_pos (.inl h11)])
    obtain rfl := HE.out
    subst h11
    go_wp2
    go_ret
    exact ⟨rfl, HB.out⟩
  have t11 : ((k : Int) == 11) = false := by simp; omega
  by_cases h12 : k = 12
  · have HE : Hid (o = 2) := Lib.hid (by rw [hz2.out, if_pos (.inr h12)])
    obtain rfl := HE.out
    subst h12
    go_wp2
    go_ret
    exact ⟨rfl, HB.out⟩
  have t12 : ((k : Int) == 12) = false := by simp; omega
  by_cases h13 : k = 13
  · have HE : Hid (o = 4) := Lib.hid (by rw [hz2.out, if_neg (by omega), if_pos h13])
    obtain rfl := HE.out
    subst h13
    go_wp2
    go_ret
    exact ⟨rfl, HB.out⟩
  have t13 : ((k : Int) == 13) = false := by simp; omega
  have HE : Hid (o = 0) := Lib.hid (by rw [hz2.out, if_neg (by omega), if_neg h13])
  obtain rfl := HE.out
  clear h11 h12 h13
  go_wp2
  go_ret
  exact ⟨rfl, HB.out⟩
theorem element_any (k : Nat) (ref lists : Int) (hl : -9223372036854775807 ≤ lists ∧ lists ≤ 9223372036854775807) (w : World) :
    Calls Tryz.prog 72 #[.agg #[.int .u8 k, .int .i64 ref, .int .i64 lists]] w fun e w' => e = .returned (.agg #[.int .u8 k, .int .i64 ref, .int .i64 (lists - 1)]) ∧ Below w.heap.size w w' := by
  obtain ⟨hb, hq1, hq2⟩ := two_start w #[.int .u8 k, .int .i64 ref, .int .i64 lists] #[.int .u8 0, .int .i64 0, .int .i64 0] 47 47
  have HB := Lib.hid hb
  have HQ1 := Lib.hid hq1
  have HQ2 := Lib.hid hq2
  have hw := IntWalk.i64_in (lists - 1) (by omega)
  clear hb hq1 hq2
  go_enter Tryz.func72, Tryz.ntmps72
  go_upto_region 1 with (fail)
  generalize (w.alloc (.cells #[.int .u8 k, .int .i64 ref, .int .i64 lists] 47)).alloc (.cells #[.int .u8 0, .int .i64 0, .int .i64 0] 47) = W1 at *
  have hAB : w.heap.size ≠ w.heap.size + 1 := by omega
  have HAB := Lib.hid hAB
  generalize hBe : w.heap.size + 1 = B at *
  have hBl : w.heap.size ≤ B := by omega
  have HBL := Lib.hid hBl
  clear hBe hBl
  obtain ⟨_, a0, a1, a2, f0, f1, f2⟩ := blk3 HQ1.out
  have HQ3 := Lib.hid ((blk_set HQ1.out 2 (.int .i64 (lists - 1))).trans rfl)
  have HQ4 := Lib.hid (blk_set_ne HQ2.out (p := ⟨w.heap.size, 2, none⟩) HAB.out (.int .i64 (lists - 1)))
  have HB3 := Lib.hid (HB.out.setCell (p := ⟨w.heap.size, 2, none⟩) (Nat.le_refl _) (.int .i64 (lists - 1)))
  go_upto_region 2 with (fail)
  generalize W1.setCell ⟨w.heap.size, 2, none⟩ (.int .i64 (lists - 1)) = W2 at *
  clear a0 a1 a2 f0 f1 f2 hAB
  obtain ⟨_, a0, a1, a2, _⟩ := blk3 HQ3.out
  obtain ⟨_, b0, b1, b2, f0, f1, f2⟩ := blk3 HQ4.out
  go_wp2
  refine post_gen (fun Wf => Wf.heap[B]? = some (.cells #[.int .u8 k, .int .i64 ref, .int .i64 (lists - 1)] 47 (0, 0)) ∧ Below w.heap.size w Wf) ⟨blk_set3 HQ4.out _ _ _, ((HB3.out.setCell (p := ⟨B, 0, none⟩) HBL.out _).setCell (p := ⟨B, 1, none⟩) HBL.out _).setCell (p := ⟨B, 2, none⟩) HBL.out _⟩ ?_
  rintro Wf ⟨e1, e2⟩
  obtain ⟨_, c0, c1, c2, _⟩ := blk3 e1
  exact bodyPost_ret (v := .agg #[.int .u8 k, .int .i64 ref, .int .i64 (lists - 1)]) (by simp [results, Tryz.results72, go_sem, c0, c1, c2]) rfl ⟨rfl, e2⟩
end Go.Proofs.YtiknhkkeifemcaaGreatDoor
namespace Go.Proofs.YtiknhkkeifemcaaGreatDoor
open Go.ChangeShapes Go.WideShapes Go.ChangeAt Go.RowKit Go.Shelf

def hideW (S : Nat → Bool) (w : World) : World := { w with heap := w.heap.mapIdx fun i o => if S i = true then .cells #[] 40 (0, 0) else o }
theorem hide_size (S : Nat → Bool) (w : World) : (hideW S w).heap.size = w.heap.size := by simp [hideW]
theorem hide_block (S : Nat → Bool) (w : World) (k : Nat) (h : S k = false) : (hideW S w).heap[k]? = w.heap[k]? := by
  simp [hideW, Array.getElem?_mapIdx, h]
theorem hide_cell (S : Nat → Bool) (w : World) (p : Addr) (h : S p.block = false) : (hideW S w).cell? p = w.cell? p := World.cell?_of_block (hide_block S w _ h)
theorem hide_none (S : Nat → Bool) (w : World) (p : Addr) (h : S p.block = true) : (hideW S w).cell? p = none := by
  unfold World.cell? hideW
  simp only [Array.getElem?_mapIdx]
  cases w.heap[p.block]? with
  | none => rfl
  | some o => simp [h]
theorem hide_some {S : Nat → Bool} {w : World} {p : Addr} {x : Value} (h : (hideW S w).cell? p = some x) : S p.block = false ∧ w.cell? p = some x := by
  cases hs : S p.block with
  | false => exact ⟨rfl, (hide_cell S w p hs) ▸ h⟩
  | true => rw [hide_none S w p hs] at h; cases h
theorem Bytes.mono {w W : World} {p : Option Addr} {zs : List Int} (hs : w.heap.size ≤ W.heap.size) (hc : ∀ p x, w.cell? p = some x → W.cell? p = some x) (h : Bytes w p zs) : Bytes W p zs := by
  refine ⟨h.1, fun hne => ?_⟩
  obtain ⟨b, off, rfl, hlt, hcell⟩ := h.2 hne
  exact ⟨b, off, rfl, Nat.lt_of_lt_of_le hlt hs, fun i hi => hc _ _ (hcell i hi)⟩
theorem IsV.mono {w W : World} {v : PV} {val : Value} (h : IsV w v val) (hs : w.heap.size ≤ W.heap.size) (hc : ∀ p x, w.cell? p = some x → W.cell? p = some x) : IsV W v val := by
  induction h with
  | mk n bs ks h ba ka bc kc kb ko c0 c1 c2 c3 hn hbb hbl hbm hkl hkm hka hcc _ ih =>
    exact .mk n bs ks h ba ka bc kc kb ko c0 c1 c2 c3 hn (hbb.mono hs hc) hbl hbm hkl hkm hka (fun i hi => by obtain ⟨h0, h1, h2, h3⟩ := hcc i hi; exact ⟨hc _ _ h0, hc _ _ h1, hc _ _ h2, hc _ _ h3⟩) ih
def VH (S : Nat → Bool) (w : World) (v : PV) (val : Value) : Prop := IsV (hideW S w) v val
theorem VH.out {S : Nat → Bool} {w : World} {v : PV} {val : Value} (h : VH S w v val) : IsV w v val :=
  IsV.mono h (by rw [hide_size]; exact Nat.le_refl _) (fun _ _ h => (hide_some h).2)
theorem VH.step {S S' : Nat → Bool} {w W : World} {v : PV} {val : Value} (h : VH S w v val) (hs : w.heap.size ≤ W.heap.size) (hb : ∀ k, k < w.heap.size → S k = false → S' k = false ∧ W.heap[k]? = w.heap[k]?) : VH S' W v val :=
  IsV.mono h (by rw [hide_size, hide_size]; exact hs) (fun p x hx => by
    obtain ⟨h1, h2⟩ := hide_some hx
    obtain ⟨h3, h4⟩ := hb p.block (World.block_lt_of_cell? _ _ h2) h1
    rw [hide_cell S' W p h3, World.cell?_of_block h4]
    exact h2)
theorem VH.alloc {S : Nat → Bool} {w : World} {v : PV} {val : Value} (h : VH S w v val) (o : Obj) : VH S (w.alloc o) v val :=
  h.step (by simp) (fun k hk hs => ⟨hs, by rw [World.alloc]; simp [Array.getElem?_push, Nat.ne_of_lt hk]⟩)
theorem VH.below {S : Nat → Bool} {w W : World} {v : PV} {val : Value} (h : VH S w v val) (hb : Below w.heap.size w W) : VH S W v val := h.step hb.size (fun k hk hs => ⟨hs, hb.block k hk⟩)
theorem VH.exc {S : Nat → Bool} {w W : World} {v : PV} {val : Value} {R : Nat} (h : VH S w v val) (hb : Exc R w.heap.size w W) (hR : S R = true) : VH S W v val :=
  h.step hb.size (fun k hk hs => ⟨hs, hb.block k hk (fun e => by subst e; rw [hR] at hs; cases hs)⟩)
theorem vh_nil (S : Nat → Bool) (w : World) : VH S w nilV (.agg #[.int .u64 0, .slice none 0 0, .slice none 0 0, .bool false]) := isV_nil _
end Go.Proofs.YtiknhkkeifemcaaGreatDoor
namespace Go.Proofs.YtiknhkkeifemcaaGreatDoor
open Go.ChangeShapes Go.WideShapes Go.ChangeAt Go.RowKit Go.Shelf
def KidsAt (w : World) (ks : List PV) (ka : Option Addr) : Prop := ∀ i (hi : i < ks.length), ∃ (kb ko : Nat) (u0 u1 u2 u3 : Value), ka = some ⟨kb, ko, none⟩ ∧ w.cell? ⟨kb, ko + i * 4, none⟩ = some u0 ∧ w.cell? ⟨kb, ko + i * 4 + 1, none⟩ = some u1 ∧ w.cell? ⟨kb, ko + i * 4 + 2, none⟩ = some u2 ∧ w.cell? ⟨kb, ko + i * 4 + 3, none⟩ = some u3 ∧ IsV w (ks[i]'hi) (.agg #[u0, u1, u2, u3])
theorem KidsAt.later {w W : World} {ks : List PV} {ka : Option Addr} (h : KidsAt w ks ka) (hb : Below w.heap.size w W) : KidsAt W ks ka := fun i hi => by
  obtain ⟨kb, ko, u0, u1, u2, u3, h1, h2, h3, h4, h5, h6⟩ := h i hi
  exact ⟨kb, ko, u0, u1, u2, u3, h1, cell_stays hb h2, cell_stays hb h3, cell_stays hb h4, cell_stays hb h5, h6.later hb⟩
def kidOk (ss : List CRec) (es : List SCho) (room k : Nat) (ref lists : Int) (q : PV) : Bool := !decide (room = 0) && (!(decide (sortP k lists = 4) && !q.has) && fitsP ss es (room - 1) k ref lists q)
end Go.Proofs.YtiknhkkeifemcaaGreatDoor
namespace Go.Proofs.YtiknhkkeifemcaaGreatDoor
open Go.ChangeShapes Go.WideShapes Go.ChangeAt Go.RowKit Go.Shelf

def cntE (es : List SCho) (ref : Nat) : Nat := (es.getD ref ⟨⟨#[]⟩, []⟩).names.length
structure NumTy (es : List SCho) (kind ref : Nat) : Prop where
  lo : 1 ≤ kind
  hi : kind ≤ 10
  en : kind = 10 → ref < es.length ∧ 1 ≤ cntE es ref
theorem sgn_keep (M m : Int) (hM : M = 128 ∨ M = 32768 ∨ M = 2147483648) (h0 : 0 ≤ m) (h1 : m < 2 * M) : sgn M (sgn M m).toNat = (sgn M m).toNat := by
  unfold sgn
  rcases hM with rfl | rfl | rfl
  all_goals
    rw [Int.emod_eq_of_lt h0 h1]
    split
    · rw [Int.toNat_of_nonneg h0, Int.emod_eq_of_lt h0 h1]
      split <;> omega
    · rw [Int.toNat_of_nonneg (by omega)]
      split <;> omega
theorem fits_signed (es : List SCho) (k : Nat) (ref : Int) (x : Nat) (h1 : numTB k 0 = true) (h2 : k ≠ 1) (h3 : k ≠ 10) (h4 : kSign k = true) : fitsT es k ref 0 x = decide (sgnOf x (kSize k) = x) := by
  unfold fitsT
  rw [if_neg (by rw [h1]; decide), if_neg h2, if_neg h3, if_pos h4]
theorem num_fits {es : List SCho} {kind ref n : Nat} (h : NumTy es kind ref) (hn : n ≤ 18446744073709551615) : fitsT es kind ref 0 (numP (cntE es ref) kind n) = true := by
  obtain ⟨h1, h2, h3⟩ := h
  have hk : kind = 1 ∨ kind = 2 ∨ kind = 3 ∨ kind = 4 ∨ kind = 5 ∨ kind = 6 ∨ kind = 7 ∨ kind = 8 ∨ kind = 9 ∨ kind = 10 := by omega
  obtain ⟨p1, p2, p3, p4, p5, p6, p7, p8⟩ := number_plain (cntE es ref) n
  rcases hk with rfl | rfl | rfl | rfl | rfl | rfl | rfl | rfl | rfl | rfl
  · show decide (n % 2 ≤ 1) = true
    exact decide_eq_true (by omega)
  · rw [p1]
    have hs : ∀ z, sgnOf z 1 = sgn 128 z := fun z => by unfold sgnOf; simp
    have hm : (0 : Int) ≤ (n % 256 : Nat) ∧ ((n % 256 : Nat) : Int) < 2 * 128 := by omega
    rw [hs]
    generalize ((n % 256 : Nat) : Int) = m at *
    have hkp := sgn_keep 128 m (.inl rfl) hm.1 hm.2
    generalize (sgn 128 m).toNat = x at *
    rw [fits_signed es 2 ref x (by decide) (by decide) (by decide) (by decide), show kSize ((2 : Nat) : Int) = 1 by decide, hs]
    exact decide_eq_true hkp
  · rw [p2]
    have hs : ∀ z, sgnOf z 2 = sgn 32768 z := fun z => by unfold sgnOf; simp
    have hm : (0 : Int) ≤ (n % 65536 : Nat) ∧ ((n % 65536 : Nat) : Int) < 2 * 32768 := by omega
    rw [hs]
    generalize ((n % 65536 : Nat) : Int) = m at *
    have hkp := sgn_keep 32768 m (.inr (.inl rfl)) hm.1 hm.2
    generalize (sgn 32768 m).toNat = x at *
    rw [fits_signed es 3 ref x (by decide) (by decide) (by decide) (by decide), show kSize ((3 : Nat) : Int) = 2 by decide, hs]
    exact decide_eq_true hkp
  · rw [p3]
    have hs : ∀ z, sgnOf z 4 = sgn 2147483648 z := fun z => by unfold sgnOf; simp
    have hm : (0 : Int) ≤ (n % 4294967296 : Nat) ∧ ((n % 4294967296 : Nat) : Int) < 2 * 2147483648 := by omega
    rw [hs]
    generalize ((n % 4294967296 : Nat) : Int) = m at *
    have hkp := sgn_keep 2147483648 m (.inr (.inr rfl)) hm.1 hm.2
    generalize (sgn 2147483648 m).toNat = x at *
    rw [fits_signed es 4 ref x (by decide) (by decide) (by decide) (by decide), show kSize ((4 : Nat) : Int) = 4 by decide, hs]
    exact decide_eq_true hkp
  · show decide (sgnOf _ 8 = _) = true
    exact decide_eq_true (sgnOf_else _ 8 (by decide) (by decide) (by decide))
  · rw [p5]
    show decide ((n % 256) / 256 = 0) = true
    exact decide_eq_true (by omega)
  · rw [p6]
    show decide ((n % 65536) / 65536 = 0) = true
    exact decide_eq_true (by omega)
  · rw [p7]
    show decide ((n % 4294967296) / 4294967296 = 0) = true
    exact decide_eq_true (by omega)
  · rw [p8]
    show decide (n / 18446744073709551616 = 0) = true
    exact decide_eq_true (by omega)
  · obtain ⟨h4, h5⟩ := h3 rfl
    show (decide (0 ≤ (ref : Int) ∧ (ref : Int) < es.length) && decide (n % cntE es ref < (es.getD (ref : Int).toNat ⟨⟨#[]⟩, []⟩).names.length)) = true
    rw [decide_eq_true ⟨by omega, by omega⟩, Int.toNat_natCast]
    exact decide_eq_true (Nat.mod_lt _ h5)
end Go.Proofs.YtiknhkkeifemcaaGreatDoor
namespace Go.Proofs.YtiknhkkeifemcaaGreatDoor
open Go.ChangeShapes Go.WideShapes Go.ChangeAt Go.RowKit Go.Shelf

def itemsI (val : Value) : Value := .iface 326 val
set_option maxRecDepth 100000 in
set_option maxHeartbeats 4000000 in
theorem vlen_any (w : World) (x : PV) (val : Value) (hx : IsV w x val) :
    Calls Tryz.prog 281 #[val] w fun e w' => e = .returned (.int .i64 x.kids.length) ∧ Below w.heap.size w w' := by
  obtain ⟨ba, ka, bc, kc, rfl, hn, hby, hbl, hbm, hkl, hkm, hks⟩ := hx.form
  have hb := (Below.refl w.heap.size w).alloc (Nat.le_refl _) (.cells #[.int .u64 x.num, .slice ba x.bytes.length bc, .slice ka x.kids.length kc, .bool x.has] 326)
  have HB := Lib.hid hb
  obtain ⟨_, s0, s1, s2, s3⟩ := blk4p (heap_alloc_new w (.cells #[.int .u64 x.num, .slice ba x.bytes.length bc, .slice ka x.kids.length kc, .bool x.has] 326))
  clear hb hby hks hx hn hbl hbm hkl
  go_enter Tryz.func281, Tryz.ntmps281
  go_upto_region 1 with (fail)
  generalize w.alloc (.cells #[.int .u64 x.num, .slice ba x.bytes.length bc, .slice ka x.kids.length kc, .bool x.has] 326) = W0 at *
  go_wp2
  go_ret
  exact ⟨rfl, HB.out⟩
end Go.Proofs.YtiknhkkeifemcaaGreatDoor
