/-
  The package schema's named, labelled, free: may a text be a name, a label, a struct's or an enum's name? Conditions: those that each theorem names; the library's tables hold what the row lists.
-/
import Derived.Test.YtdlfndjgncdgfaaGreatDoorPkS2
import Derived.Test.YtdlfndjgncdgfaaGreatDoorPkS7
import Derived.Test.YtdlfndjgncdgfaaGreatDoorPkS11
import Derived.Test.YtdlfndjgncdgfaaGreatDoorPkS14
import Derived.Test.YtdlfndjgncdgfaaGreatDoorPkS21
import Derived.Test.YtdlfndjgncdgfaaGreatDoorPkS25
import Derived.Test.YtdlfndjgncdgfaaGreatDoorPkS31
import Derived.Deep.QuietTactic
import Derived.BigQuiet
namespace Go.Proofs.YtdlfndjgncdgfaaGreatDoor
open Go.ChangeShapes Go.WideShapes Go.ChangeAt Go.RowKit Go.Shelf

structure CFld where
  name : ByteArray
  kind : Nat
  ref : Int
  lists : Int
  dflt : Nat
structure CRec where
  name : ByteArray
  fields : List CFld
structure CSch where
  structs : List CRec
  enums : List SCho
  root : Int
def cfldCells (f : CFld) : List Value := [.string f.name, .int .u8 f.kind, .int .i64 f.ref, .int .i64 f.lists, .int .u64 f.dflt]
def cfldsCells (l : List CFld) : List Value := l.flatMap cfldCells
def crecCells (q : CRec × Value) : List Value := [.string q.1.name, q.2]
def crecsCells (l : List (CRec × Value)) : List Value := l.flatMap crecCells
structure CRows (base : Nat) (W : World) (ss : List (CRec × Value)) (es : List (SCho × Value)) (sv ev : Value) : Prop where
  structs : W.ownsRow base 54 2 sv ss.length (crecsCells ss)
  enums : W.ownsRow base 57 2 ev es.length (schosCells es)
  fields : ∀ q ∈ ss, W.ownsRow base 51 5 q.2 q.1.fields.length (cfldsCells q.1.fields)
  names : ∀ q ∈ es, W.ownsRow base 9 1 q.2 q.1.names.length (strsCells q.1.names)
theorem CRows.below {base : Nat} {W W' : World} {ss : List (CRec × Value)} {es : List (SCho × Value)} {sv ev : Value} (h : CRows base W ss es sv ev) (hb : Below W.heap.size W W') : CRows base W' ss es sv ev :=
  ⟨row_keep hb h.structs, row_keep hb h.enums, fun q hq => row_keep hb (h.fields q hq), fun q hq => row_keep hb (h.names q hq)⟩
theorem CRows.forms {base : Nat} {W : World} {ss : List (CRec × Value)} {es : List (SCho × Value)} {sv ev : Value} (h : CRows base W ss es sv ev) : ∃ sa sc ea ec, sv = .slice sa ss.length sc ∧ ev = .slice ea es.length ec := by
  obtain ⟨sa, sc, h1⟩ := ownsRow_form h.structs
  obtain ⟨ea, ec, h2⟩ := ownsRow_form h.enums
  exact ⟨sa, sc, ea, ec, h1, h2⟩
def cF (f : SFld) : CFld := ⟨f.name, f.kind, (f.ref : Nat), (f.lists : Nat), f.dflt⟩
def cR (r : SRec) : CRec := ⟨r.name, r.fields.map cF⟩
theorem cflds_eq (l : List SFld) : cfldsCells (l.map cF) = sfldsCells l := by
  unfold cfldsCells sfldsCells
  rw [List.flatMap_map]
  rfl
theorem crecs_eq (l : List (SRec × Value)) : crecsCells (l.map fun q => (cR q.1, q.2)) = srecsCells l := by
  unfold crecsCells srecsCells
  rw [List.flatMap_map]
  rfl
theorem SchRows.crows {base : Nat} {W : World} {ss : List (SRec × Value)} {es : List (SCho × Value)} {sv ev : Value} (h : SchRows base W ss es sv ev) : CRows base W (ss.map fun q => (cR q.1, q.2)) es sv ev := by
  refine ⟨by rw [crecs_eq, List.length_map]; exact h.structs, h.enums, fun q hq => ?_, h.names⟩
  obtain ⟨p, hp, rfl⟩ := List.mem_map.1 hq
  show W.ownsRow base _ 5 p.2 (p.1.fields.map cF).length (cfldsCells (p.1.fields.map cF))
  rw [cflds_eq, List.length_map]
  exact h.fields p hp
/-! ### plain -/
def aloneB (s : ByteArray) (k : Int) (x : ByteArray) : Bool :=
  decide ((toks okU (amg ⟨#[]⟩) (bts s)).2.1 = 0) && (decide ((toks okU (amg ⟨#[]⟩) (bts s)).1.length = 2) && decide (((toks okU (amg ⟨#[]⟩) (bts s)).1.getD 0 noTok).kind = k ∧ tokT ((toks okU (amg ⟨#[]⟩) (bts s)).1.getD 0 noTok) = x ∧ ((toks okU (amg ⟨#[]⟩) (bts s)).1.getD 0 noTok).place = 0))
def namedB (s : ByteArray) : Bool := decide (s.size ≤ 40) && aloneB s 1 s
def quoteB (s : ByteArray) : ByteArray := ⟨#[34]⟩ ++ s ++ ⟨#[34]⟩
def labelB (s : ByteArray) : Bool := decide (0 < s.size) && (decide (s.size ≤ 40) && aloneB (quoteB s) 3 s)
def freeB (s : ByteArray) : Bool := namedB s && !(lookN basicN s).isSome
def numTB (k : Nat) (lists : Int) : Bool := decide (lists = 0) && decide (0 < kSize k)
def fitsT (es : List SCho) (k : Nat) (ref lists : Int) (n : Nat) : Bool :=
  if numTB k lists = false then false else if k = 1 then decide (n ≤ 1) else
    if k = 10 then decide (0 ≤ ref ∧ ref < es.length) && decide (n < (es.getD ref.toNat ⟨⟨#[]⟩, []⟩).names.length) else
      if kSign k = true then decide (sgnOf n (kSize k) = n) else decide (n / 2 ^ (8 * (kSize k).toNat) = 0)
def typedB (ns ne k : Nat) (ref lists : Int) : Bool :=
  if lists < 0 ∨ 3 < lists then false else if k = 10 then decide (0 ≤ ref ∧ ref < (ne : Int)) else if k = 13 then decide (0 ≤ ref ∧ ref < (ns : Int)) else decide (1 ≤ k) && (decide (k < 13) && decide (ref = 0))
def fieldB (ns : Nat) (es : List SCho) (f : CFld) : Bool :=
  labelB f.name && (typedB ns es.length f.kind f.ref f.lists && if numTB f.kind f.lists = true then fitsT es f.kind f.ref f.lists f.dflt else decide (f.dflt = 0))
def recordB (ns : Nat) (es : List SCho) (r : CRec) : Bool := decide (1 ≤ r.fields.length ∧ r.fields.length ≤ 16) && (r.fields.all (fieldB ns es) && decide (dup (r.fields.map CFld.name) = none))
def choiceB (c : SCho) : Bool := decide (1 ≤ c.names.length ∧ c.names.length ≤ 32) && (c.names.all namedB && decide (dup c.names = none))
def namesC (ss : List CRec) (es : List SCho) : List ByteArray := es.map SCho.name ++ ss.map CRec.name
def checkB (S : CSch) : Bool :=
  if ¬ (1 ≤ S.structs.length ∧ S.structs.length ≤ 16) ∨ 8 < S.enums.length ∨ ¬ (0 ≤ S.root ∧ S.root < (S.structs.length : Int)) then false else
    (namesC S.structs S.enums).all freeB && (decide (dup (namesC S.structs S.enums) = none) && (S.enums.all choiceB && S.structs.all (recordB S.structs.length S.enums)))
end Go.Proofs.YtdlfndjgncdgfaaGreatDoor
namespace Go.Proofs.YtdlfndjgncdgfaaGreatDoor
open Go.ChangeShapes Go.WideShapes Go.ChangeAt Go.RowKit Go.Shelf

set_option maxRecDepth 100000 in
set_option maxHeartbeats 4000000 in
theorem alone_any (s : ByteArray) (k : Int) (x : ByteArray) (w : World) (hT : Tabs w) (hs : s.size ≤ 9223372036854775807) :
    Calls Tryz.prog 91 #[.string s, .agg #[.int .i64 k, .string x, .int .i64 0]] w fun e w' => e = .returned (.bool (aloneB s k x)) ∧ Below w.heap.size w w' := by
  have HB := Lib.hid ((Below.refl w.heap.size w).alloc (Nat.le_refl _) (.cells #[.int .i64 k, .string x, .int .i64 0] 108))
  have HN := Lib.hid (heap_alloc_new w (.cells #[.int .i64 k, .string x, .int .i64 0] 108))
  have HA : Hid (aloneB s k x = (decide ((toks okU (amg ⟨#[]⟩) (bts s)).2.1 = 0) && (decide ((toks okU (amg ⟨#[]⟩) (bts s)).1.length = 2) && decide (((toks okU (amg ⟨#[]⟩) (bts s)).1.getD 0 noTok).kind = k ∧ tokT ((toks okU (amg ⟨#[]⟩) (bts s)).1.getD 0 noTok) = x ∧ ((toks okU (amg ⟨#[]⟩) (bts s)).1.getD 0 noTok).place = 0)))) := Lib.hid rfl
  generalize aloneB s k x = res at *
  have HT := Lib.hid hT
  clear hT
  go_enter Tryz.func91, Tryz.ntmps91
  go_upto_region 1 with (fail)
  generalize w.alloc (.cells #[.int .i64 k, .string x, .int .i64 0] 108) = W0 at *
  go_wp2_with fail
  refine (lexTokens_any s ⟨#[]⟩ W0 (HT.out.below (Nat.le_refl _) HB.out) hs).mono ?_
  rintro e W1 ⟨v, rfl, ho, hb1⟩
  generalize toks okU (amg ⟨#[]⟩) (bts s) = q at *
  obtain ⟨l, code, p⟩ := q
  simp only at *
  have HB1 := Lib.hid (HB.out.trans (hb1.mono HB.out.size))
  have HN1 := Lib.hid (blk_below HN.out hb1 (blk_lt HN.out))
  obtain ⟨a, c, rfl⟩ := ownsRow_form ho
  have hfew := row_few ho
  have HO := Lib.hid ho
  clear hb1 ho
  go_upto_region 2 with (fail)
  have hba : Below W1.heap.size W1 (W1.alloc (.cells #[.int .i64 code, .int .i64 (p : Nat)] 38)) := (Below.refl _ _).alloc (Nat.le_refl _) _
  have HF := Lib.hid (heap_alloc_new W1 (.cells #[.int .i64 code, .int .i64 (p : Nat)] 38))
  have HB2 := Lib.hid (HB1.out.trans (hba.mono HB1.out.size))
  have HN2 := Lib.hid (blk_below HN1.out hba (blk_lt HN1.out))
  have HO2 := Lib.hid (row_keep hba HO.out)
  generalize W1.alloc (.cells #[.int .i64 code, .int .i64 (p : Nat)] 38) = W2 at *
  generalize W1.heap.size = F at *
  obtain ⟨_, f0, f1, _⟩ := blk2 HF.out
  obtain ⟨_, n0, n1, n2, _⟩ := blk3 HN2.out
  clear hba HO HB1 HN1
  by_cases hc : code = 0
  · subst hc
    by_cases hl : l.length = 2
    · obtain ⟨t, t2, rfl⟩ : ∃ t t2, l = [t, t2] := by
        match l, hl with
        | [t, t2], _ => exact ⟨t, t2, rfl⟩
      obtain ⟨g, cc, hv, hcc, hg, hcell⟩ := row_el tokCells 3 (fun _ => rfl) HO2.out 0 (by simp)
      obtain ⟨rfl, rfl⟩ := slice_inj hv
      have x0 : W2.cell? ⟨g, 0, none⟩ = some (.int .i64 t.kind) := hcell 0 (by omega)
      have x1 : W2.cell? ⟨g, 1, none⟩ = some (.string (tokT t)) := hcell 1 (by omega)
      have x2 : W2.cell? ⟨g, 2, none⟩ = some (.int .i64 t.place) := hcell 2 (by omega)
      have HR : Hid (res = decide (t.kind = k ∧ tokT t = x ∧ t.place = 0)) := Lib.hid (by rw [HA.out]; simp)
      have hz : (0 : Int) < 2 := by decide
      simp only [List.length_cons, List.length_nil, Nat.zero_add, Nat.reduceAdd] at *
      clear hv hcell hl HA
      generalize tokT t = tx at *
      generalize t.kind = tk at *
      generalize t.place = tp at *
      by_cases h1 : tk = k
      · subst h1
        by_cases h2 : tx = x
        · subst h2
          by_cases h3 : tp = 0
          · subst h3
            have HE := Lib.hid (show res = true by rw [HR.out]; simp)
            clear HR
            go_wp2_with fail
            go_quiet (fail)
            go_wp2
            go_ret
            exact ⟨ret_bool HE.out.symm, bel_drewN HB2.out _⟩
          · have HE := Lib.hid (show res = false by rw [HR.out]; simp [h3])
            have t1 : ((tp : Int) == 0) = false := by simp; omega
            clear HR h3
            go_wp2_with fail
            go_quiet (fail)
            go_wp2
            go_ret
            exact ⟨ret_bool HE.out.symm, bel_drewN HB2.out _⟩
        · have HE := Lib.hid (show res = false by rw [HR.out]; simp [h2])
          have t1 := ba_no h2
          clear HR h2
          go_wp2_with fail
          go_quiet (fail)
          go_wp2
          go_ret
          exact ⟨ret_bool HE.out.symm, bel_drewN HB2.out _⟩
      · have HE := Lib.hid (show res = false by rw [HR.out]; simp [h1])
        have t1 : (tk == k) = false := by simpa using h1
        clear HR h1
        go_wp2_with fail
        go_quiet (fail)
        go_wp2
        go_ret
        exact ⟨ret_bool HE.out.symm, bel_drewN HB2.out _⟩
    · have HE := Lib.hid (show res = false by rw [HA.out, decide_eq_false hl]; simp)
      have t1 : ((l.length : Int) == 2) = false := by simp; omega
      clear hl HA
      go_wp2_with fail
      go_quiet (fail)
      go_wp2
      go_ret
      exact ⟨ret_bool HE.out.symm, bel_drewN HB2.out _⟩
  · have HE := Lib.hid (show res = false by rw [HA.out, decide_eq_false hc]; simp)
    have t1 : (code == 0) = false := by simpa using hc
    clear hc HA
    go_wp2_with fail
    go_quiet (fail)
    go_wp2
    go_ret
    exact ⟨ret_bool HE.out.symm, bel_drewN HB2.out _⟩
end Go.Proofs.YtdlfndjgncdgfaaGreatDoor
namespace Go.Proofs.YtdlfndjgncdgfaaGreatDoor
open Go.ChangeShapes Go.WideShapes Go.ChangeAt Go.RowKit Go.Shelf

set_option maxRecDepth 100000 in
theorem snamed_any (s : ByteArray) (w : World) (hT : Tabs w) (hs : s.size ≤ 281474976710656) : Calls Tryz.prog 65 #[.string s] w fun e w' => e = .returned (.bool (namedB s)) ∧ Below w.heap.size w w' := by
  have HA := Lib.hid (alone_any s 1 s w hT (by omega))
  have HN : Hid (namedB s = (decide (s.size ≤ 40) && aloneB s 1 s)) := Lib.hid rfl
  generalize namedB s = res at *
  generalize aloneB s 1 s = al at *
  clear hT
  by_cases hl : s.size ≤ 40
  · have HE := Lib.hid (show res = al by rw [HN.out, decide_eq_true hl, Bool.true_and])
    clear HN
    go_enter Tryz.func65, Tryz.ntmps65
    go_wp2_with fail
    refine HA.out.mono ?_
    rintro e W1 ⟨rfl, hb1⟩
    have HB := Lib.hid hb1
    clear hb1
    go_wp2
    go_ret
    exact ⟨ret_bool HE.out.symm, HB.out⟩
  · have HE := Lib.hid (show res = false by rw [HN.out, decide_eq_false hl, Bool.false_and])
    clear HN
    go_enter Tryz.func65, Tryz.ntmps65
    go_wp2
    go_ret
    exact ⟨ret_bool HE.out.symm, Below.refl _ _⟩
theorem quote_size (s : ByteArray) : (quoteB s).size = s.size + 2 := by
  unfold quoteB
  rw [ByteArray.size_append, ByteArray.size_append]
  show 1 + s.size + 1 = _
  omega
set_option maxRecDepth 100000 in
set_option maxHeartbeats 2000000 in
theorem slabel_any (s : ByteArray) (w : World) (hT : Tabs w) (hs : s.size ≤ 281474976710656) : Calls Tryz.prog 92 #[.string s] w fun e w' => e = .returned (.bool (labelB s)) ∧ Below w.heap.size w w' := by
  have HA := Lib.hid (alone_any (quoteB s) 3 s w hT (by rw [quote_size]; omega))
  have HN : Hid (labelB s = (decide (0 < s.size) && (decide (s.size ≤ 40) && aloneB (quoteB s) 3 s))) := Lib.hid rfl
  generalize labelB s = res at *
  generalize aloneB (quoteB s) 3 s = al at *
  have HQ : Hid ((⟨#[34]⟩ : ByteArray) ++ s ++ ⟨#[34]⟩ = quoteB s) := Lib.hid rfl
  have hc1 : ¬ 9223372036854775807 < 1 + s.size := by omega
  have hc2 : ¬ 9223372036854775807 < 1 + s.size + 1 := by omega
  clear hT
  by_cases h0 : 0 < s.size
  · by_cases hl : s.size ≤ 40
    · have HE := Lib.hid (show res = al by rw [HN.out, decide_eq_true hl, decide_eq_true h0, Bool.true_and, Bool.true_and])
      clear HN
      go_enter Tryz.func92, Tryz.ntmps92
      go_upto_region 2 with (fail)
      rw [HQ.out]
      go_wp2_with fail
      refine HA.out.mono ?_
      rintro e W1 ⟨rfl, hb1⟩
      have HB := Lib.hid hb1
      clear hb1
      go_wp2
      go_ret
      exact ⟨ret_bool HE.out.symm, HB.out⟩
    · have HE := Lib.hid (show res = false by rw [HN.out, decide_eq_false hl, Bool.false_and, Bool.and_false])
      clear HN
      go_enter Tryz.func92, Tryz.ntmps92
      go_wp2
      go_ret
      exact ⟨ret_bool HE.out.symm, Below.refl _ _⟩
  · have HE := Lib.hid (show res = false by rw [HN.out, decide_eq_false h0, Bool.false_and])
    clear HN
    go_enter Tryz.func92, Tryz.ntmps92
    go_wp2
    go_ret
    exact ⟨ret_bool HE.out.symm, Below.refl _ _⟩
theorem ents_look2' {W : World} {b : Nat} {m : List NEnt} (h : MapAt W b (m.map entP)) (s : ByteArray) :
    (Instr.lookup 137 (.map (some b)) (.string s) true).run Tryz.prog W = .ok (.tuple #[mtyV ((lookN m s).map Prod.fst |>.getD 0) ((lookN m s).map Prod.snd |>.getD 0) 0, .bool (lookN m s).isSome]) W := by
  have := h.look ty_key ty_map (ty_zero W) s true
  rw [if_pos rfl, look_ents] at this
  rw [this]
  cases lookN m s <;> rfl
set_option maxRecDepth 100000 in
set_option maxHeartbeats 2000000 in
theorem sfree_any (s : ByteArray) (w : World) (hT : Tabs w) (hs : s.size ≤ 281474976710656) : Calls Tryz.prog 28 #[.string s] w fun e w' => e = .returned (.bool (freeB s)) ∧ Below w.heap.size w w' := by
  have HT := Lib.hid hT
  have HN : Hid (freeB s = (namedB s && !(lookN basicN s).isSome)) := Lib.hid rfl
  clear hT
  go_enter Tryz.func28, Tryz.ntmps28
  go_wp2_with fail
  refine (basic_any w).mono ?_
  rintro e W1 ⟨b, rfl, hm, hb1, _⟩
  have hlk := ents_look2' hm s
  have HB1 := Lib.hid hb1
  generalize (lookN basicN s).isSome = tk at *
  generalize ((lookN basicN s).map Prod.fst |>.getD 0) = kk at *
  generalize ((lookN basicN s).map Prod.snd |>.getD 0) = rr at *
  unfold mtyV at hlk
  clear hm hb1
  go_upto_region 2 with (fail)
  have hba : Below W1.heap.size W1 (W1.alloc (.cells #[.int .u8 (kk : Nat), .int .i64 (rr : Nat), .int .i64 ((0 : Nat) : Int)] 49)) := (Below.refl _ _).alloc (Nat.le_refl _) _
  have HB2 := Lib.hid (HB1.out.trans (hba.mono HB1.out.size))
  clear hlk hba
  go_wp2_with fail
  refine (snamed_any s _ (HT.out.below (Nat.le_refl _) HB2.out) hs).mono ?_
  rintro e W3 ⟨rfl, hb3⟩
  have HB3 := Lib.hid (HB2.out.trans (hb3.mono HB2.out.size))
  clear hb3
  cases hn : namedB s
  · have HE := Lib.hid (show freeB s = false by rw [HN.out, hn]; rfl)
    clear hn
    go_wp2
    go_ret
    exact ⟨ret_bool HE.out.symm, HB3.out⟩
  · have HE := Lib.hid (show freeB s = !tk by rw [HN.out, hn]; rfl)
    clear hn
    go_wp2
    go_ret
    exact ⟨ret_bool HE.out.symm, HB3.out⟩
end Go.Proofs.YtdlfndjgncdgfaaGreatDoor
