/-
  The statement of the law SchemaReads, from its walk: for every input that can be read the law returns true, and its arguments read as they did. Conditions: those of the given row (the listed tables hold what the program's text lays; the card ties them).
  A world in which the seven variables that the rows list lie as the program's text lays them; and what the walks ask of them, out of that condition. No conditions.
  What the frames of this seat's proofs share: the program's own facts, and what a walk is told of a slice of integers that came in. No conditions.
  The law SchemaReads returns true for every text: a walk over the callees' contracts. Conditions: the library's tables hold what the row lists, its error lies there.
  The fifth chapter's told: a text says to Read, and what is written to Make, what it says to the document's own. Conditions: the library's tables hold what the row lists, its error lies there.
-/
import Derived.Test.YtleclhnlojalbaaGreatDoorPkS15
import Derived.Test.YtleclhnlojalbaaGreatDoorPkS46
import Derived.Test.YtleclhnlojalbaaGreatDoorRows
import Derived.WalkKit
import Derived.ProofKit
import Derived.OpenShut
import Derived.ShutString
import Derived.ChangeOld
import Derived.Below
import Derived.Deep.DeepHandedRow
import Derived.Lib.LaidTab
import Derived.Stop.LaidErr
import Derived.Test.YtleclhnlojalbaaGreatDoorCards
import Derived.Test.YtleclhnlojalbaaGreatDoorTie
namespace Go.Proofs.YtleclhnlojalbaaGreatDoor
open Go.ChangeShapes Go.WideShapes Go.ChangeAt Go.RowKit Go.Shelf

set_option maxRecDepth 100000 in
set_option maxHeartbeats 4000000 in
theorem told5_any (s : ByteArray) (w : World) (hT : Tabs w) (hE : ErrV w) (hs : s.size ≤ 9223372036854775807) :
    Calls Tryz.prog 10 #[.string s] w fun e w' => e = .returned (.bool true) ∧ Below w.heap.size w w' := by
  have HT := Lib.hid hT
  have HE := Lib.hid hE
  have HS := Lib.hid hs
  clear hT hE hs
  go_enter Tryz.func10, Tryz.ntmps10
  go_wp2_with fail
  refine (read_any s w HT.out HE.out HS.out).mono ?_
  rintro e W1 hp
  obtain ⟨ss, es, sa, sc, ea, ec, rt, code, pl, rfl, hr1, hs1, hb1⟩ := sch_form hp
  have HB1 := Lib.hid hb1
  have HR1 := Lib.hid hr1
  have HS1 := Lib.hid hs1
  clear hp hr1 hs1 hb1
  go_upto_region 2 with (fail)
  obtain ⟨hbb, hq1, hq2⟩ := two_blk W1 #[.slice sa ss.length sc, .slice ea es.length ec, .int .i64 rt] #[.int .i64 code, .int .i64 (pl : Nat)] 32 43
  generalize ((W1.alloc (.cells #[.slice sa ss.length sc, .slice ea es.length ec, .int .i64 rt] 32)).alloc (.cells #[.int .i64 code, .int .i64 (pl : Nat)] 43)) = W2 at *
  have HB2 := Lib.hid (HB1.out.trans (hbb.mono HB1.out.size))
  have HR2 := Lib.hid (HR1.out.below hbb)
  have HQ1 := Lib.hid hq1
  have HQ2 := Lib.hid hq2
  generalize W1.heap.size = A1 at *
  clear hbb hq1 hq2 HB1 HR1
  go_wp2_with fail
  refine (rref_any s W2 (HT.out.below (Nat.le_refl _) HB2.out) HS.out).mono ?_
  rintro e W3 ⟨ss', es', sa', sc', ea', ec', rt', code', pl', rfl, hr3, hs3, hb3⟩
  obtain ⟨he1, he2, rfl, rfl, rfl⟩ := HS1.out.same hs3
  have HE1 := Lib.hid he1
  have HE2 := Lib.hid he2
  have HB3 := Lib.hid (HB2.out.trans (hb3.mono HB2.out.size))
  have HR3 := Lib.hid (HR2.out.below hb3)
  have HR3' := Lib.hid hr3
  have HP1 := Lib.hid (blk_below HQ1.out hb3 (blk_lt HQ1.out))
  have HP2 := Lib.hid (blk_below HQ2.out hb3 (blk_lt HQ2.out))
  clear hr3 hs3 hb3 he1 he2 HB2 HR2 HQ1 HQ2
  go_upto_region 3 with (fail)
  have hba : Below W3.heap.size W3 (W3.alloc (.cells #[.slice sa' ss'.length sc', .slice ea' es'.length ec', .int .i64 rt] 32)) := (Below.refl _ _).alloc (Nat.le_refl _) _
  have HN4 := Lib.hid (heap_alloc_new W3 (.cells #[.slice sa' ss'.length sc', .slice ea' es'.length ec', .int .i64 rt] 32))
  have HB4 := Lib.hid (HB3.out.trans (hba.mono HB3.out.size))
  have HR4 := Lib.hid (HR3.out.below hba)
  have HR4' := Lib.hid (HR3'.out.below hba)
  have HP1b := Lib.hid (blk_below HP1.out hba (blk_lt HP1.out))
  have HP2b := Lib.hid (blk_below HP2.out hba (blk_lt HP2.out))
  generalize W3.alloc (.cells #[.slice sa' ss'.length sc', .slice ea' es'.length ec', .int .i64 rt] 32) = W4 at *
  generalize W3.heap.size = A3 at *
  clear hba HB3 HR3 HR3' HP1 HP2
  go_wp2_with fail
  refine (dparse_any s W4 (HT.out.below (Nat.le_refl _) HB4.out) HS.out).mono ?_
  rintro e W5 ⟨rs, re, ts, sv, ev, rv, rfl, hx, hr5, hb5⟩
  obtain ⟨ra, rc, qa, qc, ta, tc, rfl, rfl, rfl⟩ := hr5.forms
  have HOK := Lib.hid (hx ▸ rawT_ok s)
  have HRM : Hid (readM s = if (rawT s).2.1 = 0 then makeM (rawOf rs re ts) else .no (rawT s).2.1 (rawT s).2.2) := Lib.hid (by unfold readM; rw [hx])
  generalize readM s = res at *
  generalize (rawT s).2.1 = pc at *
  generalize (rawT s).2.2 = pp at *
  have HB5 := Lib.hid (HB4.out.trans (hb5.mono HB4.out.size))
  have HR5 := Lib.hid (HR4.out.below hb5)
  have HR5' := Lib.hid (HR4'.out.below hb5)
  have HR5r := Lib.hid hr5
  have HP1 := Lib.hid (blk_below HP1b.out hb5 (blk_lt HP1b.out))
  have HP2 := Lib.hid (blk_below HP2b.out hb5 (blk_lt HP2b.out))
  have HN5 := Lib.hid (blk_below HN4.out hb5 (blk_lt HN4.out))
  clear hx hr5 hb5 HB4 HR4 HR4' HP1b HP2b HN4
  go_upto_region 4 with (fail)
  have hba : Below W5.heap.size W5 (W5.alloc (.cells #[.slice ra rs.length rc, .slice qa re.length qc, .slice ta ts.length tc] 69)) := (Below.refl _ _).alloc (Nat.le_refl _) _
  have HN6 := Lib.hid (heap_alloc_new W5 (.cells #[.slice ra rs.length rc, .slice qa re.length qc, .slice ta ts.length tc] 69))
  have HB6 := Lib.hid (HB5.out.trans (hba.mono HB5.out.size))
  have HR6 := Lib.hid (HR5.out.below hba)
  have HR6' := Lib.hid (HR5'.out.below hba)
  have HR6r := Lib.hid (HR5r.out.below hba)
  have HP1b := Lib.hid (blk_below HP1.out hba (blk_lt HP1.out))
  have HP2b := Lib.hid (blk_below HP2.out hba (blk_lt HP2.out))
  have HN6s := Lib.hid (blk_below HN5.out hba (blk_lt HN5.out))
  generalize W5.alloc (.cells #[.slice ra rs.length rc, .slice qa re.length qc, .slice ta ts.length tc] 69) = W6 at *
  generalize W5.heap.size = A5 at *
  clear hba HB5 HR5 HR5' HR5r HP1 HP2 HN5
  obtain ⟨_, n0, n1, n2, _⟩ := blk3 HN6.out
  by_cases hc : pc = 0
  · subst hc
    have HRES := Lib.hid (HRM.out.trans (if_pos rfl))
    have HMK := Lib.hid (make_any HR6r.out (HE.out.later HB6.out) HOK.out)
    clear HRM
    generalize makeM (rawOf rs re ts) = mres at *
    go_wp2_with fail
    refine HMK.out.mono ?_
    rintro e W7 hp
    obtain ⟨ss2, es2, sa2, sc2, ea2, ec2, rt2, code2, pl2, rfl, hr7, hs7, hb7⟩ := sch_form hp
    obtain ⟨he1, he2, rfl, rfl, rfl⟩ := HS1.out.same (by rw [HRES.out]; exact hs7)
    have HE3 := Lib.hid he1
    have HE4 := Lib.hid he2
    have HB7 := Lib.hid (HB6.out.trans (hb7.mono HB6.out.size))
    have HR7 := Lib.hid (HR6.out.below hb7)
    have HR7' := Lib.hid (HR6'.out.below hb7)
    have HR7m := Lib.hid hr7
    have HP1 := Lib.hid (blk_below HP1b.out hb7 (blk_lt HP1b.out))
    have HP2 := Lib.hid (blk_below HP2b.out hb7 (blk_lt HP2b.out))
    have HN7 := Lib.hid (blk_below HN6s.out hb7 (blk_lt HN6s.out))
    clear hp hr7 hs7 hb7 he1 he2 HB6 HR6 HR6' HR6r HP1b HP2b HN6s n0 n1 n2
    go_upto_region 6 with (fail)
    obtain ⟨hbb, hq1, hq2⟩ := two_blk W7 #[.slice sa2 ss2.length sc2, .slice ea2 es2.length ec2, .int .i64 rt] #[.int .i64 code, .int .i64 (pl : Nat)] 32 43
    generalize ((W7.alloc (.cells #[.slice sa2 ss2.length sc2, .slice ea2 es2.length ec2, .int .i64 rt] 32)).alloc (.cells #[.int .i64 code, .int .i64 (pl : Nat)] 43)) = W8 at *
    have HB8 := Lib.hid (HB7.out.trans (hbb.mono HB7.out.size))
    have HR8 := Lib.hid (HR7.out.below hbb)
    have HR8' := Lib.hid (HR7'.out.below hbb)
    have HR8m := Lib.hid (HR7m.out.below hbb)
    have HP1b := Lib.hid (blk_below HP1.out hbb (blk_lt HP1.out))
    have HP2b := Lib.hid (blk_below HP2.out hbb (blk_lt HP2.out))
    have HN8 := Lib.hid (blk_below HN7.out hbb (blk_lt HN7.out))
    obtain ⟨_, m0, m1, m2, _⟩ := blk3 hq1
    obtain ⟨_, k0, k1, _⟩ := blk2 hq2
    obtain ⟨_, f0, f1, _⟩ := blk2 HP2b.out
    obtain ⟨_, n0, n1, n2, _⟩ := blk3 HN8.out
    clear hbb hq1 hq2 HB7 HR7 HR7' HR7m HP1 HP2 HN7
    go_wp2_with fail
    refine (samesch_any W8 HR8m.out HR8'.out (HE3.out.symm.trans HE1.out) (HE4.out.symm.trans HE2.out)).mono ?_
    rintro e W9 ⟨rfl, hb9⟩
    have HB9 := Lib.hid (HB8.out.trans (hb9.mono HB8.out.size))
    have HR9 := Lib.hid (HR8.out.below hb9)
    have HR9' := Lib.hid (HR8'.out.below hb9)
    obtain ⟨_, p0, p1, p2, _⟩ := blk3 (blk_below HP1b.out hb9 (blk_lt HP1b.out))
    obtain ⟨_, g0, g1, _⟩ := blk2 (blk_below HP2b.out hb9 (blk_lt HP2b.out))
    obtain ⟨_, l0, l1, l2, _⟩ := blk3 (blk_below HN8.out hb9 (blk_lt HN8.out))
    clear hb9 m0 m1 m2 k0 k1 f0 f1 n0 n1 n2 HP1b HP2b HN8 HB8
    go_wp2_with fail
    refine (samesch_any W9 HR9.out HR9'.out HE1.out HE2.out).mono ?_
    rintro e W10 ⟨rfl, hb10⟩
    have HB10 := Lib.hid (HB9.out.trans (hb10.mono HB9.out.size))
    clear hb10
    go_wp2
    go_ret
    exact ⟨rfl, HB10.out⟩
  · have t1 : (pc == 0) = false := by simpa using hc
    obtain ⟨_, p0, p1, p2, _⟩ := blk3 HP1b.out
    obtain ⟨_, g0, g1, _⟩ := blk2 HP2b.out
    obtain ⟨_, l0, l1, l2, _⟩ := blk3 HN6s.out
    clear hc HRM
    go_wp2_with fail
    refine (samesch_any W6 HR6.out HR6'.out HE1.out HE2.out).mono ?_
    rintro e W10 ⟨rfl, hb10⟩
    have HB10 := Lib.hid (HB6.out.trans (hb10.mono HB6.out.size))
    clear hb10
    go_wp2
    go_ret
    exact ⟨rfl, HB10.out⟩
end Go.Proofs.YtleclhnlojalbaaGreatDoor
namespace Go.Proofs.YtleclhnlojalbaaGreatDoor
open Go.ChangeShapes Go.WideShapes Go.ChangeAt Go.RowKit Go.Shelf

set_option maxRecDepth 100000 in
set_option maxHeartbeats 2000000 in
theorem schemaReads_walk (s : ByteArray) (w : World) (hs : s.size ≤ 9223372036854775807) (hT : Tabs w) (hE : ErrV w) :
    Calls Tryz.prog 3 #[.string s] w fun e w' => e = .returned (.bool true) ∧ Below w.heap.size w w' := by
  have HT := Lib.hid hT
  have HE := Lib.hid hE
  have HS := Lib.hid hs
  clear hT hE
  go_enter Tryz.func3, Tryz.ntmps3
  go_wp2_with fail
  refine (awake5_any w HT.out HE.out).mono ?_
  rintro e W1 ⟨rfl, hb1⟩
  have HB1 := Lib.hid hb1
  clear hb1
  by_cases hl : 20000 < s.size
  · go_wp2
    go_ret
    exact ⟨rfl, HB1.out⟩
  · go_wp2_with fail
    refine (told5_any s W1 (HT.out.below (Nat.le_refl _) HB1.out) (HE.out.later HB1.out) HS.out).mono ?_
    rintro e W2 ⟨rfl, hb2⟩
    have HB2 := Lib.hid (HB1.out.trans (hb2.mono HB1.out.size))
    clear hb2
    go_wp2
    go_ret
    exact ⟨rfl, HB2.out⟩
end Go.Proofs.YtleclhnlojalbaaGreatDoor
namespace Go.Proofs.YtleclhnlojalbaaGreatDoor
open Go.ChangeShapes Go.WideShapes Go.ChangeAt Go.RowKit

theorem own : ownKnob Tryz.prog.godebug = none := by kernel_rfl
theorem laidOut : laidOutB Tryz.prog = true := by kernel_rfl
/-- A slice of integers that came in: its numbers up to the capacity. -/
def IsRow (k : IntKind) (w : World) (a : Option Addr) (len cap : Nat) (zs : List Int) : Prop :=
  len ≤ cap ∧ cap ≤ maxLen ∧ zs.length = cap ∧ (∀ n ∈ zs, (Lit.int k n).wf = true) ∧
  (zs ≠ [] → ∃ b off, a = some ⟨b, off, none⟩ ∧ b < w.heap.size ∧ ∀ j, j < zs.length → w.cell? ⟨b, off + j, none⟩ = some (.int k (zs.getD j 0)))
theorem isRow_nil (k : IntKind) (w : World) (a : Option Addr) : IsRow k w a 0 0 [] :=
  ⟨Nat.le_refl _, Nat.zero_le _, rfl, (fun n h => by simp at h), (fun h => absurd rfl h)⟩
theorem isRow_of {k : IntKind} {w : World} {x : Addr} {len cap : Nat} {zs : List Int} (hl : len ≤ cap) (hm : cap ≤ maxLen) (hz : zs.length = cap)
    (hc : ∀ i, i < zs.length → w.cell? (x.add i) = some (.int k (zs.getD i 0))) (hw : ∀ n ∈ zs, (Lit.int k n).wf = true) : IsRow k w (some x) len cap zs := by
  refine ⟨hl, hm, hz, hw, fun hne => ?_⟩
  have h0 : 0 < zs.length := List.length_pos_iff.2 hne
  obtain ⟨b, off, rfl, hc'⟩ := ints_at hc h0
  exact ⟨b, off, rfl, World.block_lt_of_cell? _ _ (hc' 0 h0), hc'⟩
end Go.Proofs.YtleclhnlojalbaaGreatDoor
namespace Go.Proofs.YtleclhnlojalbaaGreatDoor
open Go.ChangeShapes Go.WideShapes Go.ChangeAt Go.RowKit

/-- The cells of a datum that is a row of numbers. -/
def numCells : DataW Unit → Array Value
  | .agg parts => (parts.filterMap fun | .lit (.int k n) => some (Value.int k n) | _ => none).toArray
  | _ => #[]
/-- A variable's block, with these cells. -/
def withCells (cs : Array Value) : Obj → Obj
  | .cells _ t frozen => .cells cs t frozen
  | o => o
noncomputable def lowBlock : Nat := (World.holding Tryz.prog default ⟨#[], #[], []⟩).heap.size
/-- The settled world, the seven variables holding what the program's text lays. -/
noncomputable def laidWorld (os : Os) : World :=
  { World.holding Tryz.prog os ⟨#[.cells #[.string ⟨#[118, 97, 108, 117, 101, 32, 111, 117, 116, 32, 111, 102, 32, 114, 97, 110, 103, 101]⟩] 241, .cells #[.string ⟨#[105, 110, 118, 97, 108, 105, 100, 32, 115, 121, 110, 116, 97, 120]⟩] 241], #[], []⟩ with
    heap := (((((((World.holding Tryz.prog os ⟨#[.cells #[.string ⟨#[118, 97, 108, 117, 101, 32, 111, 117, 116, 32, 111, 102, 32, 114, 97, 110, 103, 101]⟩] 241, .cells #[.string ⟨#[105, 110, 118, 97, 108, 105, 100, 32, 115, 121, 110, 116, 97, 120]⟩] 241], #[], []⟩).heap.modify 1 (withCells (Lib.firstTab.map (Value.int .u8)).toArray)).modify 2 (withCells ((List.range 32).map fun i => Value.int .u8 (if i % 2 = 0 then Lib.accLo (i / 2) else Lib.accHi (i / 2))).toArray)).modify
      5 (withCells (numCells Rows.laid_internal_strconv_uint64pow10))).modify
      6 (withCells (numCells Rows.laid_math_bits_deBruijn32tab))).modify
      7 (withCells (numCells Rows.laid_math_bits_deBruijn64tab))).modify
      4 (withCells #[.iface 239 (.pointer (some ⟨lowBlock, 0, none⟩))])).modify
      3 (withCells #[.iface 239 (.pointer (some ⟨lowBlock + 1, 0, none⟩))]) }
/-- The list that each row lists. -/
abbrev laid7 : List (String × DataW Unit) := [("math/bits.deBruijn32tab", Rows.laid_math_bits_deBruijn32tab), ("math/bits.deBruijn64tab", Rows.laid_math_bits_deBruijn64tab), ("internal/strconv.uint64pow10", Rows.laid_internal_strconv_uint64pow10), ("unicode/utf8.acceptRanges", Rows.laid_unicode_utf8_acceptRanges), ("strconv.ErrRange", Rows.laid_strconv_ErrRange), ("strconv.ErrSyntax", Rows.laid_strconv_ErrSyntax), ("unicode/utf8.first", Rows.laid_unicode_utf8_first)]
theorem laid7_met (os : Os) (args : Array Value) : laidMet Tryz.prog laid7 ((laidWorld os).forCall (fun _ _ => 0) ⟨#[], args, []⟩).memory :=
  laidMet_of_run' 8 (by kernel_rfl) (by kernel_rfl)
theorem laid7_plain {W : World} (h : laidMetH Tryz.prog laid7 W) : laidMet Tryz.prog laid7 W := h
theorem tabs_of_laid7 {W : World} (h : laidMetH Tryz.prog laid7 W) : Tabs W := by
  have h' := laid7_plain h
  refine utf8Tabs_of_readsT u8types u8extra ?_ ?_
  · rw [← first_is]; exact Lib.laidMet.reads h' (by simp)
  · rw [← accept_is]; exact Lib.laidMet.reads h' (by simp)
theorem err_star : "*" ++ "errors.errorString" = "*errors.errorString" := by decide
theorem err_row (u : TypeId) (h : Tryz.prog.typeName? 3 u = some "*errors.errorString") : u = 239 :=
  typeName_ptr_named (nm := "errors.errorString") (by rw [err_star]; kernel_rfl) (by kernel_rfl) (by decide) u (by rw [err_star]; exact h)
theorem errV_of_laid7 {W : World} (h : laidMetH Tryz.prog laid7 W) : ErrV W := by
  have h' := laid7_plain h
  obtain ⟨a, s, hv, _, _, _⟩ := laid_sentinel (g := 4) (ti := 215) h'.tail.tail.tail.tail (by kernel_rfl) (by kernel_rfl) Tryz.underlying215 err_row Tryz.underlying239 Tryz.underlying241 rfl rfl Tryz.underlying9 (by kernel_rfl) (by kernel_rfl)
  have hg : Tryz.prog.globalNamed "strconv.ErrRange" = some 4 := by kernel_rfl
  exact ⟨_, _, by simpa using World.var?_cell hg hv 0⟩
end Go.Proofs.YtleclhnlojalbaaGreatDoor
namespace Go.Proofs.YtleclhnlojalbaaGreatDoor
open Go.ChangeShapes Go.WideShapes Go.ChangeAt Go.RowKit
open Go.ChangeMaps (open_string shut_string)
namespace schemaReadsFrame
theorem laid_met (os : Os) : laidMet Tryz.prog Rows.schemaReadsRow.laid ((laidWorld os).forCall (fun _ _ => 0) ⟨#[], #[Value.string ByteArray.empty], []⟩).memory :=
  laid7_met os _
theorem reads (os : Os) {H : Type} (enc : TypeId × Value → H) : ∃ places, DataW.whole enc Tryz.prog ((laidWorld os).forCall (fun _ _ => 0) ⟨#[], #[Value.string ByteArray.empty], []⟩).memory Tryz.f3.params.toList Rows.schemaReadsSpec.vars false #[Value.string ByteArray.empty].toList 8 = some ([.lit (.string [])], [], places) :=
  ⟨[], by kernel_rfl⟩
set_option maxRecDepth 100000 in
theorem contract (H : Type) (enc : TypeId × Value → H) (W : World) (base : Nat) (args : Array Value) (ds gs : List (DataW H)) (before : List MemPlace)
    (hval0 : ∀ (j : Nat) t v, Tryz.f3.params[j]? = some t → args[j]? = some v → Value.okWide Tryz.prog W .any base t v)
    (hW : DataW.Whole enc Tryz.prog Tryz.f3.params.toList Rows.schemaReadsSpec.vars false W args.toList ds gs before) (hL : laidMetH Tryz.prog Rows.schemaReadsRow.laid W) :
    Calls Tryz.prog 3 args W fun e W' => ∃ v, e = .returned v ∧ Rows.schemaReadsSpec.post enc Tryz.prog Tryz.f3 false true false false W args v W' := by
  have hval : ∀ (j : Nat) t v, Tryz.f3.params[j]? = some t → args[j]? = some v → Value.okWide Tryz.prog W .any base t v := hval0
  have hW' := hW
  obtain ⟨p, q, hA0, hV, rfl, _hfz, _hnd⟩ := hW
  have hA : DataW.TrodAll enc Tryz.prog W 0 (fun _ => true) true Tryz.f3.params.toList args.toList ds p := hA0
  rw [Tryz.params3] at hA hval
  obtain ⟨v0, vs0, d0, ds0, p0, q0, hargs, rfl, rfl, h0, r0⟩ := trodAll_cons hA
  obtain ⟨rfl, rfl, rfl⟩ := trodAll_nil r0
  obtain rfl : args = #[v0] := by cases args; simp_all
  obtain ⟨rfl, rfl⟩ := trodVars_none hV
  obtain ⟨a0, rfl, rfl, rfl, w0⟩ := open_string Tryz.underlying9 (hval 0 9 v0 rfl rfl) h0
  clear hA0 hval0
  refine (schemaReads_walk a0 W w0 (tabs_of_laid7 hL) (errV_of_laid7 hL)).mono fun e W' ⟨he, bel⟩ => ?_
  subst he
  exact ⟨_, rfl, _, _, _, [], _, [], hW', trodAll_mk1 (shut_bool Tryz.underlying4 _), (trodAll_cons_mk (shut_string Tryz.underlying9 w0) trodAll_mk0), rfl, bel.frame _, fun h => by cases h⟩

set_option maxRecDepth 100000 in
theorem lifted (os : Os) (started : os.Started) (H : Type) (enc : TypeId × Value → H) (F : Stop.Interp) :
    ReturnsInHanded {} Tryz.checked os 3 .any ((OpenSpec.ofChange Rows.schemaReadsSpec).preRow enc Tryz.prog Tryz.f3 Rows.schemaReadsRow.domain false Rows.schemaReadsRow.laid) (((OpenSpec.ofChange Rows.schemaReadsSpec).at F).post enc Tryz.prog Tryz.f3 false true false false) := by
  obtain ⟨places, hx⟩ := reads os enc
  refine returnsInHanded_of_row (C := Tryz.checked) (s := OpenSpec.ofChange Rows.schemaReadsSpec) own started (by kernel_rfl) Tryz.func3
    (witness_row_at (enc := enc) (C := Tryz.checked) false (laidWorld os) #[Value.string ByteArray.empty] rfl (by kernel_rfl) (by kernel_rfl) (by kernel_rfl)
      (OpenSpec.preRow_of_cond 8 hx (by kernel_rfl) (fun k hk => by cases hk) (by kernel_rfl) (laid_met os))) ?_
  intro W base args ds gs before hval hW _ _ _ hL _ _
  exact contract H enc W base args ds gs before hval hW hL
theorem said : Rows.SchemaReadsSaid :=
  OpenClaim.holds_of_cond 3 Tryz.f3 rfl rfl rfl rfl rfl rfl rfl ⟨rfl, rfl, rfl, rfl, rfl⟩ rfl rfl rfl rfl rfl (by kernel_rfl) Tryz.func3 (by kernel_rfl)
    (of_decide_eq_true (by kernel_rfl)) (by unfold Func.isWrapper; first | (rw [if_pos (by decide +kernel)]; kernel_rfl) | (rw [if_neg (by decide +kernel)]; exact ⟨rfl, rfl⟩))
    (fun os started H enc _ F => by rw [OpenClaim.pre_eq_preRow]; exact lifted os started H enc F)
theorem plain (f : FuncId) (fn : Func) (hf : Tryz.pinned.checked.prog.funcNamed "transom/transomlaw05.SchemaReads" = some f) (hfn : Tryz.pinned.checked.prog.funcs[f]? = some fn) :
    true = Tryz.pinned.checked.prog.looks [] ∧ ∀ (j : Nat) t, fn.params[j]? = some t → Tryz.pinned.checked.prog.wantsStandIn t = false := by
  obtain rfl : f = 3 := Option.some.inj ((show Tryz.prog.funcNamed "transom/transomlaw05.SchemaReads" = some 3 by kernel_rfl).symm.trans hf) |>.symm
  obtain rfl : fn = Tryz.f3 := (Option.some.inj (Tryz.func3.symm.trans hfn)).symm
  refine ⟨by kernel_rfl, fun j t ht => ?_⟩
  rw [Tryz.params3] at ht
  have hm : t = 9 := by simpa using Array.mem_of_getElem? ht
  rcases hm with rfl
  exact (show Tryz.prog.wantsStandIn 9 = false by kernel_rfl)
end schemaReadsFrame
theorem schemaReads_card : Rows.SchemaReadsCardSaid :=
  Claim7.holds_tied_plain_at .later [] _ _ _ _ schemaReadsFrame.said (fun _ h => by cases h) (by kernel_rfl) (fun _ h => by cases h) schemaReads_row_tie rfl ⟨rfl, rfl⟩ (by kernel_rfl) rfl schemaReadsFrame.plain (by kernel_rfl)
end Go.Proofs.YtleclhnlojalbaaGreatDoor
