/-
  The law SchemaLimits, way by way: walks over the callees' contracts. Conditions: the library's tables hold what the row lists, its error lies there; those that each theorem names.
-/
import Derived.Test.YtleclhnlojalbaaGreatDoorPkL29
import Derived.Test.YtleclhnlojalbaaGreatDoorPkL31
import Derived.Test.YtleclhnlojalbaaGreatDoorPkL35
import Derived.Test.YtleclhnlojalbaaGreatDoorPkL42
import Derived.Test.YtleclhnlojalbaaGreatDoorPkL44
namespace Go.Proofs.YtleclhnlojalbaaGreatDoor
open Go.ChangeShapes Go.WideShapes Go.ChangeAt Go.RowKit Go.Shelf

def SSays (r : MRes Sch) (ss : List SRec) (es : List SCho) (rt : Nat) (c : Int) (p : Nat) : Prop :=
  match r with
  | .no c' p' => ss = [] ∧ es = [] ∧ rt = 0 ∧ c = c' ∧ p = p'
  | .ok S => ss = S.structs ∧ es = S.enums ∧ rt = S.root ∧ c = 0 ∧ p = 0
theorem SSays.same {r : MRes Sch} {ss ss' : List SRec} {es es' : List SCho} {rt rt' : Nat} {c c' : Int} {p p' : Nat} (h : SSays r ss es rt c p) (h' : SSays r ss' es' rt' c' p') : ss = ss' ∧ es = es' ∧ rt = rt' ∧ c = c' ∧ p = p' := by
  unfold SSays at h h'
  cases r with
  | no c'' p'' =>
    obtain ⟨rfl, rfl, rfl, rfl, rfl⟩ := h
    obtain ⟨rfl, rfl, rfl, rfl, rfl⟩ := h'
    exact ⟨rfl, rfl, rfl, rfl, rfl⟩
  | ok S =>
    obtain ⟨rfl, rfl, rfl, rfl, rfl⟩ := h
    obtain ⟨rfl, rfl, rfl, rfl, rfl⟩ := h'
    exact ⟨rfl, rfl, rfl, rfl, rfl⟩
theorem schrows_nil (base : Nat) (W : World) : SchRows base W [] [] (.slice none 0 0) (.slice none 0 0) := ⟨World.ownsRow_nil _ _ _ _, World.ownsRow_nil _ _ _ _, (fun q hq => by cases hq), (fun q hq => by cases hq)⟩
theorem sch_form {w w' : World} {r : MRes Sch} {e : Ending} (h : SchPost w r e w') : ∃ (ss : List (SRec × Value)) (es : List (SCho × Value)) (sa : Option Addr) (sc : Nat) (ea : Option Addr) (ec : Nat) (rt : Nat) (c : Int) (p : Nat),
    e = .returned (.tuple #[.agg #[.slice sa ss.length sc, .slice ea es.length ec, .int .i64 rt], .agg #[.int .i64 c, .int .i64 (p : Nat)]]) ∧ SchRows w.heap.size w' ss es (.slice sa ss.length sc) (.slice ea es.length ec) ∧ SSays r (ss.map Prod.fst) (es.map Prod.fst) rt c p ∧ Below w.heap.size w w' := by
  obtain ⟨hb, h⟩ := h
  cases r with
  | no c p => exact ⟨[], [], none, 0, none, 0, 0, c, p, h, schrows_nil _ _, ⟨rfl, rfl, rfl, rfl, rfl⟩, hb⟩
  | ok S =>
    obtain ⟨ss, es, sv, ev, rfl, h1, h2, hr⟩ := h
    obtain ⟨sa, sc, ea, ec, rfl, rfl⟩ := hr.forms
    exact ⟨ss, es, sa, sc, ea, ec, S.root, 0, 0, rfl, hr, ⟨h1.symm, h2.symm, rfl, rfl, rfl⟩, hb⟩
def RRPost (w : World) (r : MRes Sch) (e : Ending) (w' : World) : Prop := ∃ (ss : List (SRec × Value)) (es : List (SCho × Value)) (sa : Option Addr) (sc : Nat) (ea : Option Addr) (ec : Nat) (rt : Nat) (c : Int) (p : Nat),
    e = .returned (.tuple #[.agg #[.slice sa ss.length sc, .slice ea es.length ec, .int .i64 rt], .int .i64 c, .int .i64 (p : Nat)]) ∧ SchRows w.heap.size w' ss es (.slice sa ss.length sc) (.slice ea es.length ec) ∧ SSays r (ss.map Prod.fst) (es.map Prod.fst) rt c p ∧ Below w.heap.size w w'
theorem rm_form {w w' : World} {r : MRes Sch} {e : Ending} (h : RMakePost w r e w') : RRPost w r e w' := by
  obtain ⟨hb, h⟩ := h
  cases r with
  | no c p => exact ⟨[], [], none, 0, none, 0, 0, c, p, h, schrows_nil _ _, ⟨rfl, rfl, rfl, rfl, rfl⟩, hb⟩
  | ok S =>
    obtain ⟨ss, es, sv, ev, rfl, h1, h2, hr⟩ := h
    obtain ⟨sa, sc, ea, ec, rfl, rfl⟩ := hr.forms
    exact ⟨ss, es, sa, sc, ea, ec, S.root, 0, 0, rfl, hr, ⟨h1.symm, h2.symm, rfl, rfl, rfl⟩, hb⟩
def set3 (W : World) (g : Nat) (x y z : Value) : World := ((W.setCell ⟨g, 0, none⟩ x).setCell ⟨g, 1, none⟩ y).setCell ⟨g, 2, none⟩ z
theorem SchRows.set3 {base g : Nat} {W : World} {ss : List (SRec × Value)} {es : List (SCho × Value)} {sv ev : Value} (h : SchRows base W ss es sv ev) (hg : g < base) (x y z : Value) : SchRows base (set3 W g x y z) ss es sv ev := (((h.keep3 hg x).keep3 hg y).keep3 hg z)
set_option maxRecDepth 100000 in
set_option maxHeartbeats 4000000 in
theorem rref_any (s : ByteArray) (w : World) (hT : Tabs w) (hs : s.size ≤ 9223372036854775807) :
    Calls Tryz.prog 13 #[.string s] w (RRPost w (readM s)) := by
  have HZ := Lib.hid (heap_alloc_new w (.cells #[.slice none 0 0, .slice none 0 0, .int .i64 0] 32))
  have HB := Lib.hid ((Below.refl w.heap.size w).alloc (Nat.le_refl _) (.cells #[.slice none 0 0, .slice none 0 0, .int .i64 0] 32))
  have HT := Lib.hid hT
  have HS := Lib.hid hs
  clear hT hs
  go_enter Tryz.func13, Tryz.ntmps13
  go_upto_region 1 with (fail)
  generalize w.alloc (.cells #[.slice none 0 0, .slice none 0 0, .int .i64 0] 32) = W0 at *
  go_wp2_with fail
  refine (dparse_any s W0 (HT.out.below (Nat.le_refl _) HB.out) HS.out).mono ?_
  rintro e W1 ⟨ss, es, ts, sv, ev, rv, rfl, hx, hr, hb1⟩
  obtain ⟨sa, sc, ea, ec, ra, rc, rfl, rfl, rfl⟩ := hr.forms
  have HOK := Lib.hid (hx ▸ rawT_ok s)
  have HRM : Hid (readM s = if (rawT s).2.1 = 0 then makeM (rawOf ss es ts) else .no (rawT s).2.1 (rawT s).2.2) := Lib.hid (by unfold readM; rw [hx])
  generalize readM s = res at *
  generalize (rawT s).2.1 = code at *
  generalize (rawT s).2.2 = place at *
  have HB1 := Lib.hid (HB.out.trans (hb1.mono HB.out.size))
  have HZ1 := Lib.hid (blk_below HZ.out hb1 (blk_lt HZ.out))
  have HR := Lib.hid hr
  clear hx hr hb1 HZ
  go_upto_region 2 with (fail)
  have hba : Below W1.heap.size W1 (W1.alloc (.cells #[.slice sa ss.length sc, .slice ea es.length ec, .slice ra ts.length rc] 69)) := (Below.refl _ _).alloc (Nat.le_refl _) _
  have HN := Lib.hid (heap_alloc_new W1 (.cells #[.slice sa ss.length sc, .slice ea es.length ec, .slice ra ts.length rc] 69))
  have HB2 := Lib.hid (HB1.out.trans (hba.mono HB1.out.size))
  have HR2 := Lib.hid (HR.out.below hba)
  have HZ2 := Lib.hid (blk_below HZ1.out hba (blk_lt HZ1.out))
  generalize W1.alloc (.cells #[.slice sa ss.length sc, .slice ea es.length ec, .slice ra ts.length rc] 69) = W2 at *
  obtain ⟨_, a0, a1, a2, _⟩ := blk3 HN.out
  clear hba HB1 HR HZ1
  by_cases hc : code = 0
  · subst hc
    have HRES := Lib.hid (HRM.out.trans (if_pos rfl))
    have HMK := Lib.hid (rmake_any HR2.out HOK.out)
    clear HRM
    generalize makeM (rawOf ss es ts) = mres at *
    go_wp2_with fail
    refine HMK.out.mono ?_
    rintro e W3 hp
    obtain ⟨L, E, la, lc, va, vc, rt, c, p, rfl, hrows, hsays, hb3⟩ := rm_form hp
    have HB3 := Lib.hid (HB2.out.trans (hb3.mono HB2.out.size))
    have HZ3 := Lib.hid (blk_below HZ2.out hb3 (blk_lt HZ2.out))
    have HROWS := Lib.hid hrows
    have HSAYS := Lib.hid hsays
    obtain ⟨_, _, _, _, r0, r1, r2⟩ := blk3 HZ3.out
    have hl := blk_lt HZ2.out
    clear hp hrows hsays hb3 a0 a1 a2
    go_wp2
    refine post_gen (fun Wf => Wf.heap[w.heap.size]? = some (.cells #[.slice la L.length lc, .slice va E.length vc, .int .i64 rt] 32 (0, 0)) ∧ Below w.heap.size w Wf ∧ SchRows w.heap.size Wf L E (.slice la L.length lc) (.slice va E.length vc)) ⟨blk_set3 HZ3.out _ _ _, bel_put HB3.out (Nat.le_refl _) _ _ _, SchRows.base (SchRows.set3 (g := w.heap.size) HROWS.out hl _ _ _) HB2.out.size⟩ ?_
    rintro Wf ⟨e1, e2, e3⟩
    obtain ⟨_, c0, c1, c2, _⟩ := blk3 e1
    exact bodyPost_ret (v := .tuple #[.agg #[.slice la L.length lc, .slice va E.length vc, .int .i64 rt], .int .i64 c, .int .i64 p]) (by simp [results, Tryz.results13, go_sem, c0, c1, c2]) rfl ⟨L, E, la, lc, va, vc, rt, c, p, rfl, e3, by rw [HRES.out]; exact HSAYS.out, e2⟩
  · have HRES := Lib.hid (HRM.out.trans (if_neg hc))
    have t1 : (code == 0) = false := by simpa using hc
    have t2 : (code != 0) = true := by simpa using hc
    obtain ⟨_, _, _, _, r0, r1, r2⟩ := blk3 HZ2.out
    clear hc HRM a0 a1 a2
    go_wp2
    refine post_gen (fun Wf => Wf.heap[w.heap.size]? = some (.cells #[.slice none 0 0, .slice none 0 0, .int .i64 0] 32 (0, 0)) ∧ Below w.heap.size w Wf) ⟨blk_set3 HZ2.out _ _ _, bel_put HB2.out (Nat.le_refl _) _ _ _⟩ ?_
    rintro Wf ⟨e1, e2⟩
    obtain ⟨_, c0, c1, c2, _⟩ := blk3 e1
    exact bodyPost_ret (v := .tuple #[.agg #[.slice none 0 0, .slice none 0 0, .int .i64 0], .int .i64 code, .int .i64 place]) (by simp [results, Tryz.results13, go_sem, c0, c1, c2]) rfl ⟨[], [], none, 0, none, 0, 0, code, place, rfl, schrows_nil _ _, by rw [HRES.out]; exact ⟨rfl, rfl, rfl, rfl, rfl⟩, e2⟩
end Go.Proofs.YtleclhnlojalbaaGreatDoor
namespace Go.Proofs.YtleclhnlojalbaaGreatDoor
open Go.ChangeShapes Go.WideShapes Go.ChangeAt Go.RowKit Go.Shelf

def exA : ByteArray := ⟨#[101, 110, 117, 109, 32, 69, 32, 123, 32, 97, 44, 32, 98, 32, 125, 32, 115, 116, 114, 117, 99, 116, 32, 83, 32, 123, 32, 120, 58, 32, 69, 32, 61, 32, 98, 59, 32, 125, 32, 114, 111, 111, 116, 32, 83, 59]⟩
def exB : ByteArray := ⟨#[115, 116, 114, 117, 99, 116, 32, 83, 32, 123, 32, 120, 58, 32, 117, 56, 32, 61, 32, 50, 53, 54, 59, 32, 125, 32, 114, 111, 111, 116, 32, 83, 59]⟩
def exC : ByteArray := ⟨#[115, 116, 114, 117, 99, 116, 32, 83, 32, 123, 32, 120, 58, 32, 84, 59, 32, 125, 32, 114, 111, 111, 116, 32, 83, 59]⟩
theorem read_a : readM exA = .ok ⟨[⟨⟨#[83]⟩, [⟨⟨#[120]⟩, 10, 0, 0, 1⟩]⟩], [⟨⟨#[69]⟩, [⟨#[97]⟩, ⟨#[98]⟩]⟩], 0⟩ := by kernel_rfl
theorem read_b : readM exB = .no 15 19 := by kernel_rfl
theorem read_c : readM exC = .no 14 14 := by kernel_rfl
theorem one_of {α β : Type} {l : List (α × β)} {a : α} (h : l.map Prod.fst = [a]) : ∃ b, l = [(a, b)] := by
  cases l with
  | nil => cases h
  | cons p r =>
    cases r with
    | nil =>
      obtain ⟨x, y⟩ := p
      cases h
      exact ⟨y, rfl⟩
    | cons q r => cases (List.cons.inj h).2
set_option maxRecDepth 100000 in
set_option maxHeartbeats 4000000 in
theorem awake5_any (w : World) (hT : Tabs w) (hE : ErrV w) : Calls Tryz.prog 9 #[] w fun e w' => e = .returned (.bool true) ∧ Below w.heap.size w w' := by
  have HT := Lib.hid hT
  have HE := Lib.hid hE
  clear hT hE
  go_enter Tryz.func9, Tryz.ntmps9
  go_wp2_with fail
  refine (read_any exA w HT.out HE.out (by decide)).mono ?_
  rintro e W1 hp
  obtain ⟨ss, es, sa, sc, ea, ec, rt, code, pl, rfl, hr1, hs1, hb1⟩ := sch_form hp
  rw [read_a] at hs1
  obtain ⟨h1, h2, rfl, rfl, rfl⟩ := hs1
  obtain ⟨fv, rfl⟩ := one_of h1
  have HB1 := Lib.hid hb1
  have HR1 := Lib.hid hr1
  clear hp hr1 hb1 h1 h2
  simp only [List.length_singleton] at *
  go_upto_region 2 with (fail)
  obtain ⟨hbb, hq1, hq2⟩ := two_blk W1 #[.slice sa 1 sc, .slice ea es.length ec, .int .i64 0] #[.int .i64 0, .int .i64 0] 32 43
  generalize ((W1.alloc (.cells #[.slice sa 1 sc, .slice ea es.length ec, .int .i64 0] 32)).alloc (.cells #[.int .i64 0, .int .i64 0] 43)) = W2 at *
  have HB2 := Lib.hid (HB1.out.trans (hbb.mono HB1.out.size))
  have HR2 := Lib.hid (HR1.out.below hbb)
  have HQ1 := Lib.hid hq1
  have HQ2 := Lib.hid hq2
  generalize W1.heap.size = A1 at *
  clear hbb hq1 hq2 HB1 HR1
  go_wp2_with fail
  refine (read_any exB W2 (HT.out.below (Nat.le_refl _) HB2.out) (HE.out.later HB2.out) (by decide)).mono ?_
  rintro e W3 hp
  obtain ⟨ss2, es2, sa2, sc2, ea2, ec2, rt2, code, pl, rfl, _, hs1, hb3⟩ := sch_form hp
  rw [read_b] at hs1
  obtain ⟨_, _, rfl, rfl, rfl⟩ := hs1
  have HB3 := Lib.hid (HB2.out.trans (hb3.mono HB2.out.size))
  have HR3 := Lib.hid (HR2.out.below hb3)
  have HQ3 := Lib.hid (blk_below HQ1.out hb3 (blk_lt HQ1.out))
  have HQ4 := Lib.hid (blk_below HQ2.out hb3 (blk_lt HQ2.out))
  clear hp hb3 HB2 HR2 HQ1 HQ2
  go_upto_region 3 with (fail)
  obtain ⟨hbb, _, hq2⟩ := two_blk W3 #[.slice sa2 ss2.length sc2, .slice ea2 es2.length ec2, .int .i64 0] #[.int .i64 15, .int .i64 19] 32 43
  generalize ((W3.alloc (.cells #[.slice sa2 ss2.length sc2, .slice ea2 es2.length ec2, .int .i64 0] 32)).alloc (.cells #[.int .i64 15, .int .i64 19] 43)) = W4 at *
  have HB4 := Lib.hid (HB3.out.trans (hbb.mono HB3.out.size))
  have HR4 := Lib.hid (HR3.out.below hbb)
  have HQ5 := Lib.hid (blk_below HQ3.out hbb (blk_lt HQ3.out))
  have HQ6 := Lib.hid (blk_below HQ4.out hbb (blk_lt HQ4.out))
  have HQ7 := Lib.hid hq2
  generalize W3.heap.size = A3 at *
  clear hbb hq2 HB3 HR3 HQ3 HQ4
  go_wp2_with fail
  refine (read_any exC W4 (HT.out.below (Nat.le_refl _) HB4.out) (HE.out.later HB4.out) (by decide)).mono ?_
  rintro e W5 hp
  obtain ⟨ss3, es3, sa3, sc3, ea3, ec3, rt3, code, pl, rfl, _, hs1, hb5⟩ := sch_form hp
  rw [read_c] at hs1
  obtain ⟨_, _, rfl, rfl, rfl⟩ := hs1
  have HB5 := Lib.hid (HB4.out.trans (hb5.mono HB4.out.size))
  have HR5 := Lib.hid (HR4.out.below hb5)
  have HQ1 := Lib.hid (blk_below HQ5.out hb5 (blk_lt HQ5.out))
  have HQ2 := Lib.hid (blk_below HQ6.out hb5 (blk_lt HQ6.out))
  have HQ3 := Lib.hid (blk_below HQ7.out hb5 (blk_lt HQ7.out))
  clear hp hb5 HB4 HR4 HQ5 HQ6 HQ7
  go_upto_region 4 with (fail)
  obtain ⟨hbb, _, hq2⟩ := two_blk W5 #[.slice sa3 ss3.length sc3, .slice ea3 es3.length ec3, .int .i64 0] #[.int .i64 14, .int .i64 14] 32 43
  generalize ((W5.alloc (.cells #[.slice sa3 ss3.length sc3, .slice ea3 es3.length ec3, .int .i64 0] 32)).alloc (.cells #[.int .i64 14, .int .i64 14] 43)) = W6 at *
  have HB6 := Lib.hid (HB5.out.trans (hbb.mono HB5.out.size))
  have HR6 := HR5.out.below hbb
  obtain ⟨_, p0, p1, p2, _⟩ := blk3 (blk_below HQ1.out hbb (blk_lt HQ1.out))
  obtain ⟨_, f0, f1, _⟩ := blk2 (blk_below HQ2.out hbb (blk_lt HQ2.out))
  obtain ⟨_, g0, g1, _⟩ := blk2 (blk_below HQ3.out hbb (blk_lt HQ3.out))
  obtain ⟨_, k0, k1, _⟩ := blk2 hq2
  obtain ⟨g, c, a, n, hv, hc, hg, x0, x1, hz⟩ := HR6.strct 0 Nat.zero_lt_one
  obtain ⟨g2, c2, hv2, hc2, hg2, y0, y1, y2, y3, y4⟩ := HR6.field 0 Nat.zero_lt_one 0 Nat.zero_lt_one
  obtain ⟨rfl, rfl⟩ := slice_inj hv
  have hz' : fv = .slice a 1 n := hz
  have hv2' : fv = .slice (some ⟨g2, 0, none⟩) 1 c2 := hv2
  rw [hz'] at hv2'
  obtain ⟨rfl, rfl⟩ := slice_inj hv2'
  have x1' : W6.cell? ⟨g, 1, none⟩ = some (.slice (some ⟨g2, 0, none⟩) 1 n) := x1
  have y4' : W6.cell? ⟨g2, 4, none⟩ = some (.int .u64 1) := y4
  have h01 : (0 : Int) < 1 := by decide
  clear hbb hq2 hv hv2 hv2' hz hz' x0 x1 y0 y1 y2 y3 y4 HR6
  go_wp2
  go_ret
  exact ⟨rfl, HB6.out⟩
end Go.Proofs.YtleclhnlojalbaaGreatDoor
namespace Go.Proofs.YtleclhnlojalbaaGreatDoor
open Go.ChangeShapes Go.WideShapes Go.ChangeAt Go.RowKit Go.Shelf

set_option maxRecDepth 100000 in
set_option maxHeartbeats 4000000 in
theorem told5_any (s : ByteArray) (w : World) (hT : Tabs w) (hE : ErrV w) (hs : s.size ≤ 9223372036854775807) :
    Calls Tryz.prog 10 #[.string s] w fun e w' => e = .returned (.bool true) ∧ Below w.heap.size w w' := by
  have HT := Lib.hid hT
  have HE := Lib.hid hE
  have HS := Lib.hid hs
  clear hT hE hs
  go_enter Tryz.func10, Tryz.ntmps10
  go_wp2_with fail
  refine (read_any s w HT.out HE.out HS.out).mono ?_
  rintro e W1 hp
  obtain ⟨ss, es, sa, sc, ea, ec, rt, code, pl, rfl, hr1, hs1, hb1⟩ := sch_form hp
  have HB1 := Lib.hid hb1
  have HR1 := Lib.hid hr1
  have HS1 := Lib.hid hs1
  clear hp hr1 hs1 hb1
  go_upto_region 2 with (fail)
  obtain ⟨hbb, hq1, hq2⟩ := two_blk W1 #[.slice sa ss.length sc, .slice ea es.length ec, .int .i64 rt] #[.int .i64 code, .int .i64 (pl : Nat)] 32 43
  generalize ((W1.alloc (.cells #[.slice sa ss.length sc, .slice ea es.length ec, .int .i64 rt] 32)).alloc (.cells #[.int .i64 code, .int .i64 (pl : Nat)] 43)) = W2 at *
  have HB2 := Lib.hid (HB1.out.trans (hbb.mono HB1.out.size))
  have HR2 := Lib.hid (HR1.out.below hbb)
  have HQ1 := Lib.hid hq1
  have HQ2 := Lib.hid hq2
  generalize W1.heap.size = A1 at *
  clear hbb hq1 hq2 HB1 HR1
  go_wp2_with fail
  refine (rref_any s W2 (HT.out.below (Nat.le_refl _) HB2.out) HS.out).mono ?_
  rintro e W3 ⟨ss', es', sa', sc', ea', ec', rt', code', pl', rfl, hr3, hs3, hb3⟩
  obtain ⟨he1, he2, rfl, rfl, rfl⟩ := HS1.out.same hs3
  have HE1 := Lib.hid he1
  have HE2 := Lib.hid he2
  have HB3 := Lib.hid (HB2.out.trans (hb3.mono HB2.out.size))
  have HR3 := Lib.hid (HR2.out.below hb3)
  have HR3' := Lib.hid hr3
  have HP1 := Lib.hid (blk_below HQ1.out hb3 (blk_lt HQ1.out))
  have HP2 := Lib.hid (blk_below HQ2.out hb3 (blk_lt HQ2.out))
  clear hr3 hs3 hb3 he1 he2 HB2 HR2 HQ1 HQ2
  go_upto_region 3 with (fail)
  have hba : Below W3.heap.size W3 (W3.alloc (.cells #[.slice sa' ss'.length sc', .slice ea' es'.length ec', .int .i64 rt] 32)) := (Below.refl _ _).alloc (Nat.le_refl _) _
  have HN4 := Lib.hid (heap_alloc_new W3 (.cells #[.slice sa' ss'.length sc', .slice ea' es'.length ec', .int .i64 rt] 32))
  have HB4 := Lib.hid (HB3.out.trans (hba.mono HB3.out.size))
  have HR4 := Lib.hid (HR3.out.below hba)
  have HR4' := Lib.hid (HR3'.out.below hba)
  have HP1b := Lib.hid (blk_below HP1.out hba (blk_lt HP1.out))
  have HP2b := Lib.hid (blk_below HP2.out hba (blk_lt HP2.out))
  generalize W3.alloc (.cells #[.slice sa' ss'.length sc', .slice ea' es'.length ec', .int .i64 rt] 32) = W4 at *
  generalize W3.heap.size = A3 at *
  clear hba HB3 HR3 HR3' HP1 HP2
  go_wp2_with fail
  refine (dparse_any s W4 (HT.out.below (Nat.le_refl _) HB4.out) HS.out).mono ?_
  rintro e W5 ⟨rs, re, ts, sv, ev, rv, rfl, hx, hr5, hb5⟩
  obtain ⟨ra, rc, qa, qc, ta, tc, rfl, rfl, rfl⟩ := hr5.forms
  have HOK := Lib.hid (hx ▸ rawT_ok s)
  have HRM : Hid (readM s = if (rawT s).2.1 = 0 then makeM (rawOf rs re ts) else .no (rawT s).2.1 (rawT s).2.2) := Lib.hid (by unfold readM; rw [hx])
  generalize readM s = res at *
  generalize (rawT s).2.1 = pc at *
  generalize (rawT s).2.2 = pp at *
  have HB5 := Lib.hid (HB4.out.trans (hb5.mono HB4.out.size))
  have HR5 := Lib.hid (HR4.out.below hb5)
  have HR5' := Lib.hid (HR4'.out.below hb5)
  have HR5r := Lib.hid hr5
  have HP1 := Lib.hid (blk_below HP1b.out hb5 (blk_lt HP1b.out))
  have HP2 := Lib.hid (blk_below HP2b.out hb5 (blk_lt HP2b.out))
  have HN5 := Lib.hid (blk_below HN4.out hb5 (blk_lt HN4.out))
  clear hx hr5 hb5 HB4 HR4 HR4' HP1b HP2b HN4
  go_upto_region 4 with (fail)
  have hba : Below W5.heap.size W5 (W5.alloc (.cells #[.slice ra rs.length rc, .slice qa re.length qc, .slice ta ts.length tc] 69)) := (Below.refl _ _).alloc (Nat.le_refl _) _
  have HN6 := Lib.hid (heap_alloc_new W5 (.cells #[.slice ra rs.length rc, .slice qa re.length qc, .slice ta ts.length tc] 69))
  have HB6 := Lib.hid (HB5.out.trans (hba.mono HB5.out.size))
  have HR6 := Lib.hid (HR5.out.below hba)
  have HR6' := Lib.hid (HR5'.out.below hba)
  have HR6r := Lib.hid (HR5r.out.below hba)
  have HP1b := Lib.hid (blk_below HP1.out hba (blk_lt HP1.out))
  have HP2b := Lib.hid (blk_below HP2.out hba (blk_lt HP2.out))
  have HN6s := Lib.hid (blk_below HN5.out hba (blk_lt HN5.out))
  generalize W5.alloc (.cells #[.slice ra rs.length rc, .slice qa re.length qc, .slice ta ts.length tc] 69) = W6 at *
  generalize W5.heap.size = A5 at *
  clear hba HB5 HR5 HR5' HR5r HP1 HP2 HN5
  obtain ⟨_, n0, n1, n2, _⟩ := blk3 HN6.out
  by_cases hc : pc = 0
  · subst hc
    have HRES := Lib.hid (HRM.out.trans (if_pos rfl))
    have HMK := Lib.hid (make_any HR6r.out (HE.out.later HB6.out) HOK.out)
    clear HRM
    generalize makeM (rawOf rs re ts) = mres at *
    go_wp2_with fail
    refine HMK.out.mono ?_
    rintro e W7 hp
    obtain ⟨ss2, es2, sa2, sc2, ea2, ec2, rt2, code2, pl2, rfl, hr7, hs7, hb7⟩ := sch_form hp
    obtain ⟨he1, he2, rfl, rfl, rfl⟩ := HS1.out.same (by rw [HRES.out]; exact hs7)
    have HE3 := Lib.hid he1
    have HE4 := Lib.hid he2
    have HB7 := Lib.hid (HB6.out.trans (hb7.mono HB6.out.size))
    have HR7 := Lib.hid (HR6.out.below hb7)
    have HR7' := Lib.hid (HR6'.out.below hb7)
    have HR7m := Lib.hid hr7
    have HP1 := Lib.hid (blk_below HP1b.out hb7 (blk_lt HP1b.out))
    have HP2 := Lib.hid (blk_below HP2b.out hb7 (blk_lt HP2b.out))
    have HN7 := Lib.hid (blk_below HN6s.out hb7 (blk_lt HN6s.out))
    clear hp hr7 hs7 hb7 he1 he2 HB6 HR6 HR6' HR6r HP1b HP2b HN6s n0 n1 n2
    go_upto_region 6 with (fail)
    obtain ⟨hbb, hq1, hq2⟩ := two_blk W7 #[.slice sa2 ss2.length sc2, .slice ea2 es2.length ec2, .int .i64 rt] #[.int .i64 code, .int .i64 (pl : Nat)] 32 43
    generalize ((W7.alloc (.cells #[.slice sa2 ss2.length sc2, .slice ea2 es2.length ec2, .int .i64 rt] 32)).alloc (.cells #[.int .i64 code, .int .i64 (pl : Nat)] 43)) = W8 at *
    have HB8 := Lib.hid (HB7.out.trans (hbb.mono HB7.out.size))
    have HR8 := Lib.hid (HR7.out.below hbb)
    have HR8' := Lib.hid (HR7'.out.below hbb)
    have HR8m := Lib.hid (HR7m.out.below hbb)
    have HP1b := Lib.hid (blk_below HP1.out hbb (blk_lt HP1.out))
    have HP2b := Lib.hid (blk_below HP2.out hbb (blk_lt HP2.out))
    have HN8 := Lib.hid (blk_below HN7.out hbb (blk_lt HN7.out))
    obtain ⟨_, m0, m1, m2, _⟩ := blk3 hq1
    obtain ⟨_, k0, k1, _⟩ := blk2 hq2
    obtain ⟨_, f0, f1, _⟩ := blk2 HP2b.out
    obtain ⟨_, n0, n1, n2, _⟩ := blk3 HN8.out
    clear hbb hq1 hq2 HB7 HR7 HR7' HR7m HP1 HP2 HN7
    go_wp2_with fail
    refine (samesch_any W8 HR8m.out HR8'.out (HE3.out.symm.trans HE1.out) (HE4.out.symm.trans HE2.out)).mono ?_
    rintro e W9 ⟨rfl, hb9⟩
    have HB9 := Lib.hid (HB8.out.trans (hb9.mono HB8.out.size))
    have HR9 := Lib.hid (HR8.out.below hb9)
    have HR9' := Lib.hid (HR8'.out.below hb9)
    obtain ⟨_, p0, p1, p2, _⟩ := blk3 (blk_below HP1b.out hb9 (blk_lt HP1b.out))
    obtain ⟨_, g0, g1, _⟩ := blk2 (blk_below HP2b.out hb9 (blk_lt HP2b.out))
    obtain ⟨_, l0, l1, l2, _⟩ := blk3 (blk_below HN8.out hb9 (blk_lt HN8.out))
    clear hb9 m0 m1 m2 k0 k1 f0 f1 n0 n1 n2 HP1b HP2b HN8 HB8
    go_wp2_with fail
    refine (samesch_any W9 HR9.out HR9'.out HE1.out HE2.out).mono ?_
    rintro e W10 ⟨rfl, hb10⟩
    have HB10 := Lib.hid (HB9.out.trans (hb10.mono HB9.out.size))
    clear hb10
    go_wp2
    go_ret
    exact ⟨rfl, HB10.out⟩
  · have t1 : (pc == 0) = false := by simpa using hc
    obtain ⟨_, p0, p1, p2, _⟩ := blk3 HP1b.out
    obtain ⟨_, g0, g1, _⟩ := blk2 HP2b.out
    obtain ⟨_, l0, l1, l2, _⟩ := blk3 HN6s.out
    clear hc HRM
    go_wp2_with fail
    refine (samesch_any W6 HR6.out HR6'.out HE1.out HE2.out).mono ?_
    rintro e W10 ⟨rfl, hb10⟩
    have HB10 := Lib.hid (HB6.out.trans (hb10.mono HB6.out.size))
    clear hb10
    go_wp2
    go_ret
    exact ⟨rfl, HB10.out⟩
end Go.Proofs.YtleclhnlojalbaaGreatDoor
namespace Go.Proofs.YtleclhnlojalbaaGreatDoor
open Go.ChangeShapes Go.WideShapes Go.ChangeAt Go.RowKit Go.Shelf

theorem agg4_0 (a b c d : ByteArray) (W : World) : (Instr.index 63 (.agg #[.string a, .string b, .string c, .string d]) (.int .u8 0)).run Tryz.prog W = .ok (.string a) W := by kernel_rfl
theorem agg4_1 (a b c d : ByteArray) (W : World) : (Instr.index 63 (.agg #[.string a, .string b, .string c, .string d]) (.int .u8 1)).run Tryz.prog W = .ok (.string b) W := by kernel_rfl
theorem agg4_2 (a b c d : ByteArray) (W : World) : (Instr.index 63 (.agg #[.string a, .string b, .string c, .string d]) (.int .u8 2)).run Tryz.prog W = .ok (.string c) W := by kernel_rfl
theorem agg4_3 (a b c d : ByteArray) (W : World) : (Instr.index 63 (.agg #[.string a, .string b, .string c, .string d]) (.int .u8 3)).run Tryz.prog W = .ok (.string d) W := by kernel_rfl
theorem two_boxes (w : World) (a b : Array Value) (s t : TypeId) : Below w.heap.size w ((w.alloc (.cells a s)).alloc (.cells b t)) ∧ ((w.alloc (.cells a s)).alloc (.cells b t)).heap[w.heap.size + 1]? = some (.cells b t (0, 0)) := ⟨(two_blk w a b s t).1, (two_blk w a b s t).2.2⟩
theorem fit_of {S : Sch} {ss : List (SRec × Value)} {es : List (SCho × Value)} (h1 : S.structs = ss.map Prod.fst) (h2 : S.enums = es.map Prod.fst) (h : schFitB S = true) :
    (∀ q ∈ ss.map fun q => (cR q.1, q.2), q.1.name.size ≤ 281474976710656 ∧ ∀ f ∈ q.1.fields, FldFit f) ∧ (∀ q ∈ es, q.1.name.size ≤ 281474976710656 ∧ ∀ s ∈ q.1.names, s.size ≤ 281474976710656) := by
  unfold schFitB at h
  rw [Bool.and_eq_true, List.all_eq_true, List.all_eq_true, h1, h2] at h
  refine ⟨fun q hq => ?_, fun q hq => ?_⟩
  · obtain ⟨r, hr, rfl⟩ := List.mem_map.1 hq
    have := h.1 r.1 (List.mem_map_of_mem hr)
    rw [Bool.and_eq_true, decide_eq_true_iff, List.all_eq_true] at this
    refine ⟨this.1, fun f hf => ?_⟩
    obtain ⟨g, hg, rfl⟩ := List.mem_map.1 hf
    have h3 := this.2 g hg
    unfold fldFitB at h3
    rw [Bool.and_eq_true, Bool.and_eq_true, decide_eq_true_iff, decide_eq_true_iff, decide_eq_true_iff] at h3
    exact h3
  · have := h.2 q.1 (List.mem_map_of_mem hq)
    rw [Bool.and_eq_true, decide_eq_true_iff, List.all_eq_true] at this
    exact ⟨this.1, fun s hs => of_decide_eq_true (this.2 s hs)⟩
theorem ok_says {r : MRes Sch} {ss : List (SRec × Value)} {es : List (SCho × Value)} {rt : Nat} {c : Int} {p : Nat} (h : SSays r (ss.map Prod.fst) (es.map Prod.fst) rt c p) (hk : limOk r = true) :
    c = 0 ∧ checkB ⟨(ss.map fun q => (cR q.1, q.2)).map Prod.fst, es.map Prod.fst, (rt : Nat)⟩ = true ∧ (∀ q ∈ ss.map fun q => (cR q.1, q.2), q.1.name.size ≤ 281474976710656 ∧ ∀ f ∈ q.1.fields, FldFit f) ∧ (∀ q ∈ es, q.1.name.size ≤ 281474976710656 ∧ ∀ s ∈ q.1.names, s.size ≤ 281474976710656) := by
  cases r with
  | no c p => cases hk
  | ok S =>
    obtain ⟨h1, h2, h3, h4, h5⟩ := h
    have hk' : (checkB (cS S) && schFitB S) = true := hk
    rw [Bool.and_eq_true] at hk'
    refine ⟨h4, ?_, fit_of h1.symm h2.symm hk'.2⟩
    rw [← hk'.1]
    unfold cS
    rw [List.map_map, ← h1, ← h2, h3, List.map_map]
    rfl
theorem no_says {r : MRes Sch} {ss : List (SRec × Value)} {es : List (SCho × Value)} {rt : Nat} {c : Int} {p : Nat} (h : SSays r (ss.map Prod.fst) (es.map Prod.fst) rt c p) (hk : limNo r = true) : c = 16 ∧ ss = [] := by
  cases r with
  | ok S => cases hk
  | no c p =>
    obtain ⟨h1, h2, h3, h4, h5⟩ := h
    exact ⟨h4.trans (of_decide_eq_true hk), List.map_eq_nil_iff.1 h1⟩
end Go.Proofs.YtleclhnlojalbaaGreatDoor
