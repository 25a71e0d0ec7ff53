/-
  The document's own Value: of any value in memory, of a type that a schema can hold, it says what the plain function says. Conditions: those that each theorem names; the library's tables hold what the row lists.
-/
import Derived.Test.YtjeoekggdohhiaaDoorPkB8
import Derived.Test.YtjeoekggdohhiaaDoorPkB17
import Derived.Test.YtjeoekggdohhiaaDoorPkB18
import Derived.Test.YtjeoekggdohhiaaDoorPkB19
import Derived.Deep.RegionHeld3
namespace Go.Proofs.YtjeoekggdohhiaaDoor
open Go.ChangeShapes Go.WideShapes Go.ChangeAt Go.RowKit Go.Shelf

theorem fieldsP_cons (f : Nat → Int → Int → PV → Bool) (xs : List CFld) (vs : List PV) (j : Nat) (hx : j < xs.length) (hv : j < vs.length) : fieldsP f (xs.drop j) (vs.drop j) = (f xs[j].kind xs[j].ref xs[j].lists vs[j] && fieldsP f (xs.drop (j + 1)) (vs.drop (j + 1))) := by
  rw [List.drop_eq_getElem_cons hx, List.drop_eq_getElem_cons hv]
  rfl
def structP (ss : List CRec) (es : List SCho) (room : Nat) (rec : Int) (ks : List PV) : Bool :=
  decide (0 ≤ rec ∧ rec < ss.length) && (!decide (room = 0) && (decide (ks.length = (ss.getD rec.toNat ⟨⟨#[]⟩, []⟩).fields.length) && fieldsP (fitsP ss es (room - 1)) (ss.getD rec.toNat ⟨⟨#[]⟩, []⟩).fields ks))
def SAt (W0 : World) (b : Bool) (f : Nat → Int → Int → PV → Bool) (xs : List CFld) (ks : List PV) (i : Value) (W : World) : Prop := ∃ j : Nat, j ≤ xs.length ∧ i = .int .i64 j ∧ Below W0.heap.size W0 W ∧ fieldsP f (xs.drop j) (ks.drop j) = b
set_option maxRecDepth 100000 in
set_option maxHeartbeats 8000000 in
theorem vstruct_any (w : World) {base : Nat} {ss : List (CRec × Value)} {es : List (SCho × Value)} {sv ev : Value} (root : Int) (h : CRows base w ss es sv ev) (hT : Tabs w) (hF : FldsOk ss) (room : Nat) (rec : Int) (hroom : room ≤ 100)
    (ks : List PV) (ka : Option Addr) (kc : Nat) (hks : KidsAt w ks ka) (hkm : (ks.length : Int) ≤ 9223372036854775807) (hnext : ∀ r, room = r + 1 → FitsAt ss es r) :
    Calls Tryd.prog 44 #[.agg #[sv, ev, .int .i64 root], .int .i64 rec, .slice ka ks.length kc, .int .i64 room] w fun e w' => e = .returned (.bool (structP (ss.map Prod.fst) (es.map Prod.fst) room rec ks)) ∧ Below w.heap.size w w' := by
  obtain ⟨sa, sc, ea, ec, rfl, rfl⟩ := h.forms
  have hb := (Below.refl w.heap.size w).alloc (Nat.le_refl _) (.cells #[.slice sa ss.length sc, .slice ea es.length ec, .int .i64 root] 30)
  have HB := Lib.hid hb
  have HQ1 := Lib.hid (heap_alloc_new w (.cells #[.slice sa ss.length sc, .slice ea es.length ec, .int .i64 root] 30))
  have HC := Lib.hid (h.below hb)
  have HT := Lib.hid (hT.below (Nat.le_refl _) hb)
  have HKS := Lib.hid (hks.later hb)
  have HNX := Lib.hid hnext
  have HFO := Lib.hid hF
  obtain ⟨res, hres⟩ : ∃ res, structP (ss.map Prod.fst) (es.map Prod.fst) room rec ks = res := ⟨_, rfl⟩
  have HRES := Lib.hid hres
  rw [hres]
  clear hb h hT hks hnext hres hF
  go_enter Tryd.func44, Tryd.ntmps44
  go_upto_region 1 with (fail)
  generalize w.alloc (.cells #[.slice sa ss.length sc, .slice ea es.length ec, .int .i64 root] 30) = W0 at *
  obtain ⟨_, s0, s1, s2, _⟩ := blk3 HQ1.out
  go_wp2_with fail
  refine (vfields_any W0 root rec HC.out).mono ?_
  rintro e W1 ⟨hb1, hpost⟩
  have HB1 := Lib.hid (HB.out.trans (hb1.mono HB.out.size))
  have HB01 := Lib.hid hb1
  clear hb1 s0 s1 s2
  rcases hpost with ⟨hno, rfl⟩ | ⟨i, hi, rfl, rfl⟩
  · have HN : Hid (res = false) := Lib.hid (by rw [← HRES.out]; unfold structP; rw [List.length_map, decide_eq_false hno]; rfl)
    go_wp2
    go_ret
    exact ⟨ret_bool HN.out.symm, HB1.out⟩
  have hin : ((i : Nat) : Int).toNat = i := rfl
  have hge : (ss.map Prod.fst).getD i ⟨⟨#[]⟩, []⟩ = ss[i].1 := by rw [List.getD, List.getElem?_map, List.getElem?_eq_getElem hi]; rfl
  have HRES2 : Hid (res = (!decide (room = 0) && (decide (ks.length = ss[i].1.fields.length) && fieldsP (fitsP (ss.map Prod.fst) (es.map Prod.fst) (room - 1)) ss[i].1.fields ks))) := Lib.hid (by rw [← HRES.out]; unfold structP; rw [List.length_map, decide_eq_true ⟨by omega, by omega⟩, hin, hge, Bool.true_and])
  have HROW := Lib.hid ((HC.out.below HB01.out).fields _ (List.getElem_mem hi))
  obtain ⟨fa, fc, hf⟩ := ownsRow_form HROW.out
  have HOK := Lib.hid (HFO.out _ (List.getElem_mem hi))
  have hfew := row_few HROW.out
  rw [hf] at HROW ⊢
  generalize ss[i].1.fields = xs at *
  clear hf hge hin HRES
  by_cases hr0 : room = 0
  · have HN : Hid (res = false) := Lib.hid (by rw [HRES2.out, decide_eq_true hr0]; rfl)
    subst hr0
    go_wp2
    go_ret
    exact ⟨ret_bool HN.out.symm, HB1.out⟩
  have hrn : ((room : Int) == 0) = false := by simp; omega
  have HRES3 := Lib.hid (HRES2.out.trans (by rw [decide_eq_false hr0, Bool.not_false, Bool.true_and]))
  by_cases hlen : ks.length = xs.length
  · have HRES4 := Lib.hid (HRES3.out.trans (by rw [decide_eq_true hlen, Bool.true_and]))
    have hle : ((ks.length : Int) == (xs.length : Int)) = true := by simp; omega
    have hln : ((ks.length : Int) != (xs.length : Int)) = false := by simp; omega
    obtain ⟨r, hr⟩ : ∃ r, room = r + 1 := ⟨room - 1, by omega⟩
    have hrw : (room : Int) - 1 = (r : Int) := by omega
    have hr1 : room - 1 = r := by omega
    have hrw2 : IntKind.i64.wrap (r : Int) = r := IntWalk.i64_in _ (by omega)
    rw [hr1] at HRES4
    have HFA := Lib.hid (HNX.out r hr)
    obtain ⟨P, hP⟩ : ∃ P, fitsP (ss.map Prod.fst) (es.map Prod.fst) r = P := ⟨_, rfl⟩
    have HP := Lib.hid hP
    rw [hP] at HRES4
    have HK1 := Lib.hid (HKS.out.later HB01.out)
    have HC1 := Lib.hid (HC.out.below HB01.out)
    have HT1 := Lib.hid (HT.out.below (Nat.le_refl _) HB01.out)
    have HS1 := Lib.hid (blk_below HQ1.out HB01.out (blk_lt HQ1.out))
    have HLE := Lib.hid hlen
    clear hr hr1 hP HNX HRES3 HRES2 HKS HC HT HQ1 hlen
    go_wp2_with fail
    go_loopw [34] (fun i wr => SAt W1 res P xs ks i wr) (fun i _ => xs.length - (intOf i).toNat)
    case atStart => exact ⟨0, Nat.zero_le _, rfl, Below.refl _ _, HRES4.out.symm⟩
    case round =>
      obtain ⟨j, hj, rfl, hb, hrest⟩ := hrel
      have HBW := Lib.hid hb
      have HREST := Lib.hid hrest
      clear hb hrest
      by_cases hjl : j < xs.length
      · have hji : (j : Int) < xs.length := by omega
        have hji0 : (0 : Int) ≤ (j : Int) := by omega
        have hjk : j < ks.length := by rw [HLE.out]; exact hjl
        have hjki : (j : Int) < ks.length := by omega
        obtain ⟨kb, ko, u0, u1, u2, u3, rfl, c0, c1, c2, c3, hiv⟩ := HK1.out.later HBW.out j hjk
        obtain ⟨g, cc, hv, hcc, hgl, hcell⟩ := row_el cfldCells 5 (fun _ => rfl) (row_keep HBW.out HROW.out) j hjl
        obtain ⟨rfl, rfl⟩ := slice_inj hv
        have HIV := Lib.hid hiv
        have HCO := Lib.hid (fieldsP_cons P xs ks j hjl hjk)
        obtain ⟨hk255, hl0, hl1, _⟩ := HOK.out _ (List.getElem_mem hjl)
        obtain ⟨q, hq⟩ : ∃ q, ks[j] = q := ⟨_, rfl⟩
        obtain ⟨x, hx⟩ : ∃ x, xs[j] = x := ⟨_, rfl⟩
        rw [hq] at HIV HCO
        rw [hx] at HCO hcell hk255 hl0 hl1
        have x0 : wr.cell? ⟨g, j * 5, none⟩ = some (.string x.name) := hcell 0 (by omega)
        have x1 : wr.cell? ⟨g, j * 5 + 1, none⟩ = some (.int .u8 x.kind) := hcell 1 (by omega)
        have x2 : wr.cell? ⟨g, j * 5 + 2, none⟩ = some (.int .i64 x.ref) := hcell 2 (by omega)
        have x3 : wr.cell? ⟨g, j * 5 + 3, none⟩ = some (.int .i64 x.lists) := hcell 3 (by omega)
        have x4 : wr.cell? ⟨g, j * 5 + 4, none⟩ = some (.int .u64 x.dflt) := hcell 4 (by omega)
        obtain ⟨ba, qa, bc, qc, hval, hrst⟩ := HIV.out.form
        clear hrst
        injection hval with hval
        have e0 := congrArg (fun x : Array Value => x[0]?) hval
        have e1 := congrArg (fun x : Array Value => x[1]?) hval
        have e2 := congrArg (fun x : Array Value => x[2]?) hval
        have e3 := congrArg (fun x : Array Value => x[3]?) hval
        simp at e0 e1 e2 e3
        subst e0 e1 e2 e3
        clear hiv hq hx hval hcell hv
        generalize x.name = xn at *
        generalize x.kind = xk at *
        generalize x.ref = xr at *
        generalize x.lists = xl at *
        generalize x.dflt = xd at *
        go_upto_region 7 with (fail)
        have hba : Below wr.heap.size wr (wr.alloc (.cells #[.string xn, .int .u8 xk, .int .i64 xr, .int .i64 xl, .int .u64 xd] 57)) := (Below.refl _ _).alloc (Nat.le_refl _) _
        have HFB := Lib.hid (heap_alloc_new wr (.cells #[.string xn, .int .u8 xk, .int .i64 xr, .int .i64 xl, .int .u64 xd] 57))
        have HB2 := Lib.hid (HBW.out.trans (hba.mono HBW.out.size))
        have HIV2 := Lib.hid (HIV.out.later hba)
        have HC4 := Lib.hid (And.intro (cell_stays hba c0) (And.intro (cell_stays hba c1) (And.intro (cell_stays hba c2) (cell_stays hba c3))))
        clear c0 c1 c2 c3 x0 x1 x2 x3 x4 hba HIV
        generalize wr.alloc (.cells #[.string xn, .int .u8 xk, .int .i64 xr, .int .i64 xl, .int .u64 xd] 57) = W2 at *
        generalize wr.heap.size = F at *
        obtain ⟨c0, c1, c2, c3⟩ := HC4.out
        obtain ⟨_, y0, y1, y2, y3, y4, _⟩ := blk5 HFB.out
        have HS2 := Lib.hid (blk_below HS1.out HB2.out (blk_lt HS1.out))
        obtain ⟨_, s0, s1, s2, _⟩ := blk3 HS2.out
        have HFQ := Lib.hid (fun W (hb : Below W2.heap.size W2 W) => HFA.out W base _ _ root xk xr xl q _ ((HC1.out.below HB2.out).below hb) ((HT1.out.below (Nat.le_refl _) HB2.out).below (Nat.le_refl _) hb) hk255 hl0 hl1 (HIV2.out.later hb))
        rw [HP.out] at HFQ
        clear HC4 y0 y4
        go_region_held3 (fun w' => w'.cell? ⟨w.heap.size, 0, none⟩ = some (.slice sa ss.length sc) ∧ w'.cell? ⟨w.heap.size, 1, none⟩ = some (.slice ea es.length ec) ∧ w'.cell? ⟨w.heap.size, 2, none⟩ = some (.int .i64 root) ∧ w'.cell? ⟨F, 1, none⟩ = some (.int .u8 xk) ∧ w'.cell? ⟨F, 2, none⟩ = some (.int .i64 xr) ∧ w'.cell? ⟨F, 3, none⟩ = some (.int .i64 xl) ∧ w'.cell? ⟨kb, ko + j * 4, none⟩ = some (.int .u64 q.num) ∧ w'.cell? ⟨kb, ko + j * 4 + 1, none⟩ = some (.slice ba q.bytes.length bc) ∧ w'.cell? ⟨kb, ko + j * 4 + 2, none⟩ = some (.slice qa q.kids.length qc) ∧ w'.cell? ⟨kb, ko + j * 4 + 3, none⟩ = some (.bool q.has)) (first | assumption | (with_reducible exact ⟨k0, k1, k2, k3, k4, k5, k6, k7, k8, k9⟩) | go_keep) (first | (go_at_call 27; (with_reducible refine (HFQ.out W2.drew (Below.refl _ _).drew).mono ?_); rintro e W3 ⟨rfl, hb3⟩; have hx : Below W2.heap.size W2 W3 := (Below.refl _ W2).drew.trans hb3; clear hb3; have k0 := cell_stays hx s0; have k1 := cell_stays hx s1; have k2 := cell_stays hx s2; have k3 := cell_stays hx y1; have k4 := cell_stays hx y2; have k5 := cell_stays hx y3; have k6 := cell_stays hx c0; have k7 := cell_stays hx c1; have k8 := cell_stays hx c2; have k9 := cell_stays hx c3))
        all_goals
          have HB3 := Lib.hid (HB2.out.trans (hx.mono HB2.out.size))
          clear hx k0 k1 k2 k3 k4 k5 k6 k7 k8 k9 c0 c1 c2 c3 s0 s1 s2 y1 y2 y3
          simp only [Exit.then]
          cases hfb : P xk xr xl q with
          | false =>
            have HN : Hid (res = false) := Lib.hid (by rw [← HREST.out, HCO.out, hfb]; rfl)
            go_wp2
            go_ret
            exact ⟨ret_bool HN.out.symm, HB1.out.trans (HB3.out.mono HB1.out.size)⟩
          | true =>
            have HY : Hid (fieldsP P (xs.drop (j + 1)) (ks.drop (j + 1)) = res) := Lib.hid (by rw [← HREST.out, HCO.out, hfb]; rfl)
            go_wp2
            go_roundw
            case rel => exact ⟨j + 1, by omega, by go_num, HB3.out, HY.out⟩
            case measure => simp [intOf]; omega
      · obtain rfl : j = xs.length := by omega
        have HR : Hid (res = true) := Lib.hid (by rw [← HREST.out, List.drop_length]; rfl)
        clear hjl
        go_wp2
        go_ret
        exact ⟨ret_bool HR.out.symm, HB1.out.trans (HBW.out.mono HB1.out.size)⟩
  · have HN : Hid (res = false) := Lib.hid (by rw [HRES3.out, decide_eq_false hlen]; rfl)
    have hln : ((ks.length : Int) != (xs.length : Int)) = true := by simp; omega
    go_wp2
    go_ret
    exact ⟨ret_bool HN.out.symm, HB1.out⟩
end Go.Proofs.YtjeoekggdohhiaaDoor
namespace Go.Proofs.YtjeoekggdohhiaaDoor
open Go.ChangeShapes Go.WideShapes Go.ChangeAt Go.RowKit Go.Shelf

theorem three_start (w : World) (a b c : Array Value) (s t u : TypeId) : Below w.heap.size w (((w.alloc (.cells a s)).alloc (.cells b t)).alloc (.cells c u)) ∧ (((w.alloc (.cells a s)).alloc (.cells b t)).alloc (.cells c u)).heap[w.heap.size]? = some (.cells a s (0, 0)) ∧ (((w.alloc (.cells a s)).alloc (.cells b t)).alloc (.cells c u)).heap[w.heap.size + 1]? = some (.cells b t (0, 0)) ∧ (((w.alloc (.cells a s)).alloc (.cells b t)).alloc (.cells c u)).heap[w.heap.size + 1 + 1]? = some (.cells c u (0, 0)) := by
  obtain ⟨h1, h2, h3⟩ := two_start w a b s t
  refine ⟨h1.alloc (by simp only [World.size_alloc]; omega) _, blk_alloc h2 _, blk_alloc h3 _, ?_⟩
  have h := heap_alloc_new ((w.alloc (.cells a s)).alloc (.cells b t)) (.cells c u)
  rw [World.size_alloc, World.size_alloc] at h
  exact h
theorem fitsP_eq (ss : List CRec) (es : List SCho) (room k : Nat) (ref lists : Int) (v : PV) : fitsP ss es room k ref lists v = (bareP (sortP k lists) v &&
    (if sortP k lists = 1 then fitsT es k ref lists v.num else if sortP k lists = 2 then decide (k = 12) || decide (u8At v.bytes 0 < 0)
     else if sortP k lists = 3 then v.kids.all (kidOk ss es room k ref (lists - 1)) else if sortP k lists = 4 then !v.has || structP ss es room ref v.kids else false)) := by
  cases room with
  | zero =>
    show fitsV1 ss es none k ref lists v = _
    unfold fitsV1
    congr 1
    have h1 : decide (v.kids.length = 0) = v.kids.all (kidOk ss es 0 k ref (lists - 1)) := by
      cases v.kids with
      | nil => rfl
      | cons a l => simp [kidOk]
    have h2 : structP ss es 0 ref v.kids = false := by unfold structP; simp
    rw [h2, ← h1]
  | succ r =>
    have h2 : structP ss es (r + 1) ref v.kids = (decide (0 ≤ ref ∧ ref < ss.length) && (decide (v.kids.length = (ss.getD ref.toNat ⟨⟨#[]⟩, []⟩).fields.length) && fieldsP (fitsP ss es r) (ss.getD ref.toNat ⟨⟨#[]⟩, []⟩).fields v.kids)) := by unfold structP; simp
    show fitsV1 ss es (some (fitsP ss es r)) k ref lists v = _
    unfold fitsV1
    rw [h2]
    rfl
set_option maxRecDepth 100000 in
set_option maxHeartbeats 16000000 in
theorem vfits_step {ss : List (CRec × Value)} {es : List (SCho × Value)} (hF : FldsOk ss) (room : Nat) (hroom : room ≤ 100) (hnext : ∀ r, room = r + 1 → FitsAt ss es r) : FitsAt ss es room := by
  intro w base sv ev root k ref lists v val h hT hk hl0 hl1 hv
  obtain ⟨sa, sc, ea, ec, rfl, rfl⟩ := h.forms
  obtain ⟨ba, ka, bc, kc, rfl, hn, hby, hbl, hbm, hkl, hkm, hks⟩ := hv.form
  obtain ⟨hb, hq1, hq2, hq3⟩ := three_start w #[.slice sa ss.length sc, .slice ea es.length ec, .int .i64 root] #[.int .u8 k, .int .i64 ref, .int .i64 lists] #[.int .u64 v.num, .slice ba v.bytes.length bc, .slice ka v.kids.length kc, .bool v.has] 30 55 36
  have HB := Lib.hid hb
  have HQ1 := Lib.hid hq1
  have HQ2 := Lib.hid hq2
  have HQ3 := Lib.hid hq3
  have HC := Lib.hid (h.below hb)
  have HT := Lib.hid (hT.below (Nat.le_refl _) hb)
  have HV := Lib.hid (hv.later hb)
  have HBY := Lib.hid (hby.below (Nat.le_refl _) hb)
  have HKS := Lib.hid (KidsAt.later (w := w) (ks := v.kids) (ka := ka) hks hb)
  have HNX := Lib.hid hnext
  have HFO := Lib.hid hF
  obtain ⟨res, hres⟩ : ∃ res, fitsP (ss.map Prod.fst) (es.map Prod.fst) room k ref lists v = res := ⟨_, rfl⟩
  have HRES := Lib.hid (hres.symm.trans (fitsP_eq _ _ _ _ _ _ _))
  rw [hres]
  have HSORT : Hid (sortP k lists = if 0 < lists then 3 else if lists < 0 then 0 else if 0 < kSize k then 1 else if k = 11 ∨ k = 12 then 2 else if k = 13 then 4 else 0) := Lib.hid rfl
  clear hb hq1 hq2 hq3 h hT hv hby hks hnext hF hres
  go_enter Tryd.func27, Tryd.ntmps27
  go_upto_region 1 with (fail)
  generalize ((w.alloc (.cells #[.slice sa ss.length sc, .slice ea es.length ec, .int .i64 root] 30)).alloc (.cells #[.int .u8 k, .int .i64 ref, .int .i64 lists] 55)).alloc (.cells #[.int .u64 v.num, .slice ba v.bytes.length bc, .slice ka v.kids.length kc, .bool v.has] 36) = W0 at *
  obtain ⟨_, t0, t1, t2, _⟩ := blk3 HQ2.out
  go_wp2_with fail
  refine (sorts_any k ref lists W0).mono ?_
  rintro e W1 ⟨rfl, hb1⟩
  have HB1 := Lib.hid (HB.out.trans (hb1.mono HB.out.size))
  have HB01 := Lib.hid hb1
  clear hb1 t0 t1 t2
  have HV1 := Lib.hid (HV.out.later HB01.out)
  obtain ⟨_, v0, v1, v2, v3⟩ := blk4p (blk_below HQ3.out HB01.out (blk_lt HQ3.out))
  go_wp2_with fail
  refine (bare_any (sortP k lists) v _ W1 HV1.out).mono ?_
  rintro e W2 ⟨rfl, hb2⟩
  have HB2 := Lib.hid (HB1.out.trans (hb2.mono HB1.out.size))
  have HB02 := Lib.hid (HB01.out.trans (hb2.mono HB01.out.size))
  clear hb2 v0 v1 v2 v3
  cases hbare : bareP (sortP k lists) v with
  | false =>
    have HN : Hid (res = false) := Lib.hid (by rw [HRES.out, hbare]; rfl)
    clear hbare
    go_wp2
    go_ret
    exact ⟨ret_bool HN.out.symm, HB2.out⟩
  | true =>
    have HR2 := Lib.hid (HRES.out.trans (by rw [hbare, Bool.true_and]))
    clear hbare HRES
    have HC2 := Lib.hid (HC.out.below HB02.out)
    have HT2 := Lib.hid (HT.out.below (Nat.le_refl _) HB02.out)
    have HV2 := Lib.hid (HV.out.later HB02.out)
    have HBY2 := Lib.hid (HBY.out.below (Nat.le_refl _) HB02.out)
    have HKS2 := Lib.hid (HKS.out.later HB02.out)
    obtain ⟨_, t0, t1, t2, _⟩ := blk3 (blk_below HQ2.out HB02.out (blk_lt HQ2.out))
    obtain ⟨_, s0, s1, s2, _⟩ := blk3 (blk_below HQ1.out HB02.out (blk_lt HQ1.out))
    obtain ⟨_, v0, v1, v2, v3⟩ := blk4p (blk_below HQ3.out HB02.out (blk_lt HQ3.out))
    have ho : sortP k lists = 0 ∨ sortP k lists = 1 ∨ (sortP k lists = 2 ∧ (k = 11 ∨ k = 12)) ∨ (sortP k lists = 3 ∧ 0 < lists) ∨ sortP k lists = 4 := by
      unfold sortP
      split
      · exact .inr (.inr (.inr (.inl ⟨rfl, by assumption⟩)))
      split
      · exact .inl rfl
      split
      · exact .inr (.inl rfl)
      split
      · exact .inr (.inr (.inl ⟨rfl, by assumption⟩))
      split
      · exact .inr (.inr (.inr (.inr rfl)))
      · exact .inl rfl
    rcases ho with ho | ho | ⟨ho, hk2⟩ | ⟨ho, hl⟩ | ho
    · have HN : Hid (res = false) := Lib.hid (by rw [HR2.out, ho]; rfl)
      rw [ho]
      clear ho
      go_wp2
      go_ret
      exact ⟨ret_bool HN.out.symm, HB2.out⟩
    · have HN : Hid (res = fitsT (es.map Prod.fst) k ref lists v.num) := Lib.hid (by rw [HR2.out, if_pos ho])
      rw [ho]
      clear ho
      go_wp2_with fail
      refine (sfits_any W2 root HC2.out k ref lists v.num hk hn).mono ?_
      rintro e W3 ⟨rfl, hb3⟩
      have HB3 := Lib.hid (HB2.out.trans (hb3.mono HB2.out.size))
      clear hb3 t0 t1 t2 s0 s1 s2 v0 v1 v2 v3
      generalize fitsT (es.map Prod.fst) k ref lists v.num = b at *
      go_wp2
      go_ret
      exact ⟨ret_bool HN.out.symm, HB3.out⟩
    · have HN : Hid (res = (decide (k = 12) || decide (u8At v.bytes 0 < 0))) := Lib.hid (by rw [HR2.out, ho]; rfl)
      rw [ho]
      clear ho
      rcases hk2 with rfl | rfl
      · have HN2 : Hid (res = decide (u8At v.bytes 0 < 0)) := Lib.hid (HN.out.trans (by simp))
        have hur := u8At_range v.bytes 0
        go_wp2_with fail
        refine (wutf8_gen ba bc v.bytes.length v.bytes W2 HT2.out HBY2.out rfl hbm hbl).mono ?_
        rintro e W3 ⟨rfl, hb3⟩
        have HB3 := Lib.hid (HB2.out.trans (hb3.mono HB2.out.size))
        clear hb3 t0 t1 t2 s0 s1 s2 v0 v1 v2 v3
        generalize u8At v.bytes 0 = z at *
        go_wp2
        go_ret
        exact ⟨ret_bool HN2.out.symm, HB3.out⟩
      · have HN2 : Hid (res = true) := Lib.hid (HN.out.trans (by simp))
        go_wp2
        go_ret
        exact ⟨ret_bool HN2.out.symm, HB2.out⟩
    · have HN : Hid (res = v.kids.all (kidOk (ss.map Prod.fst) (es.map Prod.fst) room k ref (lists - 1))) := Lib.hid (by rw [HR2.out, ho]; rfl)
      rw [ho]
      clear ho
      go_upto_region 10 with (fail)
      have HEL := Lib.hid (fun W => element_any k ref lists ⟨by omega, by omega⟩ W)
      have HLS := Lib.hid (fun W (hb : Below W2.heap.size W2 W) => vlist_any W root (HC2.out.below hb) (HT2.out.below (Nat.le_refl _) hb) room k ref (lists - 1) hk (by omega) (by omega) hroom v.kids ka kc (HKS2.out.later hb) hkl hkm HNX.out)
      generalize v.kids.all (kidOk (ss.map Prod.fst) (es.map Prod.fst) room k ref (lists - 1)) = b at *
      go_region_held3 (fun w' => w'.cell? ⟨w.heap.size, 0, none⟩ = some (.slice sa ss.length sc) ∧ w'.cell? ⟨w.heap.size, 1, none⟩ = some (.slice ea es.length ec) ∧ w'.cell? ⟨w.heap.size, 2, none⟩ = some (.int .i64 root) ∧ w'.cell? ⟨w.heap.size + 1, 0, none⟩ = some (.int .u8 k) ∧ w'.cell? ⟨w.heap.size + 1, 1, none⟩ = some (.int .i64 ref) ∧ w'.cell? ⟨w.heap.size + 1, 2, none⟩ = some (.int .i64 lists) ∧ w'.cell? ⟨w.heap.size + 1 + 1, 2, none⟩ = some (.slice ka v.kids.length kc)) (first | assumption | (with_reducible exact ⟨k0, k1, k2, k3, k4, k5, k6⟩) | (with_reducible exact ⟨l0, l1, l2, l3, l4, l5, l6⟩) | go_keep) (first | (go_at_call 43; (with_reducible refine (HEL.out W2.drew).mono ?_); rintro e W3 ⟨rfl, hb3⟩; have hx : Below W2.heap.size W2 W3 := (Below.refl _ W2).drew.trans hb3; clear hb3; have k0 := cell_stays hx s0; have k1 := cell_stays hx s1; have k2 := cell_stays hx s2; have k3 := cell_stays hx t0; have k4 := cell_stays hx t1; have k5 := cell_stays hx t2; have k6 := cell_stays hx v2) | (go_at_call 42; (with_reducible refine (HLS.out W3 hx).mono ?_); rintro e W4 ⟨rfl, hb4⟩; have hy : Below W2.heap.size W2 W4 := hx.trans (hb4.mono hx.size); clear hb4; have l0 := cell_stays hy s0; have l1 := cell_stays hy s1; have l2 := cell_stays hy s2; have l3 := cell_stays hy t0; have l4 := cell_stays hy t1; have l5 := cell_stays hy t2; have l6 := cell_stays hy v2))
      all_goals
        have HB4 := Lib.hid (HB2.out.trans (hy.mono HB2.out.size))
        clear hx hy s0 s1 s2 t0 t1 t2 v0 v1 v2 v3 k0 k1 k2 k3 k4 k5 k6 l0 l1 l2 l3 l4 l5 l6
        simp only [Exit.then]
        go_wp2
        go_ret
        exact ⟨ret_bool HN.out.symm, HB4.out⟩
    · have HN : Hid (res = (!v.has || structP (ss.map Prod.fst) (es.map Prod.fst) room ref v.kids)) := Lib.hid (by rw [HR2.out, ho]; rfl)
      rw [ho]
      clear ho
      cases hh : v.has with
      | false =>
        have HN2 : Hid (res = true) := Lib.hid (by rw [HN.out, hh]; rfl)
        rw [hh] at v3
        go_wp2
        go_ret
        exact ⟨ret_bool HN2.out.symm, HB2.out⟩
      | true =>
        have HN2 : Hid (res = structP (ss.map Prod.fst) (es.map Prod.fst) room ref v.kids) := Lib.hid (by rw [HN.out, hh]; rfl)
        rw [hh] at v3
        have HST := Lib.hid (vstruct_any W2 root HC2.out HT2.out HFO.out room ref hroom v.kids ka kc HKS2.out hkm HNX.out)
        generalize structP (ss.map Prod.fst) (es.map Prod.fst) room ref v.kids = b at *
        go_wp2_with fail
        refine HST.out.mono ?_
        rintro e W3 ⟨rfl, hb3⟩
        have HB3 := Lib.hid (HB2.out.trans (hb3.mono HB2.out.size))
        clear hb3 t0 t1 t2 s0 s1 s2 v0 v1 v2 v3
        go_wp2
        go_ret
        exact ⟨ret_bool HN2.out.symm, HB3.out⟩
theorem vfits_any {ss : List (CRec × Value)} {es : List (SCho × Value)} (hF : FldsOk ss) : ∀ room, room ≤ 100 → FitsAt ss es room
  | 0, h => vfits_step hF 0 h (fun r hr => by cases hr)
  | r + 1, h => vfits_step hF (r + 1) h (fun r' hr => by injection hr with hr; exact hr ▸ vfits_any hF r (by omega))
end Go.Proofs.YtjeoekggdohhiaaDoor
namespace Go.Proofs.YtjeoekggdohhiaaDoor
open Go.ChangeShapes Go.WideShapes Go.ChangeAt Go.RowKit Go.Shelf

theorem ftop_any (w : World) {base : Nat} {ss : List (CRec × Value)} {es : List (SCho × Value)} {sv ev : Value} (root rec : Int) (h : CRows base w ss es sv ev) (hT : Tabs w) (hF : FldsOk ss) (v : PV) (val : Value) (hv : IsV w v val) :
    Calls Tryd.prog 13 #[.agg #[sv, ev, .int .i64 root], .int .i64 rec, val] w fun e w' => e = .returned (.bool (v.has && fitsP (ss.map Prod.fst) (es.map Prod.fst) 12 13 rec 0 v)) ∧ Below w.heap.size w w' := by
  obtain ⟨sa, sc, ea, ec, rfl, rfl⟩ := h.forms
  obtain ⟨ba, ka, bc, kc, rfl, hn, hby, hbl, hbm, hkl, hkm, hks⟩ := hv.form
  obtain ⟨hb, hq1, hq2⟩ := two_start w #[.slice sa ss.length sc, .slice ea es.length ec, .int .i64 root] #[.int .u64 v.num, .slice ba v.bytes.length bc, .slice ka v.kids.length kc, .bool v.has] 30 36
  have HB := Lib.hid hb
  have HFI := Lib.hid (vfits_any hF (es := es) 12 (by decide) _ base _ _ root 13 rec 0 v _ (h.below hb) (hT.below (Nat.le_refl _) hb) (by decide) (by decide) (by decide) (hv.later hb))
  obtain ⟨_, s0, s1, s2, _⟩ := blk3 hq1
  obtain ⟨_, v0, v1, v2, v3⟩ := blk4p hq2
  generalize fitsP (ss.map Prod.fst) (es.map Prod.fst) 12 13 rec 0 v = b at *
  clear hb hq1 hq2 h hT hv hby hks hF hn hbl hbm hkl hkm
  cases hh : v.has with
  | false =>
    rw [hh] at HB s0 s1 s2 v0 v1 v2 v3
    go_enter Tryd.func13, Tryd.ntmps13
    go_wp2
    go_ret
    exact ⟨rfl, HB.out⟩
  | true =>
    rw [hh] at HFI HB s0 s1 s2 v0 v1 v2 v3
    go_enter Tryd.func13, Tryd.ntmps13
    go_upto_region 1 with (fail)
    generalize (w.alloc (.cells #[.slice sa ss.length sc, .slice ea es.length ec, .int .i64 root] 30)).alloc (.cells #[.int .u64 v.num, .slice ba v.bytes.length bc, .slice ka v.kids.length kc, .bool true] 36) = W0 at *
    go_wp2_with fail
    refine HFI.out.mono ?_
    rintro e W1 ⟨rfl, hb1⟩
    have HB1 := Lib.hid (HB.out.trans (hb1.mono HB.out.size))
    clear hb1 s0 s1 s2 v0 v1 v2 v3
    go_wp2
    go_ret
    exact ⟨rfl, HB1.out⟩
end Go.Proofs.YtjeoekggdohhiaaDoor
namespace Go.Proofs.YtjeoekggdohhiaaDoor
open Go.ChangeShapes Go.WideShapes Go.ChangeAt Go.RowKit Go.Shelf
theorem tk_cases (k : Nat) (h1 : 1 ≤ k) (h2 : k ≤ 13) : (k = 13 ∧ sortP k 0 = 4 ∧ numTB k 0 = false) ∨ ((k = 11 ∨ k = 12) ∧ sortP k 0 = 2 ∧ numTB k 0 = false) ∨ (k ≤ 10 ∧ sortP k 0 = 1 ∧ numTB k 0 = true) := by
  have : k = 1 ∨ k = 2 ∨ k = 3 ∨ k = 4 ∨ k = 5 ∨ k = 6 ∨ k = 7 ∨ k = 8 ∨ k = 9 ∨ k = 10 ∨ k = 11 ∨ k = 12 ∨ k = 13 := by omega
  rcases this with rfl | rfl | rfl | rfl | rfl | rfl | rfl | rfl | rfl | rfl | rfl | rfl | rfl <;> simp [sortP, numTB, kSize]
end Go.Proofs.YtjeoekggdohhiaaDoor
