/-
  The package view's structFits: of a struct's kids in memory. Conditions: those that each theorem names; the library's tables hold what the row lists.
-/
import Derived.Test.YtfghaopimeoijaaDoorPkT17
import Derived.Test.YtfghaopimeoijaaDoorPkT19
import Derived.Deep.RegionHeld3
namespace Go.Proofs.YtfghaopimeoijaaDoor
open Go.ChangeShapes Go.WideShapes Go.ChangeAt Go.RowKit Go.Shelf

theorem fieldsP_cons (f : Nat → Int → Int → PV → Bool) (xs : List CFld) (vs : List PV) (j : Nat) (hx : j < xs.length) (hv : j < vs.length) : fieldsP f (xs.drop j) (vs.drop j) = (f xs[j].kind xs[j].ref xs[j].lists vs[j] && fieldsP f (xs.drop (j + 1)) (vs.drop (j + 1))) := by
  rw [List.drop_eq_getElem_cons hx, List.drop_eq_getElem_cons hv]
  rfl
def structP (ss : List CRec) (es : List SCho) (room : Nat) (rec : Int) (ks : List PV) : Bool :=
  decide (0 ≤ rec ∧ rec < ss.length) && (!decide (room = 0) && (decide (ks.length = (ss.getD rec.toNat ⟨⟨#[]⟩, []⟩).fields.length) && fieldsP (fitsP ss es (room - 1)) (ss.getD rec.toNat ⟨⟨#[]⟩, []⟩).fields ks))
def SAt (W0 : World) (b : Bool) (f : Nat → Int → Int → PV → Bool) (xs : List CFld) (ks : List PV) (i : Value) (W : World) : Prop := ∃ j : Nat, j ≤ xs.length ∧ i = .int .i64 j ∧ Below W0.heap.size W0 W ∧ fieldsP f (xs.drop j) (ks.drop j) = b
set_option maxRecDepth 100000 in
set_option maxHeartbeats 8000000 in
theorem vstruct_any (w : World) {base : Nat} {ss : List (CRec × Value)} {es : List (SCho × Value)} {sv ev : Value} (root : Int) (h : CRows base w ss es sv ev) (hT : Tabs w) (hF : FldsOk ss) (room : Nat) (rec : Int) (hroom : room ≤ 100)
    (ks : List PV) (ka : Option Addr) (kc : Nat) (hks : KidsAt w ks ka) (hkm : (ks.length : Int) ≤ 9223372036854775807) (hnext : ∀ r, room = r + 1 → FitsAt ss es r) :
    Calls Tryd.prog 44 #[.agg #[sv, ev, .int .i64 root], .int .i64 rec, .slice ka ks.length kc, .int .i64 room] w fun e w' => e = .returned (.bool (structP (ss.map Prod.fst) (es.map Prod.fst) room rec ks)) ∧ Below w.heap.size w w' := by
  obtain ⟨sa, sc, ea, ec, rfl, rfl⟩ := h.forms
  have hb := (Below.refl w.heap.size w).alloc (Nat.le_refl _) (.cells #[.slice sa ss.length sc, .slice ea es.length ec, .int .i64 root] 30)
  have HB := Lib.hid hb
  have HQ1 := Lib.hid (heap_alloc_new w (.cells #[.slice sa ss.length sc, .slice ea es.length ec, .int .i64 root] 30))
  have HC := Lib.hid (h.below hb)
  have HT := Lib.hid (hT.below (Nat.le_refl _) hb)
  have HKS := Lib.hid (hks.later hb)
  have HNX := Lib.hid hnext
  have HFO := Lib.hid hF
  obtain ⟨res, hres⟩ : ∃ res, structP (ss.map Prod.fst) (es.map Prod.fst) room rec ks = res := ⟨_, rfl⟩
  have HRES := Lib.hid hres
  rw [hres]
  clear hb h hT hks hnext hres hF
  go_enter Tryd.func44, Tryd.ntmps44
  go_upto_region 1 with (fail)
  generalize w.alloc (.cells #[.slice sa ss.length sc, .slice ea es.length ec, .int .i64 root] 30) = W0 at *
  obtain ⟨_, s0, s1, s2, _⟩ := blk3 HQ1.out
  go_wp2_with fail
  refine (vfields_any W0 root rec HC.out).mono ?_
  rintro e W1 ⟨hb1, hpost⟩
  have HB1 := Lib.hid (HB.out.trans (hb1.mono HB.out.size))
  have HB01 := Lib.hid hb1
  clear hb1 s0 s1 s2
  rcases hpost with ⟨hno, rfl⟩ | ⟨i, hi, rfl, rfl⟩
  · have HN : Hid (res = false) := Lib.hid (by rw [← HRES.out]; unfold structP; rw [List.length_map, decide_eq_false hno]; rfl)
    go_wp2
    go_ret
    exact ⟨ret_bool HN.out.symm, HB1.out⟩
  have hin : ((i : Nat) : Int).toNat = i := rfl
  have hge : (ss.map Prod.fst).getD i ⟨⟨#[]⟩, []⟩ = ss[i].1 := by rw [List.getD, List.getElem?_map, List.getElem?_eq_getElem hi]; rfl
  have HRES2 : Hid (res = (!decide (room = 0) && (decide (ks.length = ss[i].1.fields.length) && fieldsP (fitsP (ss.map Prod.fst) (es.map Prod.fst) (room - 1)) ss[i].1.fields ks))) := Lib.hid (by rw [← HRES.out]; unfold structP; rw [List.length_map, decide_eq_true ⟨by omega, by omega⟩, hin, hge, Bool.true_and])
  have HROW := Lib.hid ((HC.out.below HB01.out).fields _ (List.getElem_mem hi))
  obtain ⟨fa, fc, hf⟩ := ownsRow_form HROW.out
  have HOK := Lib.hid (HFO.out _ (List.getElem_mem hi))
  have hfew := row_few HROW.out
  rw [hf] at HROW ⊢
  generalize ss[i].1.fields = xs at *
  clear hf hge hin HRES
  by_cases hr0 : room = 0
  · have HN : Hid (res = false) := Lib.hid (by rw [HRES2.out, decide_eq_true hr0]; rfl)
    subst hr0
    go_wp2
    go_ret
    exact ⟨ret_bool HN.out.symm, HB1.out⟩
  have hrn : ((room : Int) == 0) = false := by simp; omega
  have HRES3 := Lib.hid (HRES2.out.trans (by rw [decide_eq_false hr0, Bool.not_false, Bool.true_and]))
  by_cases hlen : ks.length = xs.length
  · have HRES4 := Lib.hid (HRES3.out.trans (by rw [decide_eq_true hlen, Bool.true_and]))
    have hle : ((ks.length : Int) == (xs.length : Int)) = true := by simp; omega
    have hln : ((ks.length : Int) != (xs.length : Int)) = false := by simp; omega
    obtain ⟨r, hr⟩ : ∃ r, room = r + 1 := ⟨room - 1, by omega⟩
    have hrw : (room : Int) - 1 = (r : Int) := by omega
    have hr1 : room - 1 = r := by omega
    have hrw2 : IntKind.i64.wrap (r : Int) = r := IntWalk.i64_in _ (by omega)
    rw [hr1] at HRES4
    have HFA := Lib.hid (HNX.out r hr)
    obtain ⟨P, hP⟩ : ∃ P, fitsP (ss.map Prod.fst) (es.map Prod.fst) r = P := ⟨_, rfl⟩
    have HP := Lib.hid hP
    rw [hP] at HRES4
    have HK1 := Lib.hid (HKS.out.later HB01.out)
    have HC1 := Lib.hid (HC.out.below HB01.out)
    have HT1 := Lib.hid (HT.out.below (Nat.le_refl _) HB01.out)
    have HS1 := Lib.hid (blk_below HQ1.out HB01.out (blk_lt HQ1.out))
    have HLE := Lib.hid hlen
    clear hr hr1 hP HNX HRES3 HRES2 HKS HC HT HQ1 hlen
    go_wp2_with fail
    go_loopw [34] (fun i wr => SAt W1 res P xs ks i wr) (fun i _ => xs.length - (intOf i).toNat)
    case atStart => exact ⟨0, Nat.zero_le _, rfl, Below.refl _ _, HRES4.out.symm⟩
    case round =>
      obtain ⟨j, hj, rfl, hb, hrest⟩ := hrel
      have HBW := Lib.hid hb
      have HREST := Lib.hid hrest
      clear hb hrest
      by_cases hjl : j < xs.length
      · have hji : (j : Int) < xs.length := by omega
        have hji0 : (0 : Int) ≤ (j : Int) := by omega
        have hjk : j < ks.length := by rw [HLE.out]; exact hjl
        have hjki : (j : Int) < ks.length := by omega
        obtain ⟨kb, ko, u0, u1, u2, u3, rfl, c0, c1, c2, c3, hiv⟩ := HK1.out.later HBW.out j hjk
        obtain ⟨g, cc, hv, hcc, hgl, hcell⟩ := row_el cfldCells 5 (fun _ => rfl) (row_keep HBW.out HROW.out) j hjl
        obtain ⟨rfl, rfl⟩ := slice_inj hv
        have HIV := Lib.hid hiv
        have HCO := Lib.hid (fieldsP_cons P xs ks j hjl hjk)
        obtain ⟨hk255, hl0, hl1, _⟩ := HOK.out _ (List.getElem_mem hjl)
        obtain ⟨q, hq⟩ : ∃ q, ks[j] = q := ⟨_, rfl⟩
        obtain ⟨x, hx⟩ : ∃ x, xs[j] = x := ⟨_, rfl⟩
        rw [hq] at HIV HCO
        rw [hx] at HCO hcell hk255 hl0 hl1
        have x0 : wr.cell? ⟨g, j * 5, none⟩ = some (.string x.name) := hcell 0 (by omega)
        have x1 : wr.cell? ⟨g, j * 5 + 1, none⟩ = some (.int .u8 x.kind) := hcell 1 (by omega)
        have x2 : wr.cell? ⟨g, j * 5 + 2, none⟩ = some (.int .i64 x.ref) := hcell 2 (by omega)
        have x3 : wr.cell? ⟨g, j * 5 + 3, none⟩ = some (.int .i64 x.lists) := hcell 3 (by omega)
        have x4 : wr.cell? ⟨g, j * 5 + 4, none⟩ = some (.int .u64 x.dflt) := hcell 4 (by omega)
        obtain ⟨ba, qa, bc, qc, hval, hrst⟩ := HIV.out.form
        clear hrst
        injection hval with hval
        have e0 := congrArg (fun x : Array Value => x[0]?) hval
        have e1 := congrArg (fun x : Array Value => x[1]?) hval
        have e2 := congrArg (fun x : Array Value => x[2]?) hval
        have e3 := congrArg (fun x : Array Value => x[3]?) hval
        simp at e0 e1 e2 e3
        subst e0 e1 e2 e3
        clear hiv hq hx hval hcell hv
        generalize x.name = xn at *
        generalize x.kind = xk at *
        generalize x.ref = xr at *
        generalize x.lists = xl at *
        generalize x.dflt = xd at *
        go_upto_region 7 with (fail)
        have hba : Below wr.heap.size wr (wr.alloc (.cells #[.string xn, .int .u8 xk, .int .i64 xr, .int .i64 xl, .int .u64 xd] 57)) := (Below.refl _ _).alloc (Nat.le_refl _) _
        have HFB := Lib.hid (heap_alloc_new wr (.cells #[.string xn, .int .u8 xk, .int .i64 xr, .int .i64 xl, .int .u64 xd] 57))
        have HB2 := Lib.hid (HBW.out.trans (hba.mono HBW.out.size))
        have HIV2 := Lib.hid (HIV.out.later hba)
        have HC4 := Lib.hid (And.intro (cell_stays hba c0) (And.intro (cell_stays hba c1) (And.intro (cell_stays hba c2) (cell_stays hba c3))))
        clear c0 c1 c2 c3 x0 x1 x2 x3 x4 hba HIV
        generalize wr.alloc (.cells #[.string xn, .int .u8 xk, .int .i64 xr, .int .i64 xl, .int .u64 xd] 57) = W2 at *
        generalize wr.heap.size = F at *
        obtain ⟨c0, c1, c2, c3⟩ := HC4.out
        obtain ⟨_, y0, y1, y2, y3, y4, _⟩ := blk5 HFB.out
        have HS2 := Lib.hid (blk_below HS1.out HB2.out (blk_lt HS1.out))
        obtain ⟨_, s0, s1, s2, _⟩ := blk3 HS2.out
        have HFQ := Lib.hid (fun W (hb : Below W2.heap.size W2 W) => HFA.out W base _ _ root xk xr xl q _ ((HC1.out.below HB2.out).below hb) ((HT1.out.below (Nat.le_refl _) HB2.out).below (Nat.le_refl _) hb) hk255 hl0 hl1 (HIV2.out.later hb))
        rw [HP.out] at HFQ
        clear HC4 y0 y4
        go_region_held3 (fun w' => w'.cell? ⟨w.heap.size, 0, none⟩ = some (.slice sa ss.length sc) ∧ w'.cell? ⟨w.heap.size, 1, none⟩ = some (.slice ea es.length ec) ∧ w'.cell? ⟨w.heap.size, 2, none⟩ = some (.int .i64 root) ∧ w'.cell? ⟨F, 1, none⟩ = some (.int .u8 xk) ∧ w'.cell? ⟨F, 2, none⟩ = some (.int .i64 xr) ∧ w'.cell? ⟨F, 3, none⟩ = some (.int .i64 xl) ∧ w'.cell? ⟨kb, ko + j * 4, none⟩ = some (.int .u64 q.num) ∧ w'.cell? ⟨kb, ko + j * 4 + 1, none⟩ = some (.slice ba q.bytes.length bc) ∧ w'.cell? ⟨kb, ko + j * 4 + 2, none⟩ = some (.slice qa q.kids.length qc) ∧ w'.cell? ⟨kb, ko + j * 4 + 3, none⟩ = some (.bool q.has)) (first | assumption | (with_reducible exact ⟨k0, k1, k2, k3, k4, k5, k6, k7, k8, k9⟩) | go_keep) (first | (go_at_call 27; (with_reducible refine (HFQ.out W2.drew (Below.refl _ _).drew).mono ?_); rintro e W3 ⟨rfl, hb3⟩; have hx : Below W2.heap.size W2 W3 := (Below.refl _ W2).drew.trans hb3; clear hb3; have k0 := cell_stays hx s0; have k1 := cell_stays hx s1; have k2 := cell_stays hx s2; have k3 := cell_stays hx y1; have k4 := cell_stays hx y2; have k5 := cell_stays hx y3; have k6 := cell_stays hx c0; have k7 := cell_stays hx c1; have k8 := cell_stays hx c2; have k9 := cell_stays hx c3))
        all_goals
          have HB3 := Lib.hid (HB2.out.trans (hx.mono HB2.out.size))
          clear hx k0 k1 k2 k3 k4 k5 k6 k7 k8 k9 c0 c1 c2 c3 s0 s1 s2 y1 y2 y3
          simp only [Exit.then]
          cases hfb : P xk xr xl q with
          | false =>
            have HN : Hid (res = false) := Lib.hid (by rw [← HREST.out, HCO.out, hfb]; rfl)
            go_wp2
            go_ret
            exact ⟨ret_bool HN.out.symm, HB1.out.trans (HB3.out.mono HB1.out.size)⟩
          | true =>
            have HY : Hid (fieldsP P (xs.drop (j + 1)) (ks.drop (j + 1)) = res) := Lib.hid (by rw [← HREST.out, HCO.out, hfb]; rfl)
            go_wp2
            go_roundw
            case rel => exact ⟨j + 1, by omega, by go_num, HB3.out, HY.out⟩
            case measure => simp [intOf]; omega
      · obtain rfl : j = xs.length := by omega
        have HR : Hid (res = true) := Lib.hid (by rw [← HREST.out, List.drop_length]; rfl)
        clear hjl
        go_wp2
        go_ret
        exact ⟨ret_bool HR.out.symm, HB1.out.trans (HBW.out.mono HB1.out.size)⟩
  · have HN : Hid (res = false) := Lib.hid (by rw [HRES3.out, decide_eq_false hlen]; rfl)
    have hln : ((ks.length : Int) != (xs.length : Int)) = true := by simp; omega
    go_wp2
    go_ret
    exact ⟨ret_bool HN.out.symm, HB1.out⟩
end Go.Proofs.YtfghaopimeoijaaDoor
