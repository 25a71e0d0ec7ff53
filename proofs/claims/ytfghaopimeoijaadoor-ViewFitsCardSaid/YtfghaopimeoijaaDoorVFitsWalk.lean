/-
  The law ViewFits: of every plan, place and value it returns true, and nothing that was there is written. Conditions: those that each theorem names; the library's tables hold what the row lists.
-/
import Derived.Test.YtfghaopimeoijaaDoorVMade
import Derived.Test.YtfghaopimeoijaaDoorVAwake
import Derived.Test.YtfghaopimeoijaaDoorVHeavy
import Derived.Test.YtfghaopimeoijaaDoorVWhole
namespace Go.Proofs.YtfghaopimeoijaaDoor
open Go.ChangeShapes Go.WideShapes Go.ChangeAt Go.RowKit Go.Shelf

set_option maxRecDepth 100000 in
set_option maxHeartbeats 8000000 in
theorem viewFits_walk (p : Plan) (rec : Int) (v : PV) (val : Value) {a0 a1 : Option Addr} {n0 e0 n1 c1 : Nat} (w : World) (hp : IsPlan w p a0 n0 e0 a1 n1 c1) (hrec : (Lit.int .i64 rec).wf = true) (hv : IsV w v val) (hT : Tabs w) :
    Calls Tryd.prog 4 #[.agg #[.slice a0 n0 e0, .slice a1 n1 c1, .int .u8 p.root, .bool p.tree], .int .i64 rec, val] w fun e w' => e = .returned (.bool true) ∧ Below w.heap.size w w' := by
  have brec := bounds_i64 hrec
  obtain ⟨ba, ka, bc, kc, rfl, hn, hby, hbl, hbm, hkl, hkm, hks⟩ := hv.form
  obtain ⟨hb, hq1, hq2⟩ := two_start w #[.slice a0 n0 e0, .slice a1 n1 c1, .int .u8 p.root, .bool p.tree] #[.int .u64 v.num, .slice ba v.bytes.length bc, .slice ka v.kids.length kc, .bool v.has] 25 36
  have HP := Lib.hid (hp.below hb)
  have HT := Lib.hid (hT.below (Nat.le_refl _) hb)
  have HV := Lib.hid (hv.later hb)
  have HB0 := Lib.hid hb
  have HQ1 := Lib.hid hq1
  have HQ2 := Lib.hid hq2
  clear hp hrec hT hv hb hq1 hq2 hn hby hbl hbm hkl hkm hks
  go_enter Tryd.func4, Tryd.ntmps4
  go_upto_region 1 with (fail)
  generalize (w.alloc (.cells #[.slice a0 n0 e0, .slice a1 n1 c1, .int .u8 p.root, .bool p.tree] 25)).alloc (.cells #[.int .u64 v.num, .slice ba v.bytes.length bc, .slice ka v.kids.length kc, .bool v.has] 36) = W0 at *
  go_wp2_with fail
  refine (awake7_any W0 HT.out).mono ?_
  rintro e W1 ⟨rfl, hb1⟩
  have HB1 := Lib.hid (HB0.out.trans (hb1.mono HB0.out.size))
  have HB01 := Lib.hid hb1
  have HQ11 := Lib.hid (blk_below HQ1.out hb1 (blk_lt HQ1.out))
  have HQ21 := Lib.hid (blk_below HQ2.out hb1 (blk_lt HQ2.out))
  clear hb1 HB0 HQ1 HQ2
  obtain ⟨_, y0, y1, y2, y3⟩ := blk4p HQ11.out
  go_wp2_with fail
  refine (made_any p W1 (HP.out.below HB01.out)).mono ?_
  rintro e W2 ⟨hb2, hpost⟩
  have HB2 := Lib.hid (HB1.out.trans (hb2.mono HB1.out.size))
  have HB02 := Lib.hid (HB01.out.trans (hb2.mono HB01.out.size))
  have HQ22 := Lib.hid (blk_below HQ21.out hb2 (blk_lt HQ21.out))
  clear hb2 y0 y1 y2 y3 HQ11 HQ21 HB1 HB01
  rcases hpost with ⟨hok, ss, es, sv, ev, rfl, hss, hes, hr⟩ | ⟨hno, rfl⟩
  · obtain ⟨sa, sc, ea, ec, rfl, rfl⟩ := hr.forms
    have hlen := made_len hok hss
    have HFO := Lib.hid (made_flds (plan_nums HP.out) hss)
    have HRF := Lib.hid (made_rflds hss)
    have HLE := Lib.hid hlen
    have HR : Hid (CRows W1.heap.size W2 (crow ss) es (.slice sa ss.length sc) (.slice ea es.length ec)) := Lib.hid hr.crows
    clear hok hss hes hr hlen
    generalize p.root % p.structs.length = rt at *
    go_upto_region 4 with (fail)
    have hba : Below W2.heap.size W2 (W2.alloc (.cells #[.slice sa ss.length sc, .slice ea es.length ec, .int .i64 rt] 30)) := (Below.refl _ _).alloc (Nat.le_refl _) _
    have HZ := Lib.hid (heap_alloc_new W2 (.cells #[.slice sa ss.length sc, .slice ea es.length ec, .int .i64 rt] 30))
    have HB3 := Lib.hid (HB2.out.trans (hba.mono HB2.out.size))
    have HB03 := Lib.hid (HB02.out.trans (hba.mono HB02.out.size))
    have HR3 := Lib.hid (HR.out.below hba)
    have HQ23 := Lib.hid (blk_below HQ22.out hba (blk_lt HQ22.out))
    clear hba HR HQ22 HB2 HB02
    generalize W2.alloc (.cells #[.slice sa ss.length sc, .slice ea es.length ec, .int .i64 rt] 30) = W3 at *
    generalize W2.heap.size = Z at *
    obtain ⟨_, v0, v1, v2, v3⟩ := blk4p HQ23.out
    go_wp2_with fail
    refine (heavy_any 30 (by decide) W3 v _ (HV.out.later HB03.out)).mono ?_
    rintro e W4 ⟨⟨hw, rfl⟩, hb4⟩
    have HB4 := Lib.hid (HB3.out.trans (hb4.mono HB3.out.size))
    have HB04 := Lib.hid (HB03.out.trans (hb4.mono HB03.out.size))
    have HR4 := Lib.hid (HR3.out.below hb4)
    have HQ24 := Lib.hid (blk_below HQ23.out hb4 (blk_lt HQ23.out))
    have HZ4 := Lib.hid (blk_below HZ.out hb4 (blk_lt HZ.out))
    clear hb4 v0 v1 v2 v3 HB3 HB03 HR3 HQ23 HZ
    by_cases hheavy : 2000 < hw
    · go_wp2
      go_ret
      exact ⟨rfl, HB4.out⟩
    obtain ⟨_, v0, v1, v2, v3⟩ := blk4p HQ24.out
    obtain ⟨_, z0, z1, z2, _⟩ := blk3 HZ4.out
    have HFT := Lib.hid (fun (W : World) (hb : Below W4.heap.size W4 W) => ftop_any W rt rec (HR4.out.below hb) (HT.out.below (Nat.le_refl _) (HB04.out.trans (hb.mono HB04.out.size))) HFO.out v _ (HV.out.later (HB04.out.trans (hb.mono HB04.out.size))))
    by_cases hbig : 1048576 < rec
    · have HNO : Hid ((v.has && fitsP ((crow ss).map Prod.fst) (es.map Prod.fst) 12 13 rec 0 v) = false) := Lib.hid (by
        cases hh : v.has
        · rfl
        · rw [fitsP_out _ _ rec v hh (by rw [List.length_map, crow_length]; have := HLE.out.2.1; omega)]; rfl)
      have hr0 : (0 : Int) ≤ rec := by omega
      go_wp2_with fail
      refine (HFT.out W4 (Below.refl _ _)).mono ?_
      rintro e W5 ⟨rfl, hb5⟩
      rw [HNO.out]
      have HB5 := Lib.hid (HB4.out.trans (hb5.mono HB4.out.size))
      clear hb5 v0 v1 v2 v3 z0 z1 z2
      go_wp2
      go_ret
      exact ⟨rfl, HB5.out⟩
    · have HWT := Lib.hid (fun (W : World) (hb : Below W4.heap.size W4 W) => rwhole_any W rt rec (HR4.out.below hb) (HT.out.below (Nat.le_refl _) (HB04.out.trans (hb.mono HB04.out.size))) HRF.out v _ (HV.out.later (HB04.out.trans (hb.mono HB04.out.size))))
      generalize (v.has && fitsP ((crow ss).map Prod.fst) (es.map Prod.fst) 12 13 rec 0 v) = b at *
      go_upto_region 8 with (fail)
      all_goals
        go_region_held3 (fun w' => w'.cell? ⟨Z, 0, none⟩ = some (.slice sa ss.length sc) ∧ w'.cell? ⟨Z, 1, none⟩ = some (.slice ea es.length ec) ∧ w'.cell? ⟨Z, 2, none⟩ = some (.int .i64 rt) ∧ w'.cell? ⟨w.heap.size + 1, 0, none⟩ = some (.int .u64 v.num) ∧ w'.cell? ⟨w.heap.size + 1, 1, none⟩ = some (.slice ba v.bytes.length bc) ∧ w'.cell? ⟨w.heap.size + 1, 2, none⟩ = some (.slice ka v.kids.length kc) ∧ w'.cell? ⟨w.heap.size + 1, 3, none⟩ = some (.bool v.has)) (first | assumption | (with_reducible exact ⟨k0, k1, k2, k3, k4, k5, k6⟩) | (with_reducible exact ⟨l0, l1, l2, l3, l4, l5, l6⟩) | go_keep) (first | (go_at_call 13; (with_reducible refine (HFT.out W4.drew (Below.refl _ _).drew).mono ?_); rintro e W5 ⟨rfl, hbW5⟩; have hx : Below W4.heap.size W4 W5 := (Below.refl _ W4).drew.trans hbW5; clear hbW5; have k0 := cell_stays hx z0; have k1 := cell_stays hx z1; have k2 := cell_stays hx z2; have k3 := cell_stays hx v0; have k4 := cell_stays hx v1; have k5 := cell_stays hx v2; have k6 := cell_stays hx v3) | (go_at_call 16; (with_reducible refine (HWT.out W4.drew (Below.refl _ _).drew).mono ?_); rintro e W5 ⟨rfl, hbW5⟩; have hx : Below W4.heap.size W4 W5 := (Below.refl _ W4).drew.trans hbW5; clear hbW5; have k0 := cell_stays hx z0; have k1 := cell_stays hx z1; have k2 := cell_stays hx z2; have k3 := cell_stays hx v0; have k4 := cell_stays hx v1; have k5 := cell_stays hx v2; have k6 := cell_stays hx v3) | (go_at_call 13; (with_reducible refine (HFT.out W5 hx).mono ?_); rintro e W6 ⟨rfl, hbW6⟩; have hy : Below W4.heap.size W4 W6 := hx.trans (hbW6.mono hx.size); clear hbW6; have l0 := cell_stays hy z0; have l1 := cell_stays hy z1; have l2 := cell_stays hy z2; have l3 := cell_stays hy v0; have l4 := cell_stays hy v1; have l5 := cell_stays hy v2; have l6 := cell_stays hy v3) | (go_at_call 16; (with_reducible refine (HWT.out W5 hx).mono ?_); rintro e W6 ⟨rfl, hbW6⟩; have hy : Below W4.heap.size W4 W6 := hx.trans (hbW6.mono hx.size); clear hbW6; have l0 := cell_stays hy z0; have l1 := cell_stays hy z1; have l2 := cell_stays hy z2; have l3 := cell_stays hy v0; have l4 := cell_stays hy v1; have l5 := cell_stays hy v2; have l6 := cell_stays hy v3))
      all_goals
        have HB6 := Lib.hid (HB4.out.trans (hy.mono HB4.out.size))
        clear hy hx k0 k1 k2 k3 k4 k5 k6 l0 l1 l2 l3 l4 l5 l6 v0 v1 v2 v3 z0 z1 z2
        simp only [Exit.then]
        go_wp2
        go_ret
        exact ⟨ret_bool (by simp), HB6.out⟩
  · go_wp2
    go_ret
    exact ⟨rfl, HB2.out.alloc (by have := HB2.out.size; omega) _⟩
end Go.Proofs.YtfghaopimeoijaaDoor
