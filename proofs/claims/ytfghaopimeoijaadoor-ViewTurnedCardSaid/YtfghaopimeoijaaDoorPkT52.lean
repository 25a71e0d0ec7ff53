/-
  The law ViewTurned: of every plan, source, way and number it returns true, and nothing that was there is written. Conditions: those that each theorem names; the library's tables hold what the row lists.
-/
import Derived.Test.YtfghaopimeoijaaDoorPkT2
import Derived.Test.YtfghaopimeoijaaDoorPkT16
import Derived.Test.YtfghaopimeoijaaDoorPkT25
import Derived.Test.YtfghaopimeoijaaDoorPkT31
import Derived.Test.YtfghaopimeoijaaDoorPkT35
import Derived.Test.YtfghaopimeoijaaDoorPkT50
import Derived.Test.YtfghaopimeoijaaDoorPkT51
namespace Go.Proofs.YtfghaopimeoijaaDoor
open Go.ChangeShapes Go.WideShapes Go.ChangeAt Go.RowKit Go.Shelf

set_option maxRecDepth 100000 in
set_option maxHeartbeats 8000000 in
theorem vturned_go (p : Plan) (what num : Nat) {a0 a1 b0 y0 : Option Addr} {n0 e0 n1 c1 nb cb ny cy : Nat} (bs ys : List Int) (w : World) (hp : IsPlan w p a0 n0 e0 a1 n1 c1) (hwb : what ≤ 255) (hnum : (num : Int) ≤ 18446744073709551615) (hb : Bytes w b0 bs) (hbn : bs.length = nb) (hbc : nb ≤ cb) (hy : Bytes w y0 ys) (hyn : ys.length = ny) (hyc : ny ≤ cy) (hcy : (cy : Int) ≤ 9223372036854775807) (hT : Tabs w) :
    Calls Tryd.prog 5 #[.agg #[.slice a0 n0 e0, .slice a1 n1 c1, .int .u8 p.root, .bool p.tree], .slice b0 nb cb, .slice y0 ny cy, .int .u8 what, .int .u64 num] w fun e w' => e = .returned (.bool true) ∧ Below w.heap.size w w' := by
  subst hbn
  subst hyn
  have hb1 := (Below.refl w.heap.size w).alloc (Nat.le_refl _) (.cells #[.slice a0 n0 e0, .slice a1 n1 c1, .int .u8 p.root, .bool p.tree] 25)
  have HP := Lib.hid (hp.below hb1)
  have HT := Lib.hid (hT.below (Nat.le_refl _) hb1)
  have HBY := Lib.hid (hb.below (Nat.le_refl _) hb1)
  have HYY := Lib.hid (hy.below (Nat.le_refl _) hb1)
  have HB0 := Lib.hid hb1
  have HQ1 := Lib.hid (heap_alloc_new w (.cells #[.slice a0 n0 e0, .slice a1 n1 c1, .int .u8 p.root, .bool p.tree] 25))
  have HYC := Lib.hid hyc
  have HBC := Lib.hid hbc
  clear hp hT hb hy hb1 hyc hbc
  go_enter Tryd.func5, Tryd.ntmps5
  go_upto_region 1 with (fail)
  generalize w.alloc (.cells #[.slice a0 n0 e0, .slice a1 n1 c1, .int .u8 p.root, .bool p.tree] 25) = W0 at *
  go_wp2_with fail
  refine (awake7_any W0 HT.out).mono ?_
  rintro e W1 ⟨rfl, hb1⟩
  have HB1 := Lib.hid (HB0.out.trans (hb1.mono HB0.out.size))
  have HB01 := Lib.hid hb1
  have HQ11 := Lib.hid (blk_below HQ1.out hb1 (blk_lt HQ1.out))
  clear hb1 HB0 HQ1
  obtain ⟨_, y0', y1', y2', y3'⟩ := blk4p HQ11.out
  go_wp2_with fail
  refine (made_any p W1 (HP.out.below HB01.out)).mono ?_
  rintro e W2 ⟨hb2, hpost⟩
  have HB2 := Lib.hid (HB1.out.trans (hb2.mono HB1.out.size))
  have HB02 := Lib.hid (HB01.out.trans (hb2.mono HB01.out.size))
  clear hb2 y0' y1' y2' y3' HQ11 HB1 HB01
  rcases hpost with ⟨hok, ss, es, sv, ev, rfl, hss, hes, hr⟩ | ⟨hno, rfl⟩
  · obtain ⟨sa, sc, ea, ec, rfl, rfl⟩ := hr.forms
    have hlen := made_len hok hss
    have HFO := Lib.hid (made_flds (plan_nums HP.out) hss)
    have HRF := Lib.hid (made_rflds hss)
    have HSM := Lib.hid (made_schM hok (plan_nums HP.out) hss hes)
    have hrt : p.root % p.structs.length < ss.length := by rw [hlen.2.2]; exact Nat.mod_lt _ (by omega)
    have HRT := Lib.hid hrt
    have HR := Lib.hid hr
    clear hok hss hes hr hlen hrt
    generalize p.root % p.structs.length = rt at *
    go_upto_region 4 with (fail)
    have hba : Below W2.heap.size W2 (W2.alloc (.cells #[.slice sa ss.length sc, .slice ea es.length ec, .int .i64 rt] 30)) := (Below.refl _ _).alloc (Nat.le_refl _) _
    have HZ := Lib.hid (heap_alloc_new W2 (.cells #[.slice sa ss.length sc, .slice ea es.length ec, .int .i64 rt] 30))
    have HB3 := Lib.hid (HB2.out.trans (hba.mono HB2.out.size))
    have HB03 := Lib.hid (HB02.out.trans (hba.mono HB02.out.size))
    have HR3 := Lib.hid (HR.out.below hba)
    clear hba HR HB2 HB02
    generalize W2.alloc (.cells #[.slice sa ss.length sc, .slice ea es.length ec, .int .i64 rt] 30) = W3 at *
    generalize W2.heap.size = Z at *
    obtain ⟨_, z0, z1, z2, _⟩ := blk3 HZ.out
    by_cases hbig : 2000 < bs.length
    · go_wp2
      go_ret
      exact ⟨rfl, HB3.out⟩
    go_wp2_with fail
    refine (hvalue_any W3 HR3.out HSM.out HRT.out (HBY.out.below (Nat.le_refl _) HB03.out) rfl (by omega) HBC.out).mono ?_
    rintro e W4 ⟨⟨v, val, rfl, hiv, _, _, _, hsm⟩, hb4⟩
    have HB4 := Lib.hid (HB3.out.trans (hb4.mono HB3.out.size))
    have HB04 := Lib.hid (HB03.out.trans (hb4.mono HB03.out.size))
    have HR4 := Lib.hid (HR3.out.below hb4)
    have HZ4 := Lib.hid (blk_below HZ.out hb4 (blk_lt HZ.out))
    have HIV := Lib.hid (IsV.vh (S := fun _ => false) hiv (Nat.le_refl _) (fun k _ => ⟨rfl, rfl⟩))
    have HSMV := Lib.hid hsm
    clear hb4 hiv hsm HB3 HB03 HR3 HZ z0 z1 z2
    obtain ⟨_, z0, z1, z2, _⟩ := blk3 HZ4.out
    go_wp2_with fail
    refine (vturn_any 20 (by decide) what num (fun _ => false) W4 v val y0 ys cy hwb hnum HIV.out (fun _ _ => rfl) HSMV.out (HYY.out.below (Nat.le_refl _) HB04.out) HYC.out hcy).mono ?_
    rintro e W5 ⟨⟨v5, val5, rfl, hvh5⟩, hb5⟩
    obtain ⟨ba, ka, bc, kc, rfl, _, _, _, _, _, _, _⟩ := IsV.form hvh5
    have HB5 := Lib.hid (HB4.out.trans (hb5.mono HB4.out.size))
    have HB05 := Lib.hid (HB04.out.trans (hb5.mono HB04.out.size))
    have HR5 := Lib.hid (HR4.out.below hb5)
    have HZ5 := Lib.hid (blk_below HZ4.out hb5 (blk_lt HZ4.out))
    have HV5 := Lib.hid hvh5.out
    clear hb5 hvh5 HB4 HB04 HR4 HZ4 z0 z1 z2 HIV HSMV
    go_upto_region 7 with (fail)
    have hba : Below W5.heap.size W5 (W5.alloc (.cells #[.int .u64 v5.num, .slice ba v5.bytes.length bc, .slice ka v5.kids.length kc, .bool v5.has] 36)) := (Below.refl _ _).alloc (Nat.le_refl _) _
    have HQV := Lib.hid (heap_alloc_new W5 (.cells #[.int .u64 v5.num, .slice ba v5.bytes.length bc, .slice ka v5.kids.length kc, .bool v5.has] 36))
    have HB6 := Lib.hid (HB5.out.trans (hba.mono HB5.out.size))
    have HB06 := Lib.hid (HB05.out.trans (hba.mono HB05.out.size))
    have HR6 : Hid (CRows W1.heap.size _ (crow ss) es (.slice sa ss.length sc) (.slice ea es.length ec)) := Lib.hid ((HR5.out.below hba).crows)
    have HZ6 := Lib.hid (blk_below HZ5.out hba (blk_lt HZ5.out))
    have HV6 := Lib.hid (HV5.out.later hba)
    clear hba HB5 HB05 HR5 HZ5 HV5
    generalize W5.alloc (.cells #[.int .u64 v5.num, .slice ba v5.bytes.length bc, .slice ka v5.kids.length kc, .bool v5.has] 36) = W6 at *
    generalize W5.heap.size = TV at *
    obtain ⟨_, z0, z1, z2, _⟩ := blk3 HZ6.out
    obtain ⟨_, v0, v1, v2, v3⟩ := blk4p HQV.out
    have HFT := Lib.hid (fun (W : World) (hb : Below W6.heap.size W6 W) => ftop_any W rt rt (HR6.out.below hb) (HT.out.below (Nat.le_refl _) (HB06.out.trans (hb.mono HB06.out.size))) HFO.out v5 _ (HV6.out.later hb))
    have HWT := Lib.hid (fun (W : World) (hb : Below W6.heap.size W6 W) => rwhole_any W rt rt (HR6.out.below hb) (HT.out.below (Nat.le_refl _) (HB06.out.trans (hb.mono HB06.out.size))) HRF.out v5 _ (HV6.out.later hb))
    generalize (v5.has && fitsP ((crow ss).map Prod.fst) (es.map Prod.fst) 12 13 rt 0 v5) = b at *
    go_region_held3 (fun w' => w'.cell? ⟨Z, 0, none⟩ = some (.slice sa ss.length sc) ∧ w'.cell? ⟨Z, 1, none⟩ = some (.slice ea es.length ec) ∧ w'.cell? ⟨Z, 2, none⟩ = some (.int .i64 rt) ∧ w'.cell? ⟨TV, 0, none⟩ = some (.int .u64 v5.num) ∧ w'.cell? ⟨TV, 1, none⟩ = some (.slice ba v5.bytes.length bc) ∧ w'.cell? ⟨TV, 2, none⟩ = some (.slice ka v5.kids.length kc) ∧ w'.cell? ⟨TV, 3, none⟩ = some (.bool v5.has)) (first | assumption | (with_reducible exact ⟨k0, k1, k2, k3, k4, k5, k6⟩) | (with_reducible exact ⟨l0, l1, l2, l3, l4, l5, l6⟩) | go_keep) (first | (go_at_call 13; (with_reducible refine (HFT.out W6.drew (Below.refl _ _).drew).mono ?_); rintro e W7 ⟨rfl, hbW7⟩; have hx : Below W6.heap.size W6 W7 := (Below.refl _ W6).drew.trans hbW7; clear hbW7; have k0 := cell_stays hx z0; have k1 := cell_stays hx z1; have k2 := cell_stays hx z2; have k3 := cell_stays hx v0; have k4 := cell_stays hx v1; have k5 := cell_stays hx v2; have k6 := cell_stays hx v3) | (go_at_call 16; (with_reducible refine (HWT.out W6.drew (Below.refl _ _).drew).mono ?_); rintro e W7 ⟨rfl, hbW7⟩; have hx : Below W6.heap.size W6 W7 := (Below.refl _ W6).drew.trans hbW7; clear hbW7; have k0 := cell_stays hx z0; have k1 := cell_stays hx z1; have k2 := cell_stays hx z2; have k3 := cell_stays hx v0; have k4 := cell_stays hx v1; have k5 := cell_stays hx v2; have k6 := cell_stays hx v3) | (go_at_call 13; (with_reducible refine (HFT.out W7 hx).mono ?_); rintro e W8 ⟨rfl, hbW8⟩; have hy : Below W6.heap.size W6 W8 := hx.trans (hbW8.mono hx.size); clear hbW8; have l0 := cell_stays hy z0; have l1 := cell_stays hy z1; have l2 := cell_stays hy z2; have l3 := cell_stays hy v0; have l4 := cell_stays hy v1; have l5 := cell_stays hy v2; have l6 := cell_stays hy v3) | (go_at_call 16; (with_reducible refine (HWT.out W7 hx).mono ?_); rintro e W8 ⟨rfl, hbW8⟩; have hy : Below W6.heap.size W6 W8 := hx.trans (hbW8.mono hx.size); clear hbW8; have l0 := cell_stays hy z0; have l1 := cell_stays hy z1; have l2 := cell_stays hy z2; have l3 := cell_stays hy v0; have l4 := cell_stays hy v1; have l5 := cell_stays hy v2; have l6 := cell_stays hy v3))
    all_goals
      have HB8 := Lib.hid (HB6.out.trans (hy.mono HB6.out.size))
      clear hy hx k0 k1 k2 k3 k4 k5 k6 l0 l1 l2 l3 l4 l5 l6 v0 v1 v2 v3 z0 z1 z2
      simp only [Exit.then]
      go_wp2
      go_ret
      exact ⟨ret_bool (by simp), HB8.out⟩
  · go_wp2
    go_ret
    exact ⟨rfl, HB2.out.alloc (by have := HB2.out.size; omega) _⟩
theorem bytes_row {w : World} {a : Option Addr} {len cap : Nat} {zs : List Int} (h : IsRow .u8 w a len cap zs) : Bytes w a (zs.take len) ∧ (zs.take len).length = len ∧ len ≤ cap ∧ (cap : Int) ≤ 9223372036854775807 := by
  obtain ⟨h1, h2, h3, h4, h5⟩ := h
  refine ⟨⟨fun i => getD_take_int zs len i h4, fun hne => ?_⟩, by rw [List.length_take]; omega, h1, by unfold maxLen at h2; omega⟩
  have hz : zs ≠ [] := fun e => hne (by rw [e]; exact List.take_nil)
  obtain ⟨b, off, e, hlt, hc⟩ := h5 hz
  refine ⟨b, off, e, hlt, fun i hi => ?_⟩
  rw [List.length_take] at hi
  rw [hc i (by omega), List.getD, List.getD, List.getElem?_take, if_pos (by omega)]
theorem viewTurned_walk (p : Plan) (b0 : Option Addr) (nb cb : Nat) (z1 : List Int) (y0 : Option Addr) (ny cy : Nat) (z2 : List Int) (what num : Int) {a0 a1 : Option Addr} {n0 e0 n1 c1 : Nat} (w : World) (hp : IsPlan w p a0 n0 e0 a1 n1 c1) (h1 : IsRow .u8 w b0 nb cb z1) (h2 : IsRow .u8 w y0 ny cy z2) (h3 : (Lit.int .u8 what).wf = true) (h4 : (Lit.int .u64 num).wf = true) (hT : Tabs w) :
    Calls Tryd.prog 5 #[.agg #[.slice a0 n0 e0, .slice a1 n1 c1, .int .u8 p.root, .bool p.tree], .slice b0 nb cb, .slice y0 ny cy, .int .u8 what, .int .u64 num] w fun e w' => e = .returned (.bool true) ∧ Below w.heap.size w w' := by
  have hb3 := bounds_u8 h3
  obtain ⟨x, rfl⟩ : ∃ x : Nat, what = x := ⟨what.toNat, by omega⟩
  obtain ⟨y, rfl, hy⟩ := nat_u64 h4
  obtain ⟨k1, k2, k3, _⟩ := bytes_row h1
  obtain ⟨l1, l2, l3, l4⟩ := bytes_row h2
  exact vturned_go p x y _ _ w hp (by omega) (by omega) k1 k2 k3 l1 l2 l3 l4 hT
end Go.Proofs.YtfghaopimeoijaaDoor
