/-
  The law ViewDefaults: of every plan and source it returns true, and nothing that was there is written. Conditions: those that each theorem names; the library's tables hold what the row lists.
-/
import Derived.Test.YtjeoekggdohhiaaDoorPkB12
import Derived.Test.YtjeoekggdohhiaaDoorPkB17
import Derived.Test.YtjeoekggdohhiaaDoorPkB22
import Derived.Test.YtjeoekggdohhiaaDoorPkB23
import Derived.Test.YtjeoekggdohhiaaDoorPkB24
import Derived.Test.YtjeoekggdohhiaaDoorPkB34
import Derived.Test.YtjeoekggdohhiaaDoorPkB37
import Derived.Test.YtjeoekggdohhiaaDoorPkB44
import Derived.Test.YtjeoekggdohhiaaDoorPkB48
import Derived.Deep.RegionHeld3
namespace Go.Proofs.YtjeoekggdohhiaaDoor
open Go.ChangeShapes Go.WideShapes Go.ChangeAt Go.RowKit Go.Shelf

def LkAt (W0 : World) (n : Nat) (i : Value) (W : World) : Prop := ∃ j : Nat, j ≤ n ∧ i = .int .i64 j ∧ Below W0.heap.size W0 W
set_option maxRecDepth 100000 in
set_option maxHeartbeats 8000000 in
theorem vdefaults_go (p : Plan) {a0 a1 b0 : Option Addr} {n0 e0 n1 c1 nb cb : Nat} (bs : List Int) (w : World) (hp : IsPlan w p a0 n0 e0 a1 n1 c1) (hb : Bytes w b0 bs) (hbn : bs.length = nb) (hbc : nb ≤ cb) (hT : Tabs w) :
    Calls Tryd.prog 6 #[.agg #[.slice a0 n0 e0, .slice a1 n1 c1, .int .u8 p.root, .bool p.tree], .slice b0 nb cb] w fun e w' => e = .returned (.bool true) ∧ Below w.heap.size w w' := by
  subst hbn
  have hb1 := (Below.refl w.heap.size w).alloc (Nat.le_refl _) (.cells #[.slice a0 n0 e0, .slice a1 n1 c1, .int .u8 p.root, .bool p.tree] 25)
  have HP := Lib.hid (hp.below hb1)
  have HT := Lib.hid (hT.below (Nat.le_refl _) hb1)
  have HBY := Lib.hid (hb.below (Nat.le_refl _) hb1)
  have HB0 := Lib.hid hb1
  have HQ1 := Lib.hid (heap_alloc_new w (.cells #[.slice a0 n0 e0, .slice a1 n1 c1, .int .u8 p.root, .bool p.tree] 25))
  have HBC := Lib.hid hbc
  clear hp hT hb hb1 hbc
  go_enter Tryd.func6, Tryd.ntmps6
  go_upto_region 1 with (fail)
  generalize w.alloc (.cells #[.slice a0 n0 e0, .slice a1 n1 c1, .int .u8 p.root, .bool p.tree] 25) = W0 at *
  go_wp2_with fail
  refine (awake7_any W0 HT.out).mono ?_
  rintro e W1 ⟨rfl, hb1⟩
  have HB1 := Lib.hid (HB0.out.trans (hb1.mono HB0.out.size))
  have HB01 := Lib.hid hb1
  have HQ11 := Lib.hid (blk_below HQ1.out hb1 (blk_lt HQ1.out))
  clear hb1 HB0 HQ1
  obtain ⟨_, y0', y1', y2', y3'⟩ := blk4p HQ11.out
  go_wp2_with fail
  refine (made_any p W1 (HP.out.below HB01.out)).mono ?_
  rintro e W2 ⟨hb2, hpost⟩
  have HB2 := Lib.hid (HB1.out.trans (hb2.mono HB1.out.size))
  have HB02 := Lib.hid (HB01.out.trans (hb2.mono HB01.out.size))
  clear hb2 y0' y1' y2' y3' HQ11 HB1 HB01
  rcases hpost with ⟨hok, ss, es, sv, ev, rfl, hss, hes, hr⟩ | ⟨hno, rfl⟩
  · obtain ⟨sa, sc, ea, ec, rfl, rfl⟩ := hr.forms
    have hlen := made_len hok hss
    have HFO := Lib.hid (made_flds (plan_nums HP.out) hss)
    have HSMS := made_schM hok (plan_nums HP.out) hss hes
    have HDF := Lib.hid (made_dflts hss HSMS)
    have HSM := Lib.hid HSMS
    clear HSMS
    have hrt : p.root % p.structs.length < ss.length := by rw [hlen.2.2]; exact Nat.mod_lt _ (by omega)
    have HRT := Lib.hid hrt
    have HR := Lib.hid hr
    clear hok hss hes hr hlen hrt
    generalize p.root % p.structs.length = rt at *
    go_upto_region 4 with (fail)
    have hba : Below W2.heap.size W2 (W2.alloc (.cells #[.slice sa ss.length sc, .slice ea es.length ec, .int .i64 rt] 30)) := (Below.refl _ _).alloc (Nat.le_refl _) _
    have HZ := Lib.hid (heap_alloc_new W2 (.cells #[.slice sa ss.length sc, .slice ea es.length ec, .int .i64 rt] 30))
    have HB3 := Lib.hid (HB2.out.trans (hba.mono HB2.out.size))
    have HB03 := Lib.hid (HB02.out.trans (hba.mono HB02.out.size))
    have HR3 := Lib.hid (HR.out.below hba)
    clear hba HR HB2 HB02
    generalize W2.alloc (.cells #[.slice sa ss.length sc, .slice ea es.length ec, .int .i64 rt] 30) = W3 at *
    generalize W2.heap.size = Z at *
    obtain ⟨_, z0, z1, z2, _⟩ := blk3 HZ.out
    by_cases hbig : 2000 < bs.length
    · go_wp2
      go_ret
      exact ⟨rfl, HB3.out⟩
    have HC3 : Hid (CRows W1.heap.size W3 (crow ss) es (.slice sa ss.length sc) (.slice ea es.length ec)) := Lib.hid HR3.out.crows
    have HL : Hid ((crow ss).length = ss.length) := Lib.hid (crow_length ss)
    have HLE : Hid (ss.length ≤ 16) := Lib.hid HSM.out.1
    go_wp2_with fail
    go_loopw [32] (fun i wr => LkAt W3 ss.length i wr) (fun i _ => ss.length - (intOf i).toNat)
    case atStart => exact ⟨0, Nat.zero_le _, rfl, Below.refl _ _⟩
    case round =>
      obtain ⟨j, hj, rfl, hbw⟩ := hrel
      have HBW := Lib.hid hbw
      have hle := HLE.out
      clear hbw z0 z1 z2
      have HZw := Lib.hid (blk_below HZ.out HBW.out (blk_lt HZ.out))
      obtain ⟨_, z0, z1, z2, _⟩ := blk3 HZw.out
      have HCw := Lib.hid (HC3.out.below HBW.out)
      by_cases hjl : j < ss.length
      · have hji : (j : Int) < ss.length := by omega
        have hji0 : (0 : Int) ≤ (j : Int) := by omega
        have hjc : j < (crow ss).length := by rw [HL.out]; exact hjl
        obtain ⟨g, cc, hv, hcc, hgl, hcell⟩ := row_el crecCells 2 (fun _ => rfl) HCw.out.structs j hjc
        rw [HL.out] at hv
        obtain ⟨rfl, rfl⟩ := slice_inj hv
        obtain ⟨x, hx⟩ : ∃ x, (crow ss)[j] = x := ⟨_, rfl⟩
        have hmem : x ∈ crow ss := by rw [← hx]; exact List.getElem_mem _
        rw [hx] at hcell
        have HFR := Lib.hid (HCw.out.fields x hmem)
        obtain ⟨fa, fc, hfv⟩ := ownsRow_form HFR.out
        have x0 : wr.cell? ⟨g, j * 2, none⟩ = some (.string x.1.name) := hcell 0 (by omega)
        have x1 : wr.cell? ⟨g, j * 2 + 1, none⟩ = some x.2 := hcell 1 (by omega)
        rw [hfv] at x1
        have HXM := Lib.hid hmem
        have HXJ := Lib.hid hx
        have hfl : x.1.fields.length ≤ 1000000 := by
          obtain ⟨y, hy, rfl⟩ := List.mem_map.1 hmem
          have h := (HSM.out.2 y hy).1
          show (y.1.fields.map cF).length ≤ _
          rw [List.length_map]
          omega
        have HFL := Lib.hid hfl
        have HDX := Lib.hid (HDF.out x hmem)
        have HDM : Hid (∀ f ∈ x.1.fields, f.dflt ≤ 18446744073709551615) := Lib.hid (fun f hf => (HFO.out x hmem f hf).2.2.2)
        rw [hfv] at HFR
        clear hv hcc hgl hcell hx hmem hfl
        go_upto_region 9 with (fail)
        have hba : Below wr.heap.size wr (wr.alloc (.cells #[.string x.1.name, .slice fa x.1.fields.length fc] 51)) := (Below.refl _ _).alloc (Nat.le_refl _) _
        have HRB := Lib.hid (heap_alloc_new wr (.cells #[.string x.1.name, .slice fa x.1.fields.length fc] 51))
        have HB4 := Lib.hid (HBW.out.trans (hba.mono HBW.out.size))
        have HF4 := Lib.hid (row_keep hba HFR.out)
        clear hba x0 x1 HFR
        generalize wr.alloc (.cells #[.string x.1.name, .slice fa x.1.fields.length fc] 51) = W4 at *
        generalize wr.heap.size = RB at *
        obtain ⟨_, r0, r1, _⟩ := blk2 HRB.out
        go_wp2_with fail
        refine (default_any W4 x.1.name x.1.fields _ HF4.out HFL.out HDM.out).mono ?_
        rintro e W5 ⟨⟨val, rfl, hiv⟩, hb5⟩
        have HQ5 := Lib.hid hiv
        have HFIT : Hid ((defV x.1.fields).has = true ∧ fitsP ((crow ss).map Prod.fst) (es.map Prod.fst) 12 13 j 0 (defV x.1.fields) = true ∧ defV x.1.fields = structV (x.1.fields.map CFld.dflt)) := Lib.hid (by
          refine ⟨rfl, ?_, defV_eq HDX.out⟩
          have hl : j < ((crow ss).map Prod.fst).length := by rw [List.length_map, HL.out]; exact hjl
          have he : ((crow ss).map Prod.fst)[j] = x.1 := by rw [List.getElem_map, HXJ.out]
          have h := defV_fits (es := es.map Prod.fst) hl (by rw [he]; exact HDX.out) 11
          rw [he] at h
          exact h)
        have HEMP : Hid (∀ k (hk : k < x.1.fields.length), emptyP x.1.fields[k].kind x.1.fields[k].lists x.1.fields[k].dflt (kidP (defV x.1.fields) k) = true ∧ (kidP (defV x.1.fields) k).bytes.length ≤ 1000000) := Lib.hid (fun k hk => ⟨defV_empty HDX.out k hk, by rw [defV_kid _ k hk]; exact Nat.zero_le _⟩)
        generalize defV x.1.fields = q at *
        obtain ⟨qa, qb, qc, qd, rfl, _, _, _, _, _, _, _⟩ := hiv.form
        have HB5 := Lib.hid (HB4.out.trans (hb5.mono HB4.out.size))
        have HF5 := Lib.hid (row_keep hb5 HF4.out)
        have HRB5 := Lib.hid (blk_below HRB.out hb5 (blk_lt HRB.out))
        clear hb5 hiv r0 r1 HB4 HF4
        go_upto_region 10 with (fail)
        have hba : Below W5.heap.size W5 (W5.alloc (.cells #[.int .u64 q.num, .slice qa q.bytes.length qc, .slice qb q.kids.length qd, .bool q.has] 36)) := (Below.refl _ _).alloc (Nat.le_refl _) _
        have HVB := Lib.hid (heap_alloc_new W5 (.cells #[.int .u64 q.num, .slice qa q.bytes.length qc, .slice qb q.kids.length qd, .bool q.has] 36))
        have HB6 := Lib.hid (HB5.out.trans (hba.mono HB5.out.size))
        have HF6 := Lib.hid (row_keep hba HF5.out)
        have HRB6 := Lib.hid (blk_below HRB5.out hba (blk_lt HRB5.out))
        have HQ := Lib.hid (HQ5.out.later hba)
        clear hba HB5 HF5 HRB5 HQ5
        generalize W5.alloc (.cells #[.int .u64 q.num, .slice qa q.bytes.length qc, .slice qb q.kids.length qd, .bool q.has] 36) = W6 at *
        generalize W5.heap.size = VB at *
        have HZ6 := Lib.hid (blk_below HZ.out HB6.out (blk_lt HZ.out))
        obtain ⟨_, z0, z1, z2, _⟩ := blk3 HZ6.out
        obtain ⟨_, r0, r1, _⟩ := blk2 HRB6.out
        obtain ⟨_, v0, v1, v2, v3⟩ := blk4p HVB.out
        have HB06 := Lib.hid (HB03.out.trans (HB6.out.mono HB03.out.size))
        have HFT : Hid (∀ W, Below W6.heap.size W6 W → Calls Tryd.prog 13 #[.agg #[.slice (some ⟨g, 0, none⟩) ss.length sc, .slice ea es.length ec, .int .i64 rt], .int .i64 j, .agg #[.int .u64 q.num, .slice qa q.bytes.length qc, .slice qb q.kids.length qd, .bool q.has]] W fun e w' => e = .returned (.bool true) ∧ Below W.heap.size W w') := Lib.hid (fun W hb => by
          have h := ftop_any W rt j (((HC3.out.below HB6.out)).below hb) (HT.out.below (Nat.le_refl _) (HB06.out.trans (hb.mono HB06.out.size))) HFO.out q _ (HQ.out.later hb)
          rw [HFIT.out.1, HFIT.out.2.1] at h
          have ht : q.has = true := HFIT.out.1
          rw [ht]
          exact h)
        have HRD : Hid (∀ W, Below W6.heap.size W6 W → Calls Tryd.prog 19 #[.agg #[.string x.1.name, .slice fa x.1.fields.length fc]] W fun e w' => (∃ val, e = .returned val ∧ IsV w' (structV (x.1.fields.map CFld.dflt)) val) ∧ Below W.heap.size W w') := Lib.hid (fun W hb => rdefault_any W x.1.name x.1.fields _ (row_keep hb HF6.out) HFL.out HDM.out)
        have HEQ : Hid (q = structV (x.1.fields.map CFld.dflt)) := Lib.hid HFIT.out.2.2
        refine wp_region_noPanic ?_
        refine wp_region_held_drew (S := (fun w' => w'.cell? ⟨Z, 0, none⟩ = some (.slice (some ⟨g, 0, none⟩) ss.length sc) ∧ w'.cell? ⟨Z, 1, none⟩ = some (.slice ea es.length ec) ∧ w'.cell? ⟨Z, 2, none⟩ = some (.int .i64 rt) ∧ w'.cell? ⟨VB, 0, none⟩ = some (.int .u64 q.num) ∧ w'.cell? ⟨VB, 1, none⟩ = some (.slice qa q.bytes.length qc) ∧ w'.cell? ⟨VB, 2, none⟩ = some (.slice qb q.kids.length qd) ∧ w'.cell? ⟨VB, 3, none⟩ = some (.bool q.has) ∧ w'.cell? ⟨RB, 0, none⟩ = some (.string x.1.name) ∧ w'.cell? ⟨RB, 1, none⟩ = some (.slice fa x.1.fields.length fc))) (by kernel_rfl) ⟨z0, z1, z2, v0, v1, v2, v3, r0, r1⟩ ?_
        intro hS
        refine wpAnyH_take (i := 0) (v := .agg #[.slice (some ⟨g, 0, none⟩) ss.length sc, .slice ea es.length ec, .int .i64 rt]) rfl (by kernel_rfl) (by kernel_rfl) (by kernel_rfl) (fun _ _ _ h => h) (Or.inl ⟨by rfl, ?_⟩) hS ?_
        · intro w' hSw
          obtain ⟨z0, z1, z2, v0, v1, v2, v3, r0, r1⟩ := hSw
          go_simp
        simp only [Act.put, List.getElem_toArray, List.getElem_cons_zero, List.setIfInBounds_toArray, List.set_cons_zero, List.set_cons_succ]
        refine wpAnyH_take (i := 1) (v := .int .i64 j) rfl (by kernel_rfl) (by kernel_rfl) (by kernel_rfl) (fun _ _ _ h => h) (Or.inl ⟨by rfl, ?_⟩) hS ?_
        · intro w' hSw
          obtain ⟨z0, z1, z2, v0, v1, v2, v3, r0, r1⟩ := hSw
          go_simp
        simp only [Act.put, List.getElem_toArray, List.getElem_cons_succ, List.getElem_cons_zero, List.setIfInBounds_toArray, List.set_cons_zero, List.set_cons_succ]
        refine wpAnyH_take (i := 2) (v := .agg #[.int .u64 q.num, .slice qa q.bytes.length qc, .slice qb q.kids.length qd, .bool q.has]) rfl (by kernel_rfl) (by kernel_rfl) (by kernel_rfl) (fun _ _ _ h => h) (Or.inl ⟨by rfl, ?_⟩) hS ?_
        · intro w' hSw
          obtain ⟨z0, z1, z2, v0, v1, v2, v3, r0, r1⟩ := hSw
          go_simp
        simp only [Act.put, List.getElem_toArray, List.getElem_cons_succ, List.getElem_cons_zero, List.setIfInBounds_toArray, List.set_cons_zero, List.set_cons_succ]
        refine wpAnyH_ready (rs := [3]) (by kernel_rfl) (by decide) (AllReadyH.cons rfl (fun K hK => ?_) AllReadyH.nil)
        rw [if_pos (by kernel_rfl)]
        go_simp
        refine (HFT.out W6.drew (Below.refl _ W6).drew).mono ?_
        rintro e W7 ⟨rfl, hbW7⟩
        have hxW7 : Below W6.heap.size W6 W7 := (Below.refl _ W6).drew.trans hbW7
        have nz0 := cell_stays hxW7 z0
        have nz1 := cell_stays hxW7 z1
        have nz2 := cell_stays hxW7 z2
        have nv0 := cell_stays hxW7 v0
        have nv1 := cell_stays hxW7 v1
        have nv2 := cell_stays hxW7 v2
        have nv3 := cell_stays hxW7 v3
        have nr0 := cell_stays hxW7 r0
        have nr1 := cell_stays hxW7 r1
        refine hK.out _ _ ⟨nz0, nz1, nz2, nv0, nv1, nv2, nv3, nr0, nr1⟩ (fun hS => ?_)
        clear nz0 nz1 nz2 nv0 nv1 nv2 nv3 nr0 nr1
        refine wpAnyH_take (i := 4) (v := .bool false) rfl (by kernel_rfl) (by kernel_rfl) (by kernel_rfl) (fun _ _ _ h => h) (Or.inl ⟨by rfl, ?_⟩) hS ?_
        · intro w' hSw
          obtain ⟨z0, z1, z2, v0, v1, v2, v3, r0, r1⟩ := hSw
          go_simp
        simp only [Act.put, List.getElem_toArray, List.getElem_cons_succ, List.getElem_cons_zero, List.setIfInBounds_toArray, List.set_cons_zero, List.set_cons_succ]
        refine wpAnyH_take (i := 5) (v := .bool false) rfl (by kernel_rfl) (by kernel_rfl) (by kernel_rfl) (fun _ _ _ h => h) (Or.inl ⟨by rfl, ?_⟩) hS ?_
        · intro w' hSw
          obtain ⟨z0, z1, z2, v0, v1, v2, v3, r0, r1⟩ := hSw
          go_simp
        simp only [Act.put, List.getElem_toArray, List.getElem_cons_succ, List.getElem_cons_zero, List.setIfInBounds_toArray, List.set_cons_zero, List.set_cons_succ]
        refine wpAnyH_take (i := 6) (v := .agg #[.int .u64 q.num, .slice qa q.bytes.length qc, .slice qb q.kids.length qd, .bool q.has]) rfl (by kernel_rfl) (by kernel_rfl) (by kernel_rfl) (fun _ _ _ h => h) (Or.inl ⟨by rfl, ?_⟩) hS ?_
        · intro w' hSw
          obtain ⟨z0, z1, z2, v0, v1, v2, v3, r0, r1⟩ := hSw
          go_simp
        simp only [Act.put, List.getElem_toArray, List.getElem_cons_succ, List.getElem_cons_zero, List.setIfInBounds_toArray, List.set_cons_zero, List.set_cons_succ]
        refine wpAnyH_take (i := 7) (v := .agg #[.string x.1.name, .slice fa x.1.fields.length fc]) rfl (by kernel_rfl) (by kernel_rfl) (by kernel_rfl) (fun _ _ _ h => h) (Or.inl ⟨by rfl, ?_⟩) hS ?_
        · intro w' hSw
          obtain ⟨z0, z1, z2, v0, v1, v2, v3, r0, r1⟩ := hSw
          go_simp
        simp only [Act.put, List.getElem_toArray, List.getElem_cons_succ, List.getElem_cons_zero, List.setIfInBounds_toArray, List.set_cons_zero, List.set_cons_succ]
        refine wpAnyH_ready (rs := [8]) (by kernel_rfl) (by decide) (AllReadyH.cons rfl (fun K hK => ?_) AllReadyH.nil)
        rw [if_pos (by kernel_rfl)]
        go_simp
        refine (HRD.out W7 hxW7).mono ?_
        rintro e W8 ⟨⟨val2, rfl, hiv2⟩, hbW8⟩
        have hxW8 : Below W6.heap.size W6 W8 := hxW7.trans (hbW8.mono hxW7.size)
        have HIV2 := Lib.hid hiv2
        have HW8 := Lib.hid hxW8
        have nz0 := cell_stays hxW8 z0
        have nz1 := cell_stays hxW8 z1
        have nz2 := cell_stays hxW8 z2
        have nv0 := cell_stays hxW8 v0
        have nv1 := cell_stays hxW8 v1
        have nv2 := cell_stays hxW8 v2
        have nv3 := cell_stays hxW8 v3
        have nr0 := cell_stays hxW8 r0
        have nr1 := cell_stays hxW8 r1
        refine hK.out _ _ ⟨nz0, nz1, nz2, nv0, nv1, nv2, nv3, nr0, nr1⟩ (fun hS => ?_)
        clear nz0 nz1 nz2 nv0 nv1 nv2 nv3 nr0 nr1
        refine wpAnyH_ready (rs := [9]) (by kernel_rfl) (by decide) (AllReadyH.cons rfl (fun K hK => ?_) AllReadyH.nil)
        rw [if_pos (by kernel_rfl)]
        go_simp
        refine (same_any q W8 _ _ _ (HQ.out.later HW8.out) HIV2.out).mono ?_
        rintro e W9 ⟨⟨r, rfl, hiff⟩, hbW9⟩
        have hxW9 : Below W6.heap.size W6 W9 := hxW8.trans (hbW9.mono hxW8.size)
        obtain rfl : r = true := hiff.2 HEQ.out
        have nz0 := cell_stays hxW9 z0
        have nz1 := cell_stays hxW9 z1
        have nz2 := cell_stays hxW9 z2
        have nv0 := cell_stays hxW9 v0
        have nv1 := cell_stays hxW9 v1
        have nv2 := cell_stays hxW9 v2
        have nv3 := cell_stays hxW9 v3
        have nr0 := cell_stays hxW9 r0
        have nr1 := cell_stays hxW9 r1
        refine hK.out _ _ ⟨nz0, nz1, nz2, nv0, nv1, nv2, nv3, nr0, nr1⟩ (fun hS => ?_)
        clear nz0 nz1 nz2 nv0 nv1 nv2 nv3 nr0 nr1
        refine wpAnyH_take (i := 10) (v := .bool false) rfl (by kernel_rfl) (by kernel_rfl) (by kernel_rfl) (fun _ _ _ h => h) (Or.inl ⟨by rfl, ?_⟩) hS ?_
        · intro w' hSw
          obtain ⟨z0, z1, z2, v0, v1, v2, v3, r0, r1⟩ := hSw
          go_simp
        simp only [Act.put, List.getElem_toArray, List.getElem_cons_succ, List.getElem_cons_zero, List.setIfInBounds_toArray, List.set_cons_zero, List.set_cons_succ]
        refine wpAnyH_take (i := 11) (v := .bool false) rfl (by kernel_rfl) (by kernel_rfl) (by kernel_rfl) (fun _ _ _ h => h) (Or.inl ⟨by rfl, ?_⟩) hS ?_
        · intro w' hSw
          obtain ⟨z0, z1, z2, v0, v1, v2, v3, r0, r1⟩ := hSw
          go_simp
        simp only [Act.put, List.getElem_toArray, List.getElem_cons_succ, List.getElem_cons_zero, List.setIfInBounds_toArray, List.set_cons_zero, List.set_cons_succ]
        refine wpAnyH_done (by kernel_rfl) ?_ _
        refine NoPanic.normal ?_
        try simp only [Exit.then]
        have HX9 := Lib.hid hxW9
        clear hS hxW7 hxW8 hxW9 hbW7 hbW8 hbW9 hiff hiv2
        have HB9 := Lib.hid (HB6.out.trans (HX9.out.mono HB6.out.size))
        have HRB9 := Lib.hid (blk_below HRB6.out HX9.out (blk_lt HRB6.out))
        have HVB9 := Lib.hid (blk_below HVB.out HX9.out (blk_lt HVB.out))
        have HF9 := Lib.hid (row_keep HX9.out HF6.out)
        have HQ9 := Lib.hid (HQ.out.later HX9.out)
        clear z0 z1 z2 v0 v1 v2 v3 r0 r1 HFT HRD HEQ HIV2 HW8 HRB6 HVB HF6 HQ HX9 HB6 HB06 HZ6
        obtain ⟨_, r0, r1, _⟩ := blk2 HRB9.out
        have hfl2 : (x.1.fields.length : Int) ≤ 1000000 := by have := HFL.out; omega
        go_wp2_with fail
        clear r0 r1
        go_loopw [54] (fun i wq => LkAt W9 x.1.fields.length i wq) (fun i _ => x.1.fields.length - (intOf i).toNat)
        case atStart => exact ⟨0, Nat.zero_le _, rfl, Below.refl _ _⟩
        case round =>
          obtain ⟨k, hk, rfl, hbk⟩ := hrel
          have HBK := Lib.hid hbk
          clear hbk
          by_cases hkl : k < x.1.fields.length
          · have hki : (k : Int) < x.1.fields.length := by omega
            have hki0 : (0 : Int) ≤ (k : Int) := by omega
            obtain ⟨gf, cf, hv, _, _, hcell⟩ := row_el cfldCells 5 (fun _ => rfl) (row_keep HBK.out HF9.out) k hkl
            obtain ⟨rfl, rfl⟩ := slice_inj hv
            have hemp := HEMP.out k hkl
            obtain ⟨f, hf⟩ : ∃ f, x.1.fields[k] = f := ⟨_, rfl⟩
            rw [hf] at hcell hemp
            obtain ⟨fn, fk, fr, fl, fd⟩ := f
            have x0 : wr.cell? ⟨gf, k * 5, none⟩ = some (.string fn) := hcell 0 (by omega)
            have x1 : wr.cell? ⟨gf, k * 5 + 1, none⟩ = some (.int .u8 fk) := hcell 1 (by omega)
            have x2 : wr.cell? ⟨gf, k * 5 + 2, none⟩ = some (.int .i64 fr) := hcell 2 (by omega)
            have x3 : wr.cell? ⟨gf, k * 5 + 3, none⟩ = some (.int .i64 fl) := hcell 3 (by omega)
            have x4 : wr.cell? ⟨gf, k * 5 + 4, none⟩ = some (.int .u64 fd) := hcell 4 (by omega)
            have HEP := Lib.hid hemp
            clear hcell hv hf hemp
            go_upto_region 15 with (fail)
            have hba : Below wr.heap.size wr (wr.alloc (.cells #[.string fn, .int .u8 fk, .int .i64 fr, .int .i64 fl, .int .u64 fd] 57)) := (Below.refl _ _).alloc (Nat.le_refl _) _
            have HFB := Lib.hid (heap_alloc_new wr (.cells #[.string fn, .int .u8 fk, .int .i64 fr, .int .i64 fl, .int .u64 fd] 57))
            have HBK10 := Lib.hid (HBK.out.trans (hba.mono HBK.out.size))
            clear x0 x1 x2 x3 x4 hba
            generalize wr.alloc (.cells #[.string fn, .int .u8 fk, .int .i64 fr, .int .i64 fl, .int .u64 fd] 57) = W10 at *
            generalize wr.heap.size = FB at *
            obtain ⟨_, y0, y1, y2, y3, y4, _⟩ := blk5 HFB.out
            obtain ⟨_, v0, v1, v2, v3⟩ := blk4p (blk_below HVB9.out HBK10.out (blk_lt HVB9.out))
            have HQK := Lib.hid (HQ9.out.later HBK10.out)
            have HEM : Hid (∀ W, Below W10.heap.size W10 W → Calls Tryd.prog 20 #[.agg #[.string fn, .int .u8 fk, .int .i64 fr, .int .i64 fl, .int .u64 fd], viewI (.agg #[.int .u64 q.num, .slice qa q.bytes.length qc, .slice qb q.kids.length qd, .bool q.has]), .int .i64 k] W fun e w' => e = .returned (.bool true) ∧ Below W.heap.size W w') := Lib.hid (fun W hb => by
              have h := empty_any W fn fk fr fl fd q _ (HQK.out.later hb) k HEP.out.2
              rw [HEP.out.1] at h
              exact h)
            refine wp_region_noPanic ?_
            refine wp_region_held_drew (S := (fun w' => w'.cell? ⟨FB, 0, none⟩ = some (.string fn) ∧ w'.cell? ⟨FB, 1, none⟩ = some (.int .u8 fk) ∧ w'.cell? ⟨FB, 2, none⟩ = some (.int .i64 fr) ∧ w'.cell? ⟨FB, 3, none⟩ = some (.int .i64 fl) ∧ w'.cell? ⟨FB, 4, none⟩ = some (.int .u64 fd) ∧ w'.cell? ⟨VB, 0, none⟩ = some (.int .u64 q.num) ∧ w'.cell? ⟨VB, 1, none⟩ = some (.slice qa q.bytes.length qc) ∧ w'.cell? ⟨VB, 2, none⟩ = some (.slice qb q.kids.length qd) ∧ w'.cell? ⟨VB, 3, none⟩ = some (.bool q.has))) (by kernel_rfl) ⟨y0, y1, y2, y3, y4, v0, v1, v2, v3⟩ ?_
            intro hS
            refine wpAnyH_take (i := 0) (v := .agg #[.string fn, .int .u8 fk, .int .i64 fr, .int .i64 fl, .int .u64 fd]) rfl (by kernel_rfl) (by kernel_rfl) (by kernel_rfl) (fun _ _ _ h => h) (Or.inl ⟨by rfl, ?_⟩) hS ?_
            · intro w' hSw
              obtain ⟨y0, y1, y2, y3, y4, v0, v1, v2, v3⟩ := hSw
              go_simp
            simp only [Act.put, List.getElem_toArray, List.getElem_cons_zero, List.setIfInBounds_toArray, List.set_cons_zero, List.set_cons_succ]
            refine wpAnyH_take (i := 1) (v := .agg #[.int .u64 q.num, .slice qa q.bytes.length qc, .slice qb q.kids.length qd, .bool q.has]) rfl (by kernel_rfl) (by kernel_rfl) (by kernel_rfl) (fun _ _ _ h => h) (Or.inl ⟨by rfl, ?_⟩) hS ?_
            · intro w' hSw
              obtain ⟨y0, y1, y2, y3, y4, v0, v1, v2, v3⟩ := hSw
              go_simp
            simp only [Act.put, List.getElem_toArray, List.getElem_cons_succ, List.getElem_cons_zero, List.setIfInBounds_toArray, List.set_cons_zero, List.set_cons_succ]
            refine wpAnyH_take (i := 3) (v := .int .i64 k) rfl (by kernel_rfl) (by kernel_rfl) (by kernel_rfl) (fun _ _ _ h => h) (Or.inl ⟨by rfl, ?_⟩) hS ?_
            · intro w' hSw
              obtain ⟨y0, y1, y2, y3, y4, v0, v1, v2, v3⟩ := hSw
              go_simp
            simp only [Act.put, List.getElem_toArray, List.getElem_cons_succ, List.getElem_cons_zero, List.setIfInBounds_toArray, List.set_cons_zero, List.set_cons_succ]
            refine wpAnyH_ready (rs := [2]) (by kernel_rfl) (by decide) (AllReadyH.cons rfl (fun K hK => ?_) AllReadyH.nil)
            rw [if_pos (by kernel_rfl)]
            go_simp
            refine (of_any W10.drew q _ (HQK.out.later (Below.refl _ W10).drew)).mono ?_
            rintro e W11 ⟨rfl, hbW11⟩
            have hxW11 : Below W10.heap.size W10 W11 := (Below.refl _ W10).drew.trans hbW11
            have ny0 := cell_stays hxW11 y0
            have ny1 := cell_stays hxW11 y1
            have ny2 := cell_stays hxW11 y2
            have ny3 := cell_stays hxW11 y3
            have ny4 := cell_stays hxW11 y4
            have nv0 := cell_stays hxW11 v0
            have nv1 := cell_stays hxW11 v1
            have nv2 := cell_stays hxW11 v2
            have nv3 := cell_stays hxW11 v3
            refine hK.out _ _ ⟨ny0, ny1, ny2, ny3, ny4, nv0, nv1, nv2, nv3⟩ (fun hS => ?_)
            clear ny0 ny1 ny2 ny3 ny4 nv0 nv1 nv2 nv3
            refine wpAnyH_ready (rs := [4]) (by kernel_rfl) (by decide) (AllReadyH.cons rfl (fun K hK => ?_) AllReadyH.nil)
            rw [if_pos (by kernel_rfl)]
            go_simp
            refine (HEM.out W11 hxW11).mono ?_
            rintro e W12 ⟨rfl, hbW12⟩
            have hxW12 : Below W10.heap.size W10 W12 := hxW11.trans (hbW12.mono hxW11.size)
            have ny0 := cell_stays hxW12 y0
            have ny1 := cell_stays hxW12 y1
            have ny2 := cell_stays hxW12 y2
            have ny3 := cell_stays hxW12 y3
            have ny4 := cell_stays hxW12 y4
            have nv0 := cell_stays hxW12 v0
            have nv1 := cell_stays hxW12 v1
            have nv2 := cell_stays hxW12 v2
            have nv3 := cell_stays hxW12 v3
            refine hK.out _ _ ⟨ny0, ny1, ny2, ny3, ny4, nv0, nv1, nv2, nv3⟩ (fun hS => ?_)
            clear ny0 ny1 ny2 ny3 ny4 nv0 nv1 nv2 nv3
            refine wpAnyH_take (i := 5) (v := .bool false) rfl (by kernel_rfl) (by kernel_rfl) (by kernel_rfl) (fun _ _ _ h => h) (Or.inl ⟨by rfl, ?_⟩) hS ?_
            · intro w' hSw
              obtain ⟨y0, y1, y2, y3, y4, v0, v1, v2, v3⟩ := hSw
              go_simp
            simp only [Act.put, List.getElem_toArray, List.getElem_cons_succ, List.getElem_cons_zero, List.setIfInBounds_toArray, List.set_cons_zero, List.set_cons_succ]
            refine wpAnyH_done (by kernel_rfl) ?_ _
            refine NoPanic.normal ?_
            try simp only [Exit.then]
            have HBK12 := Lib.hid (HBK10.out.trans (hxW12.mono HBK10.out.size))
            clear hS hxW11 hxW12 hbW11 hbW12 v0 v1 v2 v3 y0 y1 y2 y3 y4
            go_wp2
            go_roundw
            case rel => exact ⟨k + 1, by omega, by go_num, HBK12.out⟩
            case measure => simp [intOf]; omega
          · obtain rfl : k = x.1.fields.length := by omega
            have HBE := Lib.hid (HB9.out.trans (HBK.out.mono HB9.out.size))
            clear hkl
            go_wp2
            go_roundw
            case rel => exact ⟨j + 1, by omega, by go_num, HBE.out⟩
            case measure => simp [intOf]; omega
      · obtain rfl : j = ss.length := by omega
        have HR9 := Lib.hid (HR3.out.below HBW.out)
        have HB09 := Lib.hid (HB03.out.trans (HBW.out.mono HB03.out.size))
        have HB9 := Lib.hid (HB3.out.trans (HBW.out.mono HB3.out.size))
        clear hjl
        go_wp2_with fail
        refine (hvalue_any wr HR9.out HSM.out HRT.out (HBY.out.below (Nat.le_refl _) HB09.out) rfl (by omega) HBC.out).mono ?_
        rintro e W4 ⟨⟨v, val, rfl, hiv, _, hh, hfit, hsm⟩, hb4⟩
        obtain ⟨va, vk, vc, wc, rfl, _⟩ := hiv.form
        have HB4 := Lib.hid (HB9.out.trans (hb4.mono HB9.out.size))
        have HC4 := Lib.hid (HCw.out.below hb4)
        have HZ4 := Lib.hid (blk_below HZw.out hb4 (blk_lt HZw.out))
        have HIV := Lib.hid hiv
        have HSMV := Lib.hid hsm
        have hrc : rt < (crow ss).length := by rw [HL.out]; exact HRT.out
        have HKF : Hid (v.kids.length = (crow ss)[rt].1.fields.length ∧ ∀ k (hx : k < (crow ss)[rt].1.fields.length) (hk : k < v.kids.length), fitsP ((crow ss).map Prod.fst) (es.map Prod.fst) 11 (crow ss)[rt].1.fields[k].kind (crow ss)[rt].1.fields[k].ref (crow ss)[rt].1.fields[k].lists v.kids[k] = true) := Lib.hid (by
          have h := fits_kids (ss := (crow ss).map Prod.fst) (i := rt) (room := 11) (by rw [List.length_map]; exact hrc) hh hfit
          simp only [List.getElem_map] at h
          exact h)
        clear hb4 hiv hsm hh hfit z0 z1 z2 HR9 HB09 HB9 HCw HZw
        go_upto_region 20 with (fail)
        have hba : Below W4.heap.size W4 (W4.alloc (.cells #[.int .u64 v.num, .slice va v.bytes.length vc, .slice vk v.kids.length wc, .bool v.has] 36)) := (Below.refl _ _).alloc (Nat.le_refl _) _
        have HVB := Lib.hid (heap_alloc_new W4 (.cells #[.int .u64 v.num, .slice va v.bytes.length vc, .slice vk v.kids.length wc, .bool v.has] 36))
        have HB5 := Lib.hid (HB4.out.trans (hba.mono HB4.out.size))
        have HC5 := Lib.hid (HC4.out.below hba)
        have HZ5 := Lib.hid (blk_below HZ4.out hba (blk_lt HZ4.out))
        have HV5 := Lib.hid (HIV.out.later hba)
        clear hba HB4 HC4 HZ4 HIV
        generalize W4.alloc (.cells #[.int .u64 v.num, .slice va v.bytes.length vc, .slice vk v.kids.length wc, .bool v.has] 36) = W5 at *
        generalize W4.heap.size = VB at *
        obtain ⟨_, z0, z1, z2, _⟩ := blk3 HZ5.out
        have hri : (rt : Int) < ss.length := by have := HRT.out; omega
        have hri0 : (0 : Int) ≤ (rt : Int) := by omega
        obtain ⟨g, cc, hv, hcc, hgl, hcell⟩ := row_el crecCells 2 (fun _ => rfl) HC5.out.structs rt hrc
        rw [HL.out] at hv
        obtain ⟨rfl, rfl⟩ := slice_inj hv
        obtain ⟨x, hx⟩ : ∃ x, (crow ss)[rt] = x := ⟨_, rfl⟩
        have hmem : x ∈ crow ss := by rw [← hx]; exact List.getElem_mem _
        rw [hx] at hcell HKF
        have HFR := Lib.hid (HC5.out.fields x hmem)
        obtain ⟨fa, fc, hfv⟩ := ownsRow_form HFR.out
        have x1 : W5.cell? ⟨g, rt * 2 + 1, none⟩ = some x.2 := hcell 1 (by omega)
        rw [hfv] at x1 HFR
        have HDX := Lib.hid (HDF.out x hmem)
        have HDM : Hid (∀ f ∈ x.1.fields, f.dflt ≤ 18446744073709551615) := Lib.hid (fun f hf => (HFO.out x hmem f hf).2.2.2)
        have hkl100 := HSMV.out.kids.2.1
        have hfl2 : (x.1.fields.length : Int) ≤ 1000000 := by have := HKF.out.1; omega
        clear hcell hv hx hmem hfv
        go_wp2_with fail
        clear z0 z1 z2 x1
        go_loopw [78] (fun i wq => LkAt W5 x.1.fields.length i wq) (fun i _ => x.1.fields.length - (intOf i).toNat)
        case atStart => exact ⟨0, Nat.zero_le _, rfl, Below.refl _ _⟩
        case round =>
          obtain ⟨k, hk, rfl, hbk⟩ := hrel
          have HBK := Lib.hid hbk
          clear hbk
          by_cases hkl : k < x.1.fields.length
          · have hki : (k : Int) < x.1.fields.length := by omega
            have hki0 : (0 : Int) ≤ (k : Int) := by omega
            have hkk : k < v.kids.length := by have := HKF.out.1; omega
            have hkki : (k : Int) < v.kids.length := by omega
            obtain ⟨gf, cf, hv, _, _, hcell⟩ := row_el cfldCells 5 (fun _ => rfl) (row_keep HBK.out HFR.out) k hkl
            obtain ⟨rfl, rfl⟩ := slice_inj hv
            have hfq := HKF.out.2 k hkl hkk
            have hdx := HDX.out _ (List.getElem_mem hkl)
            have hdm := HDM.out _ (List.getElem_mem hkl)
            have hsq := HSMV.out.kid k
            rw [kidP_at v k hkk] at hsq
            have hke := kidP_at v k hkk
            obtain ⟨f, hf⟩ : ∃ f, x.1.fields[k] = f := ⟨_, rfl⟩
            rw [hf] at hcell hfq hdx hdm
            obtain ⟨fn, fk, fr, fl, fd⟩ := f
            have x0 : wr.cell? ⟨gf, k * 5, none⟩ = some (.string fn) := hcell 0 (by omega)
            have x1 : wr.cell? ⟨gf, k * 5 + 1, none⟩ = some (.int .u8 fk) := hcell 1 (by omega)
            have x2 : wr.cell? ⟨gf, k * 5 + 2, none⟩ = some (.int .i64 fr) := hcell 2 (by omega)
            have x3 : wr.cell? ⟨gf, k * 5 + 3, none⟩ = some (.int .i64 fl) := hcell 3 (by omega)
            have x4 : wr.cell? ⟨gf, k * 5 + 4, none⟩ = some (.int .u64 fd) := hcell 4 (by omega)
            have hie := isdef_empty hfq (sort_some hdx.1.1 hdx.1.2.1 hdx.1.2.2) hdx.2.2
            obtain ⟨q, hq⟩ : ∃ q, v.kids[k] = q := ⟨_, rfl⟩
            rw [hq] at hie hsq hke
            have HIE := Lib.hid hie
            have HSQ := Lib.hid hsq
            have HKE := Lib.hid hke
            have HQI := Lib.hid hq
            have HDM1 := Lib.hid hdm
            clear hcell hv hf hie hsq hke hq hfq hdx hdm
            go_upto_region 23 with (fail)
            have hba : Below wr.heap.size wr (wr.alloc (.cells #[.string fn, .int .u8 fk, .int .i64 fr, .int .i64 fl, .int .u64 fd] 57)) := (Below.refl _ _).alloc (Nat.le_refl _) _
            have HFB := Lib.hid (heap_alloc_new wr (.cells #[.string fn, .int .u8 fk, .int .i64 fr, .int .i64 fl, .int .u64 fd] 57))
            have HBK10 := Lib.hid (HBK.out.trans (hba.mono HBK.out.size))
            clear x0 x1 x2 x3 x4 hba
            generalize wr.alloc (.cells #[.string fn, .int .u8 fk, .int .i64 fr, .int .i64 fl, .int .u64 fd] 57) = W10 at *
            generalize wr.heap.size = FB at *
            have hvk := HV5.out.later HBK10.out
            have HVK := Lib.hid hvk
            obtain ⟨va', vk', vc', wc', hve, _, _, _, _, _, _, hks⟩ := hvk.form
            obtain ⟨_, he1, he2, _⟩ := agg4_inj hve
            obtain ⟨kb, ko, u0, u1, u2, u3, hka, k0, k1, k2, k3, hivk⟩ := hks k hkk
            rw [HQI.out] at hivk
            rw [hka] at he2
            obtain ⟨rfl, rfl⟩ := slice_inj he2
            obtain ⟨ta, ua, tc, uc, hqe, _⟩ := hivk.form
            obtain ⟨rfl, rfl, rfl, rfl⟩ := agg4_inj hqe
            have HKV := Lib.hid hivk
            obtain ⟨_, y0, y1, y2, y3, y4, _⟩ := blk5 HFB.out
            obtain ⟨_, v0, v1, v2, v3⟩ := blk4p (blk_below HVB.out HBK10.out (blk_lt HVB.out))
            clear hvk hve he1 hks hka hqe hivk
            obtain ⟨EB, hEB⟩ : ∃ b, emptyP fk fl fd q = b := ⟨_, rfl⟩
            have HEM : Hid (∀ W, Below W10.heap.size W10 W → Calls Tryd.prog 20 #[.agg #[.string fn, .int .u8 fk, .int .i64 fr, .int .i64 fl, .int .u64 fd], viewI (.agg #[.int .u64 v.num, .slice va v.bytes.length vc, .slice (some ⟨kb, ko, none⟩) v.kids.length wc, .bool v.has]), .int .i64 k] W fun e w' => e = .returned (.bool EB) ∧ Below W.heap.size W w') := Lib.hid (fun W hb => by
              have h := empty_any W fn fk fr fl fd v _ (HVK.out.later hb) k (by rw [HKE.out]; have := HSQ.out.kids.1; omega)
              rw [HKE.out, hEB] at h
              exact h)
            have HDE : Hid (∀ W, Below W10.heap.size W10 W → Calls Tryd.prog 21 #[.agg #[.string fn, .int .u8 fk, .int .i64 fr, .int .i64 fl, .int .u64 fd], .agg #[.int .u64 q.num, .slice ta q.bytes.length tc, .slice ua q.kids.length uc, .bool q.has]] W fun e w' => SamePost q (numV fd) e ∧ Below W.heap.size W w') := Lib.hid (fun W hb => isdef_any W fn fk fr fl fd HDM1.out q _ (HKV.out.later hb))
            have HRE : Hid (∀ r : Bool, (r = true ↔ q = numV fd) → r = EB) := Lib.hid (fun r h => by
              have h1 := HIE.out
              rw [hEB] at h1
              cases r <;> cases EB <;> simp_all)
            clear hEB
            cases EB
            all_goals
              refine wp_region_noPanic ?_
              refine wp_region_held_drew (S := (fun w' => w'.cell? ⟨FB, 0, none⟩ = some (.string fn) ∧ w'.cell? ⟨FB, 1, none⟩ = some (.int .u8 fk) ∧ w'.cell? ⟨FB, 2, none⟩ = some (.int .i64 fr) ∧ w'.cell? ⟨FB, 3, none⟩ = some (.int .i64 fl) ∧ w'.cell? ⟨FB, 4, none⟩ = some (.int .u64 fd) ∧ w'.cell? ⟨VB, 0, none⟩ = some (.int .u64 v.num) ∧ w'.cell? ⟨VB, 1, none⟩ = some (.slice va v.bytes.length vc) ∧ w'.cell? ⟨VB, 2, none⟩ = some (.slice (some ⟨kb, ko, none⟩) v.kids.length wc) ∧ w'.cell? ⟨VB, 3, none⟩ = some (.bool v.has) ∧ w'.cell? ⟨kb, ko + k * 4, none⟩ = some (.int .u64 q.num) ∧ w'.cell? ⟨kb, ko + k * 4 + 1, none⟩ = some (.slice ta q.bytes.length tc) ∧ w'.cell? ⟨kb, ko + k * 4 + 2, none⟩ = some (.slice ua q.kids.length uc) ∧ w'.cell? ⟨kb, ko + k * 4 + 3, none⟩ = some (.bool q.has))) (by kernel_rfl) ⟨y0, y1, y2, y3, y4, v0, v1, v2, v3, k0, k1, k2, k3⟩ ?_
              intro hS
              refine wpAnyH_take (i := 0) (v := .agg #[.string fn, .int .u8 fk, .int .i64 fr, .int .i64 fl, .int .u64 fd]) rfl (by kernel_rfl) (by kernel_rfl) (by kernel_rfl) (fun _ _ _ h => h) (Or.inl ⟨by rfl, ?_⟩) hS ?_
              · intro w' hSw
                obtain ⟨y0, y1, y2, y3, y4, v0, v1, v2, v3, k0, k1, k2, k3⟩ := hSw
                go_simp
              simp only [Act.put, List.getElem_toArray, List.getElem_cons_zero, List.setIfInBounds_toArray, List.set_cons_zero, List.set_cons_succ]
              refine wpAnyH_take (i := 1) (v := .agg #[.int .u64 v.num, .slice va v.bytes.length vc, .slice (some ⟨kb, ko, none⟩) v.kids.length wc, .bool v.has]) rfl (by kernel_rfl) (by kernel_rfl) (by kernel_rfl) (fun _ _ _ h => h) (Or.inl ⟨by rfl, ?_⟩) hS ?_
              · intro w' hSw
                obtain ⟨y0, y1, y2, y3, y4, v0, v1, v2, v3, k0, k1, k2, k3⟩ := hSw
                go_simp
              simp only [Act.put, List.getElem_toArray, List.getElem_cons_succ, List.getElem_cons_zero, List.setIfInBounds_toArray, List.set_cons_zero, List.set_cons_succ]
              refine wpAnyH_take (i := 3) (v := .int .i64 k) rfl (by kernel_rfl) (by kernel_rfl) (by kernel_rfl) (fun _ _ _ h => h) (Or.inl ⟨by rfl, ?_⟩) hS ?_
              · intro w' hSw
                obtain ⟨y0, y1, y2, y3, y4, v0, v1, v2, v3, k0, k1, k2, k3⟩ := hSw
                go_simp
              simp only [Act.put, List.getElem_toArray, List.getElem_cons_succ, List.getElem_cons_zero, List.setIfInBounds_toArray, List.set_cons_zero, List.set_cons_succ]
              refine wpAnyH_take (i := 5) (v := .agg #[.string fn, .int .u8 fk, .int .i64 fr, .int .i64 fl, .int .u64 fd]) rfl (by kernel_rfl) (by kernel_rfl) (by kernel_rfl) (fun _ _ _ h => h) (Or.inl ⟨by rfl, ?_⟩) hS ?_
              · intro w' hSw
                obtain ⟨y0, y1, y2, y3, y4, v0, v1, v2, v3, k0, k1, k2, k3⟩ := hSw
                go_simp
              simp only [Act.put, List.getElem_toArray, List.getElem_cons_succ, List.getElem_cons_zero, List.setIfInBounds_toArray, List.set_cons_zero, List.set_cons_succ]
              refine wpAnyH_take (i := 6) (v := .pointer (some ⟨VB, 2, none⟩)) rfl (by kernel_rfl) (by kernel_rfl) (by kernel_rfl) (fun _ _ _ h => h) (Or.inl ⟨by rfl, ?_⟩) hS ?_
              · intro w' hSw
                obtain ⟨y0, y1, y2, y3, y4, v0, v1, v2, v3, k0, k1, k2, k3⟩ := hSw
                go_simp
              simp only [Act.put, List.getElem_toArray, List.getElem_cons_succ, List.getElem_cons_zero, List.setIfInBounds_toArray, List.set_cons_zero, List.set_cons_succ]
              refine wpAnyH_take (i := 7) (v := .slice (some ⟨kb, ko, none⟩) v.kids.length wc) rfl (by kernel_rfl) (by kernel_rfl) (by kernel_rfl) (fun _ _ _ h => h) (Or.inl ⟨by rfl, ?_⟩) hS ?_
              · intro w' hSw
                obtain ⟨y0, y1, y2, y3, y4, v0, v1, v2, v3, k0, k1, k2, k3⟩ := hSw
                go_simp
              simp only [Act.put, List.getElem_toArray, List.getElem_cons_succ, List.getElem_cons_zero, List.setIfInBounds_toArray, List.set_cons_zero, List.set_cons_succ]
              refine wpAnyH_take (i := 8) (v := .int .i64 k) rfl (by kernel_rfl) (by kernel_rfl) (by kernel_rfl) (fun _ _ _ h => h) (Or.inl ⟨by rfl, ?_⟩) hS ?_
              · intro w' hSw
                obtain ⟨y0, y1, y2, y3, y4, v0, v1, v2, v3, k0, k1, k2, k3⟩ := hSw
                go_simp
              simp only [Act.put, List.getElem_toArray, List.getElem_cons_succ, List.getElem_cons_zero, List.setIfInBounds_toArray, List.set_cons_zero, List.set_cons_succ]
              refine wpAnyH_take (i := 9) (v := .pointer (some ⟨kb, ko + k * 4, none⟩)) rfl (by kernel_rfl) (by kernel_rfl) (by kernel_rfl) (fun _ _ _ h => h) (Or.inl ⟨by rfl, ?_⟩) hS ?_
              · intro w' hSw
                obtain ⟨y0, y1, y2, y3, y4, v0, v1, v2, v3, k0, k1, k2, k3⟩ := hSw
                go_simp
              simp only [Act.put, List.getElem_toArray, List.getElem_cons_succ, List.getElem_cons_zero, List.setIfInBounds_toArray, List.set_cons_zero, List.set_cons_succ]
              refine wpAnyH_take (i := 10) (v := .agg #[.int .u64 q.num, .slice ta q.bytes.length tc, .slice ua q.kids.length uc, .bool q.has]) rfl (by kernel_rfl) (by kernel_rfl) (by kernel_rfl) (fun _ _ _ h => h) (Or.inl ⟨by rfl, ?_⟩) hS ?_
              · intro w' hSw
                obtain ⟨y0, y1, y2, y3, y4, v0, v1, v2, v3, k0, k1, k2, k3⟩ := hSw
                go_simp
              simp only [Act.put, List.getElem_toArray, List.getElem_cons_succ, List.getElem_cons_zero, List.setIfInBounds_toArray, List.set_cons_zero, List.set_cons_succ]
              refine wpAnyH_ready (rs := [2]) (by kernel_rfl) (by decide) (AllReadyH.cons rfl (fun K hK => ?_) AllReadyH.nil)
              rw [if_pos (by kernel_rfl)]
              go_simp
              refine (of_any W10.drew v _ (HVK.out.later (Below.refl _ W10).drew)).mono ?_
              rintro e W11 ⟨rfl, hbW11⟩
              have hxW11 : Below W10.heap.size W10 W11 := (Below.refl _ W10).drew.trans hbW11
              have ny0 := cell_stays hxW11 y0
              have ny1 := cell_stays hxW11 y1
              have ny2 := cell_stays hxW11 y2
              have ny3 := cell_stays hxW11 y3
              have ny4 := cell_stays hxW11 y4
              have nv0 := cell_stays hxW11 v0
              have nv1 := cell_stays hxW11 v1
              have nv2 := cell_stays hxW11 v2
              have nv3 := cell_stays hxW11 v3
              have nk0 := cell_stays hxW11 k0
              have nk1 := cell_stays hxW11 k1
              have nk2 := cell_stays hxW11 k2
              have nk3 := cell_stays hxW11 k3
              refine hK.out _ _ ⟨ny0, ny1, ny2, ny3, ny4, nv0, nv1, nv2, nv3, nk0, nk1, nk2, nk3⟩ (fun hS => ?_)
              clear ny0 ny1 ny2 ny3 ny4 nv0 nv1 nv2 nv3 nk0 nk1 nk2 nk3
              refine wpAnyH_ready (rs := [4]) (by kernel_rfl) (by decide) (AllReadyH.cons rfl (fun K hK => ?_) AllReadyH.nil)
              rw [if_pos (by kernel_rfl)]
              go_simp
              refine (HEM.out W11 hxW11).mono ?_
              rintro e W12 ⟨rfl, hbW12⟩
              have hxW12 : Below W10.heap.size W10 W12 := hxW11.trans (hbW12.mono hxW11.size)
              have ny0 := cell_stays hxW12 y0
              have ny1 := cell_stays hxW12 y1
              have ny2 := cell_stays hxW12 y2
              have ny3 := cell_stays hxW12 y3
              have ny4 := cell_stays hxW12 y4
              have nv0 := cell_stays hxW12 v0
              have nv1 := cell_stays hxW12 v1
              have nv2 := cell_stays hxW12 v2
              have nv3 := cell_stays hxW12 v3
              have nk0 := cell_stays hxW12 k0
              have nk1 := cell_stays hxW12 k1
              have nk2 := cell_stays hxW12 k2
              have nk3 := cell_stays hxW12 k3
              refine hK.out _ _ ⟨ny0, ny1, ny2, ny3, ny4, nv0, nv1, nv2, nv3, nk0, nk1, nk2, nk3⟩ (fun hS => ?_)
              clear ny0 ny1 ny2 ny3 ny4 nv0 nv1 nv2 nv3 nk0 nk1 nk2 nk3
              refine wpAnyH_ready (rs := [11]) (by kernel_rfl) (by decide) (AllReadyH.cons rfl (fun K hK => ?_) AllReadyH.nil)
              rw [if_pos (by kernel_rfl)]
              go_simp
              refine (HDE.out W12 hxW12).mono ?_
              rintro e W13 ⟨⟨r, rfl, hiff⟩, hbW13⟩
              have hxW13 : Below W10.heap.size W10 W13 := hxW12.trans (hbW13.mono hxW12.size)
              obtain rfl : r = _ := HRE.out r hiff
              have ny0 := cell_stays hxW13 y0
              have ny1 := cell_stays hxW13 y1
              have ny2 := cell_stays hxW13 y2
              have ny3 := cell_stays hxW13 y3
              have ny4 := cell_stays hxW13 y4
              have nv0 := cell_stays hxW13 v0
              have nv1 := cell_stays hxW13 v1
              have nv2 := cell_stays hxW13 v2
              have nv3 := cell_stays hxW13 v3
              have nk0 := cell_stays hxW13 k0
              have nk1 := cell_stays hxW13 k1
              have nk2 := cell_stays hxW13 k2
              have nk3 := cell_stays hxW13 k3
              refine hK.out _ _ ⟨ny0, ny1, ny2, ny3, ny4, nv0, nv1, nv2, nv3, nk0, nk1, nk2, nk3⟩ (fun hS => ?_)
              clear ny0 ny1 ny2 ny3 ny4 nv0 nv1 nv2 nv3 nk0 nk1 nk2 nk3
              refine wpAnyH_take (i := 12) (v := .bool false) rfl (by kernel_rfl) (by kernel_rfl) (by kernel_rfl) (fun _ _ _ h => h) (Or.inl ⟨by rfl, ?_⟩) hS ?_
              · intro w' hSw
                obtain ⟨y0, y1, y2, y3, y4, v0, v1, v2, v3, k0, k1, k2, k3⟩ := hSw
                go_simp
              simp only [Act.put, List.getElem_toArray, List.getElem_cons_succ, List.getElem_cons_zero, List.setIfInBounds_toArray, List.set_cons_zero, List.set_cons_succ]
              refine wpAnyH_done (by kernel_rfl) ?_ _
              refine NoPanic.normal ?_
              try simp only [Exit.then]
              have HBK13 := Lib.hid (HBK10.out.trans (hxW13.mono HBK10.out.size))
              clear hS hxW11 hxW12 hxW13 hbW11 hbW12 hbW13 v0 v1 v2 v3 y0 y1 y2 y3 y4 k0 k1 k2 k3
              go_wp2
              go_roundw
              case rel => exact ⟨k + 1, by omega, by go_num, HBK13.out⟩
              case measure => simp [intOf]; omega
          · have HBE := Lib.hid (HB5.out.trans (HBK.out.mono HB5.out.size))
            obtain rfl : k = x.1.fields.length := by omega
            clear hkl
            go_wp2
            go_ret
            exact ⟨rfl, HBE.out⟩
  · go_wp2
    go_ret
    exact ⟨rfl, HB2.out.alloc (by have := HB2.out.size; omega) _⟩
theorem bytes_rowD {w : World} {a : Option Addr} {len cap : Nat} {zs : List Int} (h : IsRow .u8 w a len cap zs) : Bytes w a (zs.take len) ∧ (zs.take len).length = len ∧ len ≤ cap ∧ (cap : Int) ≤ 9223372036854775807 := by
  obtain ⟨h1, h2, h3, h4, h5⟩ := h
  refine ⟨⟨fun i => getD_take_int zs len i h4, fun hne => ?_⟩, by rw [List.length_take]; omega, h1, by unfold maxLen at h2; omega⟩
  have hz : zs ≠ [] := fun e => hne (by rw [e]; exact List.take_nil)
  obtain ⟨b, off, e, hlt, hc⟩ := h5 hz
  refine ⟨b, off, e, hlt, fun i hi => ?_⟩
  rw [List.length_take] at hi
  rw [hc i (by omega), List.getD, List.getD, List.getElem?_take, if_pos (by omega)]
theorem viewDefaults_walk (p : Plan) (b0 : Option Addr) (nb cb : Nat) (z1 : List Int) {a0 a1 : Option Addr} {n0 e0 n1 c1 : Nat} (w : World) (hp : IsPlan w p a0 n0 e0 a1 n1 c1) (h1 : IsRow .u8 w b0 nb cb z1) (hT : Tabs w) :
    Calls Tryd.prog 6 #[.agg #[.slice a0 n0 e0, .slice a1 n1 c1, .int .u8 p.root, .bool p.tree], .slice b0 nb cb] w fun e w' => e = .returned (.bool true) ∧ Below w.heap.size w w' := by
  obtain ⟨k1, k2, k3, _⟩ := bytes_rowD h1
  exact vdefaults_go p _ w hp k1 k2 k3 hT
end Go.Proofs.YtjeoekggdohhiaaDoor
