/-
  The program's writer of JSON (package jsonwrite): a struct. Conditions: those that each theorem names.
-/
import Derived.Test.YtiknhkkeifemcaaGreatDoorPkN20
import Derived.Test.YtiknhkkeifemcaaGreatDoorPkN46
namespace Go.Proofs.YtiknhkkeifemcaaGreatDoor
open Go.ChangeShapes Go.WideShapes Go.ChangeAt Go.RowKit Go.Shelf

theorem elsJ_mono (f : Nat → List Int) : ∀ {n j : Nat}, j ≤ n → (elsJ f j).length ≤ (elsJ f n).length
  | 0, j, h => by obtain rfl : j = 0 := by omega
                  exact Nat.le_refl _
  | n + 1, j, h => by
    rcases Nat.lt_or_ge n j with h1 | h1
    · obtain rfl : j = n + 1 := by omega
      exact Nat.le_refl _
    · have := elsJ_mono f h1
      rw [elsJ, List.length_append]
      omega
theorem elsJ_next (f : Nat → List Int) (enc : List Int) {j : Nat} (hj : 0 < j) : enc ++ 91 :: elsJ f j ++ bts ⟨#[44]⟩ ++ f j = enc ++ 91 :: elsJ f (j + 1) := by
  have e3 : bts ⟨#[44]⟩ = [44] := rfl
  rw [elsJ, if_neg (by omega), e3]
  simp
theorem elsJ_first (f : Nat → List Int) (enc : List Int) : enc ++ 91 :: elsJ f 0 ++ f 0 = enc ++ 91 :: elsJ f (0 + 1) := by rw [List.append_assoc]; rfl
theorem elsJ_step (f : Nat → List Int) {j : Nat} (hj : 0 < j) : (elsJ f (j + 1)).length = (elsJ f j).length + 1 + (f j).length := by
  rw [elsJ, if_neg (by omega), List.length_append, List.length_append, List.length_singleton]
  omega
theorem elsJ_one (f : Nat → List Int) : (elsJ f (0 + 1)).length = (f 0).length := rfl
def LsAt (D Dv : Nat → Prop) (w : World) (base wk ak mk : Nat) (rv cv : Value) (A : Option Addr) (L : Int) (enc : List Int) (pay : Int) (rs : List (SRec × Value)) (cs : List (SCho × Value)) (f : Nat → List Int) (n : Nat) (i : Value) (W : World) : Prop :=
  ∃ (j : Nat) (A' : Option Addr), j ≤ n ∧ i = .int .i64 j ∧ JwAll D Dv W base wk ak mk rv cv A' L (enc ++ 91 :: elsJ f j) (pay + 2 + (min j 1 : Nat) + 20 * (elsJ f j).length) rs cs ∧ Fx wk ak mk A A' w W
set_option maxRecDepth 100000 in
set_option maxHeartbeats 8000000 in
theorem jlist_any {D Dv : Nat → Prop} {w : World} {base wk ak mk : Nat} {rv cv : Value} {A : Option Addr} {L : Int} {enc : List Int} {pay : Int} {rs : List (SRec × Value)} {cs : List (SCho × Value)} {v : Value} {k ref : Nat} {lists : Int} {q : PV} (hall : JwAll D Dv w base wk ak mk rv cv A L enc pay rs cs) (hv : ListHeadD Dv w v q) (hl : 0 < lists ∧ lists ≤ 1000000) (hs : sortP k lists = 3) (hq : q.kids.length ≤ 1000000) (f : Nat → List Int)
    (hel : ∀ (W : World) (A' : Option Addr) (enc' : List Int) (pay' : Int) (j : Nat), j < q.kids.length → OutD Dv w W → JwAll D Dv W base wk ak mk rv cv A' L enc' pay' rs cs →
      Calls Tryz.prog 71 #[.pointer (some ⟨wk, 0, none⟩), .agg #[.int .u8 k, .int .i64 ref, .int .i64 (lists - 1)], v, .int .i64 j] W (PutJ base wk ak mk rv cv A' L enc' pay' (f j) W)) :
    Calls Tryz.prog 36 #[.pointer (some ⟨wk, 0, none⟩), .agg #[.int .u8 k, .int .i64 ref, .int .i64 lists], v] w (PutJ base wk ak mk rv cv A L enc pay (91 :: (elsJ f q.kids.length ++ [93])) w) := by
  have hb0 := (Below.refl w.heap.size w).alloc (Nat.le_refl _) (.cells #[.int .u8 k, .int .i64 ref, .int .i64 lists] 47)
  have HB0 := Lib.hid hb0
  have HQ := Lib.hid (heap_alloc_new w (.cells #[.int .u8 k, .int .i64 ref, .int .i64 lists] 47))
  have HA0 := Lib.hid (hall.below hb0)
  have ho0 : OutD Dv w (w.alloc (.cells #[.int .u8 k, .int .i64 ref, .int .i64 lists] 47)) := .of_below hall.seen.lt hb0
  have HV := Lib.hid (hv.later ho0)
  have HO0 := Lib.hid ho0
  have HEL := Lib.hid hel
  have HWL : Hid (w.heap.size ≠ wk ∧ w.heap.size ≠ ak ∧ w.heap.size ≠ mk ∧ some w.heap.size ≠ rowOf A) := Lib.hid (by
    have := hall.at_.lts
    refine ⟨by omega, by omega, by omega, fun e => ?_⟩
    have := this.2.2.2.1 _ e.symm
    omega)
  obtain ⟨n, hn⟩ : ∃ n, q.kids.length = n := ⟨_, rfl⟩
  have HN := Lib.hid hn
  rw [hn] at hq ⊢
  have HS := Lib.hid (fun W : World => sorts_any k ref lists W)
  rw [hs] at HS
  obtain ⟨o, ho⟩ : ∃ o, 91 :: (elsJ f n ++ [93]) = o := ⟨_, rfl⟩
  rw [ho]
  have HOL : Hid (o.length = (elsJ f n).length + 2) := Lib.hid (by rw [← ho, List.length_cons, List.length_append]; rfl)
  have HO := Lib.hid ho
  clear hall hv hel hb0 ho0 hn hs ho
  go_enter Tryz.func36, Tryz.ntmps36
  go_upto_region 1 with (fail)
  generalize w.alloc (.cells #[.int .u8 k, .int .i64 ref, .int .i64 lists] 47) = W0 at *
  obtain ⟨_, x0, x1, x2, _⟩ := blk3 HQ.out
  go_wp2_with fail
  refine (HS.out W0).mono ?_
  rintro e W1 ⟨rfl, hb1⟩
  have HB1 := Lib.hid hb1
  have HA1 := Lib.hid (HA0.out.below hb1)
  have HP := Lib.hid (jpay_any (HA0.out.below hb1).at_ 1 (by omega))
  have HBW := Lib.hid (HB0.out.trans (hb1.mono HB0.out.size))
  have HV1 := Lib.hid (HV.out.later (.of_below HA0.out.seen.lt hb1))
  clear hb1 HS x0 x1 x2
  go_wp2_with fail
  refine HP.out.mono ?_
  intro e W2 hp
  obtain ⟨bb, rfl, hgo, hoff, hx⟩ := hp.bool
  have HX2 := Lib.hid hx
  clear hp hx
  cases bb
  · have HEND := Lib.hid (show JwTo base wk ak mk rv cv A L (enc ++ o) (pay + 20 * o.length) w W2 from ⟨A, .inr ((hoff rfl).more (by rw [List.length_append]; omega) (by rw [HOL.out]; omega)), (Fx.of_below A HBW.out).trans HX2.out⟩)
    clear hgo hoff HP
    go_wp2
    exact bodyPost_ret (v := .tuple #[]) (by simp [results, Tryz.results36, go_sem]) rfl ⟨rfl, HEND.out⟩
  have HPS := Lib.hid (jputs_any (.inl (hgo rfl)) ⟨#[91]⟩ (by decide))
  clear hgo hoff HP
  go_wp2_with fail
  refine HPS.out.mono ?_
  rintro e W3 ⟨rfl, ht3⟩
  obtain ⟨A3, hA3, hx3⟩ := HA1.out.to (ht3.from HX2.out)
  have HX3 := Lib.hid ((Fx.of_below A HB1.out).trans hx3)
  have HL := Lib.hid (jlength_any (HV1.out.later (HA1.out.seen.step hx3).2))
  rw [HN.out] at HL
  have HA3 := Lib.hid hA3
  clear ht3 hA3 hx3 HPS
  go_wp2_with fail
  refine HL.out.mono ?_
  rintro e W4 ⟨rfl, hb4⟩
  have HX4 := Lib.hid (HX3.out.trans (.of_below A3 hb4))
  have HST : Hid (LsAt D Dv W0 base wk ak mk rv cv A L enc pay rs cs f n (.int .i64 ((0 : Nat) : Int)) W4) := Lib.hid ⟨0, A3, Nat.zero_le _, rfl, by
    have h := HA3.out.below hb4
    have e1 : enc ++ bts ⟨#[91]⟩ = enc ++ 91 :: elsJ f 0 := rfl
    rw [e1] at h
    have e2 : pay + 1 + ((⟨#[91]⟩ : ByteArray).size : Nat) = pay + 2 + ((min 0 1 : Nat) : Int) + 20 * ((elsJ f 0).length : Nat) := by show pay + 1 + 1 = pay + 2 + 0 + 20 * 0; omega
    rw [e2] at h
    exact h, HX4.out⟩
  clear hb4 HL HA3 HA1 HX3 HX4 HX2 HV HV1
  go_wp2_with fail
  go_loopw [19] (fun i wr => LsAt D Dv W0 base wk ak mk rv cv A L enc pay rs cs f n i wr) (fun i _ => n - (intOf i).toNat)
  case atStart => exact HST.out
  case round =>
    clear HST
    obtain ⟨j, A5, hj, rfl, hA5, hx5⟩ := hrel
    have HX5 := Lib.hid hx5
    have HA5 := Lib.hid hA5
    have HQ5 := Lib.hid (hx5.blk HQ.out HWL.out.1 HWL.out.2.1 HWL.out.2.2.1 HWL.out.2.2.2)
    have hj0 : (0 : Int) ≤ j := Int.natCast_nonneg j
    by_cases hlt : j < n
    · have hji : (j : Int) < n := by omega
      have HMN := Lib.hid (elsJ_mono f (n := n) (j := j) hj)
      have HP5 := Lib.hid (jpay_any hA5.at_ 1 (by omega))
      clear hA5 hx5
      go_wp2_with fail
      refine HP5.out.mono ?_
      intro e W6 hp
      obtain ⟨bb, rfl, hgo, hoff, hx⟩ := hp.bool
      have HX6 := Lib.hid hx
      clear hp hx
      cases bb
      · have HEND := Lib.hid (show JwTo base wk ak mk rv cv A L (enc ++ o) (pay + 20 * o.length) w W6 from ⟨A5, .inr ((hoff rfl).more (by rw [List.length_append, List.length_append, List.length_cons, HOL.out]; have := HMN.out; omega) (by rw [HOL.out]; have := HMN.out; omega)), ((Fx.of_below A HB0.out).trans HX5.out).trans HX6.out⟩)
        clear hgo hoff HP5
        go_wp2
        exact bodyPost_ret (v := .tuple #[]) (by simp [results, Tryz.results36, go_sem]) rfl ⟨rfl, HEND.out⟩
      have HA6 : Hid (JwAll D Dv W6 base wk ak mk rv cv A5 L (enc ++ 91 :: elsJ f j) (pay + 2 + (min j 1 : Nat) + 20 * (elsJ f j).length + 1) rs cs) := Lib.hid ⟨.inl (hgo rfl), HA5.out.ctx.step HX6.out, (HA5.out.seen.step HX6.out).1⟩
      have HQ6 := Lib.hid (HX6.out.blk HQ5.out HWL.out.1 HWL.out.2.1 HWL.out.2.2.1 (fun e => by
        rcases HX5.out.row with h | ⟨r, h, hr⟩
        · rw [h] at e; exact HWL.out.2.2.2 e
        · rw [h] at e
          injection e with e
          have := blk_lt HQ.out
          omega))
      have HX7 := Lib.hid (HX5.out.trans HX6.out)
      clear hgo hoff HP5
      by_cases hj1 : 0 < j
      · have hj1i : (0 : Int) < j := by omega
        have HPC := Lib.hid (jputs_any HA6.out.at_ ⟨#[44]⟩ (by decide))
        go_wp2_with fail
        refine HPC.out.mono ?_
        rintro e W7 ⟨rfl, ht7⟩
        obtain ⟨A7, hA7, hx7⟩ := HA6.out.to ht7
        have HA7 := Lib.hid hA7
        have HX7b := Lib.hid (HX7.out.trans hx7)
        have HQ7 := Lib.hid (HX7b.out.blk HQ.out HWL.out.1 HWL.out.2.1 HWL.out.2.2.1 HWL.out.2.2.2)
        clear ht7 hA7 hx7 HPC
        obtain ⟨_, x0, x1, x2, _⟩ := blk3 HQ7.out
        go_wp2_with fail
        refine (element_any k ref lists ⟨by omega, by omega⟩ W7).mono ?_
        rintro e W8 ⟨rfl, hb8⟩
        have HX8 := Lib.hid (HX7b.out.trans (.of_below A7 hb8))
        have HCALL := Lib.hid (HEL.out W8 A7 _ _ j (by rw [HN.out]; exact hlt) (HO0.out.trans ((HA0.out.seen.step HX8.out).2)) (HA7.out.below hb8))
        have HA8 := Lib.hid (HA7.out.below hb8)
        clear hb8 x0 x1 x2
        go_wp2_with fail
        refine HCALL.out.mono ?_
        rintro e W9 ⟨rfl, ht9⟩
        obtain ⟨A9, hA9, hx9⟩ := HA8.out.to ht9
        have HEN := Lib.hid (show LsAt D Dv W0 base wk ak mk rv cv A L enc pay rs cs f n (.int .i64 ((j + 1 : Nat) : Int)) W9 from ⟨j + 1, A9, hlt, rfl, by
          rw [elsJ_next f enc hj1] at hA9
          refine ⟨hA9.at_.more ?_, hA9.ctx, hA9.seen⟩
          rw [elsJ_step f hj1]
          have e4 : ((⟨#[44]⟩ : ByteArray).size : Int) = 1 := rfl
          omega, HX8.out.trans hx9⟩)
        clear ht9 hA9 hx9 HCALL
        go_wp2
        go_roundw
        case rel => exact HEN.out
        case measure => simp [intOf] <;> omega
      · obtain rfl : j = 0 := by omega
        obtain ⟨_, x0, x1, x2, _⟩ := blk3 HQ6.out
        go_wp2_with fail
        refine (element_any k ref lists ⟨by omega, by omega⟩ W6).mono ?_
        rintro e W8 ⟨rfl, hb8⟩
        have HX8 := Lib.hid (HX7.out.trans (.of_below A5 hb8))
        have HCALL := Lib.hid (HEL.out W8 A5 _ _ 0 (by rw [HN.out]; exact hlt) (HO0.out.trans ((HA0.out.seen.step HX8.out).2)) (HA6.out.below hb8))
        have HA8 := Lib.hid (HA6.out.below hb8)
        clear hb8 x0 x1 x2
        go_wp2_with fail
        refine HCALL.out.mono ?_
        rintro e W9 ⟨rfl, ht9⟩
        obtain ⟨A9, hA9, hx9⟩ := HA8.out.to ht9
        have HEN := Lib.hid (show LsAt D Dv W0 base wk ak mk rv cv A L enc pay rs cs f n (.int .i64 ((0 + 1 : Nat) : Int)) W9 from ⟨0 + 1, A9, hlt, rfl, by
          rw [elsJ_first f enc] at hA9
          refine ⟨hA9.at_.more ?_, hA9.ctx, hA9.seen⟩
          rw [elsJ_one f]
          have e4 : ((elsJ f 0).length : Int) = 0 := rfl
          rw [e4]
          simp, HX8.out.trans hx9⟩)
        clear ht9 hA9 hx9 HCALL
        go_wp2
        go_roundw
        case rel => exact HEN.out
        case measure => simp [intOf] <;> omega
    · obtain rfl : j = n := by omega
      have hji : ¬ ((j : Nat) : Int) < j := by omega
      have HPE := Lib.hid (jputs_any hA5.at_ ⟨#[93]⟩ (by decide))
      clear hA5 hx5
      go_wp2_with fail
      refine HPE.out.mono ?_
      rintro e W6 ⟨rfl, ht6⟩
      have HEND := Lib.hid (show JwTo base wk ak mk rv cv A L (enc ++ o) (pay + 20 * o.length) w W6 by
        have h6 := (ht6.from HX5.out).from (.of_below A HB0.out)
        have e1 : enc ++ 91 :: elsJ f j ++ bts ⟨#[93]⟩ = enc ++ o := by rw [← HO.out, List.append_assoc]; rfl
        rw [e1] at h6
        refine h6.more ?_
        rw [HOL.out]
        show pay + 2 + ((min j 1 : Nat) : Int) + 20 * ((elsJ f j).length : Nat) + 1 ≤ _
        omega)
      clear ht6 HPE
      go_wp2
      exact bodyPost_end (v := .tuple #[]) (by simp [results, Tryz.results36, go_sem]) rfl ⟨rfl, HEND.out⟩
end Go.Proofs.YtiknhkkeifemcaaGreatDoor
namespace Go.Proofs.YtiknhkkeifemcaaGreatDoor
open Go.ChangeShapes Go.WideShapes Go.ChangeAt Go.RowKit Go.Shelf

theorem fldsJ_app (es : List SCho) (nx : NextJ) (fs : List SFld) (q : PV) : ∀ (l1 l2 : List Nat) (acc : List Int), fldsJ es nx fs q (l1 ++ l2) acc = fldsJ es nx fs q l2 (fldsJ es nx fs q l1 acc)
  | [], _, _ => rfl
  | i :: l1, l2, acc => by rw [List.cons_append, fldsJ, fldsJ, fldsJ_app es nx fs q l1 l2]
theorem fldsJ_grow (es : List SCho) (nx : NextJ) (fs : List SFld) (q : PV) : ∀ (l : List Nat) (acc : List Int), acc.length ≤ (fldsJ es nx fs q l acc).length
  | [], _ => Nat.le_refl _
  | i :: l, acc => by
    have := fldsJ_grow es nx fs q l (acc ++ fldJ es nx (comJ acc) (fs.getD i noSF) (kidN q i))
    rw [fldsJ]
    rw [List.length_append] at this
    omega
def accJ (es : List SCho) (nx : NextJ) (fs : List SFld) (q : PV) (j : Nat) : List Int := fldsJ es nx fs q ((ordJ fs).take j) []
theorem accJ_step (es : List SCho) (nx : NextJ) (fs : List SFld) (q : PV) {j : Nat} (hj : j < (ordJ fs).length) : accJ es nx fs q (j + 1) = accJ es nx fs q j ++ fldJ es nx (comJ (accJ es nx fs q j)) (fs.getD (ordJ fs)[j] noSF) (kidN q ((ordJ fs)[j] : Nat)) := by
  unfold accJ
  rw [List.take_succ_eq_append_getElem hj, fldsJ_app]
  rfl
theorem accJ_le (es : List SCho) (nx : NextJ) (fs : List SFld) (q : PV) (j : Nat) : (accJ es nx fs q j).length ≤ (fldsJ es nx fs q (ordJ fs) []).length := by
  unfold accJ
  conv => rhs; rw [← List.take_append_drop j (ordJ fs), fldsJ_app]
  exact fldsJ_grow es nx fs q _ _
def comS (acc : List Int) : ByteArray := if acc = [] then ⟨#[]⟩ else ⟨#[44]⟩
theorem comS_bts (acc : List Int) : bts (comS acc) = comJ acc := by unfold comS comJ; split <;> rfl
theorem comS_size (acc : List Int) : (comS acc).size ≤ 10 := by unfold comS; split <;> decide
theorem comS_next (es : List SCho) (nx : NextJ) (f : SFld) (q : PV) (acc : List Int) : comS (acc ++ fldJ es nx (comJ acc) f q) = if putsJ f.kind (f.lists : Nat) q = true then ⟨#[44]⟩ else comS acc := by
  unfold putsJ
  by_cases h : sortP f.kind (f.lists : Nat) = 4 ∧ q.has = false
  · rw [h.2, decide_eq_true h.1, if_neg (by decide)]
    unfold fldJ
    rw [if_pos h, List.append_nil]
  · have h1 := fldJ_cost es nx (comJ acc) f q h
    have h2 : (!(decide (sortP f.kind (f.lists : Nat) = 4) && !q.has)) = true := by
      by_cases h3 : sortP f.kind (f.lists : Nat) = 4
      · rw [decide_eq_true h3]
        cases hh : q.has
        · exact absurd ⟨h3, hh⟩ h
        · rfl
      · rw [decide_eq_false h3]; rfl
    rw [if_pos h2]
    unfold comS
    rw [if_neg (fun e => by have h5 := (List.append_eq_nil_iff.1 e).2; rw [h5] at h1; simp at h1)]


set_option maxRecDepth 100000 in
set_option maxHeartbeats 1000000 in
theorem jrec_any {D : Nat → Prop} {w : World} {base wk ak mk : Nat} {rv cv : Value} {A : Option Addr} {L pay : Int} {enc : List Int} {rs : List (SRec × Value)} {cs : List (SCho × Value)} (h : JwAt base wk ak mk rv cv A L enc pay w) (hc : JwCtx D w wk ak mk A rs cs rv cv) (ref : Nat) (hr : ref < rs.length) :
    Calls Tryz.prog 74 #[.pointer (some ⟨wk, 0, none⟩), .int .i64 ref] w fun e w' => e = .returned rs[ref].2 ∧ w = w' := by
  obtain ⟨f, hb⟩ := h.blk
  obtain ⟨c0, c1, c2, c3, c4⟩ := blk5q hb
  have hR := (hc.rows w (OutD.refl _ _)).1
  obtain ⟨g, cc, hv, hcc, hg, hcell⟩ := row_el (fun q : SRec × Value => [q.2]) 1 (fun _ => rfl) hR.recs ref hr
  subst hv
  have x0 : w.cell? ⟨g, ref, none⟩ = some rs[ref].2 := by have h := hcell 0 (by omega); rw [Nat.mul_one, Nat.add_zero] at h; exact h
  obtain ⟨na, nc, hnv⟩ := ownsRow_form (hR.rec_ _ (List.getElem_mem hr))
  rw [hnv] at x0 ⊢
  have hr0 : ¬ (ref : Int) < 0 := by omega
  have hr1 : (0 : Int) ≤ ref := by omega
  have h1i : ¬ (rs.length : Int) ≤ ref := by omega
  have h1j : (ref : Int) < rs.length := by omega
  clear hcell h hc hR hb hnv
  go_enter Tryz.func74, Tryz.ntmps74
  go_wp2
  go_ret
  exact ⟨rfl, rfl⟩
end Go.Proofs.YtiknhkkeifemcaaGreatDoor
