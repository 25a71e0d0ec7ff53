/-
  The document's Encode (JSON) of numbers: numJ. Conditions: those that each theorem names.
-/
import Derived.Test.YtiknhkkeifemcaaGreatDoorPkN6
import Derived.Test.YtiknhkkeifemcaaGreatDoorPkN20
import Derived.Test.YtiknhkkeifemcaaGreatDoorPkN23
import Derived.Test.YtiknhkkeifemcaaGreatDoorPkN27
import Derived.Test.YtiknhkkeifemcaaGreatDoorPkN34
import Derived.Test.YtiknhkkeifemcaaGreatDoorPkN40
namespace Go.Proofs.YtiknhkkeifemcaaGreatDoor
open Go.ChangeShapes Go.WideShapes Go.ChangeAt Go.RowKit Go.Shelf

theorem made_schM {p : Plan} (hok : planOk p) (hn : PlanNums p) {ss : List (SRec × Value)} {es : List (SCho × Value)} (hss : ss.map Prod.fst = recsP p p.structs.length) (hes : es.map Prod.fst = chosP p p.enums.length) : SchM ss (es.map Prod.fst) := by
  have hl : ss.length = p.structs.length := by
    have := congrArg List.length hss
    rwa [List.length_map, recsP_length] at this
  have hel : (es.map Prod.fst).length = p.enums.length := by rw [hes, chosP_length]
  refine ⟨by rw [hl]; exact hok.2.1, fun x hx => ?_⟩
  have h1 : x.1 ∈ recsP p p.structs.length := by rw [← hss]; exact List.mem_map.2 ⟨x, hx, rfl⟩
  obtain ⟨i, hi, h2⟩ := List.mem_map.1 h1
  have hi' : i < p.structs.length := List.mem_range.1 hi
  have hgl : p.structs.getD i [] = p.structs[i] := by rw [List.getD, List.getElem?_eq_getElem hi', Option.getD_some]
  have hlen : x.1.fields.length = (p.structs.getD i []).length := by
    rw [← h2]
    exact fldsP_length _ _ _ _
  refine ⟨by rw [hlen, hgl]; exact (hok.2.2.2 _ (List.getElem_mem hi')).2, fun f hf => ?_⟩
  rw [← h2] at hf
  obtain ⟨k, hk, rfl⟩ := List.mem_map.1 (show f ∈ (List.range _).map _ from hf)
  have hk' := List.mem_range.1 hk
  generalize hq : (p.structs.getD i []).getD k noPF = q
  have hqd : (q.dflt : Int) ≤ 18446744073709551615 := by rw [← hq]; exact hn i hi' k hk'
  have hkl := kindP_le p i q
  have hen : kindP p i q = 10 → refP p i q < (es.map Prod.fst).length ∧ 1 ≤ cntE (es.map Prod.fst) (refP p i q) ∧ cntE (es.map Prod.fst) (refP p i q) = cntOf p (refP p i q) := fun h => by
    obtain ⟨h0, hr⟩ := kind_enum h
    have hlt : refP p i q < p.enums.length := by rw [hr]; exact Nat.mod_lt _ (by omega)
    have hc : cntE (es.map Prod.fst) (refP p i q) = cntOf p (refP p i q) := by
      unfold cntE
      rw [hes, List.getD]
      unfold chosP
      rw [List.getElem?_map, List.getElem?_range hlt]
      simp [choP]
    exact ⟨by rw [hel]; exact hlt, by rw [hc]; unfold cntOf; omega, hc⟩
  have hty : TyM ss.length (es.map Prod.fst) (kindP p i q) (refP p i q) (q.lists % 4) := ⟨hkl.1, hkl.2, by omega, fun h => ⟨(hen h).1, (hen h).2.1⟩, fun h => by rw [hl]; exact refP_struct hi' h⟩
  refine ⟨hty, ?_, fun h0 h10 => ?_⟩
  · show ((if _ then numP _ _ _ else 0 : Nat) : Int) ≤ _
    split
    · exact numP_max _ _ _ hqd
    · decide
  · have h0' : q.lists % 4 = 0 := h0
    have hin : isNumP (kindP p i q) (q.lists % 4) = true := by
      unfold isNumP
      rw [h0', decide_eq_true (k_size hkl.1 h10)]
      rfl
    show fitsT (es.map Prod.fst) (kindP p i q) (refP p i q) 0 (if isNumP (kindP p i q) (q.lists % 4) = true then numP (cntOf p (refP p i q)) (kindP p i q) q.dflt else 0) = true
    rw [if_pos hin]
    have hnt : NumTy (es.map Prod.fst) (kindP p i q) (refP p i q) := ⟨hkl.1, h10, fun h => ⟨(hen h).1, (hen h).2.1⟩⟩
    have hf := num_fits hnt (n := q.dflt) (by omega)
    by_cases hk10 : kindP p i q = 10
    · rwa [(hen hk10).2.2] at hf
    · have he : numP (cntOf p (refP p i q)) (kindP p i q) q.dflt = numP (cntE (es.map Prod.fst) (refP p i q)) (kindP p i q) q.dflt := by
        unfold numP
        rw [if_neg hk10, if_neg hk10]
      rw [he]
      exact hf
end Go.Proofs.YtiknhkkeifemcaaGreatDoor
namespace Go.Proofs.YtiknhkkeifemcaaGreatDoor
open Go.ChangeShapes Go.WideShapes Go.ChangeAt Go.RowKit Go.Shelf

theorem rdec13_any (k : Nat) (n : Nat) (w : World) (hn : n ≤ maxU) :
    Calls Tryz.prog 66 #[.int .u64 n, .bool (kSign k)] w fun e w' => e = .returned (.string (strOfNums (decS k n))) ∧ Below w.heap.size w w' := by
  have hmx : maxU = 18446744073709551615 := rfl
  have HC : Hid (Calls Tryz.prog 101 #[.int .u64 n, .bool (kSign k)] w fun e w' => e = .returned (.string (strOfNums (decS k n))) ∧ Below w.heap.size w w') := Lib.hid (by
    have hfin : ∀ T : List Int, decS k n = T → Calls Tryz.prog 101 #[.int .u64 n, .bool (kSign k)] w (StrIs (fun s => bts s = T) w) → Calls Tryz.prog 101 #[.int .u64 n, .bool (kSign k)] w fun e w' => e = .returned (.string (strOfNums (decS k n))) ∧ Below w.heap.size w w' := fun T hT h => h.mono (by
      rintro e w' ⟨s, rfl, hs, hb⟩
      rw [hT, ← hs, bk_strOf_bts']
      exact ⟨rfl, hb⟩)
    cases hs : kSign k with
    | false =>
      rw [hs] at hfin
      exact hfin _ (by unfold decS; rw [if_neg (fun h => by rw [hs] at h; exact absurd h.1 (by decide))]) (decimal_plain n w (by omega))
    | true =>
      rw [hs] at hfin
      by_cases h : 9223372036854775808 ≤ n
      · exact hfin _ (by unfold decS; rw [if_pos ⟨hs, h⟩]) (decimal_neg n w (by omega) (by omega))
      · exact hfin _ (by unfold decS; rw [if_neg (fun h2 => h h2.2)]) (decimal_pos n w (by omega)))
  generalize strOfNums (decS k n) = s at *
  generalize kSign k = b at *
  clear hmx
  go_enter Tryz.func66, Tryz.ntmps66
  go_wp2_with fail
  refine HC.out.mono ?_
  rintro e W1 ⟨rfl, hb⟩
  have HB := Lib.hid hb
  clear hb
  go_wp2
  go_ret
  exact ⟨rfl, HB.out⟩
theorem str_quo (T : List Int) : (⟨#[34]⟩ : ByteArray) ++ strOfNums T ++ ⟨#[34]⟩ = strOfNums (34 :: (T ++ [34])) := by
  rw [show (34 :: (T ++ [34]) : List Int) = [34] ++ (T ++ [34]) from rfl, bk_strOf_app, bk_strOf_app, ← ByteArray.append_assoc]
  rfl
def NumOk (es : List (SCho × Value)) (k ref n : Nat) : Prop := (k = 1 → n ≤ 1) ∧ (k = 10 → ∃ h : ref < es.length, ∃ h2 : n < es[ref].1.names.length, (es[ref].1.names[n]).size ≤ 20000)
end Go.Proofs.YtiknhkkeifemcaaGreatDoor
namespace Go.Proofs.YtiknhkkeifemcaaGreatDoor
open Go.ChangeShapes Go.WideShapes Go.ChangeAt Go.RowKit Go.Shelf

set_option maxRecDepth 100000 in
set_option maxHeartbeats 8000000 in
theorem renc_num {w : World} {base : Nat} {ss : List (SRec × Value)} {es : List (SCho × Value)} {sv ev : Value} (h : SchRows base w ss es sv ev) (root : Nat) (k ref n : Nat) (hk : 1 ≤ k ∧ k ≤ 10) (hn : n ≤ maxU) (hok : NumOk es k ref n) (ba ka : Option Addr) (bn bc kn kc : Nat) (hh : Bool) :
    Calls Tryz.prog 34 #[.agg #[sv, ev, .int .i64 root], .agg #[.int .u8 k, .int .i64 ref, .int .i64 0], .agg #[.int .u64 n, .slice ba bn bc, .slice ka kn kc, .bool hh]] w fun e w' => e = .returned (.string (strOfNums (numJ (es.map Prod.fst) k ref n))) ∧ Below w.heap.size w w' := by
  have hmx : maxU = 18446744073709551615 := rfl
  obtain ⟨sa, sc, ea, ec, rfl, rfl⟩ := h.forms
  obtain ⟨hb0, hq0, hq1, hq2⟩ := three_start w #[.slice sa ss.length sc, .slice ea es.length ec, .int .i64 root] #[.int .u8 k, .int .i64 ref, .int .i64 0] #[.int .u64 n, .slice ba bn bc, .slice ka kn kc, .bool hh] 30 47 40
  have HB := Lib.hid hb0
  have HSC := Lib.hid (h.below hb0)
  obtain ⟨_, s0, s1, s2, _⟩ := blk3 hq0
  obtain ⟨_, t0, t1, t2, _⟩ := blk3 hq1
  obtain ⟨_, v0, v1, v2, v3⟩ := blk4p hq2
  have HDEC := Lib.hid (fun (W : World) => rdec13_any k n W hn)
  have HSG := Lib.hid (fun (W : World) => rsign_any k W)
  have HSZ := Lib.hid (fun (W : World) => rsize_any k W)
  have HOK := Lib.hid hok
  clear h hb0 hq0 hq1 hq2 hok hmx
  go_enter Tryz.func34, Tryz.ntmps34
  go_upto_region 1 with (fail)
  generalize ((w.alloc (.cells #[.slice sa ss.length sc, .slice ea es.length ec, .int .i64 root] 30)).alloc (.cells #[.int .u8 k, .int .i64 ref, .int .i64 0] 47)).alloc (.cells #[.int .u64 n, .slice ba bn bc, .slice ka kn kc, .bool hh] 40) = W0 at *
  by_cases h1 : k = 1
  · subst h1
    have hn1 := HOK.out.1 rfl
    have hc : n = 0 ∨ n = 1 := by omega
    rcases hc with rfl | rfl
    · go_wp2
      go_ret
      exact ⟨rfl, HB.out⟩
    · go_wp2
      go_ret
      exact ⟨rfl, HB.out⟩
  by_cases h10 : k = 10
  · subst h10
    obtain ⟨hr, hnl, hsz⟩ := HOK.out.2 rfl
    obtain ⟨ge, ce, ga, gn, he, hce, hge, hec0, hec1, hev⟩ := HSC.out.enum ref hr
    obtain ⟨gg, cc, hv2, hcc, hgg, hnm⟩ := HSC.out.name ref hr n hnl
    injection he with he1 he2 he3
    subst he1
    obtain ⟨rfl, rfl⟩ : ga = some ⟨gg, 0, none⟩ ∧ gn = cc := by
      rw [hv2] at hev
      injection hev with e1 e2 e3
      exact ⟨e1.symm, e3.symm⟩
    have HNJ : Hid (numJ (es.map Prod.fst) 10 ref n = quot (bts (es[ref].1.names[n]))) := Lib.hid (by
      show quot (bts (namJ _ _ _)) = _
      unfold namJ
      rw [Int.toNat_natCast, show (es.map Prod.fst).getD ref ⟨⟨#[]⟩, []⟩ = es[ref].1 by rw [List.getD, List.getElem?_map, List.getElem?_eq_getElem hr]; rfl, List.getD, List.getElem?_eq_getElem hnl]
      rfl)
    have hi0 : ¬ (ref : Int) < 0 := by omega
    have hi1 : (ref : Int) < es.length := by omega
    have hi2 : (n : Int) < es[ref].1.names.length := by omega
    have hi3 : ¬ (n : Int) < 0 := by omega
    have hi4 : ¬ (es.length : Int) ≤ ref := by omega
    have hi5 : ¬ (es[ref].1.names.length : Int) ≤ n := by omega
    generalize es[ref].1.names[n] = nm at *
    generalize es[ref].1.names.length = nl at *
    obtain ⟨K, w2, hcv0, hK, hb2, _, hby⟩ := conv_bts nm W0.drew
    have hcv : (convert 9 22 (.string nm)).run Tryz.prog W0.drew = .ok (.slice (some ⟨W0.heap.size, 0, none⟩) nm.size K) w2 := hcv0
    have HQT := Lib.hid (quoted_any (some ⟨W0.heap.size, 0, none⟩) nm.size K (bts nm) w2 hby (bts_length nm) hK hsz)
    have HB2 := Lib.hid (HB.out.trans (((Below.refl _ W0).drew.trans hb2).mono HB.out.size))
    clear hcv0 hK hb2 hby hev hv2 hsz HSC he2 he3 HDEC HSG HSZ HOK
    go_upto_region 36 with (fail)
    go_region_law (first
      | (go_simp; go_at_call 24; (with_reducible refine HQT.out.mono ?_); rintro e W3 ⟨rfl, hb3⟩; have HB3 := Lib.hid (HB2.out.trans (hb3.mono HB2.out.size)); clear hb3))
    all_goals
      go_wp2
      go_ret
      exact ⟨by rw [HNJ.out]; rfl, HB3.out⟩
  have hcs : k = 2 ∨ k = 3 ∨ k = 4 ∨ k = 5 ∨ k = 6 ∨ k = 7 ∨ k = 8 ∨ k = 9 := by omega
  clear h1 h10
  clear HDEC HSG HSZ HOK
  rcases hcs with rfl | rfl | rfl | rfl | rfl | rfl | rfl | rfl
  · have hw := IntWalk.i64_in 2 ⟨by decide, by decide⟩
    have HSG : Hid (∀ W, Calls Tryz.prog 57 #[.int .i64 2] W fun e w' => e = .returned (.bool true) ∧ W = w') := Lib.hid (fun W => rsign_any 2 W)
    have HSZ : Hid (∀ W, Calls Tryz.prog 56 #[.int .i64 2] W fun e w' => e = .returned (.int .i64 1) ∧ W = w') := Lib.hid (fun W => rsize_any 2 W)
    have HDEC : Hid (∀ W, Calls Tryz.prog 66 #[.int .u64 n, .bool true] W fun e w' => e = .returned (.string (strOfNums (decS 2 n))) ∧ Below W.heap.size W w') := Lib.hid (fun W => rdec13_any 2 n W hn)
    go_upto_region 37 with (fail)
    go_region_law (first
      | (go_simp; go_at_call 57; (with_reducible refine (HSG.out _).mono ?_); rintro e W1 ⟨rfl, rfl⟩)
      | (go_simp; go_at_call 66; (with_reducible refine (HDEC.out _).mono ?_); rintro e W2 ⟨rfl, hb2⟩; have hb3 := (Below.refl _ W0).drew.trans hb2; have HB3 := Lib.hid (HB.out.trans (hb3.mono HB.out.size)); have k0 := cell_stays hb3 t0; clear hb2 hb3 s0 s1 s2 t0 t1 t2 v0 v1 v2 v3))
    all_goals
      go_wp2_with fail
      refine (HSZ.out _).mono ?_
      rintro e W4 ⟨rfl, rfl⟩
      go_wp2
      go_ret
      exact ⟨by first | rfl | (rw [str_quo]; rfl), HB3.out⟩
  · have hw := IntWalk.i64_in 3 ⟨by decide, by decide⟩
    have HSG : Hid (∀ W, Calls Tryz.prog 57 #[.int .i64 3] W fun e w' => e = .returned (.bool true) ∧ W = w') := Lib.hid (fun W => rsign_any 3 W)
    have HSZ : Hid (∀ W, Calls Tryz.prog 56 #[.int .i64 3] W fun e w' => e = .returned (.int .i64 2) ∧ W = w') := Lib.hid (fun W => rsize_any 3 W)
    have HDEC : Hid (∀ W, Calls Tryz.prog 66 #[.int .u64 n, .bool true] W fun e w' => e = .returned (.string (strOfNums (decS 3 n))) ∧ Below W.heap.size W w') := Lib.hid (fun W => rdec13_any 3 n W hn)
    go_upto_region 37 with (fail)
    go_region_law (first
      | (go_simp; go_at_call 57; (with_reducible refine (HSG.out _).mono ?_); rintro e W1 ⟨rfl, rfl⟩)
      | (go_simp; go_at_call 66; (with_reducible refine (HDEC.out _).mono ?_); rintro e W2 ⟨rfl, hb2⟩; have hb3 := (Below.refl _ W0).drew.trans hb2; have HB3 := Lib.hid (HB.out.trans (hb3.mono HB.out.size)); have k0 := cell_stays hb3 t0; clear hb2 hb3 s0 s1 s2 t0 t1 t2 v0 v1 v2 v3))
    all_goals
      go_wp2_with fail
      refine (HSZ.out _).mono ?_
      rintro e W4 ⟨rfl, rfl⟩
      go_wp2
      go_ret
      exact ⟨by first | rfl | (rw [str_quo]; rfl), HB3.out⟩
  · have hw := IntWalk.i64_in 4 ⟨by decide, by decide⟩
    have HSG : Hid (∀ W, Calls Tryz.prog 57 #[.int .i64 4] W fun e w' => e = .returned (.bool true) ∧ W = w') := Lib.hid (fun W => rsign_any 4 W)
    have HSZ : Hid (∀ W, Calls Tryz.prog 56 #[.int .i64 4] W fun e w' => e = .returned (.int .i64 4) ∧ W = w') := Lib.hid (fun W => rsize_any 4 W)
    have HDEC : Hid (∀ W, Calls Tryz.prog 66 #[.int .u64 n, .bool true] W fun e w' => e = .returned (.string (strOfNums (decS 4 n))) ∧ Below W.heap.size W w') := Lib.hid (fun W => rdec13_any 4 n W hn)
    go_upto_region 37 with (fail)
    go_region_law (first
      | (go_simp; go_at_call 57; (with_reducible refine (HSG.out _).mono ?_); rintro e W1 ⟨rfl, rfl⟩)
      | (go_simp; go_at_call 66; (with_reducible refine (HDEC.out _).mono ?_); rintro e W2 ⟨rfl, hb2⟩; have hb3 := (Below.refl _ W0).drew.trans hb2; have HB3 := Lib.hid (HB.out.trans (hb3.mono HB.out.size)); have k0 := cell_stays hb3 t0; clear hb2 hb3 s0 s1 s2 t0 t1 t2 v0 v1 v2 v3))
    all_goals
      go_wp2_with fail
      refine (HSZ.out _).mono ?_
      rintro e W4 ⟨rfl, rfl⟩
      go_wp2
      go_ret
      exact ⟨by first | rfl | (rw [str_quo]; rfl), HB3.out⟩
  · have hw := IntWalk.i64_in 5 ⟨by decide, by decide⟩
    have HSG : Hid (∀ W, Calls Tryz.prog 57 #[.int .i64 5] W fun e w' => e = .returned (.bool true) ∧ W = w') := Lib.hid (fun W => rsign_any 5 W)
    have HSZ : Hid (∀ W, Calls Tryz.prog 56 #[.int .i64 5] W fun e w' => e = .returned (.int .i64 8) ∧ W = w') := Lib.hid (fun W => rsize_any 5 W)
    have HDEC : Hid (∀ W, Calls Tryz.prog 66 #[.int .u64 n, .bool true] W fun e w' => e = .returned (.string (strOfNums (decS 5 n))) ∧ Below W.heap.size W w') := Lib.hid (fun W => rdec13_any 5 n W hn)
    obtain ⟨D, hD⟩ : ∃ D, strOfNums (decS 5 n) = D := ⟨_, rfl⟩
    have hds : D.size ≤ 22 := by rw [← hD, strOfNums_size]; exact (decS_len 5 n).2
    have hn1 : ¬ 9223372036854775807 < (⟨#[34]⟩ : ByteArray).size + D.size := by show ¬ 9223372036854775807 < 1 + D.size; omega
    have hn2 : ¬ 9223372036854775807 < ((⟨#[34]⟩ : ByteArray) ++ D).size + (⟨#[34]⟩ : ByteArray).size := by rw [ByteArray.size_append]; show ¬ 9223372036854775807 < 1 + D.size + 1; omega
    have HQ : Hid ((⟨#[34]⟩ : ByteArray) ++ D ++ ⟨#[34]⟩ = strOfNums (numJ (es.map Prod.fst) 5 ref n)) := Lib.hid (by rw [← hD, str_quo]; rfl)
    rw [hD] at HDEC
    clear hD hds
    go_upto_region 37 with (fail)
    go_region_law (first
      | (go_simp; go_at_call 57; (with_reducible refine (HSG.out _).mono ?_); rintro e W1 ⟨rfl, rfl⟩)
      | (go_simp; go_at_call 66; (with_reducible refine (HDEC.out _).mono ?_); rintro e W2 ⟨rfl, hb2⟩; have hb3 := (Below.refl _ W0).drew.trans hb2; have HB3 := Lib.hid (HB.out.trans (hb3.mono HB.out.size)); have k0 := cell_stays hb3 t0; clear hb2 hb3 s0 s1 s2 t0 t1 t2 v0 v1 v2 v3))
    all_goals
      go_wp2_with fail
      refine (HSZ.out _).mono ?_
      rintro e W4 ⟨rfl, rfl⟩
      go_wp2
      go_ret
      exact ⟨by rw [← HQ.out]; rfl, HB3.out⟩
  · have hw := IntWalk.i64_in 6 ⟨by decide, by decide⟩
    have HSG : Hid (∀ W, Calls Tryz.prog 57 #[.int .i64 6] W fun e w' => e = .returned (.bool false) ∧ W = w') := Lib.hid (fun W => rsign_any 6 W)
    have HSZ : Hid (∀ W, Calls Tryz.prog 56 #[.int .i64 6] W fun e w' => e = .returned (.int .i64 1) ∧ W = w') := Lib.hid (fun W => rsize_any 6 W)
    have HDEC : Hid (∀ W, Calls Tryz.prog 66 #[.int .u64 n, .bool false] W fun e w' => e = .returned (.string (strOfNums (decS 6 n))) ∧ Below W.heap.size W w') := Lib.hid (fun W => rdec13_any 6 n W hn)
    go_upto_region 37 with (fail)
    go_region_law (first
      | (go_simp; go_at_call 57; (with_reducible refine (HSG.out _).mono ?_); rintro e W1 ⟨rfl, rfl⟩)
      | (go_simp; go_at_call 66; (with_reducible refine (HDEC.out _).mono ?_); rintro e W2 ⟨rfl, hb2⟩; have hb3 := (Below.refl _ W0).drew.trans hb2; have HB3 := Lib.hid (HB.out.trans (hb3.mono HB.out.size)); have k0 := cell_stays hb3 t0; clear hb2 hb3 s0 s1 s2 t0 t1 t2 v0 v1 v2 v3))
    all_goals
      go_wp2_with fail
      refine (HSZ.out _).mono ?_
      rintro e W4 ⟨rfl, rfl⟩
      go_wp2
      go_ret
      exact ⟨by first | rfl | (rw [str_quo]; rfl), HB3.out⟩
  · have hw := IntWalk.i64_in 7 ⟨by decide, by decide⟩
    have HSG : Hid (∀ W, Calls Tryz.prog 57 #[.int .i64 7] W fun e w' => e = .returned (.bool false) ∧ W = w') := Lib.hid (fun W => rsign_any 7 W)
    have HSZ : Hid (∀ W, Calls Tryz.prog 56 #[.int .i64 7] W fun e w' => e = .returned (.int .i64 2) ∧ W = w') := Lib.hid (fun W => rsize_any 7 W)
    have HDEC : Hid (∀ W, Calls Tryz.prog 66 #[.int .u64 n, .bool false] W fun e w' => e = .returned (.string (strOfNums (decS 7 n))) ∧ Below W.heap.size W w') := Lib.hid (fun W => rdec13_any 7 n W hn)
    go_upto_region 37 with (fail)
    go_region_law (first
      | (go_simp; go_at_call 57; (with_reducible refine (HSG.out _).mono ?_); rintro e W1 ⟨rfl, rfl⟩)
      | (go_simp; go_at_call 66; (with_reducible refine (HDEC.out _).mono ?_); rintro e W2 ⟨rfl, hb2⟩; have hb3 := (Below.refl _ W0).drew.trans hb2; have HB3 := Lib.hid (HB.out.trans (hb3.mono HB.out.size)); have k0 := cell_stays hb3 t0; clear hb2 hb3 s0 s1 s2 t0 t1 t2 v0 v1 v2 v3))
    all_goals
      go_wp2_with fail
      refine (HSZ.out _).mono ?_
      rintro e W4 ⟨rfl, rfl⟩
      go_wp2
      go_ret
      exact ⟨by first | rfl | (rw [str_quo]; rfl), HB3.out⟩
  · have hw := IntWalk.i64_in 8 ⟨by decide, by decide⟩
    have HSG : Hid (∀ W, Calls Tryz.prog 57 #[.int .i64 8] W fun e w' => e = .returned (.bool false) ∧ W = w') := Lib.hid (fun W => rsign_any 8 W)
    have HSZ : Hid (∀ W, Calls Tryz.prog 56 #[.int .i64 8] W fun e w' => e = .returned (.int .i64 4) ∧ W = w') := Lib.hid (fun W => rsize_any 8 W)
    have HDEC : Hid (∀ W, Calls Tryz.prog 66 #[.int .u64 n, .bool false] W fun e w' => e = .returned (.string (strOfNums (decS 8 n))) ∧ Below W.heap.size W w') := Lib.hid (fun W => rdec13_any 8 n W hn)
    go_upto_region 37 with (fail)
    go_region_law (first
      | (go_simp; go_at_call 57; (with_reducible refine (HSG.out _).mono ?_); rintro e W1 ⟨rfl, rfl⟩)
      | (go_simp; go_at_call 66; (with_reducible refine (HDEC.out _).mono ?_); rintro e W2 ⟨rfl, hb2⟩; have hb3 := (Below.refl _ W0).drew.trans hb2; have HB3 := Lib.hid (HB.out.trans (hb3.mono HB.out.size)); have k0 := cell_stays hb3 t0; clear hb2 hb3 s0 s1 s2 t0 t1 t2 v0 v1 v2 v3))
    all_goals
      go_wp2_with fail
      refine (HSZ.out _).mono ?_
      rintro e W4 ⟨rfl, rfl⟩
      go_wp2
      go_ret
      exact ⟨by first | rfl | (rw [str_quo]; rfl), HB3.out⟩
  · have hw := IntWalk.i64_in 9 ⟨by decide, by decide⟩
    have HSG : Hid (∀ W, Calls Tryz.prog 57 #[.int .i64 9] W fun e w' => e = .returned (.bool false) ∧ W = w') := Lib.hid (fun W => rsign_any 9 W)
    have HSZ : Hid (∀ W, Calls Tryz.prog 56 #[.int .i64 9] W fun e w' => e = .returned (.int .i64 8) ∧ W = w') := Lib.hid (fun W => rsize_any 9 W)
    have HDEC : Hid (∀ W, Calls Tryz.prog 66 #[.int .u64 n, .bool false] W fun e w' => e = .returned (.string (strOfNums (decS 9 n))) ∧ Below W.heap.size W w') := Lib.hid (fun W => rdec13_any 9 n W hn)
    obtain ⟨D, hD⟩ : ∃ D, strOfNums (decS 9 n) = D := ⟨_, rfl⟩
    have hds : D.size ≤ 22 := by rw [← hD, strOfNums_size]; exact (decS_len 9 n).2
    have hn1 : ¬ 9223372036854775807 < (⟨#[34]⟩ : ByteArray).size + D.size := by show ¬ 9223372036854775807 < 1 + D.size; omega
    have hn2 : ¬ 9223372036854775807 < ((⟨#[34]⟩ : ByteArray) ++ D).size + (⟨#[34]⟩ : ByteArray).size := by rw [ByteArray.size_append]; show ¬ 9223372036854775807 < 1 + D.size + 1; omega
    have HQ : Hid ((⟨#[34]⟩ : ByteArray) ++ D ++ ⟨#[34]⟩ = strOfNums (numJ (es.map Prod.fst) 9 ref n)) := Lib.hid (by rw [← hD, str_quo]; rfl)
    rw [hD] at HDEC
    clear hD hds
    go_upto_region 37 with (fail)
    go_region_law (first
      | (go_simp; go_at_call 57; (with_reducible refine (HSG.out _).mono ?_); rintro e W1 ⟨rfl, rfl⟩)
      | (go_simp; go_at_call 66; (with_reducible refine (HDEC.out _).mono ?_); rintro e W2 ⟨rfl, hb2⟩; have hb3 := (Below.refl _ W0).drew.trans hb2; have HB3 := Lib.hid (HB.out.trans (hb3.mono HB.out.size)); have k0 := cell_stays hb3 t0; clear hb2 hb3 s0 s1 s2 t0 t1 t2 v0 v1 v2 v3))
    all_goals
      go_wp2_with fail
      refine (HSZ.out _).mono ?_
      rintro e W4 ⟨rfl, rfl⟩
      go_wp2
      go_ret
      exact ⟨by rw [← HQ.out]; rfl, HB3.out⟩
end Go.Proofs.YtiknhkkeifemcaaGreatDoor
