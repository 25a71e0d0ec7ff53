/-
  The statement of the law SchemaLoops, from its walk: for every input that can be read the law returns true, and its arguments read as they did. Conditions: those of the given row (the listed tables hold what the program's text lays; the card ties them).
-/
import Derived.Test.YtgbcchiheddfpaaGreatDoorPkL24
import Derived.Test.YtgbcchiheddfpaaGreatDoorPkL28
import Derived.Test.YtgbcchiheddfpaaGreatDoorPkL39
import Derived.Test.YtgbcchiheddfpaaGreatDoorPkL48
import Derived.Deep.RegionHeld3
namespace Go.Proofs.YtgbcchiheddfpaaGreatDoor
open Go.ChangeShapes Go.WideShapes Go.ChangeAt Go.RowKit Go.Shelf
theorem tree_outs {p : Plan} (ht : p.tree = true) {ss : List (SRec × Value)} (hss : ss.map Prod.fst = recsP p p.structs.length) : ∀ i, ∀ v ∈ outsC ((crow ss).map Prod.fst) i, i < v := by
  intro i v hv
  rw [crow_fst, hss] at hv
  unfold outsC outsF at hv
  obtain ⟨f, hf, hfv⟩ := List.mem_filterMap.1 hv
  by_cases hi : i < p.structs.length
  · have hr : ((recsP p p.structs.length).map cR).getD i ⟨⟨#[]⟩, []⟩ = cR (recP p i) := by
      rw [List.getD, List.getElem?_map, List.getElem?_eq_getElem (by rw [recsP_length]; exact hi)]
      unfold recsP
      rw [List.getElem_map, List.getElem_range]
      rfl
    rw [hr] at hf
    obtain ⟨y, hy, rfl⟩ := List.mem_map.1 (show f ∈ (recP p i).fields.map cF from hf)
    obtain ⟨k, _, rfl⟩ := List.mem_map.1 (show y ∈ (List.range _).map _ from hy)
    by_cases hk : (cF (fldP p i k ((p.structs.getD i []).getD k noPF))).kind = 13
    · rw [if_pos hk] at hfv
      injection hfv with hfv
      have hk2 : kindP p i ((p.structs.getD i []).getD k noPF) = 13 := hk
      have hv2 : refP p i ((p.structs.getD i []).getD k noPF) = v := by
        have : (((refP p i ((p.structs.getD i []).getD k noPF) : Nat) : Int)).toNat = v := hfv
        omega
      have hlast : ¬ i + 1 = p.structs.length := fun he => by
        unfold kindP at hk2
        by_cases h0 : kind0 p ((p.structs.getD i []).getD k noPF) = 13
        · rw [if_pos ⟨h0, ht, he⟩] at hk2
          omega
        · rw [if_neg (fun h => h0 h.1)] at hk2
          exact h0 hk2
      unfold refP at hv2
      rw [if_pos hk2, if_pos ht] at hv2
      omega
    · rw [if_neg hk] at hfv
      cases hfv
  · rw [List.getD, List.getElem?_eq_none (by rw [List.length_map, recsP_length]; omega), Option.getD_none] at hf
    cases hf
theorem made_lead {p : Plan} {ss : List (SRec × Value)} (hss : ss.map Prod.fst = recsP p p.structs.length) : LeadOk ((crow ss).map Prod.fst) := by
  intro r hr f hf hk
  obtain ⟨q, hq, rfl⟩ := List.mem_map.1 hr
  have h := (made_rflds hss q hq f hf).2.2.2.2 hk
  rwa [List.length_map]
theorem made_fewf {p : Plan} (hok : planOk p) {ss : List (SRec × Value)} (hss : ss.map Prod.fst = recsP p p.structs.length) : ∀ q ∈ crow ss, q.1.fields.length ≤ 1000000 := by
  intro q hq
  obtain ⟨i, hi, hl, _⟩ := made_fld hss q hq
  have h := hok.2.2.2 (p.structs.getD i []) (by
    rw [List.getD, List.getElem?_eq_getElem hi]
    exact List.getElem_mem hi)
  omega
set_option maxRecDepth 100000 in
set_option maxHeartbeats 4000000 in
theorem schemaLoops_walk (p : Plan) {a0 a1 : Option Addr} {n0 e0 n1 c1 : Nat} (w : World) (hp : IsPlan w p a0 n0 e0 a1 n1 c1) (hT : Tabs w) (hE : ErrV w) :
    Calls Tryz.prog 10 #[.agg #[.slice a0 n0 e0, .slice a1 n1 c1, .int .u8 p.root, .bool p.tree]] w fun e w' => e = .returned (.bool true) ∧ Below w.heap.size w w' := by
  have HP := Lib.hid hp
  have HT := Lib.hid hT
  have HE := Lib.hid hE
  have HB0 := Lib.hid ((Below.refl w.heap.size w).alloc (Nat.le_refl _) (.cells #[.slice a0 n0 e0, .slice a1 n1 c1, .int .u8 p.root, .bool p.tree] 25))
  have HZ0 := Lib.hid (heap_alloc_new w (.cells #[.slice a0 n0 e0, .slice a1 n1 c1, .int .u8 p.root, .bool p.tree] 25))
  clear hp hT hE
  go_enter Tryz.func10, Tryz.ntmps10
  go_wp2_with fail
  refine (awake5_any _ (HT.out.below (Nat.le_refl _) HB0.out) (HE.out.later HB0.out)).mono ?_
  rintro e W1 ⟨rfl, hb1⟩
  have HB1 := Lib.hid (HB0.out.trans (hb1.mono HB0.out.size))
  have HZ1 := Lib.hid (blk_below HZ0.out hb1 (blk_lt HZ0.out))
  obtain ⟨_, y0, y1, y2, y3⟩ := blk4p HZ1.out
  clear hb1
  go_wp2_with fail
  refine (made_any p W1 (HP.out.below HB1.out)).mono ?_
  rintro e W2 ⟨hb2, hpost⟩
  have HB2 := Lib.hid (HB1.out.trans (hb2.mono HB1.out.size))
  have HZ2 := Lib.hid (blk_below HZ1.out hb2 (blk_lt HZ1.out))
  clear hb2 y0 y1 y2 y3
  rcases hpost with ⟨hok, ss, es, sv, ev, rfl, hss, hes, hr⟩ | ⟨hno, rfl⟩
  · obtain ⟨hl1, hl16, hleq⟩ := made_len hok hss
    have hrt : p.root % p.structs.length < (crow ss).length := by
      rw [crow_length, hleq]
      exact Nat.mod_lt _ (by omega)
    obtain ⟨sa, sc, ea, ec, rfl, rfl⟩ := hr.forms
    have HTR := Lib.hid (fun ht => tree_outs (p := p) ht hss)
    have HLD := Lib.hid (made_lead hss)
    have HFW := Lib.hid (made_fewf hok hss)
    have hcn : (crow ss).length ≤ 16 := by rw [crow_length]; exact hl16
    have HR := Lib.hid hr
    clear hok hss hes hr hl1 hl16 hleq
    generalize p.root % p.structs.length = rt at *
    go_upto_region 4 with (fail)
    have hba : Below W2.heap.size W2 (W2.alloc (.cells #[.slice sa ss.length sc, .slice ea es.length ec, .int .i64 rt] 30)) := (Below.refl _ _).alloc (Nat.le_refl _) _
    obtain ⟨_, z0, z1, z2, _⟩ := blk3 (heap_alloc_new W2 (.cells #[.slice sa ss.length sc, .slice ea es.length ec, .int .i64 rt] 30))
    have HB3 := Lib.hid (HB2.out.trans (hba.mono HB2.out.size))
    have HR3 := Lib.hid (HR.out.below hba).crows
    obtain ⟨_, _, _, _, z3⟩ := blk4p (blk_below HZ2.out hba (blk_lt HZ2.out))
    clear hba HZ0 HZ1 HZ2
    generalize W2.alloc (.cells #[.slice sa ss.length sc, .slice ea es.length ec, .int .i64 rt] 30) = W3 at *
    generalize W2.heap.size = SB at *
    have hBB : ∃ B : Bool, (B = true ↔ Turns (outsC ((crow ss).map Prod.fst)) rt) := by
      classical exact ⟨decide (Turns (outsC ((crow ss).map Prod.fst)) rt), decide_eq_true_iff⟩
    obtain ⟨B, hB⟩ := hBB
    have HLP : Hid (∀ W, Below W3.heap.size W3 W → Calls Tryz.prog 28 #[.agg #[.slice sa ss.length sc, .slice ea es.length ec, .int .i64 rt]] W fun e w' => e = .returned (.bool B) ∧ Below W.heap.size W w') := Lib.hid (fun W hW => (loops_any (CRows.below HR3.out hW) HLD.out hcn hrt HFW.out).mono (by
      rintro e w' ⟨⟨b, rfl, hb⟩, hbw⟩
      have : b = B := Bool.eq_iff_iff.2 (hb.trans hB.symm)
      subst this
      exact ⟨rfl, hbw⟩))
    have HRL : Hid (∀ W, Below W3.heap.size W3 W → Calls Tryz.prog 21 #[.agg #[.slice sa ss.length sc, .slice ea es.length ec, .int .i64 rt]] W fun e w' => e = .returned (.bool B) ∧ Below W.heap.size W w') := Lib.hid (fun W hW => (rloops_any (CRows.below HR3.out hW) HLD.out (Nat.le_trans hcn (by decide)) hrt).mono (by
      rintro e w' ⟨⟨b, rfl, hb⟩, hbw⟩
      have : b = B := Bool.eq_iff_iff.2 (hb.trans hB.symm)
      subst this
      exact ⟨rfl, hbw⟩))
    have htr : p.tree = true → B = false := fun ht => by
      have h := tree_turns (r := rt) (HTR.out ht)
      cases B
      · rfl
      · exact absurd (hB.1 rfl) h
    clear hB HTR HLD HFW HR3 HR hcn hrt
    generalize p.tree = tr at *
    go_upto_region 6 with (fail)
    cases tr
    · clear htr
      refine wp_region_noPanic ?_
      refine wp_region_held_drew (S := (fun w' => w'.cell? ⟨SB, 0, none⟩ = some (.slice sa ss.length sc) ∧ w'.cell? ⟨SB, 1, none⟩ = some (.slice ea es.length ec) ∧ w'.cell? ⟨SB, 2, none⟩ = some (.int .i64 rt) ∧ w'.cell? ⟨w.heap.size, 3, none⟩ = some (.bool false))) (by kernel_rfl) ⟨z0, z1, z2, z3⟩ ?_
      intro hS
      refine wpAnyH_take (i := 0) (v := .agg #[.slice sa ss.length sc, .slice ea es.length ec, .int .i64 rt]) rfl (by kernel_rfl) (by kernel_rfl) (by kernel_rfl) (fun _ _ _ h => h) (Or.inl ⟨by rfl, ?_⟩) hS ?_
      · intro w' hSw
        obtain ⟨z0, z1, z2, z3⟩ := hSw
        go_simp
      simp only [Act.put, List.getElem_toArray, List.getElem_cons_zero, List.setIfInBounds_toArray, List.set_cons_zero, List.set_cons_succ]
      refine wpAnyH_take (i := 2) (v := .agg #[.slice sa ss.length sc, .slice ea es.length ec, .int .i64 rt]) rfl (by kernel_rfl) (by kernel_rfl) (by kernel_rfl) (fun _ _ _ h => h) (Or.inl ⟨by rfl, ?_⟩) hS ?_
      · intro w' hSw
        obtain ⟨z0, z1, z2, z3⟩ := hSw
        go_simp
      simp only [Act.put, List.getElem_toArray, List.getElem_cons_succ, List.getElem_cons_zero, List.setIfInBounds_toArray, List.set_cons_zero, List.set_cons_succ]
      refine wpAnyH_ready (rs := [1]) (by kernel_rfl) (by decide) (AllReadyH.cons rfl (fun K hK => ?_) AllReadyH.nil)
      rw [if_pos (by kernel_rfl)]
      go_simp
      refine (HLP.out W3.drew ((Below.refl _ W3).drew)).mono ?_
      rintro e Wh1 ⟨rfl, hb1⟩
      have hx1 : Below W3.heap.size W3 Wh1 := (Below.refl _ W3).drew.trans hb1
      have nz0 := cell_stays hx1 z0
      have nz1 := cell_stays hx1 z1
      have nz2 := cell_stays hx1 z2
      have nz3 := cell_stays hx1 z3
      refine hK.out _ _ ⟨nz0, nz1, nz2, nz3⟩ (fun hS => ?_)
      clear nz0 nz1 nz2 nz3
      refine wpAnyH_ready (rs := [3]) (by kernel_rfl) (by decide) (AllReadyH.cons rfl (fun K hK => ?_) AllReadyH.nil)
      rw [if_pos (by kernel_rfl)]
      go_simp
      refine (HRL.out Wh1 hx1).mono ?_
      rintro e Wh2 ⟨rfl, hb2⟩
      have hx2 : Below W3.heap.size W3 Wh2 := hx1.trans (hb2.mono hx1.size)
      have nz0 := cell_stays hx2 z0
      have nz1 := cell_stays hx2 z1
      have nz2 := cell_stays hx2 z2
      have nz3 := cell_stays hx2 z3
      refine hK.out _ _ ⟨nz0, nz1, nz2, nz3⟩ (fun hS => ?_)
      clear nz0 nz1 nz2 nz3
      refine wpAnyH_take (i := 4) (v := .bool true) rfl (by kernel_rfl) (by kernel_rfl) (by kernel_rfl) (fun _ _ _ h => h) (Or.inl ⟨by rfl, ?_⟩) hS ?_
      · intro w' hSw
        obtain ⟨z0, z1, z2, z3⟩ := hSw
        go_simp
      simp only [Act.put, List.getElem_toArray, List.getElem_cons_succ, List.getElem_cons_zero, List.setIfInBounds_toArray, List.set_cons_zero, List.set_cons_succ]
      refine wpAnyH_take (i := 5) (v := .bool true) rfl (by kernel_rfl) (by kernel_rfl) (by kernel_rfl) (fun _ _ _ h => h) (Or.inl ⟨by rfl, ?_⟩) hS ?_
      · intro w' hSw
        obtain ⟨z0, z1, z2, z3⟩ := hSw
        go_simp
      simp only [Act.put, List.getElem_toArray, List.getElem_cons_succ, List.getElem_cons_zero, List.setIfInBounds_toArray, List.set_cons_zero, List.set_cons_succ]
      refine wpAnyH_take (i := 6) (v := .pointer (some ⟨w.heap.size, 3, none⟩)) rfl (by kernel_rfl) (by kernel_rfl) (by kernel_rfl) (fun _ _ _ h => h) (Or.inl ⟨by rfl, ?_⟩) hS ?_
      · intro w' hSw
        obtain ⟨z0, z1, z2, z3⟩ := hSw
        go_simp
      simp only [Act.put, List.getElem_toArray, List.getElem_cons_succ, List.getElem_cons_zero, List.setIfInBounds_toArray, List.set_cons_zero, List.set_cons_succ]
      refine wpAnyH_take (i := 7) (v := .bool false) rfl (by kernel_rfl) (by kernel_rfl) (by kernel_rfl) (fun _ _ _ h => h) (Or.inl ⟨by rfl, ?_⟩) hS ?_
      · intro w' hSw
        obtain ⟨z0, z1, z2, z3⟩ := hSw
        go_simp
      simp only [Act.put, List.getElem_toArray, List.getElem_cons_succ, List.getElem_cons_zero, List.setIfInBounds_toArray, List.set_cons_zero, List.set_cons_succ]
      refine wpAnyH_take (i := 8) (v := .bool true) rfl (by kernel_rfl) (by kernel_rfl) (by kernel_rfl) (fun _ _ _ h => h) (Or.inl ⟨by rfl, ?_⟩) hS ?_
      · intro w' hSw
        obtain ⟨z0, z1, z2, z3⟩ := hSw
        go_simp
      simp only [Act.put, List.getElem_toArray, List.getElem_cons_succ, List.getElem_cons_zero, List.setIfInBounds_toArray, List.set_cons_zero, List.set_cons_succ]
      refine wpAnyH_take (i := 9) (v := .bool true) rfl (by kernel_rfl) (by kernel_rfl) (by kernel_rfl) (fun _ _ _ h => h) (Or.inl ⟨by rfl, ?_⟩) hS ?_
      · intro w' hSw
        obtain ⟨z0, z1, z2, z3⟩ := hSw
        go_simp
      simp only [Act.put, List.getElem_toArray, List.getElem_cons_succ, List.getElem_cons_zero, List.setIfInBounds_toArray, List.set_cons_zero, List.set_cons_succ]
      refine wpAnyH_take (i := 10) (v := undef) rfl (by kernel_rfl) (by kernel_rfl) (by kernel_rfl) (fun _ _ _ h => h) (Or.inr ⟨by kernel_rfl, rfl⟩) hS ?_
      simp only [Act.put, List.getElem_toArray, List.getElem_cons_succ, List.getElem_cons_zero, List.setIfInBounds_toArray, List.set_cons_zero, List.set_cons_succ]
      refine wpAnyH_take (i := 11) (v := undef) rfl (by kernel_rfl) (by kernel_rfl) (by kernel_rfl) (fun _ _ _ h => h) (Or.inr ⟨by kernel_rfl, rfl⟩) hS ?_
      simp only [Act.put, List.getElem_toArray, List.getElem_cons_succ, List.getElem_cons_zero, List.setIfInBounds_toArray, List.set_cons_zero, List.set_cons_succ]
      refine wpAnyH_take (i := 12) (v := undef) rfl (by kernel_rfl) (by kernel_rfl) (by kernel_rfl) (fun _ _ _ h => h) (Or.inr ⟨by kernel_rfl, rfl⟩) hS ?_
      simp only [Act.put, List.getElem_toArray, List.getElem_cons_succ, List.getElem_cons_zero, List.setIfInBounds_toArray, List.set_cons_zero, List.set_cons_succ]
      refine wpAnyH_take (i := 13) (v := .bool true) rfl (by kernel_rfl) (by kernel_rfl) (by kernel_rfl) (fun _ _ _ h => h) (Or.inl ⟨by rfl, ?_⟩) hS ?_
      · intro w' hSw
        obtain ⟨z0, z1, z2, z3⟩ := hSw
        go_simp
      simp only [Act.put, List.getElem_toArray, List.getElem_cons_succ, List.getElem_cons_zero, List.setIfInBounds_toArray, List.set_cons_zero, List.set_cons_succ]
      refine wpAnyH_take (i := 14) (v := .bool true) rfl (by kernel_rfl) (by kernel_rfl) (by kernel_rfl) (fun _ _ _ h => h) (Or.inl ⟨by rfl, ?_⟩) hS ?_
      · intro w' hSw
        obtain ⟨z0, z1, z2, z3⟩ := hSw
        go_simp
      simp only [Act.put, List.getElem_toArray, List.getElem_cons_succ, List.getElem_cons_zero, List.setIfInBounds_toArray, List.set_cons_zero, List.set_cons_succ]
      refine wpAnyH_take (i := 15) (v := .bool true) rfl (by kernel_rfl) (by kernel_rfl) (by kernel_rfl) (fun _ _ _ h => h) (Or.inl ⟨by rfl, ?_⟩) hS ?_
      · intro w' hSw
        obtain ⟨z0, z1, z2, z3⟩ := hSw
        go_simp
      simp only [Act.put, List.getElem_toArray, List.getElem_cons_succ, List.getElem_cons_zero, List.setIfInBounds_toArray, List.set_cons_zero, List.set_cons_succ]
      refine wpAnyH_done (by kernel_rfl) ?_ _
      refine NoPanic.normal ?_
      try simp only [Exit.then]
      have HX := Lib.hid (HB3.out.trans (hx2.mono HB3.out.size))
      clear hx1 hx2 hS
      go_wp2
      go_ret
      exact ⟨rfl, HX.out⟩
    · obtain rfl := htr rfl
      refine wp_region_noPanic ?_
      refine wp_region_held_drew (S := (fun w' => w'.cell? ⟨SB, 0, none⟩ = some (.slice sa ss.length sc) ∧ w'.cell? ⟨SB, 1, none⟩ = some (.slice ea es.length ec) ∧ w'.cell? ⟨SB, 2, none⟩ = some (.int .i64 rt) ∧ w'.cell? ⟨w.heap.size, 3, none⟩ = some (.bool true))) (by kernel_rfl) ⟨z0, z1, z2, z3⟩ ?_
      intro hS
      refine wpAnyH_take (i := 0) (v := .agg #[.slice sa ss.length sc, .slice ea es.length ec, .int .i64 rt]) rfl (by kernel_rfl) (by kernel_rfl) (by kernel_rfl) (fun _ _ _ h => h) (Or.inl ⟨by rfl, ?_⟩) hS ?_
      · intro w' hSw
        obtain ⟨z0, z1, z2, z3⟩ := hSw
        go_simp
      simp only [Act.put, List.getElem_toArray, List.getElem_cons_zero, List.setIfInBounds_toArray, List.set_cons_zero, List.set_cons_succ]
      refine wpAnyH_take (i := 2) (v := .agg #[.slice sa ss.length sc, .slice ea es.length ec, .int .i64 rt]) rfl (by kernel_rfl) (by kernel_rfl) (by kernel_rfl) (fun _ _ _ h => h) (Or.inl ⟨by rfl, ?_⟩) hS ?_
      · intro w' hSw
        obtain ⟨z0, z1, z2, z3⟩ := hSw
        go_simp
      simp only [Act.put, List.getElem_toArray, List.getElem_cons_succ, List.getElem_cons_zero, List.setIfInBounds_toArray, List.set_cons_zero, List.set_cons_succ]
      refine wpAnyH_ready (rs := [1]) (by kernel_rfl) (by decide) (AllReadyH.cons rfl (fun K hK => ?_) AllReadyH.nil)
      rw [if_pos (by kernel_rfl)]
      go_simp
      refine (HLP.out W3.drew ((Below.refl _ W3).drew)).mono ?_
      rintro e Wh1 ⟨rfl, hb1⟩
      have hx1 : Below W3.heap.size W3 Wh1 := (Below.refl _ W3).drew.trans hb1
      have nz0 := cell_stays hx1 z0
      have nz1 := cell_stays hx1 z1
      have nz2 := cell_stays hx1 z2
      have nz3 := cell_stays hx1 z3
      refine hK.out _ _ ⟨nz0, nz1, nz2, nz3⟩ (fun hS => ?_)
      clear nz0 nz1 nz2 nz3
      refine wpAnyH_ready (rs := [3]) (by kernel_rfl) (by decide) (AllReadyH.cons rfl (fun K hK => ?_) AllReadyH.nil)
      rw [if_pos (by kernel_rfl)]
      go_simp
      refine (HRL.out Wh1 hx1).mono ?_
      rintro e Wh2 ⟨rfl, hb2⟩
      have hx2 : Below W3.heap.size W3 Wh2 := hx1.trans (hb2.mono hx1.size)
      have nz0 := cell_stays hx2 z0
      have nz1 := cell_stays hx2 z1
      have nz2 := cell_stays hx2 z2
      have nz3 := cell_stays hx2 z3
      refine hK.out _ _ ⟨nz0, nz1, nz2, nz3⟩ (fun hS => ?_)
      clear nz0 nz1 nz2 nz3
      refine wpAnyH_take (i := 4) (v := .bool true) rfl (by kernel_rfl) (by kernel_rfl) (by kernel_rfl) (fun _ _ _ h => h) (Or.inl ⟨by rfl, ?_⟩) hS ?_
      · intro w' hSw
        obtain ⟨z0, z1, z2, z3⟩ := hSw
        go_simp
      simp only [Act.put, List.getElem_toArray, List.getElem_cons_succ, List.getElem_cons_zero, List.setIfInBounds_toArray, List.set_cons_zero, List.set_cons_succ]
      refine wpAnyH_take (i := 5) (v := .bool true) rfl (by kernel_rfl) (by kernel_rfl) (by kernel_rfl) (fun _ _ _ h => h) (Or.inl ⟨by rfl, ?_⟩) hS ?_
      · intro w' hSw
        obtain ⟨z0, z1, z2, z3⟩ := hSw
        go_simp
      simp only [Act.put, List.getElem_toArray, List.getElem_cons_succ, List.getElem_cons_zero, List.setIfInBounds_toArray, List.set_cons_zero, List.set_cons_succ]
      refine wpAnyH_take (i := 6) (v := .pointer (some ⟨w.heap.size, 3, none⟩)) rfl (by kernel_rfl) (by kernel_rfl) (by kernel_rfl) (fun _ _ _ h => h) (Or.inl ⟨by rfl, ?_⟩) hS ?_
      · intro w' hSw
        obtain ⟨z0, z1, z2, z3⟩ := hSw
        go_simp
      simp only [Act.put, List.getElem_toArray, List.getElem_cons_succ, List.getElem_cons_zero, List.setIfInBounds_toArray, List.set_cons_zero, List.set_cons_succ]
      refine wpAnyH_take (i := 7) (v := .bool true) rfl (by kernel_rfl) (by kernel_rfl) (by kernel_rfl) (fun _ _ _ h => h) (Or.inl ⟨by rfl, ?_⟩) hS ?_
      · intro w' hSw
        obtain ⟨z0, z1, z2, z3⟩ := hSw
        go_simp
      simp only [Act.put, List.getElem_toArray, List.getElem_cons_succ, List.getElem_cons_zero, List.setIfInBounds_toArray, List.set_cons_zero, List.set_cons_succ]
      refine wpAnyH_take (i := 8) (v := .bool false) rfl (by kernel_rfl) (by kernel_rfl) (by kernel_rfl) (fun _ _ _ h => h) (Or.inl ⟨by rfl, ?_⟩) hS ?_
      · intro w' hSw
        obtain ⟨z0, z1, z2, z3⟩ := hSw
        go_simp
      simp only [Act.put, List.getElem_toArray, List.getElem_cons_succ, List.getElem_cons_zero, List.setIfInBounds_toArray, List.set_cons_zero, List.set_cons_succ]
      refine wpAnyH_take (i := 9) (v := .bool false) rfl (by kernel_rfl) (by kernel_rfl) (by kernel_rfl) (fun _ _ _ h => h) (Or.inl ⟨by rfl, ?_⟩) hS ?_
      · intro w' hSw
        obtain ⟨z0, z1, z2, z3⟩ := hSw
        go_simp
      simp only [Act.put, List.getElem_toArray, List.getElem_cons_succ, List.getElem_cons_zero, List.setIfInBounds_toArray, List.set_cons_zero, List.set_cons_succ]
      refine wpAnyH_take (i := 10) (v := .agg #[.slice sa ss.length sc, .slice ea es.length ec, .int .i64 rt]) rfl (by kernel_rfl) (by kernel_rfl) (by kernel_rfl) (fun _ _ _ h => h) (Or.inl ⟨by rfl, ?_⟩) hS ?_
      · intro w' hSw
        obtain ⟨z0, z1, z2, z3⟩ := hSw
        go_simp
      simp only [Act.put, List.getElem_toArray, List.getElem_cons_succ, List.getElem_cons_zero, List.setIfInBounds_toArray, List.set_cons_zero, List.set_cons_succ]
      refine wpAnyH_ready (rs := [11]) (by kernel_rfl) (by decide) (AllReadyH.cons rfl (fun K hK => ?_) AllReadyH.nil)
      rw [if_pos (by kernel_rfl)]
      go_simp
      refine (HLP.out Wh2 hx2).mono ?_
      rintro e Wh3 ⟨rfl, hb3⟩
      have hx3 : Below W3.heap.size W3 Wh3 := hx2.trans (hb3.mono hx2.size)
      have nz0 := cell_stays hx3 z0
      have nz1 := cell_stays hx3 z1
      have nz2 := cell_stays hx3 z2
      have nz3 := cell_stays hx3 z3
      refine hK.out _ _ ⟨nz0, nz1, nz2, nz3⟩ (fun hS => ?_)
      clear nz0 nz1 nz2 nz3
      refine wpAnyH_take (i := 12) (v := .bool true) rfl (by kernel_rfl) (by kernel_rfl) (by kernel_rfl) (fun _ _ _ h => h) (Or.inl ⟨by rfl, ?_⟩) hS ?_
      · intro w' hSw
        obtain ⟨z0, z1, z2, z3⟩ := hSw
        go_simp
      simp only [Act.put, List.getElem_toArray, List.getElem_cons_succ, List.getElem_cons_zero, List.setIfInBounds_toArray, List.set_cons_zero, List.set_cons_succ]
      refine wpAnyH_take (i := 13) (v := .bool true) rfl (by kernel_rfl) (by kernel_rfl) (by kernel_rfl) (fun _ _ _ h => h) (Or.inl ⟨by rfl, ?_⟩) hS ?_
      · intro w' hSw
        obtain ⟨z0, z1, z2, z3⟩ := hSw
        go_simp
      simp only [Act.put, List.getElem_toArray, List.getElem_cons_succ, List.getElem_cons_zero, List.setIfInBounds_toArray, List.set_cons_zero, List.set_cons_succ]
      refine wpAnyH_take (i := 14) (v := .bool true) rfl (by kernel_rfl) (by kernel_rfl) (by kernel_rfl) (fun _ _ _ h => h) (Or.inl ⟨by rfl, ?_⟩) hS ?_
      · intro w' hSw
        obtain ⟨z0, z1, z2, z3⟩ := hSw
        go_simp
      simp only [Act.put, List.getElem_toArray, List.getElem_cons_succ, List.getElem_cons_zero, List.setIfInBounds_toArray, List.set_cons_zero, List.set_cons_succ]
      refine wpAnyH_take (i := 15) (v := .bool true) rfl (by kernel_rfl) (by kernel_rfl) (by kernel_rfl) (fun _ _ _ h => h) (Or.inl ⟨by rfl, ?_⟩) hS ?_
      · intro w' hSw
        obtain ⟨z0, z1, z2, z3⟩ := hSw
        go_simp
      simp only [Act.put, List.getElem_toArray, List.getElem_cons_succ, List.getElem_cons_zero, List.setIfInBounds_toArray, List.set_cons_zero, List.set_cons_succ]
      refine wpAnyH_done (by kernel_rfl) ?_ _
      refine NoPanic.normal ?_
      try simp only [Exit.then]
      have HX := Lib.hid (HB3.out.trans (hx3.mono HB3.out.size))
      clear hx1 hx2 hx3 hS
      go_wp2
      go_ret
      exact ⟨rfl, HX.out⟩
  · clear hno
    go_wp2
    go_ret
    exact ⟨rfl, HB2.out.alloc HB2.out.size _⟩
end Go.Proofs.YtgbcchiheddfpaaGreatDoor
