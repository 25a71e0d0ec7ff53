/-
  The document's reader of JSON: Word. Conditions: those that each theorem names.
-/
import Derived.Test.YtneadcbadnicfaaDoorSrB
import Derived.Test.YtneadcbadnicfaaDoorSnW
namespace Go.Proofs.YtneadcbadnicfaaDoor
open Go.ChangeShapes Go.WideShapes Go.ChangeAt Go.RowKit Go.Shelf

set_option maxHeartbeats 1600000 in
theorem rword_any (r : Nat) (x0 x1 x2 : Value) (p : Option Addr) (n cap : Nat) (zs : List Int) (bad : Value) (a : Nat) (t : ByteArray) (w : World) (ht : t.size ≤ 1000000) (ha : a ≤ n) (h : RdSc w r x0 x1 x2 p n cap zs bad a) :
    Calls Tryd.prog 19 #[.pointer (some ⟨r, 0, none⟩), .string t] w fun e w' => e = .returned (.bool (wordB zs (runTo zs isBlank a) (bts t))) ∧
      RdTo w r x0 x1 x2 p n cap zs bad (if wordB zs (runTo zs isBlank a) (bts t) = true then runTo zs isBlank a + t.size else runTo zs isBlank a) w' := by
  have B1 := Lib.hid (rblank_any r x0 x1 x2 p n cap zs bad a w h)
  have hcap := h.cap_
  have hhigh := h.high
  have hlen := h.len
  have hbn : runTo zs isBlank a ≤ n := by have := runTo_le zs isBlank a (by rw [hlen]; exact ha); omega
  have HY := Lib.hid h.by_
  have hsz := bts_length t
  clear h ha
  generalize runTo zs isBlank a = b at B1 hbn ⊢
  by_cases hin : b + t.size ≤ n
  · obtain ⟨L, hL⟩ : ∃ L, (zs.drop b).take t.size = L := ⟨_, rfl⟩
    have hLl : L.length = t.size := by rw [← hL]; simp; omega
    have hLb : ∀ z ∈ L, 0 ≤ z ∧ z ≤ 255 := by rw [← hL]; exact fun z hz => bd_mem HY.out.1 z (List.mem_of_mem_drop (List.mem_of_mem_take hz))
    have hW : wordB zs b (bts t) = decide (strOfNums L = t) := by
      unfold wordB
      rw [hsz, hL]
      exact decide_eq_decide.2 (strOf_iff hLb t).symm
    rw [hW]
    have HLB := Lib.hid hLb
    have HLL := Lib.hid hLl
    have HL := Lib.hid hL
    clear hW hsz hL hLb hLl
    by_cases h0 : 0 < t.size
    · obtain ⟨bb, off, rfl, _⟩ := HY.out.2 (by rintro rfl; simp at hlen; omega)
      have CV : Hid (∀ W, Bytes W (some ⟨bb, off, none⟩) zs → ∀ c, (convert 22 9 (.slice (some ⟨bb, off + b, none⟩) t.size c)).run Tryd.prog W = .ok (.string (strOfNums L)) W) := by
        intro W hz c
        have hb : Bytes W (some ⟨bb, off + b, none⟩) L := by
          refine ⟨bd_le HLB.out, fun hne => ?_⟩
          obtain ⟨b2, off2, e3, hlt, hc⟩ := hz.2 (by intro e; rw [e] at hlen; simp at hlen; omega)
          injection e3 with e3
          injection e3 with e4 e5 _
          subst e4 e5
          refine ⟨bb, off + b, rfl, hlt, fun i hi => ?_⟩
          have hi' : i < t.size := by rw [← HLL.out]; exact hi
          have := hc (b + i) (by omega)
          rw [Nat.add_assoc, this, ← HL.out, getD_take hi']
        have := conv_slice hb c
        rw [HLL.out] at this
        exact this
      have hcb : ¬ cap = b := by omega
      have e8 : b + t.size - b = t.size := by omega
      clear HL HLB HLL HY hlen
      generalize strOfNums L = S at CV ⊢
      by_cases hS : S = t
      · skip
        subst hS
        rw [decide_eq_true rfl, if_pos rfl]
        have b1 := sb_yes' (rfl : S = S)
        have b2 : (!(S.toList == S.toList)) = false := by rw [b1]; rfl
        go_enter Tryd.func19, Tryd.ntmps19
        go_wp2_with fail
        refine B1.out.mono ?_
        rintro e w1 ⟨rfl, h1⟩
        have H1 := Lib.hid h1
        obtain ⟨hr, c3, c4, f3, f4⟩ := rd6 h1.2
        have wp := IntWalk.i64_in ((n : Int) - (b : Int)) ⟨by omega, by omega⟩
        have dl : ¬ ((n : Int) - (b : Int) < (S.size : Int)) := by omega
        have wp2 := IntWalk.i64_in ((b : Int) + (S.size : Int)) ⟨by omega, by omega⟩
        have i1 : (b : Int) ≤ (b : Int) + (S.size : Int) := by omega
        have i2 : (b : Int) + (S.size : Int) ≤ (cap : Int) := by omega
        have i3 : ((b : Int) + (S.size : Int)).toNat - b = S.size := by omega
        have cv : ∀ c nq, (convert 22 9 (.slice (some ⟨bb, off + b, none⟩) S.size c)).run Tryd.prog (w1.drewN nq) = .ok (.string S) (w1.drewN nq) := fun c nq => CV.out _ (h1.2.by_.below (Nat.le_refl _) (bel_drewN (Below.refl _ _) nq)) c
        clear h1
        go_wp2
        go_quiet (fail)
        go_wp2_with fail
        go_wp2
        go_ret
        exact ⟨rfl, (H1.out.bel (bel_drewN (Below.refl _ _) _)).then (RdSc.moved (H1.out.bel (bel_drewN (Below.refl _ _) _)).2 (b + S.size) (by omega) _ (by omega))⟩
      · skip
        rw [decide_eq_false hS, if_neg (by decide)]
        have b1 := sb_no' hS
        clear hS
        go_enter Tryd.func19, Tryd.ntmps19
        go_wp2_with fail
        refine B1.out.mono ?_
        rintro e w1 ⟨rfl, h1⟩
        have H1 := Lib.hid h1
        obtain ⟨hr, c3, c4, f3, f4⟩ := rd6 h1.2
        have wp := IntWalk.i64_in ((n : Int) - (b : Int)) ⟨by omega, by omega⟩
        have dl : ¬ ((n : Int) - (b : Int) < (t.size : Int)) := by omega
        have wp2 := IntWalk.i64_in ((b : Int) + (t.size : Int)) ⟨by omega, by omega⟩
        have i1 : (b : Int) ≤ (b : Int) + (t.size : Int) := by omega
        have i2 : (b : Int) + (t.size : Int) ≤ (cap : Int) := by omega
        have i3 : ((b : Int) + (t.size : Int)).toNat - b = t.size := by omega
        have cv : ∀ c nq, (convert 22 9 (.slice (some ⟨bb, off + b, none⟩) t.size c)).run Tryd.prog (w1.drewN nq) = .ok (.string S) (w1.drewN nq) := fun c nq => CV.out _ (h1.2.by_.below (Nat.le_refl _) (bel_drewN (Below.refl _ _) nq)) c
        clear h1
        go_wp2
        go_quiet (fail)
        go_wp2
        go_ret
        exact ⟨rfl, H1.out.bel (bel_drewN (Below.refl _ _) _)⟩
    · have hL0 : L = [] := List.eq_nil_of_length_eq_zero (by rw [HLL.out]; omega)
      have ht0 : t = ⟨#[]⟩ := by
        obtain ⟨⟨t⟩⟩ := t
        have : t = [] := List.eq_nil_of_length_eq_zero (by have h := h0; simp [ByteArray.size] at h; exact congrArg List.length h)
        rw [this]
      subst ht0
      have hdec : decide (strOfNums L = (⟨#[]⟩ : ByteArray)) = true := by rw [hL0]; kernel_rfl
      rw [hdec, if_pos rfl]
      have CV : Hid (∀ q c W, (convert 22 9 (.slice q 0 c)).run Tryd.prog W = .ok (.string ⟨#[]⟩) W) := by
        intro q c W
        exact conv_zero W _ 5 _ Tryd.underlying22 Tryd.underlying5 Tryd.underlying9 q c
      have dl : ¬ ((n : Int) - (b : Int) < 0) := by omega
      have wp2 := IntWalk.i64_in (b : Int) ⟨by omega, by omega⟩
      have i2 : (b : Int) ≤ (cap : Int) := by omega
      have e7 : b - b = 0 := Nat.sub_self b
      have HN := Lib.hid hlen
      clear hdec hL0 HL HLB HLL hin hlen h0
      rcases p with _ | ⟨bb, off, xx⟩
      · have z0 : n = 0 := by
          rcases Nat.eq_zero_or_pos n with h0 | h0
          · exact h0
          · obtain ⟨b', off, e, _⟩ := HY.out.2 (by intro e; have := HN.out; rw [e] at this; simp at this; omega)
            cases e
        obtain rfl : b = 0 := by omega
        subst z0
        go_enter Tryd.func19, Tryd.ntmps19
        go_wp2_with fail
        refine B1.out.mono ?_
        rintro e w1 ⟨rfl, h1⟩
        have H1 := Lib.hid h1
        obtain ⟨hr, c3, c4, f3, f4⟩ := rd6 h1.2
        have cv : ∀ q c nq, (convert 22 9 (.slice q 0 c)).run Tryd.prog (w1.drewN nq) = .ok (.string ⟨#[]⟩) (w1.drewN nq) := fun q c nq => CV.out q c _
        clear h1
        go_wp2
        go_quiet (fail)
        go_wp2
        go_ret
        exact ⟨rfl, (H1.out.bel (bel_drewN (Below.refl _ _) _)).then (RdSc.moved (H1.out.bel (bel_drewN (Below.refl _ _) _)).2 (0 + ByteArray.size ⟨#[]⟩) (by show 0 + 0 ≤ _; omega) _ (by show _ = ((0 + 0 : Nat) : Int); omega))⟩
      · by_cases hcn : cap = b
        · subst hcn
          go_enter Tryd.func19, Tryd.ntmps19
          go_wp2_with fail
          refine B1.out.mono ?_
          rintro e w1 ⟨rfl, h1⟩
          have H1 := Lib.hid h1
          obtain ⟨hr, c3, c4, f3, f4⟩ := rd6 h1.2
          have wp := IntWalk.i64_in ((n : Int) - (cap : Int)) ⟨by omega, by omega⟩
          have cv : ∀ q c nq, (convert 22 9 (.slice q 0 c)).run Tryd.prog (w1.drewN nq) = .ok (.string ⟨#[]⟩) (w1.drewN nq) := fun q c nq => CV.out q c _
          clear h1
          go_wp2
          go_quiet (fail)
          go_wp2
          go_ret
          exact ⟨rfl, (H1.out.bel (bel_drewN (Below.refl _ _) _)).then (RdSc.moved (H1.out.bel (bel_drewN (Below.refl _ _) _)).2 (cap + ByteArray.size ⟨#[]⟩) (by show cap + 0 ≤ _; omega) _ (by show _ = ((cap + 0 : Nat) : Int); omega))⟩
        · skip
          go_enter Tryd.func19, Tryd.ntmps19
          go_wp2_with fail
          refine B1.out.mono ?_
          rintro e w1 ⟨rfl, h1⟩
          have H1 := Lib.hid h1
          obtain ⟨hr, c3, c4, f3, f4⟩ := rd6 h1.2
          have wp := IntWalk.i64_in ((n : Int) - (b : Int)) ⟨by omega, by omega⟩
          have cv : ∀ q c nq, (convert 22 9 (.slice q 0 c)).run Tryd.prog (w1.drewN nq) = .ok (.string ⟨#[]⟩) (w1.drewN nq) := fun q c nq => CV.out q c _
          clear h1
          go_wp2
          go_quiet (fail)
          go_wp2
          go_ret
          exact ⟨rfl, (H1.out.bel (bel_drewN (Below.refl _ _) _)).then (RdSc.moved (H1.out.bel (bel_drewN (Below.refl _ _) _)).2 (b + ByteArray.size ⟨#[]⟩) (by show b + 0 ≤ _; omega) _ (by show _ = ((b + 0 : Nat) : Int); omega))⟩
  · have hW : wordB zs b (bts t) = false := by
      cases hw : wordB zs b (bts t)
      · rfl
      · have := wordB_le hw (by omega); omega
    rw [hW, if_neg (by decide)]
    have hno : ((n : Int) - (b : Int)) < (t.size : Int) := by omega
    clear hW hsz HY hlen
    go_enter Tryd.func19, Tryd.ntmps19
    go_wp2_with fail
    refine B1.out.mono ?_
    rintro e w1 ⟨rfl, h1⟩
    have H1 := Lib.hid h1
    obtain ⟨hr, c3, c4, f3, f4⟩ := rd6 h1.2
    have wp := IntWalk.i64_in ((n : Int) - (b : Int)) ⟨by omega, by omega⟩
    clear h1
    go_wp2
    go_region
    go_wp2
    go_ret
    exact ⟨rfl, H1.out.bel (Below.refl _ _).drew⟩
end Go.Proofs.YtneadcbadnicfaaDoor
