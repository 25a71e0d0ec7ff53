/-
  The package lex's Tokens: all tokens of a text, or the first fault and its place. Conditions: those that each theorem names; the library's tables hold what the row lists.
-/
import Derived.Test.YtleclhnlojalbaaGreatDoorPkL2
import Derived.Test.YtleclhnlojalbaaGreatDoorPkL6
import Derived.Lib.ConvBytes
import Derived.Lib.AtoiErrMem
namespace Go.Proofs.YtleclhnlojalbaaGreatDoor
open Go.ChangeShapes Go.WideShapes Go.ChangeAt Go.RowKit Go.Shelf

theorem numEnd_ge (zs : List Int) (i : Nat) : i ≤ numEnd zs i := by
  have h := runTo_ge zs isDig (minusTo zs i)
  have h2 : i ≤ minusTo zs i := by unfold minusTo; split <;> omega
  unfold numEnd
  omega
theorem numEnd_le (zs : List Int) (i : Nat) (h : i ≤ zs.length) : numEnd zs i ≤ zs.length := by
  unfold numEnd
  refine runTo_le zs isDig _ ?_
  unfold minusTo
  split
  · rename_i h1
    have := stA_lt h1
    omega
  · exact h
theorem quoGood_lt {ok : List Int → Bool} {zs : List Int} {i : Nat} (h : quoBad ok zs i = false) : quoEnd zs i < zs.length := by
  unfold quoBad at h
  cases h1 : stA zs (isC 34) (quoEnd zs i)
  · rw [h1] at h
    cases h
  · exact stA_lt h1
set_option maxHeartbeats 800000 in
theorem token_num_bad (b off n cap i : Nat) (x : Int) (v : Value) (sg : Int → Bool) (zs : List Int) (w : World) (hx : x = i) (hT : Tabs w) (hz : Bytes w (some ⟨b, off, none⟩) zs) (hn : zs.length = n) (hl : n ≤ 281474976710656) (hi : i < n) (hcap : n ≤ cap) (hk : KindV w v sg) (h1 : stA zs isLet i = false) (h2 : begins zs i = true) (h5 : numBad zs i = true) :
    Calls Tryz.prog 92 #[.slice (some ⟨b, off, none⟩) n cap, .int .i64 x, v] w fun e w' => e = .returned (tokVal (none)) ∧ Below w.heap.size w w' := by
  subst hx
  have HKS := Lib.hid hk
  have HR := Lib.hid (fun (j : Nat) (y : Int) v k W hy hb hk => stands_any (some ⟨b, off, none⟩) n cap j y zs v k W hy (Bytes.below hz (Nat.le_refl _) hb) hn hk hl)
  have HS := Lib.hid (fun c a j m t d W hb hij hj ha hm ht hd => sub_str b off c n a j m t d zs W (Bytes.below hz (Nat.le_refl _) hb) hn hij hj ha hm ht hd)
  have HBG := Lib.hid (fun W hb => begins_any (some ⟨b, off, none⟩) n cap i i zs W rfl (Bytes.below hz (Nat.le_refl _) hb) hn hl (by omega))
  have HNU := Lib.hid (fun W hb => number_any (some ⟨b, off, none⟩) n cap i i zs W rfl (Bytes.below hz (Nat.le_refl _) hb) hn hl (by omega))
  have HQU := Lib.hid (fun W hb => quoted_any (some ⟨b, off, none⟩) n cap i i zs W rfl (Tabs.below hT (Nat.le_refl _) hb) (Bytes.below hz (Nat.le_refl _) hb) hn hl hi hcap)
  have HN := Lib.hid hn
  have H1 := Lib.hid h1
  have H2 := Lib.hid h2
  have H5 : Hid (numVal zs i = .tuple #[.int .i64 0, .bool false]) := numVal_bad _ h5
  clear h5
  clear hz hn hT hk h1 h2
  have t0 : ((i : Int) == (n : Int)) = false := by simp; omega
  go_enter Tryz.func92, Tryz.ntmps92
  go_wp2_with fail
  refine (letter_any _).mono ?_
  rintro e W1 ⟨v1, rfl, hb1, hk1⟩
  have HK1 := Lib.hid hk1
  have HG1 := Lib.hid ((resBlk_new w).later hb1)
  have HB1 := Lib.hid (((Below.refl _ _).alloc (Nat.le_refl _) _).trans (hb1.mono (by simp)))
  clear hk1 hb1
  go_wp2_with fail
  refine (HR.out i _ v1 isLet W1 rfl HB1.out HK1.out).mono ?_
  rintro e W2 ⟨rfl, hb2⟩
  have HG2 := Lib.hid (HG1.out.later hb2)
  have HB2 := Lib.hid (HB1.out.trans (hb2.mono HB1.out.size))
  clear hb2
  rw [H1.out]
  go_wp2_with fail
  refine (HBG.out W2 HB2.out).mono ?_
  rintro e W3 ⟨rfl, hb3⟩
  have HG3 := Lib.hid (HG2.out.later hb3)
  have HB3 := Lib.hid (HB2.out.trans (hb3.mono HB2.out.size))
  clear hb3
  rw [H2.out]
  go_wp2_with fail
  refine (HNU.out W3 HB3.out).mono ?_
  rintro e W4 ⟨rfl, hb4⟩
  have HG4 := Lib.hid (HG3.out.later hb4)
  have HB4 := Lib.hid (HB3.out.trans (hb4.mono HB3.out.size))
  clear hb4
  rw [H5.out]
  obtain ⟨g0, g1, g2, f0, f1, f2⟩ := HG4.out.facts
  go_wp2
  exact bodyPost_ret (v := .tuple #[.agg #[.int .i64 0, .string ⟨#[]⟩, .int .i64 0], .int .i64 0, .bool false]) (by simp [results, Tryz.results92, go_sem, g0, g1, g2]) rfl ⟨rfl, ((HB4.out.setCell (Nat.le_refl _) _).setCell (Nat.le_refl _) _).setCell (Nat.le_refl _) _⟩
set_option maxHeartbeats 800000 in
theorem token_num_good (b off n cap i : Nat) (x : Int) (v : Value) (sg : Int → Bool) (zs : List Int) (w : World) (hx : x = i) (hT : Tabs w) (hz : Bytes w (some ⟨b, off, none⟩) zs) (hn : zs.length = n) (hl : n ≤ 281474976710656) (hi : i < n) (hcap : n ≤ cap) (hk : KindV w v sg) (h1 : stA zs isLet i = false) (h2 : begins zs i = true) (h5 : numBad zs i = false) :
    Calls Tryz.prog 92 #[.slice (some ⟨b, off, none⟩) n cap, .int .i64 x, v] w fun e w' => e = .returned (tokVal (some (⟨2, sub zs i (numEnd zs i), i⟩, numEnd zs i))) ∧ Below w.heap.size w w' := by
  subst hx
  have HKS := Lib.hid hk
  have HR := Lib.hid (fun (j : Nat) (y : Int) v k W hy hb hk => stands_any (some ⟨b, off, none⟩) n cap j y zs v k W hy (Bytes.below hz (Nat.le_refl _) hb) hn hk hl)
  have HS := Lib.hid (fun c a j m t d W hb hij hj ha hm ht hd => sub_str b off c n a j m t d zs W (Bytes.below hz (Nat.le_refl _) hb) hn hij hj ha hm ht hd)
  have HBG := Lib.hid (fun W hb => begins_any (some ⟨b, off, none⟩) n cap i i zs W rfl (Bytes.below hz (Nat.le_refl _) hb) hn hl (by omega))
  have HNU := Lib.hid (fun W hb => number_any (some ⟨b, off, none⟩) n cap i i zs W rfl (Bytes.below hz (Nat.le_refl _) hb) hn hl (by omega))
  have HQU := Lib.hid (fun W hb => quoted_any (some ⟨b, off, none⟩) n cap i i zs W rfl (Tabs.below hT (Nat.le_refl _) hb) (Bytes.below hz (Nat.le_refl _) hb) hn hl hi hcap)
  have HN := Lib.hid hn
  have H1 := Lib.hid h1
  have H2 := Lib.hid h2
  have H5 : Hid (numVal zs i = .tuple #[.int .i64 (numEnd zs i : Nat), .bool true]) := numVal_good _ h5
  have hlo := numEnd_ge zs i
  have hup := numEnd_le zs i (by omega)
  rw [hn] at hup
  generalize numEnd zs i = E at hlo hup H5 ⊢
  clear h5
  clear hz hn hT hk h1 h2
  have t0 : ((i : Int) == (n : Int)) = false := by simp; omega
  go_enter Tryz.func92, Tryz.ntmps92
  go_wp2_with fail
  refine (letter_any _).mono ?_
  rintro e W1 ⟨v1, rfl, hb1, hk1⟩
  have HK1 := Lib.hid hk1
  have HG1 := Lib.hid ((resBlk_new w).later hb1)
  have HB1 := Lib.hid (((Below.refl _ _).alloc (Nat.le_refl _) _).trans (hb1.mono (by simp)))
  clear hk1 hb1
  go_wp2_with fail
  refine (HR.out i _ v1 isLet W1 rfl HB1.out HK1.out).mono ?_
  rintro e W2 ⟨rfl, hb2⟩
  have HG2 := Lib.hid (HG1.out.later hb2)
  have HB2 := Lib.hid (HB1.out.trans (hb2.mono HB1.out.size))
  clear hb2
  rw [H1.out]
  go_wp2_with fail
  refine (HBG.out W2 HB2.out).mono ?_
  rintro e W3 ⟨rfl, hb3⟩
  have HG3 := Lib.hid (HG2.out.later hb3)
  have HB3 := Lib.hid (HB2.out.trans (hb3.mono HB2.out.size))
  clear hb3
  rw [H2.out]
  go_wp2_with fail
  refine (HNU.out W3 HB3.out).mono ?_
  rintro e W4 ⟨rfl, hb4⟩
  have HG4 := Lib.hid (HG3.out.later hb4)
  have HB4 := Lib.hid (HB3.out.trans (hb4.mono HB3.out.size))
  clear hb4
  rw [H5.out]
  have kc := HS.out (cap - i) i E (E - i) 24 9 W4 HB4.out hlo hup hi rfl rfl rfl
  have hci : ¬ cap = i := by omega
  obtain ⟨g0, g1, g2, f0, f1, f2⟩ := HG4.out.facts
  go_wp2
  exact bodyPost_ret (v := .tuple #[.agg #[.int .i64 2, .string (strOfNums (sub zs i E)), .int .i64 i], .int .i64 E, .bool true]) (by simp [results, Tryz.results92, go_sem, g0, g1, g2]) rfl ⟨rfl, ((HB4.out.setCell (Nat.le_refl _) _).setCell (Nat.le_refl _) _).setCell (Nat.le_refl _) _⟩
set_option maxHeartbeats 800000 in
theorem token_quo_bad (b off n cap i : Nat) (x : Int) (v : Value) (sg : Int → Bool) (zs : List Int) (w : World) (hx : x = i) (hT : Tabs w) (hz : Bytes w (some ⟨b, off, none⟩) zs) (hn : zs.length = n) (hl : n ≤ 281474976710656) (hi : i < n) (hcap : n ≤ cap) (hk : KindV w v sg) (h1 : stA zs isLet i = false) (h2 : begins zs i = false) (h3 : stA zs (isC 34) i = true) (h5 : quoBad okU zs i = true) :
    Calls Tryz.prog 92 #[.slice (some ⟨b, off, none⟩) n cap, .int .i64 x, v] w fun e w' => e = .returned (tokVal (none)) ∧ Below w.heap.size w w' := by
  subst hx
  have HKS := Lib.hid hk
  have HR := Lib.hid (fun (j : Nat) (y : Int) v k W hy hb hk => stands_any (some ⟨b, off, none⟩) n cap j y zs v k W hy (Bytes.below hz (Nat.le_refl _) hb) hn hk hl)
  have HS := Lib.hid (fun c a j m t d W hb hij hj ha hm ht hd => sub_str b off c n a j m t d zs W (Bytes.below hz (Nat.le_refl _) hb) hn hij hj ha hm ht hd)
  have HBG := Lib.hid (fun W hb => begins_any (some ⟨b, off, none⟩) n cap i i zs W rfl (Bytes.below hz (Nat.le_refl _) hb) hn hl (by omega))
  have HNU := Lib.hid (fun W hb => number_any (some ⟨b, off, none⟩) n cap i i zs W rfl (Bytes.below hz (Nat.le_refl _) hb) hn hl (by omega))
  have HQU := Lib.hid (fun W hb => quoted_any (some ⟨b, off, none⟩) n cap i i zs W rfl (Tabs.below hT (Nat.le_refl _) hb) (Bytes.below hz (Nat.le_refl _) hb) hn hl hi hcap)
  have HN := Lib.hid hn
  have H1 := Lib.hid h1
  have H2 := Lib.hid h2
  have H3 := Lib.hid h3
  have H5 : Hid (quoVal zs i = .tuple #[.int .i64 0, .bool false]) := if_pos h5
  clear h5
  clear hz hn hT hk h1 h2 h3
  have t0 : ((i : Int) == (n : Int)) = false := by simp; omega
  go_enter Tryz.func92, Tryz.ntmps92
  go_wp2_with fail
  refine (letter_any _).mono ?_
  rintro e W1 ⟨v1, rfl, hb1, hk1⟩
  have HK1 := Lib.hid hk1
  have HG1 := Lib.hid ((resBlk_new w).later hb1)
  have HB1 := Lib.hid (((Below.refl _ _).alloc (Nat.le_refl _) _).trans (hb1.mono (by simp)))
  clear hk1 hb1
  go_wp2_with fail
  refine (HR.out i _ v1 isLet W1 rfl HB1.out HK1.out).mono ?_
  rintro e W2 ⟨rfl, hb2⟩
  have HG2 := Lib.hid (HG1.out.later hb2)
  have HB2 := Lib.hid (HB1.out.trans (hb2.mono HB1.out.size))
  clear hb2
  rw [H1.out]
  go_wp2_with fail
  refine (HBG.out W2 HB2.out).mono ?_
  rintro e W3 ⟨rfl, hb3⟩
  have HG3 := Lib.hid (HG2.out.later hb3)
  have HB3 := Lib.hid (HB2.out.trans (hb3.mono HB2.out.size))
  clear hb3
  rw [H2.out]
  go_wp2_with fail
  refine (quote_any _).mono ?_
  rintro e W4 ⟨v4, rfl, hb4, hk4⟩
  have HK4 := Lib.hid hk4
  have HG4 := Lib.hid (HG3.out.later hb4)
  have HB4 := Lib.hid (HB3.out.trans (hb4.mono HB3.out.size))
  clear hk4 hb4
  go_wp2_with fail
  refine (HR.out i _ v4 (isC 34) W4 rfl HB4.out HK4.out).mono ?_
  rintro e W5 ⟨rfl, hb5⟩
  have HG5 := Lib.hid (HG4.out.later hb5)
  have HB5 := Lib.hid (HB4.out.trans (hb5.mono HB4.out.size))
  clear hb5
  rw [H3.out]
  go_wp2_with fail
  refine (HQU.out W5 HB5.out).mono ?_
  rintro e W6 ⟨rfl, hb6⟩
  have HG6 := Lib.hid (HG5.out.later hb6)
  have HB6 := Lib.hid (HB5.out.trans (hb6.mono HB5.out.size))
  clear hb6
  rw [H5.out]
  obtain ⟨g0, g1, g2, f0, f1, f2⟩ := HG6.out.facts
  go_wp2
  exact bodyPost_ret (v := .tuple #[.agg #[.int .i64 0, .string ⟨#[]⟩, .int .i64 0], .int .i64 0, .bool false]) (by simp [results, Tryz.results92, go_sem, g0, g1, g2]) rfl ⟨rfl, ((HB6.out.setCell (Nat.le_refl _) _).setCell (Nat.le_refl _) _).setCell (Nat.le_refl _) _⟩
set_option maxHeartbeats 800000 in
theorem token_quo_good (b off n cap i : Nat) (x : Int) (v : Value) (sg : Int → Bool) (zs : List Int) (w : World) (hx : x = i) (hT : Tabs w) (hz : Bytes w (some ⟨b, off, none⟩) zs) (hn : zs.length = n) (hl : n ≤ 281474976710656) (hi : i < n) (hcap : n ≤ cap) (hk : KindV w v sg) (h1 : stA zs isLet i = false) (h2 : begins zs i = false) (h3 : stA zs (isC 34) i = true) (h5 : quoBad okU zs i = false) :
    Calls Tryz.prog 92 #[.slice (some ⟨b, off, none⟩) n cap, .int .i64 x, v] w fun e w' => e = .returned (tokVal (some (⟨3, sub zs (i + 1) (quoEnd zs i), i⟩, quoEnd zs i + 1))) ∧ Below w.heap.size w w' := by
  subst hx
  have HKS := Lib.hid hk
  have HR := Lib.hid (fun (j : Nat) (y : Int) v k W hy hb hk => stands_any (some ⟨b, off, none⟩) n cap j y zs v k W hy (Bytes.below hz (Nat.le_refl _) hb) hn hk hl)
  have HS := Lib.hid (fun c a j m t d W hb hij hj ha hm ht hd => sub_str b off c n a j m t d zs W (Bytes.below hz (Nat.le_refl _) hb) hn hij hj ha hm ht hd)
  have HBG := Lib.hid (fun W hb => begins_any (some ⟨b, off, none⟩) n cap i i zs W rfl (Bytes.below hz (Nat.le_refl _) hb) hn hl (by omega))
  have HNU := Lib.hid (fun W hb => number_any (some ⟨b, off, none⟩) n cap i i zs W rfl (Bytes.below hz (Nat.le_refl _) hb) hn hl (by omega))
  have HQU := Lib.hid (fun W hb => quoted_any (some ⟨b, off, none⟩) n cap i i zs W rfl (Tabs.below hT (Nat.le_refl _) hb) (Bytes.below hz (Nat.le_refl _) hb) hn hl hi hcap)
  have HN := Lib.hid hn
  have H1 := Lib.hid h1
  have H2 := Lib.hid h2
  have H3 := Lib.hid h3
  have H5 : Hid (quoVal zs i = .tuple #[.int .i64 (quoEnd zs i + 1 : Nat), .bool true]) := if_neg (by rw [h5]; decide)
  have hlo : i + 1 ≤ quoEnd zs i := runTo_ge zs isPlain (i + 1)
  have hup := quoGood_lt h5
  rw [hn] at hup
  generalize quoEnd zs i = E at hlo hup H5 ⊢
  clear h5
  clear hz hn hT hk h1 h2 h3
  have t0 : ((i : Int) == (n : Int)) = false := by simp; omega
  go_enter Tryz.func92, Tryz.ntmps92
  go_wp2_with fail
  refine (letter_any _).mono ?_
  rintro e W1 ⟨v1, rfl, hb1, hk1⟩
  have HK1 := Lib.hid hk1
  have HG1 := Lib.hid ((resBlk_new w).later hb1)
  have HB1 := Lib.hid (((Below.refl _ _).alloc (Nat.le_refl _) _).trans (hb1.mono (by simp)))
  clear hk1 hb1
  go_wp2_with fail
  refine (HR.out i _ v1 isLet W1 rfl HB1.out HK1.out).mono ?_
  rintro e W2 ⟨rfl, hb2⟩
  have HG2 := Lib.hid (HG1.out.later hb2)
  have HB2 := Lib.hid (HB1.out.trans (hb2.mono HB1.out.size))
  clear hb2
  rw [H1.out]
  go_wp2_with fail
  refine (HBG.out W2 HB2.out).mono ?_
  rintro e W3 ⟨rfl, hb3⟩
  have HG3 := Lib.hid (HG2.out.later hb3)
  have HB3 := Lib.hid (HB2.out.trans (hb3.mono HB2.out.size))
  clear hb3
  rw [H2.out]
  go_wp2_with fail
  refine (quote_any _).mono ?_
  rintro e W4 ⟨v4, rfl, hb4, hk4⟩
  have HK4 := Lib.hid hk4
  have HG4 := Lib.hid (HG3.out.later hb4)
  have HB4 := Lib.hid (HB3.out.trans (hb4.mono HB3.out.size))
  clear hk4 hb4
  go_wp2_with fail
  refine (HR.out i _ v4 (isC 34) W4 rfl HB4.out HK4.out).mono ?_
  rintro e W5 ⟨rfl, hb5⟩
  have HG5 := Lib.hid (HG4.out.later hb5)
  have HB5 := Lib.hid (HB4.out.trans (hb5.mono HB4.out.size))
  clear hb5
  rw [H3.out]
  go_wp2_with fail
  refine (HQU.out W5 HB5.out).mono ?_
  rintro e W6 ⟨rfl, hb6⟩
  have HG6 := Lib.hid (HG5.out.later hb6)
  have HB6 := Lib.hid (HB5.out.trans (hb6.mono HB5.out.size))
  clear hb6
  rw [H5.out]
  have kc := HS.out (cap - (i + 1)) (i + 1) E (E - (i + 1)) 24 9 W6 HB6.out hlo (by omega) (by omega) rfl rfl rfl
  have hci : ¬ cap = i + 1 := by omega
  obtain ⟨g0, g1, g2, f0, f1, f2⟩ := HG6.out.facts
  go_wp2
  exact bodyPost_ret (v := .tuple #[.agg #[.int .i64 3, .string (strOfNums (sub zs (i + 1) E)), .int .i64 i], .int .i64 (E + 1 : Nat), .bool true]) (by simp [results, Tryz.results92, go_sem, g0, g1, g2]) rfl ⟨rfl, ((HB6.out.setCell (Nat.le_refl _) _).setCell (Nat.le_refl _) _).setCell (Nat.le_refl _) _⟩
set_option maxHeartbeats 800000 in
theorem token_sign (b off n cap i : Nat) (x : Int) (v : Value) (sg : Int → Bool) (zs : List Int) (w : World) (hx : x = i) (hT : Tabs w) (hz : Bytes w (some ⟨b, off, none⟩) zs) (hn : zs.length = n) (hl : n ≤ 281474976710656) (hi : i < n) (hcap : n ≤ cap) (hk : KindV w v sg) (h1 : stA zs isLet i = false) (h2 : begins zs i = false) (h3 : stA zs (isC 34) i = false) (h4 : stA zs sg i = true) :
    Calls Tryz.prog 92 #[.slice (some ⟨b, off, none⟩) n cap, .int .i64 x, v] w fun e w' => e = .returned (tokVal (some (⟨4, sub zs i (i + 1), i⟩, i + 1))) ∧ Below w.heap.size w w' := by
  subst hx
  have HKS := Lib.hid hk
  have HR := Lib.hid (fun (j : Nat) (y : Int) v k W hy hb hk => stands_any (some ⟨b, off, none⟩) n cap j y zs v k W hy (Bytes.below hz (Nat.le_refl _) hb) hn hk hl)
  have HS := Lib.hid (fun c a j m t d W hb hij hj ha hm ht hd => sub_str b off c n a j m t d zs W (Bytes.below hz (Nat.le_refl _) hb) hn hij hj ha hm ht hd)
  have HBG := Lib.hid (fun W hb => begins_any (some ⟨b, off, none⟩) n cap i i zs W rfl (Bytes.below hz (Nat.le_refl _) hb) hn hl (by omega))
  have HNU := Lib.hid (fun W hb => number_any (some ⟨b, off, none⟩) n cap i i zs W rfl (Bytes.below hz (Nat.le_refl _) hb) hn hl (by omega))
  have HQU := Lib.hid (fun W hb => quoted_any (some ⟨b, off, none⟩) n cap i i zs W rfl (Tabs.below hT (Nat.le_refl _) hb) (Bytes.below hz (Nat.le_refl _) hb) hn hl hi hcap)
  have HN := Lib.hid hn
  have H1 := Lib.hid h1
  have H2 := Lib.hid h2
  have H3 := Lib.hid h3
  have H4 := Lib.hid h4
  clear hz hn hT hk h1 h2 h3 h4
  have t0 : ((i : Int) == (n : Int)) = false := by simp; omega
  go_enter Tryz.func92, Tryz.ntmps92
  go_wp2_with fail
  refine (letter_any _).mono ?_
  rintro e W1 ⟨v1, rfl, hb1, hk1⟩
  have HK1 := Lib.hid hk1
  have HG1 := Lib.hid ((resBlk_new w).later hb1)
  have HB1 := Lib.hid (((Below.refl _ _).alloc (Nat.le_refl _) _).trans (hb1.mono (by simp)))
  clear hk1 hb1
  go_wp2_with fail
  refine (HR.out i _ v1 isLet W1 rfl HB1.out HK1.out).mono ?_
  rintro e W2 ⟨rfl, hb2⟩
  have HG2 := Lib.hid (HG1.out.later hb2)
  have HB2 := Lib.hid (HB1.out.trans (hb2.mono HB1.out.size))
  clear hb2
  rw [H1.out]
  go_wp2_with fail
  refine (HBG.out W2 HB2.out).mono ?_
  rintro e W3 ⟨rfl, hb3⟩
  have HG3 := Lib.hid (HG2.out.later hb3)
  have HB3 := Lib.hid (HB2.out.trans (hb3.mono HB2.out.size))
  clear hb3
  rw [H2.out]
  go_wp2_with fail
  refine (quote_any _).mono ?_
  rintro e W4 ⟨v4, rfl, hb4, hk4⟩
  have HK4 := Lib.hid hk4
  have HG4 := Lib.hid (HG3.out.later hb4)
  have HB4 := Lib.hid (HB3.out.trans (hb4.mono HB3.out.size))
  clear hk4 hb4
  go_wp2_with fail
  refine (HR.out i _ v4 (isC 34) W4 rfl HB4.out HK4.out).mono ?_
  rintro e W5 ⟨rfl, hb5⟩
  have HG5 := Lib.hid (HG4.out.later hb5)
  have HB5 := Lib.hid (HB4.out.trans (hb5.mono HB4.out.size))
  clear hb5
  rw [H3.out]
  go_wp2_with fail
  refine (HR.out i _ v sg W5 rfl HB5.out (HKS.out.later HB5.out)).mono ?_
  rintro e W6 ⟨rfl, hb6⟩
  have HG6 := Lib.hid (HG5.out.later hb6)
  have HB6 := Lib.hid (HB5.out.trans (hb6.mono HB5.out.size))
  clear hb6
  rw [H4.out]
  have kc := HS.out (cap - i) i (i + 1) 1 24 9 W6 HB6.out (by omega) (by omega) hi (by omega) rfl rfl
  have hci : ¬ cap = i := by omega
  obtain ⟨g0, g1, g2, f0, f1, f2⟩ := HG6.out.facts
  go_wp2
  exact bodyPost_ret (v := .tuple #[.agg #[.int .i64 4, .string (strOfNums (sub zs i (i + 1))), .int .i64 i], .int .i64 (i + 1 : Nat), .bool true]) (by simp [results, Tryz.results92, go_sem, g0, g1, g2]) rfl ⟨rfl, ((HB6.out.setCell (Nat.le_refl _) _).setCell (Nat.le_refl _) _).setCell (Nat.le_refl _) _⟩
set_option maxHeartbeats 800000 in
theorem token_none (b off n cap i : Nat) (x : Int) (v : Value) (sg : Int → Bool) (zs : List Int) (w : World) (hx : x = i) (hT : Tabs w) (hz : Bytes w (some ⟨b, off, none⟩) zs) (hn : zs.length = n) (hl : n ≤ 281474976710656) (hi : i < n) (hcap : n ≤ cap) (hk : KindV w v sg) (h1 : stA zs isLet i = false) (h2 : begins zs i = false) (h3 : stA zs (isC 34) i = false) (h4 : stA zs sg i = false) :
    Calls Tryz.prog 92 #[.slice (some ⟨b, off, none⟩) n cap, .int .i64 x, v] w fun e w' => e = .returned (tokVal (none)) ∧ Below w.heap.size w w' := by
  subst hx
  have HKS := Lib.hid hk
  have HR := Lib.hid (fun (j : Nat) (y : Int) v k W hy hb hk => stands_any (some ⟨b, off, none⟩) n cap j y zs v k W hy (Bytes.below hz (Nat.le_refl _) hb) hn hk hl)
  have HS := Lib.hid (fun c a j m t d W hb hij hj ha hm ht hd => sub_str b off c n a j m t d zs W (Bytes.below hz (Nat.le_refl _) hb) hn hij hj ha hm ht hd)
  have HBG := Lib.hid (fun W hb => begins_any (some ⟨b, off, none⟩) n cap i i zs W rfl (Bytes.below hz (Nat.le_refl _) hb) hn hl (by omega))
  have HNU := Lib.hid (fun W hb => number_any (some ⟨b, off, none⟩) n cap i i zs W rfl (Bytes.below hz (Nat.le_refl _) hb) hn hl (by omega))
  have HQU := Lib.hid (fun W hb => quoted_any (some ⟨b, off, none⟩) n cap i i zs W rfl (Tabs.below hT (Nat.le_refl _) hb) (Bytes.below hz (Nat.le_refl _) hb) hn hl hi hcap)
  have HN := Lib.hid hn
  have H1 := Lib.hid h1
  have H2 := Lib.hid h2
  have H3 := Lib.hid h3
  have H4 := Lib.hid h4
  clear hz hn hT hk h1 h2 h3 h4
  have t0 : ((i : Int) == (n : Int)) = false := by simp; omega
  go_enter Tryz.func92, Tryz.ntmps92
  go_wp2_with fail
  refine (letter_any _).mono ?_
  rintro e W1 ⟨v1, rfl, hb1, hk1⟩
  have HK1 := Lib.hid hk1
  have HG1 := Lib.hid ((resBlk_new w).later hb1)
  have HB1 := Lib.hid (((Below.refl _ _).alloc (Nat.le_refl _) _).trans (hb1.mono (by simp)))
  clear hk1 hb1
  go_wp2_with fail
  refine (HR.out i _ v1 isLet W1 rfl HB1.out HK1.out).mono ?_
  rintro e W2 ⟨rfl, hb2⟩
  have HG2 := Lib.hid (HG1.out.later hb2)
  have HB2 := Lib.hid (HB1.out.trans (hb2.mono HB1.out.size))
  clear hb2
  rw [H1.out]
  go_wp2_with fail
  refine (HBG.out W2 HB2.out).mono ?_
  rintro e W3 ⟨rfl, hb3⟩
  have HG3 := Lib.hid (HG2.out.later hb3)
  have HB3 := Lib.hid (HB2.out.trans (hb3.mono HB2.out.size))
  clear hb3
  rw [H2.out]
  go_wp2_with fail
  refine (quote_any _).mono ?_
  rintro e W4 ⟨v4, rfl, hb4, hk4⟩
  have HK4 := Lib.hid hk4
  have HG4 := Lib.hid (HG3.out.later hb4)
  have HB4 := Lib.hid (HB3.out.trans (hb4.mono HB3.out.size))
  clear hk4 hb4
  go_wp2_with fail
  refine (HR.out i _ v4 (isC 34) W4 rfl HB4.out HK4.out).mono ?_
  rintro e W5 ⟨rfl, hb5⟩
  have HG5 := Lib.hid (HG4.out.later hb5)
  have HB5 := Lib.hid (HB4.out.trans (hb5.mono HB4.out.size))
  clear hb5
  rw [H3.out]
  go_wp2_with fail
  refine (HR.out i _ v sg W5 rfl HB5.out (HKS.out.later HB5.out)).mono ?_
  rintro e W6 ⟨rfl, hb6⟩
  have HG6 := Lib.hid (HG5.out.later hb6)
  have HB6 := Lib.hid (HB5.out.trans (hb6.mono HB5.out.size))
  clear hb6
  rw [H4.out]
  obtain ⟨g0, g1, g2, f0, f1, f2⟩ := HG6.out.facts
  go_wp2
  exact bodyPost_ret (v := .tuple #[.agg #[.int .i64 0, .string ⟨#[]⟩, .int .i64 0], .int .i64 0, .bool false]) (by simp [results, Tryz.results92, go_sem, g0, g1, g2]) rfl ⟨rfl, ((HB6.out.setCell (Nat.le_refl _) _).setCell (Nat.le_refl _) _).setCell (Nat.le_refl _) _⟩
end Go.Proofs.YtleclhnlojalbaaGreatDoor
namespace Go.Proofs.YtleclhnlojalbaaGreatDoor
open Go.ChangeShapes Go.WideShapes Go.ChangeAt Go.RowKit Go.Shelf

theorem token_any (p : Option Addr) (n cap i : Nat) (x : Int) (v : Value) (sg : Int → Bool) (zs : List Int) (w : World) (hx : x = i) (hT : Tabs w) (hz : Bytes w p zs) (hn : zs.length = n) (hl : n ≤ 281474976710656) (hi : i ≤ n) (hcap : n ≤ cap) (hk : KindV w v sg) :
    Calls Tryz.prog 92 #[.slice p n cap, .int .i64 x, v] w fun e w' => e = .returned (tokVal (tok okU sg zs i)) ∧ Below w.heap.size w w' := by
  by_cases he : i = n
  · rw [tok_end (show i = zs.length by omega)]
    exact token_end p n cap i x v w hx he
  have hi' : i < n := by omega
  have hiz : i < zs.length := by omega
  obtain ⟨b, off, rfl, _, _⟩ := hz.2 (by rintro rfl; simp at hiz)
  cases h1 : stA zs isLet i
  rotate_left
  · rw [tok_name hiz h1]
    exact token_name b off n cap i x v zs w hx hz hn hl hi' hcap h1
  cases h2 : begins zs i
  rotate_left
  · rw [tok_num hiz h1 h2]
    cases h5 : numBad zs i
    · rw [if_neg (by decide)]
      exact token_num_good b off n cap i x v sg zs w hx hT hz hn hl hi' hcap hk h1 h2 h5
    · rw [if_pos rfl]
      exact token_num_bad b off n cap i x v sg zs w hx hT hz hn hl hi' hcap hk h1 h2 h5
  cases h3 : stA zs (isC 34) i
  rotate_left
  · rw [tok_quo hiz h1 h2 h3]
    cases h5 : quoBad okU zs i
    · rw [if_neg (by decide)]
      exact token_quo_good b off n cap i x v sg zs w hx hT hz hn hl hi' hcap hk h1 h2 h3 h5
    · rw [if_pos rfl]
      exact token_quo_bad b off n cap i x v sg zs w hx hT hz hn hl hi' hcap hk h1 h2 h3 h5
  cases h4 : stA zs sg i
  · rw [tok_none hiz h1 h2 h3 h4]
    exact token_none b off n cap i x v sg zs w hx hT hz hn hl hi' hcap hk h1 h2 h3 h4
  · rw [tok_sign hiz h1 h2 h3 h4]
    exact token_sign b off n cap i x v sg zs w hx hT hz hn hl hi' hcap hk h1 h2 h3 h4
end Go.Proofs.YtleclhnlojalbaaGreatDoor
namespace Go.Proofs.YtleclhnlojalbaaGreatDoor
open Go.ChangeShapes Go.WideShapes Go.ChangeAt Go.RowKit Go.Shelf

theorem bytes_of_bytesWorld (w : World) (s : ByteArray) : Bytes (Lib.bytesWorld w 5 s) (some ⟨w.heap.size, 0, none⟩) (bts s) := by
  refine ⟨bts_bd s, fun _ => ⟨w.heap.size, 0, rfl, by rw [Lib.bytesWorld_size]; omega, fun i hi => ?_⟩⟩
  rw [bts_length] at hi
  rw [Nat.zero_add, Lib.bytesWorld_cell w _ s i hi]
  simp [bts, List.getD, hi]
theorem lexTokens_long (s sg : ByteArray) (w : World) (hs : s.size ≤ 9223372036854775807) (h : 8192 < s.size) :
    Calls Tryz.prog 68 #[.string s, .string sg] w fun e w' => e = .returned (.tuple #[.slice none 0 0, .agg #[.int .i64 16, .int .i64 8192]]) ∧ Below w.heap.size w w' := by
  go_enter Tryz.func68, Tryz.ntmps68
  go_wp2
  exact bodyPost_ret (v := .tuple #[.slice none 0 0, .agg #[.int .i64 16, .int .i64 8192]]) (by simp [results, Tryz.results68, go_sem]) rfl ⟨rfl, (Below.refl _ _).alloc (Nat.le_refl _) _⟩
def lexFrom (s sg : ByteArray) (j : Nat) (l : List Tok) : List Tok × Int × Nat := toksF okU (amg sg) (bts s) (2049 - l.length) j l
def LexPost (base : Nat) (w : World) (r : List Tok × Int × Nat) (e : Ending) (w' : World) : Prop :=
  ∃ v, e = .returned (.tuple #[v, .agg #[.int .i64 r.2.1, .int .i64 (r.2.2 : Nat)]]) ∧ OwnT w' base v r.1 ∧ Below base w w'
def FltBlk (g : Nat) (W : World) : Prop := W.heap[g]? = some (.cells #[.int .i64 0, .int .i64 0] 43 (0, 0))
theorem FltBlk.facts {g : Nat} {W : World} (h : FltBlk g W) : W.cell? ⟨g, 0, none⟩ = some (.int .i64 0) ∧ W.cell? ⟨g, 1, none⟩ = some (.int .i64 0) ∧ W.frozen? ⟨g, 0, none⟩ = false ∧ W.frozen? ⟨g, 1, none⟩ = false := by
  refine ⟨?_, ?_, ?_, ?_⟩
  · rw [cell_of_row W g 0 _ _ (0, 0) h]; rfl
  · rw [cell_of_row W g 1 _ _ (0, 0) h]; rfl
  · simp [World.frozen?, show W.heap[g]? = _ from h]
  · simp [World.frozen?, show W.heap[g]? = _ from h]
theorem FltBlk.below {g B : Nat} {W W' : World} (h : FltBlk g W) (hb : Below B W W') (hg : g < B) : FltBlk g W' := (hb.block g hg).trans h
theorem FltBlk.put {g : Nat} {W : World} (h : FltBlk g W) (hg : g < W.heap.size) (x y : Value) (o : Obj) :
    ((((W.setCell ⟨g, 0, none⟩ x).setCell ⟨g, 1, none⟩ y).alloc o).cell? ⟨g, 0, none⟩ = some x) ∧ ((((W.setCell ⟨g, 0, none⟩ x).setCell ⟨g, 1, none⟩ y).alloc o).cell? ⟨g, 1, none⟩ = some y) := by
  obtain ⟨g0, g1, _, _⟩ := h.facts
  constructor
  · rw [World.cell?_alloc_lt _ _ _ (by simpa [World.setCell] using hg)]
    simp [g0, go_sem]
  · rw [World.cell?_alloc_lt _ _ _ (by simpa [World.setCell] using hg)]
    simp [g1, go_sem]
theorem lexPost_end {base B : Nat} {w w' : World} {r : List Tok × Int × Nat} {v : Value} {l : List Tok} (hr : r = (l, 0, 0)) (ho : OwnT w' B v l) (hB : base ≤ B) (hb : Below base w w') : LexPost base w r (.returned (.tuple #[v, .agg #[.int .i64 0, .int .i64 0]])) w' := by
  subst hr
  exact ⟨_, rfl, ho.base_le hB, hb⟩
theorem lexPost_fault {base : Nat} {w w' : World} {r : List Tok × Int × Nat} {code : Int} {j : Nat} (hr : r = ([], code, j)) (hb : Below base w w') : LexPost base w r (.returned (.tuple #[.slice none 0 0, .agg #[.int .i64 code, .int .i64 (j : Nat)]])) w' := by
  subst hr
  exact ⟨_, rfl, ownT_nil _ _, hb⟩
theorem below_bytesWorld {B : Nat} {w W : World} (h : Below B w W) (hB : B ≤ W.heap.size) (e : TypeId) (s : ByteArray) : Below B w (Lib.bytesWorld W e s) := h.trans ((Lib.bytesWorld_below W e s).mono hB)
theorem lexFrom_many {s sg : ByteArray} {j : Nat} {l : List Tok} (h : l.length = 2048) : lexFrom s sg j l = ([], 16, gap (bts s) j) := by
  unfold lexFrom
  rw [h]
  simp only [toksF]
  rw [if_pos h]
theorem lexFrom_step {s sg : ByteArray} {j : Nat} {l : List Tok} (h : l.length < 2048) : lexFrom s sg j l =
    match tok okU (amg sg) (bts s) (gap (bts s) j) with
    | none => ([], 10, gap (bts s) j)
    | some (t, e) => if t.kind = 0 then (l ++ [t], 0, 0) else lexFrom s sg e (l ++ [t]) := by
  unfold lexFrom
  rw [show 2049 - l.length = (2048 - l.length) + 1 from by omega]
  simp only [toksF]
  rw [if_neg (by omega)]
  simp only [List.length_append, List.length_singleton]
  rw [show 2049 - (l.length + 1) = 2048 - l.length from by omega]
  rfl
set_option maxHeartbeats 800000 in
set_option maxRecDepth 100000 in
theorem lexTokens_short (s sg : ByteArray) (w : World) (hT : Tabs w) (h : s.size ≤ 8192) :
    Calls Tryz.prog 68 #[.string s, .string sg] w (LexPost w.heap.size w (lexFrom s sg 0 [])) := by
  have kc := fun W => Lib.run_convert_string_bytes (P := Tryz.prog) W 9 24 5 s Tryz.underlying9 Tryz.underlying24 Tryz.underlying5
  have hd : decide ((8192 : Int) < (s.size : Int)) = false := by simp; omega
  go_enter Tryz.func68, Tryz.ntmps68
  go_wp2
  have hcap := grownCap_ge (w.alloc (.cells #[.int .i64 0, .int .i64 0] 43)) s.size 0 5
  have hb0 : Below w.heap.size w (Lib.bytesWorld (w.alloc (.cells #[.int .i64 0, .int .i64 0] 43)) 5 s) := below_bytesWorld ((Below.refl _ _).alloc (Nat.le_refl _) _) (by simp) _ _
  have hz0 := bytes_of_bytesWorld (w.alloc (.cells #[.int .i64 0, .int .i64 0] 43)) s
  have hf0 : FltBlk w.heap.size (Lib.bytesWorld (w.alloc (.cells #[.int .i64 0, .int .i64 0] 43)) 5 s) := by
    unfold FltBlk
    rw [Lib.bytesWorld_at_old _ _ _ _ (by simp)]
    exact heap_alloc_new w _
  have hsz : w.heap.size < (Lib.bytesWorld (w.alloc (.cells #[.int .i64 0, .int .i64 0] 43)) 5 s).heap.size := by rw [Lib.bytesWorld_size]; simp; omega
  simp only [World.size_alloc] at hz0
  generalize grownCap (w.alloc (.cells #[.int .i64 0, .int .i64 0] 43)) s.size 0 5 = cap at hcap ⊢
  generalize Lib.bytesWorld (w.alloc (.cells #[.int .i64 0, .int .i64 0] 43)) 5 s = W0 at hb0 hz0 hf0 hsz ⊢
  have HB0 := Lib.hid hb0
  have HF0 := Lib.hid hf0
  have HGAP := Lib.hid (fun j W (hb : Below W0.heap.size W0 W) hj => gap_any (some ⟨w.heap.size + 1, 0, none⟩) s.size cap j j (bts s) W rfl (hz0.below (Nat.le_refl _) hb) (bts_length s) hcap (by omega) hj)
  have HTOK := Lib.hid (fun j v W (hb : Below W0.heap.size W0 W) hj hk => token_any (some ⟨w.heap.size + 1, 0, none⟩) s.size cap j j v (amg sg) (bts s) W rfl (Tabs.below hT (Nat.le_refl _) (hb0.trans (hb.mono hb0.size))) (hz0.below (Nat.le_refl _) hb) (bts_length s) (by omega) hj hcap hk)
  clear hb0 hf0 hz0 kc hT hcap hd
  go_loopw [7, 8] (fun lv at' wr => Below W0.heap.size W0 wr ∧ ∃ (j : Nat) (l : List Tok), j ≤ s.size ∧ at' = .int .i64 j ∧ OwnT wr W0.heap.size lv l ∧ l.length ≤ 2048 ∧ lexFrom s sg 0 [] = lexFrom s sg j l) (fun lv _ _ => 2048 - lenOf lv)
  case atStart => exact ⟨Below.refl _ _, 0, [], Nat.zero_le _, rfl, ownT_nil _ _, by decide, rfl⟩
  case round =>
    obtain ⟨hb, j, l, hj, rfl, ho, hll, hr⟩ := hrel
    obtain ⟨a, c, rfl⟩ := ho.form
    have HB := Lib.hid hb
    have HJ := Lib.hid hr
    have HO := Lib.hid ho
    have hg1 := gap_le (bts s) j (by rw [bts_length]; exact hj)
    rw [bts_length] at hg1
    clear hb hr ho
    by_cases h2 : l.length = 2048
    · have HM := Lib.hid (lexFrom_many (s := s) (sg := sg) (j := j) h2)
      have HL := Lib.hid h2
      go_wp2_with fail
      refine (HGAP.out j _ HB.out hj).mono ?_
      rintro e W1 ⟨rfl, hb1⟩
      have HB1 := Lib.hid (HB.out.trans (hb1.mono HB.out.size))
      clear hb1
      obtain ⟨g0, g1, f0, f1⟩ := (HF0.out.below HB1.out hsz).facts
      have t2 : ((l.length : Int) == 2048) = true := by simp; omega
      clear h2
      go_wp2
      exact bodyPost_ret (v := .tuple #[.slice none 0 0, .agg #[.int .i64 16, .int .i64 (gap (bts s) j : Nat)]]) (by simp [results, Tryz.results68, go_sem, g0, g1]) rfl
        (lexPost_fault (HJ.out.trans HM.out) (((HB0.out.trans (HB1.out.mono HB0.out.size)).setCell (Nat.le_refl _) _).setCell (Nat.le_refl _) _))
    · have HM := Lib.hid (lexFrom_step (s := s) (sg := sg) (j := j) (l := l) (by omega))
      have t2 : ((l.length : Int) == 2048) = false := by simp; omega
      go_wp2_with fail
      refine (HGAP.out j _ HB.out hj).mono ?_
      rintro e W1 ⟨rfl, hb1⟩
      have HB1 := Lib.hid (HB.out.trans (hb1.mono HB.out.size))
      have HO1 := Lib.hid (HO.out.below hb1 (Nat.le_refl _))
      clear hb1
      generalize gap (bts s) j = k at hg1 HM ⊢
      go_wp2_with fail
      refine (among_any sg _).mono ?_
      rintro e W2 ⟨v2, rfl, hb2, hk2⟩
      have HK2 := Lib.hid hk2
      have HB2 := Lib.hid (HB1.out.trans (hb2.mono HB1.out.size))
      have HO2 := Lib.hid (HO1.out.below hb2 (Nat.le_refl _))
      clear hb2 hk2
      go_wp2_with fail
      refine (HTOK.out k v2 _ HB2.out hg1 HK2.out).mono ?_
      rintro e W3 ⟨rfl, hb3⟩
      have HB3 := Lib.hid (HB2.out.trans (hb3.mono HB2.out.size))
      have HO3 := Lib.hid (HO2.out.below hb3 (Nat.le_refl _))
      clear hb3
      generalize hq : tok okU (amg sg) (bts s) k = q at HM ⊢
      obtain _ | ⟨t, e2⟩ := q
      · clear hq
        obtain ⟨g0, g1, f0, f1⟩ := (HF0.out.below HB3.out hsz).facts
        have hs3 : w.heap.size < W3.heap.size := Nat.lt_of_lt_of_le hsz HB3.out.size
        simp only [tokVal]
        go_wp2
        obtain ⟨r0, r1⟩ := (HF0.out.below HB3.out hsz).put hs3 (.int .i64 10) (.int .i64 (k : Nat)) (.cells #[.int .i64 0, .string ByteArray.empty, .int .i64 0] 109)
        exact bodyPost_ret (v := .tuple #[.slice none 0 0, .agg #[.int .i64 10, .int .i64 (k : Nat)]]) (by simp [results, Tryz.results68, go_sem, r0, r1]) rfl
          (lexPost_fault (HJ.out.trans HM.out) (((((HB0.out.trans (HB3.out.mono HB0.out.size)).setCell (Nat.le_refl _) _).setCell (Nat.le_refl _) _)).alloc (by simpa [World.setCell] using Nat.le_of_lt hs3) _))
      · have HQ := Lib.hid hq
        have he2 := tok_le (by rw [bts_length]; exact hg1) hq
        rw [bts_length] at he2
        obtain ⟨i0, hi0, hz0, hz1, hz2⟩ := info_parts tok_info
        have I1 := Lib.hid hi0
        have I2 := Lib.hid hz0
        have I3 := Lib.hid hz1
        have I4 := Lib.hid hz2
        have hs3 : w.heap.size < W3.heap.size := Nat.lt_of_lt_of_le hsz HB3.out.size
        clear hq hi0 hz0 hz1 hz2
        simp only [tokVal]
        by_cases hkd : t.kind = 0
        · have tk : (t.kind == 0) = true := by simp [hkd]
          have HE := Lib.hid (HM.out.trans (if_pos hkd))
          clear hkd
          go_wp2_with (at_builtin; refine wpList_append_own _ rfl (.tmp 39) (.tmp 41) 67 rfl W0.heap.size 109 i0 _ 3 32 Tryz.underlying67 I1.out I2.out I3.out I4.out rfl (by decide) _ l.length (toksCells l) rfl (HO3.out.below (((Below.refl W3.heap.size W3).alloc (Nat.le_refl _) _).alloc (by simp) _) (Nat.le_refl _)) ⟨W3.heap.size + 1, 0, none⟩ 1 1 (tokCells t) rfl rfl (tokCells_new _ t _ (by simp)) (tokCells_one t) (by unfold maxLen; omega) (by omega) (by have := HB3.out.size; simp; omega) ?_; intro v4 W4 hown4 hg4 hx; clear hx; obtain ⟨kk, hb4⟩ := grown_new HO3.out HB3.out hg4; obtain ⟨g0, g1, f0, f1⟩ := (HF0.out.below hb4 hsz).facts; have HB4 := Lib.hid hb4; have HO4 := Lib.hid (OwnT.snoc hown4); clear hown4 hg4 hb4)
          exact bodyPost_ret (v := .tuple #[v4, .agg #[.int .i64 0, .int .i64 0]]) (by simp [results, Tryz.results68, go_sem, g0, g1]) rfl
            (lexPost_end (HJ.out.trans HE.out) ((HO4.out.setFar hsz _).setFar hsz _) HB0.out.size (((HB0.out.trans (HB4.out.mono HB0.out.size)).setCell (Nat.le_refl _) _).setCell (Nat.le_refl _) _))
        · have tk : (t.kind == 0) = false := by simp [hkd]
          have HE := Lib.hid (HM.out.trans (if_neg hkd))
          clear hkd
          go_wp2_with (at_builtin; refine wpList_append_own _ rfl (.tmp 39) (.tmp 41) 67 rfl W0.heap.size 109 i0 _ 3 32 Tryz.underlying67 I1.out I2.out I3.out I4.out rfl (by decide) _ l.length (toksCells l) rfl (HO3.out.below (((Below.refl W3.heap.size W3).alloc (Nat.le_refl _) _).alloc (by simp) _) (Nat.le_refl _)) ⟨W3.heap.size + 1, 0, none⟩ 1 1 (tokCells t) rfl rfl (tokCells_new _ t _ (by simp)) (tokCells_one t) (by unfold maxLen; omega) (by omega) (by have := HB3.out.size; simp; omega) ?_; intro v4 W4 hown4 hg4 hx; clear hx; obtain ⟨kk, hb4⟩ := grown_new HO3.out HB3.out hg4; obtain ⟨g0, g1, f0, f1⟩ := (HF0.out.below hb4 hsz).facts; have HB4 := Lib.hid hb4; have HO4 := Lib.hid (OwnT.snoc hown4); clear hown4 hg4 hb4)
          obtain ⟨a4, c4, rfl⟩ := HO4.out.form
          go_roundw
          case rel => exact ⟨HB4.out, e2, l ++ [t], he2, rfl, HO4.out, by simp; omega, HJ.out.trans HE.out⟩
          case measure => simp [lenOf]; omega
theorem lexTokens_any (s sg : ByteArray) (w : World) (hT : Tabs w) (hs : s.size ≤ 9223372036854775807) :
    Calls Tryz.prog 68 #[.string s, .string sg] w (LexPost w.heap.size w (toks okU (amg sg) (bts s))) := by
  unfold toks
  rw [bts_length]
  by_cases h : 8192 < s.size
  · rw [if_pos h]
    exact (lexTokens_long s sg w hs h).mono fun e w' ⟨he, hb⟩ => by rw [he]; exact lexPost_fault rfl hb
  · rw [if_neg h]
    exact lexTokens_short s sg w hT (by omega)
end Go.Proofs.YtleclhnlojalbaaGreatDoor
