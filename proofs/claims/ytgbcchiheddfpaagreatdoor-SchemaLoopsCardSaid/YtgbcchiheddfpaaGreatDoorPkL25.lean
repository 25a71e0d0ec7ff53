/-
  The package lex's token, whatever stands at the place. Conditions: those that the theorem names; the library's tables hold what the row lists.
-/
import Derived.Test.YtgbcchiheddfpaaGreatDoorPkL20
import Derived.Laws.BytesArg
namespace Go.Proofs.YtgbcchiheddfpaaGreatDoor
open Go.ChangeShapes Go.WideShapes Go.ChangeAt Go.RowKit Go.Shelf
def tokVal : Option (Tok × Nat) → Value
  | none => .tuple #[.agg #[.int .i64 0, .string ByteArray.empty, .int .i64 0], .int .i64 0, .bool false]
  | some (t, e) => .tuple #[.agg #[.int .i64 t.kind, .string (strOfNums t.text), .int .i64 t.place], .int .i64 e, .bool true]
theorem sub_str (b off c n i j m t d : Nat) (zs : List Int) (w : World) (hz : Bytes w (some ⟨b, off, none⟩) zs) (hn : zs.length = n) (hij : i ≤ j) (hj : j ≤ n) (hi : i < n) (hm : m = j - i) (ht : t = 22) (hd : d = 9) :
    (convert t d (.slice (some ⟨b, off + i, none⟩) m c)).run Tryz.prog w = .ok (.string (strOfNums (sub zs i j))) w := by
  subst ht hd
  obtain ⟨b', off', he, hlt, hcell⟩ := hz.2 (by rintro rfl; simp at hn; omega)
  cases he
  refine run_convert_bytes_arg (P := Tryz.prog) w 22 5 Tryz.underlying22 Tryz.underlying5 b (off + i) m c (sub zs i j) (by rw [sub_length zs i j hij (by omega), hm]) (fun k hk => ?_) 9 Tryz.underlying9
  rw [sub_get zs i j k (by omega), Nat.add_assoc]
  exact hcell (i + k) (by omega)
def ResBlk (g : Nat) (W : World) : Prop := W.heap[g]? = some (.cells #[.int .i64 0, .string ⟨#[]⟩, .int .i64 0] 282 (0, 0))
theorem ResBlk.later {g : Nat} {W W' : World} (h : ResBlk g W) (hb : Below W.heap.size W W') : ResBlk g W' := by
  have hlt : g < W.heap.size := by
    rcases Nat.lt_or_ge g W.heap.size with h' | h'
    · exact h'
    · unfold ResBlk at h
      rw [Array.getElem?_eq_none h'] at h
      cases h
  exact (hb.block g hlt).trans h
theorem ResBlk.facts {g : Nat} {W : World} (h : ResBlk g W) : W.cell? ⟨g, 0, none⟩ = some (.int .i64 0) ∧ W.cell? ⟨g, 1, none⟩ = some (.string ⟨#[]⟩) ∧ W.cell? ⟨g, 2, none⟩ = some (.int .i64 0) ∧ W.frozen? ⟨g, 0, none⟩ = false ∧ W.frozen? ⟨g, 1, none⟩ = false ∧ W.frozen? ⟨g, 2, none⟩ = false := by
  refine ⟨?_, ?_, ?_, ?_, ?_, ?_⟩
  · rw [cell_of_row W g 0 _ _ (0, 0) h]; rfl
  · rw [cell_of_row W g 1 _ _ (0, 0) h]; rfl
  · rw [cell_of_row W g 2 _ _ (0, 0) h]; rfl
  · simp [World.frozen?, show W.heap[g]? = _ from h]
  · simp [World.frozen?, show W.heap[g]? = _ from h]
  · simp [World.frozen?, show W.heap[g]? = _ from h]
theorem resBlk_new (w : World) : ResBlk w.heap.size (w.alloc (.cells #[.int .i64 0, .string ⟨#[]⟩, .int .i64 0] 282)) := heap_alloc_new w _
set_option maxHeartbeats 800000 in
theorem token_end (p : Option Addr) (n cap i : Nat) (x : Int) (v : Value) (w : World) (hx : x = i) (hi : i = n) :
    Calls Tryz.prog 156 #[.slice p n cap, .int .i64 x, v] w fun e w' => e = .returned (tokVal (some (⟨0, [], i⟩, i))) ∧ Below w.heap.size w w' := by
  subst hx
  subst hi
  go_enter Tryz.func156, Tryz.ntmps156
  go_wp2
  exact bodyPost_ret (v := .tuple #[.agg #[.int .i64 0, .string ⟨#[]⟩, .int .i64 i], .int .i64 i, .bool true]) (by simp [results, Tryz.results156, go_sem]) rfl ⟨rfl, (Below.refl _ _).alloc (Nat.le_refl _) _⟩
set_option maxHeartbeats 800000 in
theorem token_name (b off n cap i : Nat) (x : Int) (v : Value) (zs : List Int) (w : World) (hx : x = i) (hz : Bytes w (some ⟨b, off, none⟩) zs) (hn : zs.length = n) (hl : n ≤ 281474976710656) (hi : i < n) (hcap : n ≤ cap) (h1 : stA zs isLet i = true) :
    Calls Tryz.prog 156 #[.slice (some ⟨b, off, none⟩) n cap, .int .i64 x, v] w fun e w' => e = .returned (tokVal (some (⟨1, sub zs i (runTo zs (fun c => isLet c || isDig c) i), i⟩, runTo zs (fun c => isLet c || isDig c) i))) ∧ Below w.heap.size w w' := by
  subst hx
  have HR := Lib.hid (fun (j : Nat) (y : Int) v k W hy hb hk => stands_any (some ⟨b, off, none⟩) n cap j y zs v k W hy (Bytes.below hz (Nat.le_refl _) hb) hn hk hl)
  have HU := Lib.hid (fun (j : Nat) (y : Int) v k W hy hj hb hk => run_any (some ⟨b, off, none⟩) n cap j y zs v k W hy (Bytes.below hz (Nat.le_refl _) hb) hn hk hl hj)
  have HS := Lib.hid (fun c j m t d W hb hij hj hm ht hd => sub_str b off c n i j m t d zs W (Bytes.below hz (Nat.le_refl _) hb) hn hij hj hi hm ht hd)
  have H1 := Lib.hid h1
  have hlo := runTo_ge zs (fun c => isLet c || isDig c) i
  have hup := runTo_le zs (fun c => isLet c || isDig c) i (by omega)
  rw [hn] at hup
  generalize hE : runTo zs (fun c => isLet c || isDig c) i = E at hlo hup ⊢
  have HE := Lib.hid hE
  clear hz hn h1 hE
  have t0 : ((i : Int) == (n : Int)) = false := by simp; omega
  go_enter Tryz.func156, Tryz.ntmps156
  go_wp2_with fail
  refine (letter_any _).mono ?_
  rintro e W1 ⟨v1, rfl, hb1, hk1⟩
  have HK1 := Lib.hid hk1
  have HG1 := Lib.hid ((resBlk_new w).later hb1)
  have HB1 := Lib.hid (((Below.refl _ _).alloc (Nat.le_refl _) _).trans (hb1.mono (by simp)))
  clear hk1 hb1
  go_wp2_with fail
  refine (HR.out i _ v1 isLet W1 rfl HB1.out HK1.out).mono ?_
  rintro e W2 ⟨rfl, hb2⟩
  have HG2 := Lib.hid (HG1.out.later hb2)
  have HB2 := Lib.hid (HB1.out.trans (hb2.mono HB1.out.size))
  clear hb2
  rw [H1.out]
  go_wp2_with fail
  refine (letter_any _).mono ?_
  rintro e W3 ⟨v3, rfl, hb3, hk3⟩
  have HK3 := Lib.hid hk3
  have HG3 := Lib.hid (HG2.out.later hb3)
  have HB3 := Lib.hid (HB2.out.trans (hb3.mono HB2.out.size))
  clear hk3 hb3
  go_wp2_with fail
  refine (digit_any _).mono ?_
  rintro e W4 ⟨v4, rfl, hb4, hk4⟩
  have HK4 := Lib.hid hk4
  have HK3' := Lib.hid (HK3.out.later hb4)
  have HG4 := Lib.hid (HG3.out.later hb4)
  have HB4 := Lib.hid (HB3.out.trans (hb4.mono HB3.out.size))
  clear hk4 hb4
  go_wp2_with fail
  refine (either_any v3 v4 _ _ _ HK3'.out HK4.out).mono ?_
  rintro e W5 ⟨v5, rfl, hb5, hk5⟩
  have HK5 := Lib.hid hk5
  have HG5 := Lib.hid (HG4.out.later hb5)
  have HB5 := Lib.hid (HB4.out.trans (hb5.mono HB4.out.size))
  clear hk5 hb5
  go_wp2_with fail
  refine (HU.out i _ v5 _ W5 rfl (by omega) HB5.out HK5.out).mono ?_
  rintro e W6 ⟨rfl, hb6⟩
  have HG6 := Lib.hid (HG5.out.later hb6)
  have HB6 := Lib.hid (HB5.out.trans (hb6.mono HB5.out.size))
  clear hb6
  rw [HE.out]
  have kc := HS.out (cap - i) E (E - i) 22 9 W6 HB6.out hlo hup rfl rfl rfl
  obtain ⟨g0, g1, g2, f0, f1, f2⟩ := HG6.out.facts
  have hci : ¬ cap = i := by omega
  go_wp2
  exact bodyPost_ret (v := .tuple #[.agg #[.int .i64 1, .string (strOfNums (sub zs i E)), .int .i64 i], .int .i64 E, .bool true]) (by simp [results, Tryz.results156, go_sem, g0, g1, g2]) rfl ⟨rfl, ((HB6.out.setCell (Nat.le_refl _) _).setCell (Nat.le_refl _) _).setCell (Nat.le_refl _) _⟩
end Go.Proofs.YtgbcchiheddfpaaGreatDoor
namespace Go.Proofs.YtgbcchiheddfpaaGreatDoor
open Go.ChangeShapes Go.WideShapes Go.ChangeAt Go.RowKit Go.Shelf

theorem numEnd_ge (zs : List Int) (i : Nat) : i ≤ numEnd zs i := by
  have h := runTo_ge zs isDig (minusTo zs i)
  have h2 : i ≤ minusTo zs i := by unfold minusTo; split <;> omega
  unfold numEnd
  omega
theorem numEnd_le (zs : List Int) (i : Nat) (h : i ≤ zs.length) : numEnd zs i ≤ zs.length := by
  unfold numEnd
  refine runTo_le zs isDig _ ?_
  unfold minusTo
  split
  · rename_i h1
    have := stA_lt h1
    omega
  · exact h
theorem quoGood_lt {ok : List Int → Bool} {zs : List Int} {i : Nat} (h : quoBad ok zs i = false) : quoEnd zs i < zs.length := by
  unfold quoBad at h
  cases h1 : stA zs (isC 34) (quoEnd zs i)
  · rw [h1] at h
    cases h
  · exact stA_lt h1
set_option maxHeartbeats 800000 in
theorem token_num_bad (b off n cap i : Nat) (x : Int) (v : Value) (sg : Int → Bool) (zs : List Int) (w : World) (hx : x = i) (hT : Tabs w) (hz : Bytes w (some ⟨b, off, none⟩) zs) (hn : zs.length = n) (hl : n ≤ 281474976710656) (hi : i < n) (hcap : n ≤ cap) (hk : KindV w v sg) (h1 : stA zs isLet i = false) (h2 : begins zs i = true) (h5 : numBad zs i = true) :
    Calls Tryz.prog 156 #[.slice (some ⟨b, off, none⟩) n cap, .int .i64 x, v] w fun e w' => e = .returned (tokVal (none)) ∧ Below w.heap.size w w' := by
  subst hx
  have HKS := Lib.hid hk
  have HR := Lib.hid (fun (j : Nat) (y : Int) v k W hy hb hk => stands_any (some ⟨b, off, none⟩) n cap j y zs v k W hy (Bytes.below hz (Nat.le_refl _) hb) hn hk hl)
  have HS := Lib.hid (fun c a j m t d W hb hij hj ha hm ht hd => sub_str b off c n a j m t d zs W (Bytes.below hz (Nat.le_refl _) hb) hn hij hj ha hm ht hd)
  have HBG := Lib.hid (fun W hb => begins_any (some ⟨b, off, none⟩) n cap i i zs W rfl (Bytes.below hz (Nat.le_refl _) hb) hn hl (by omega))
  have HNU := Lib.hid (fun W hb => number_any (some ⟨b, off, none⟩) n cap i i zs W rfl (Bytes.below hz (Nat.le_refl _) hb) hn hl (by omega))
  have HQU := Lib.hid (fun W hb => quoted_any (some ⟨b, off, none⟩) n cap i i zs W rfl (Tabs.below hT (Nat.le_refl _) hb) (Bytes.below hz (Nat.le_refl _) hb) hn hl hi hcap)
  have HN := Lib.hid hn
  have H1 := Lib.hid h1
  have H2 := Lib.hid h2
  have H5 : Hid (numVal zs i = .tuple #[.int .i64 0, .bool false]) := numVal_bad _ h5
  clear h5
  clear hz hn hT hk h1 h2
  have t0 : ((i : Int) == (n : Int)) = false := by simp; omega
  go_enter Tryz.func156, Tryz.ntmps156
  go_wp2_with fail
  refine (letter_any _).mono ?_
  rintro e W1 ⟨v1, rfl, hb1, hk1⟩
  have HK1 := Lib.hid hk1
  have HG1 := Lib.hid ((resBlk_new w).later hb1)
  have HB1 := Lib.hid (((Below.refl _ _).alloc (Nat.le_refl _) _).trans (hb1.mono (by simp)))
  clear hk1 hb1
  go_wp2_with fail
  refine (HR.out i _ v1 isLet W1 rfl HB1.out HK1.out).mono ?_
  rintro e W2 ⟨rfl, hb2⟩
  have HG2 := Lib.hid (HG1.out.later hb2)
  have HB2 := Lib.hid (HB1.out.trans (hb2.mono HB1.out.size))
  clear hb2
  rw [H1.out]
  go_wp2_with fail
  refine (HBG.out W2 HB2.out).mono ?_
  rintro e W3 ⟨rfl, hb3⟩
  have HG3 := Lib.hid (HG2.out.later hb3)
  have HB3 := Lib.hid (HB2.out.trans (hb3.mono HB2.out.size))
  clear hb3
  rw [H2.out]
  go_wp2_with fail
  refine (HNU.out W3 HB3.out).mono ?_
  rintro e W4 ⟨rfl, hb4⟩
  have HG4 := Lib.hid (HG3.out.later hb4)
  have HB4 := Lib.hid (HB3.out.trans (hb4.mono HB3.out.size))
  clear hb4
  rw [H5.out]
  obtain ⟨g0, g1, g2, f0, f1, f2⟩ := HG4.out.facts
  go_wp2
  exact bodyPost_ret (v := .tuple #[.agg #[.int .i64 0, .string ⟨#[]⟩, .int .i64 0], .int .i64 0, .bool false]) (by simp [results, Tryz.results156, go_sem, g0, g1, g2]) rfl ⟨rfl, ((HB4.out.setCell (Nat.le_refl _) _).setCell (Nat.le_refl _) _).setCell (Nat.le_refl _) _⟩
set_option maxHeartbeats 800000 in
theorem token_num_good (b off n cap i : Nat) (x : Int) (v : Value) (sg : Int → Bool) (zs : List Int) (w : World) (hx : x = i) (hT : Tabs w) (hz : Bytes w (some ⟨b, off, none⟩) zs) (hn : zs.length = n) (hl : n ≤ 281474976710656) (hi : i < n) (hcap : n ≤ cap) (hk : KindV w v sg) (h1 : stA zs isLet i = false) (h2 : begins zs i = true) (h5 : numBad zs i = false) :
    Calls Tryz.prog 156 #[.slice (some ⟨b, off, none⟩) n cap, .int .i64 x, v] w fun e w' => e = .returned (tokVal (some (⟨2, sub zs i (numEnd zs i), i⟩, numEnd zs i))) ∧ Below w.heap.size w w' := by
  subst hx
  have HKS := Lib.hid hk
  have HR := Lib.hid (fun (j : Nat) (y : Int) v k W hy hb hk => stands_any (some ⟨b, off, none⟩) n cap j y zs v k W hy (Bytes.below hz (Nat.le_refl _) hb) hn hk hl)
  have HS := Lib.hid (fun c a j m t d W hb hij hj ha hm ht hd => sub_str b off c n a j m t d zs W (Bytes.below hz (Nat.le_refl _) hb) hn hij hj ha hm ht hd)
  have HBG := Lib.hid (fun W hb => begins_any (some ⟨b, off, none⟩) n cap i i zs W rfl (Bytes.below hz (Nat.le_refl _) hb) hn hl (by omega))
  have HNU := Lib.hid (fun W hb => number_any (some ⟨b, off, none⟩) n cap i i zs W rfl (Bytes.below hz (Nat.le_refl _) hb) hn hl (by omega))
  have HQU := Lib.hid (fun W hb => quoted_any (some ⟨b, off, none⟩) n cap i i zs W rfl (Tabs.below hT (Nat.le_refl _) hb) (Bytes.below hz (Nat.le_refl _) hb) hn hl hi hcap)
  have HN := Lib.hid hn
  have H1 := Lib.hid h1
  have H2 := Lib.hid h2
  have H5 : Hid (numVal zs i = .tuple #[.int .i64 (numEnd zs i : Nat), .bool true]) := numVal_good _ h5
  have hlo := numEnd_ge zs i
  have hup := numEnd_le zs i (by omega)
  rw [hn] at hup
  generalize numEnd zs i = E at hlo hup H5 ⊢
  clear h5
  clear hz hn hT hk h1 h2
  have t0 : ((i : Int) == (n : Int)) = false := by simp; omega
  go_enter Tryz.func156, Tryz.ntmps156
  go_wp2_with fail
  refine (letter_any _).mono ?_
  rintro e W1 ⟨v1, rfl, hb1, hk1⟩
  have HK1 := Lib.hid hk1
  have HG1 := Lib.hid ((resBlk_new w).later hb1)
  have HB1 := Lib.hid (((Below.refl _ _).alloc (Nat.le_refl _) _).trans (hb1.mono (by simp)))
  clear hk1 hb1
  go_wp2_with fail
  refine (HR.out i _ v1 isLet W1 rfl HB1.out HK1.out).mono ?_
  rintro e W2 ⟨rfl, hb2⟩
  have HG2 := Lib.hid (HG1.out.later hb2)
  have HB2 := Lib.hid (HB1.out.trans (hb2.mono HB1.out.size))
  clear hb2
  rw [H1.out]
  go_wp2_with fail
  refine (HBG.out W2 HB2.out).mono ?_
  rintro e W3 ⟨rfl, hb3⟩
  have HG3 := Lib.hid (HG2.out.later hb3)
  have HB3 := Lib.hid (HB2.out.trans (hb3.mono HB2.out.size))
  clear hb3
  rw [H2.out]
  go_wp2_with fail
  refine (HNU.out W3 HB3.out).mono ?_
  rintro e W4 ⟨rfl, hb4⟩
  have HG4 := Lib.hid (HG3.out.later hb4)
  have HB4 := Lib.hid (HB3.out.trans (hb4.mono HB3.out.size))
  clear hb4
  rw [H5.out]
  have kc := HS.out (cap - i) i E (E - i) 22 9 W4 HB4.out hlo hup hi rfl rfl rfl
  have hci : ¬ cap = i := by omega
  obtain ⟨g0, g1, g2, f0, f1, f2⟩ := HG4.out.facts
  go_wp2
  exact bodyPost_ret (v := .tuple #[.agg #[.int .i64 2, .string (strOfNums (sub zs i E)), .int .i64 i], .int .i64 E, .bool true]) (by simp [results, Tryz.results156, go_sem, g0, g1, g2]) rfl ⟨rfl, ((HB4.out.setCell (Nat.le_refl _) _).setCell (Nat.le_refl _) _).setCell (Nat.le_refl _) _⟩
set_option maxHeartbeats 800000 in
theorem token_quo_bad (b off n cap i : Nat) (x : Int) (v : Value) (sg : Int → Bool) (zs : List Int) (w : World) (hx : x = i) (hT : Tabs w) (hz : Bytes w (some ⟨b, off, none⟩) zs) (hn : zs.length = n) (hl : n ≤ 281474976710656) (hi : i < n) (hcap : n ≤ cap) (hk : KindV w v sg) (h1 : stA zs isLet i = false) (h2 : begins zs i = false) (h3 : stA zs (isC 34) i = true) (h5 : quoBad okU zs i = true) :
    Calls Tryz.prog 156 #[.slice (some ⟨b, off, none⟩) n cap, .int .i64 x, v] w fun e w' => e = .returned (tokVal (none)) ∧ Below w.heap.size w w' := by
  subst hx
  have HKS := Lib.hid hk
  have HR := Lib.hid (fun (j : Nat) (y : Int) v k W hy hb hk => stands_any (some ⟨b, off, none⟩) n cap j y zs v k W hy (Bytes.below hz (Nat.le_refl _) hb) hn hk hl)
  have HS := Lib.hid (fun c a j m t d W hb hij hj ha hm ht hd => sub_str b off c n a j m t d zs W (Bytes.below hz (Nat.le_refl _) hb) hn hij hj ha hm ht hd)
  have HBG := Lib.hid (fun W hb => begins_any (some ⟨b, off, none⟩) n cap i i zs W rfl (Bytes.below hz (Nat.le_refl _) hb) hn hl (by omega))
  have HNU := Lib.hid (fun W hb => number_any (some ⟨b, off, none⟩) n cap i i zs W rfl (Bytes.below hz (Nat.le_refl _) hb) hn hl (by omega))
  have HQU := Lib.hid (fun W hb => quoted_any (some ⟨b, off, none⟩) n cap i i zs W rfl (Tabs.below hT (Nat.le_refl _) hb) (Bytes.below hz (Nat.le_refl _) hb) hn hl hi hcap)
  have HN := Lib.hid hn
  have H1 := Lib.hid h1
  have H2 := Lib.hid h2
  have H3 := Lib.hid h3
  have H5 : Hid (quoVal zs i = .tuple #[.int .i64 0, .bool false]) := if_pos h5
  clear h5
  clear hz hn hT hk h1 h2 h3
  have t0 : ((i : Int) == (n : Int)) = false := by simp; omega
  go_enter Tryz.func156, Tryz.ntmps156
  go_wp2_with fail
  refine (letter_any _).mono ?_
  rintro e W1 ⟨v1, rfl, hb1, hk1⟩
  have HK1 := Lib.hid hk1
  have HG1 := Lib.hid ((resBlk_new w).later hb1)
  have HB1 := Lib.hid (((Below.refl _ _).alloc (Nat.le_refl _) _).trans (hb1.mono (by simp)))
  clear hk1 hb1
  go_wp2_with fail
  refine (HR.out i _ v1 isLet W1 rfl HB1.out HK1.out).mono ?_
  rintro e W2 ⟨rfl, hb2⟩
  have HG2 := Lib.hid (HG1.out.later hb2)
  have HB2 := Lib.hid (HB1.out.trans (hb2.mono HB1.out.size))
  clear hb2
  rw [H1.out]
  go_wp2_with fail
  refine (HBG.out W2 HB2.out).mono ?_
  rintro e W3 ⟨rfl, hb3⟩
  have HG3 := Lib.hid (HG2.out.later hb3)
  have HB3 := Lib.hid (HB2.out.trans (hb3.mono HB2.out.size))
  clear hb3
  rw [H2.out]
  go_wp2_with fail
  refine (quote_any _).mono ?_
  rintro e W4 ⟨v4, rfl, hb4, hk4⟩
  have HK4 := Lib.hid hk4
  have HG4 := Lib.hid (HG3.out.later hb4)
  have HB4 := Lib.hid (HB3.out.trans (hb4.mono HB3.out.size))
  clear hk4 hb4
  go_wp2_with fail
  refine (HR.out i _ v4 (isC 34) W4 rfl HB4.out HK4.out).mono ?_
  rintro e W5 ⟨rfl, hb5⟩
  have HG5 := Lib.hid (HG4.out.later hb5)
  have HB5 := Lib.hid (HB4.out.trans (hb5.mono HB4.out.size))
  clear hb5
  rw [H3.out]
  go_wp2_with fail
  refine (HQU.out W5 HB5.out).mono ?_
  rintro e W6 ⟨rfl, hb6⟩
  have HG6 := Lib.hid (HG5.out.later hb6)
  have HB6 := Lib.hid (HB5.out.trans (hb6.mono HB5.out.size))
  clear hb6
  rw [H5.out]
  obtain ⟨g0, g1, g2, f0, f1, f2⟩ := HG6.out.facts
  go_wp2
  exact bodyPost_ret (v := .tuple #[.agg #[.int .i64 0, .string ⟨#[]⟩, .int .i64 0], .int .i64 0, .bool false]) (by simp [results, Tryz.results156, go_sem, g0, g1, g2]) rfl ⟨rfl, ((HB6.out.setCell (Nat.le_refl _) _).setCell (Nat.le_refl _) _).setCell (Nat.le_refl _) _⟩
set_option maxHeartbeats 800000 in
theorem token_quo_good (b off n cap i : Nat) (x : Int) (v : Value) (sg : Int → Bool) (zs : List Int) (w : World) (hx : x = i) (hT : Tabs w) (hz : Bytes w (some ⟨b, off, none⟩) zs) (hn : zs.length = n) (hl : n ≤ 281474976710656) (hi : i < n) (hcap : n ≤ cap) (hk : KindV w v sg) (h1 : stA zs isLet i = false) (h2 : begins zs i = false) (h3 : stA zs (isC 34) i = true) (h5 : quoBad okU zs i = false) :
    Calls Tryz.prog 156 #[.slice (some ⟨b, off, none⟩) n cap, .int .i64 x, v] w fun e w' => e = .returned (tokVal (some (⟨3, sub zs (i + 1) (quoEnd zs i), i⟩, quoEnd zs i + 1))) ∧ Below w.heap.size w w' := by
  subst hx
  have HKS := Lib.hid hk
  have HR := Lib.hid (fun (j : Nat) (y : Int) v k W hy hb hk => stands_any (some ⟨b, off, none⟩) n cap j y zs v k W hy (Bytes.below hz (Nat.le_refl _) hb) hn hk hl)
  have HS := Lib.hid (fun c a j m t d W hb hij hj ha hm ht hd => sub_str b off c n a j m t d zs W (Bytes.below hz (Nat.le_refl _) hb) hn hij hj ha hm ht hd)
  have HBG := Lib.hid (fun W hb => begins_any (some ⟨b, off, none⟩) n cap i i zs W rfl (Bytes.below hz (Nat.le_refl _) hb) hn hl (by omega))
  have HNU := Lib.hid (fun W hb => number_any (some ⟨b, off, none⟩) n cap i i zs W rfl (Bytes.below hz (Nat.le_refl _) hb) hn hl (by omega))
  have HQU := Lib.hid (fun W hb => quoted_any (some ⟨b, off, none⟩) n cap i i zs W rfl (Tabs.below hT (Nat.le_refl _) hb) (Bytes.below hz (Nat.le_refl _) hb) hn hl hi hcap)
  have HN := Lib.hid hn
  have H1 := Lib.hid h1
  have H2 := Lib.hid h2
  have H3 := Lib.hid h3
  have H5 : Hid (quoVal zs i = .tuple #[.int .i64 (quoEnd zs i + 1 : Nat), .bool true]) := if_neg (by rw [h5]; decide)
  have hlo : i + 1 ≤ quoEnd zs i := runTo_ge zs isPlain (i + 1)
  have hup := quoGood_lt h5
  rw [hn] at hup
  generalize quoEnd zs i = E at hlo hup H5 ⊢
  clear h5
  clear hz hn hT hk h1 h2 h3
  have t0 : ((i : Int) == (n : Int)) = false := by simp; omega
  go_enter Tryz.func156, Tryz.ntmps156
  go_wp2_with fail
  refine (letter_any _).mono ?_
  rintro e W1 ⟨v1, rfl, hb1, hk1⟩
  have HK1 := Lib.hid hk1
  have HG1 := Lib.hid ((resBlk_new w).later hb1)
  have HB1 := Lib.hid (((Below.refl _ _).alloc (Nat.le_refl _) _).trans (hb1.mono (by simp)))
  clear hk1 hb1
  go_wp2_with fail
  refine (HR.out i _ v1 isLet W1 rfl HB1.out HK1.out).mono ?_
  rintro e W2 ⟨rfl, hb2⟩
  have HG2 := Lib.hid (HG1.out.later hb2)
  have HB2 := Lib.hid (HB1.out.trans (hb2.mono HB1.out.size))
  clear hb2
  rw [H1.out]
  go_wp2_with fail
  refine (HBG.out W2 HB2.out).mono ?_
  rintro e W3 ⟨rfl, hb3⟩
  have HG3 := Lib.hid (HG2.out.later hb3)
  have HB3 := Lib.hid (HB2.out.trans (hb3.mono HB2.out.size))
  clear hb3
  rw [H2.out]
  go_wp2_with fail
  refine (quote_any _).mono ?_
  rintro e W4 ⟨v4, rfl, hb4, hk4⟩
  have HK4 := Lib.hid hk4
  have HG4 := Lib.hid (HG3.out.later hb4)
  have HB4 := Lib.hid (HB3.out.trans (hb4.mono HB3.out.size))
  clear hk4 hb4
  go_wp2_with fail
  refine (HR.out i _ v4 (isC 34) W4 rfl HB4.out HK4.out).mono ?_
  rintro e W5 ⟨rfl, hb5⟩
  have HG5 := Lib.hid (HG4.out.later hb5)
  have HB5 := Lib.hid (HB4.out.trans (hb5.mono HB4.out.size))
  clear hb5
  rw [H3.out]
  go_wp2_with fail
  refine (HQU.out W5 HB5.out).mono ?_
  rintro e W6 ⟨rfl, hb6⟩
  have HG6 := Lib.hid (HG5.out.later hb6)
  have HB6 := Lib.hid (HB5.out.trans (hb6.mono HB5.out.size))
  clear hb6
  rw [H5.out]
  have kc := HS.out (cap - (i + 1)) (i + 1) E (E - (i + 1)) 22 9 W6 HB6.out hlo (by omega) (by omega) rfl rfl rfl
  have hci : ¬ cap = i + 1 := by omega
  obtain ⟨g0, g1, g2, f0, f1, f2⟩ := HG6.out.facts
  go_wp2
  exact bodyPost_ret (v := .tuple #[.agg #[.int .i64 3, .string (strOfNums (sub zs (i + 1) E)), .int .i64 i], .int .i64 (E + 1 : Nat), .bool true]) (by simp [results, Tryz.results156, go_sem, g0, g1, g2]) rfl ⟨rfl, ((HB6.out.setCell (Nat.le_refl _) _).setCell (Nat.le_refl _) _).setCell (Nat.le_refl _) _⟩
set_option maxHeartbeats 800000 in
theorem token_sign (b off n cap i : Nat) (x : Int) (v : Value) (sg : Int → Bool) (zs : List Int) (w : World) (hx : x = i) (hT : Tabs w) (hz : Bytes w (some ⟨b, off, none⟩) zs) (hn : zs.length = n) (hl : n ≤ 281474976710656) (hi : i < n) (hcap : n ≤ cap) (hk : KindV w v sg) (h1 : stA zs isLet i = false) (h2 : begins zs i = false) (h3 : stA zs (isC 34) i = false) (h4 : stA zs sg i = true) :
    Calls Tryz.prog 156 #[.slice (some ⟨b, off, none⟩) n cap, .int .i64 x, v] w fun e w' => e = .returned (tokVal (some (⟨4, sub zs i (i + 1), i⟩, i + 1))) ∧ Below w.heap.size w w' := by
  subst hx
  have HKS := Lib.hid hk
  have HR := Lib.hid (fun (j : Nat) (y : Int) v k W hy hb hk => stands_any (some ⟨b, off, none⟩) n cap j y zs v k W hy (Bytes.below hz (Nat.le_refl _) hb) hn hk hl)
  have HS := Lib.hid (fun c a j m t d W hb hij hj ha hm ht hd => sub_str b off c n a j m t d zs W (Bytes.below hz (Nat.le_refl _) hb) hn hij hj ha hm ht hd)
  have HBG := Lib.hid (fun W hb => begins_any (some ⟨b, off, none⟩) n cap i i zs W rfl (Bytes.below hz (Nat.le_refl _) hb) hn hl (by omega))
  have HNU := Lib.hid (fun W hb => number_any (some ⟨b, off, none⟩) n cap i i zs W rfl (Bytes.below hz (Nat.le_refl _) hb) hn hl (by omega))
  have HQU := Lib.hid (fun W hb => quoted_any (some ⟨b, off, none⟩) n cap i i zs W rfl (Tabs.below hT (Nat.le_refl _) hb) (Bytes.below hz (Nat.le_refl _) hb) hn hl hi hcap)
  have HN := Lib.hid hn
  have H1 := Lib.hid h1
  have H2 := Lib.hid h2
  have H3 := Lib.hid h3
  have H4 := Lib.hid h4
  clear hz hn hT hk h1 h2 h3 h4
  have t0 : ((i : Int) == (n : Int)) = false := by simp; omega
  go_enter Tryz.func156, Tryz.ntmps156
  go_wp2_with fail
  refine (letter_any _).mono ?_
  rintro e W1 ⟨v1, rfl, hb1, hk1⟩
  have HK1 := Lib.hid hk1
  have HG1 := Lib.hid ((resBlk_new w).later hb1)
  have HB1 := Lib.hid (((Below.refl _ _).alloc (Nat.le_refl _) _).trans (hb1.mono (by simp)))
  clear hk1 hb1
  go_wp2_with fail
  refine (HR.out i _ v1 isLet W1 rfl HB1.out HK1.out).mono ?_
  rintro e W2 ⟨rfl, hb2⟩
  have HG2 := Lib.hid (HG1.out.later hb2)
  have HB2 := Lib.hid (HB1.out.trans (hb2.mono HB1.out.size))
  clear hb2
  rw [H1.out]
  go_wp2_with fail
  refine (HBG.out W2 HB2.out).mono ?_
  rintro e W3 ⟨rfl, hb3⟩
  have HG3 := Lib.hid (HG2.out.later hb3)
  have HB3 := Lib.hid (HB2.out.trans (hb3.mono HB2.out.size))
  clear hb3
  rw [H2.out]
  go_wp2_with fail
  refine (quote_any _).mono ?_
  rintro e W4 ⟨v4, rfl, hb4, hk4⟩
  have HK4 := Lib.hid hk4
  have HG4 := Lib.hid (HG3.out.later hb4)
  have HB4 := Lib.hid (HB3.out.trans (hb4.mono HB3.out.size))
  clear hk4 hb4
  go_wp2_with fail
  refine (HR.out i _ v4 (isC 34) W4 rfl HB4.out HK4.out).mono ?_
  rintro e W5 ⟨rfl, hb5⟩
  have HG5 := Lib.hid (HG4.out.later hb5)
  have HB5 := Lib.hid (HB4.out.trans (hb5.mono HB4.out.size))
  clear hb5
  rw [H3.out]
  go_wp2_with fail
  refine (HR.out i _ v sg W5 rfl HB5.out (HKS.out.later HB5.out)).mono ?_
  rintro e W6 ⟨rfl, hb6⟩
  have HG6 := Lib.hid (HG5.out.later hb6)
  have HB6 := Lib.hid (HB5.out.trans (hb6.mono HB5.out.size))
  clear hb6
  rw [H4.out]
  have kc := HS.out (cap - i) i (i + 1) 1 22 9 W6 HB6.out (by omega) (by omega) hi (by omega) rfl rfl
  have hci : ¬ cap = i := by omega
  obtain ⟨g0, g1, g2, f0, f1, f2⟩ := HG6.out.facts
  go_wp2
  exact bodyPost_ret (v := .tuple #[.agg #[.int .i64 4, .string (strOfNums (sub zs i (i + 1))), .int .i64 i], .int .i64 (i + 1 : Nat), .bool true]) (by simp [results, Tryz.results156, go_sem, g0, g1, g2]) rfl ⟨rfl, ((HB6.out.setCell (Nat.le_refl _) _).setCell (Nat.le_refl _) _).setCell (Nat.le_refl _) _⟩
set_option maxHeartbeats 800000 in
theorem token_none (b off n cap i : Nat) (x : Int) (v : Value) (sg : Int → Bool) (zs : List Int) (w : World) (hx : x = i) (hT : Tabs w) (hz : Bytes w (some ⟨b, off, none⟩) zs) (hn : zs.length = n) (hl : n ≤ 281474976710656) (hi : i < n) (hcap : n ≤ cap) (hk : KindV w v sg) (h1 : stA zs isLet i = false) (h2 : begins zs i = false) (h3 : stA zs (isC 34) i = false) (h4 : stA zs sg i = false) :
    Calls Tryz.prog 156 #[.slice (some ⟨b, off, none⟩) n cap, .int .i64 x, v] w fun e w' => e = .returned (tokVal (none)) ∧ Below w.heap.size w w' := by
  subst hx
  have HKS := Lib.hid hk
  have HR := Lib.hid (fun (j : Nat) (y : Int) v k W hy hb hk => stands_any (some ⟨b, off, none⟩) n cap j y zs v k W hy (Bytes.below hz (Nat.le_refl _) hb) hn hk hl)
  have HS := Lib.hid (fun c a j m t d W hb hij hj ha hm ht hd => sub_str b off c n a j m t d zs W (Bytes.below hz (Nat.le_refl _) hb) hn hij hj ha hm ht hd)
  have HBG := Lib.hid (fun W hb => begins_any (some ⟨b, off, none⟩) n cap i i zs W rfl (Bytes.below hz (Nat.le_refl _) hb) hn hl (by omega))
  have HNU := Lib.hid (fun W hb => number_any (some ⟨b, off, none⟩) n cap i i zs W rfl (Bytes.below hz (Nat.le_refl _) hb) hn hl (by omega))
  have HQU := Lib.hid (fun W hb => quoted_any (some ⟨b, off, none⟩) n cap i i zs W rfl (Tabs.below hT (Nat.le_refl _) hb) (Bytes.below hz (Nat.le_refl _) hb) hn hl hi hcap)
  have HN := Lib.hid hn
  have H1 := Lib.hid h1
  have H2 := Lib.hid h2
  have H3 := Lib.hid h3
  have H4 := Lib.hid h4
  clear hz hn hT hk h1 h2 h3 h4
  have t0 : ((i : Int) == (n : Int)) = false := by simp; omega
  go_enter Tryz.func156, Tryz.ntmps156
  go_wp2_with fail
  refine (letter_any _).mono ?_
  rintro e W1 ⟨v1, rfl, hb1, hk1⟩
  have HK1 := Lib.hid hk1
  have HG1 := Lib.hid ((resBlk_new w).later hb1)
  have HB1 := Lib.hid (((Below.refl _ _).alloc (Nat.le_refl _) _).trans (hb1.mono (by simp)))
  clear hk1 hb1
  go_wp2_with fail
  refine (HR.out i _ v1 isLet W1 rfl HB1.out HK1.out).mono ?_
  rintro e W2 ⟨rfl, hb2⟩
  have HG2 := Lib.hid (HG1.out.later hb2)
  have HB2 := Lib.hid (HB1.out.trans (hb2.mono HB1.out.size))
  clear hb2
  rw [H1.out]
  go_wp2_with fail
  refine (HBG.out W2 HB2.out).mono ?_
  rintro e W3 ⟨rfl, hb3⟩
  have HG3 := Lib.hid (HG2.out.later hb3)
  have HB3 := Lib.hid (HB2.out.trans (hb3.mono HB2.out.size))
  clear hb3
  rw [H2.out]
  go_wp2_with fail
  refine (quote_any _).mono ?_
  rintro e W4 ⟨v4, rfl, hb4, hk4⟩
  have HK4 := Lib.hid hk4
  have HG4 := Lib.hid (HG3.out.later hb4)
  have HB4 := Lib.hid (HB3.out.trans (hb4.mono HB3.out.size))
  clear hk4 hb4
  go_wp2_with fail
  refine (HR.out i _ v4 (isC 34) W4 rfl HB4.out HK4.out).mono ?_
  rintro e W5 ⟨rfl, hb5⟩
  have HG5 := Lib.hid (HG4.out.later hb5)
  have HB5 := Lib.hid (HB4.out.trans (hb5.mono HB4.out.size))
  clear hb5
  rw [H3.out]
  go_wp2_with fail
  refine (HR.out i _ v sg W5 rfl HB5.out (HKS.out.later HB5.out)).mono ?_
  rintro e W6 ⟨rfl, hb6⟩
  have HG6 := Lib.hid (HG5.out.later hb6)
  have HB6 := Lib.hid (HB5.out.trans (hb6.mono HB5.out.size))
  clear hb6
  rw [H4.out]
  obtain ⟨g0, g1, g2, f0, f1, f2⟩ := HG6.out.facts
  go_wp2
  exact bodyPost_ret (v := .tuple #[.agg #[.int .i64 0, .string ⟨#[]⟩, .int .i64 0], .int .i64 0, .bool false]) (by simp [results, Tryz.results156, go_sem, g0, g1, g2]) rfl ⟨rfl, ((HB6.out.setCell (Nat.le_refl _) _).setCell (Nat.le_refl _) _).setCell (Nat.le_refl _) _⟩
end Go.Proofs.YtgbcchiheddfpaaGreatDoor
namespace Go.Proofs.YtgbcchiheddfpaaGreatDoor
open Go.ChangeShapes Go.WideShapes Go.ChangeAt Go.RowKit Go.Shelf

theorem token_any (p : Option Addr) (n cap i : Nat) (x : Int) (v : Value) (sg : Int → Bool) (zs : List Int) (w : World) (hx : x = i) (hT : Tabs w) (hz : Bytes w p zs) (hn : zs.length = n) (hl : n ≤ 281474976710656) (hi : i ≤ n) (hcap : n ≤ cap) (hk : KindV w v sg) :
    Calls Tryz.prog 156 #[.slice p n cap, .int .i64 x, v] w fun e w' => e = .returned (tokVal (tok okU sg zs i)) ∧ Below w.heap.size w w' := by
  by_cases he : i = n
  · rw [tok_end (show i = zs.length by omega)]
    exact token_end p n cap i x v w hx he
  have hi' : i < n := by omega
  have hiz : i < zs.length := by omega
  obtain ⟨b, off, rfl, _, _⟩ := hz.2 (by rintro rfl; simp at hiz)
  cases h1 : stA zs isLet i
  rotate_left
  · rw [tok_name hiz h1]
    exact token_name b off n cap i x v zs w hx hz hn hl hi' hcap h1
  cases h2 : begins zs i
  rotate_left
  · rw [tok_num hiz h1 h2]
    cases h5 : numBad zs i
    · rw [if_neg (by decide)]
      exact token_num_good b off n cap i x v sg zs w hx hT hz hn hl hi' hcap hk h1 h2 h5
    · rw [if_pos rfl]
      exact token_num_bad b off n cap i x v sg zs w hx hT hz hn hl hi' hcap hk h1 h2 h5
  cases h3 : stA zs (isC 34) i
  rotate_left
  · rw [tok_quo hiz h1 h2 h3]
    cases h5 : quoBad okU zs i
    · rw [if_neg (by decide)]
      exact token_quo_good b off n cap i x v sg zs w hx hT hz hn hl hi' hcap hk h1 h2 h3 h5
    · rw [if_pos rfl]
      exact token_quo_bad b off n cap i x v sg zs w hx hT hz hn hl hi' hcap hk h1 h2 h3 h5
  cases h4 : stA zs sg i
  · rw [tok_none hiz h1 h2 h3 h4]
    exact token_none b off n cap i x v sg zs w hx hT hz hn hl hi' hcap hk h1 h2 h3 h4
  · rw [tok_sign hiz h1 h2 h3 h4]
    exact token_sign b off n cap i x v sg zs w hx hT hz hn hl hi' hcap hk h1 h2 h3 h4
end Go.Proofs.YtgbcchiheddfpaaGreatDoor
