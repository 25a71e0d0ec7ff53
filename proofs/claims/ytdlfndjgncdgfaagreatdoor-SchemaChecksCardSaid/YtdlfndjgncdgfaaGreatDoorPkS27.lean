/-
  The package lex's token, whatever stands at the place. Conditions: those that the theorem names; the library's tables hold what the row lists.
-/
import Derived.Test.YtdlfndjgncdgfaaGreatDoorPkS12
import Derived.Test.YtdlfndjgncdgfaaGreatDoorPkS14
import Derived.Test.YtdlfndjgncdgfaaGreatDoorPkS23
import Derived.Test.YtdlfndjgncdgfaaGreatDoorPkS24
import Derived.Test.YtdlfndjgncdgfaaGreatDoorPkS25
import Derived.Deep.RegionHeld3
namespace Go.Proofs.YtdlfndjgncdgfaaGreatDoor
open Go.ChangeShapes Go.WideShapes Go.ChangeAt Go.RowKit Go.Shelf

abbrev noRes (W : World) (g : Nat) : Prop := W.heap[g]? = some (.cells #[.slice none 0 0, .slice none 0 0, .int .i64 0] 30 (0, 0))
theorem noRes.below {W W' : World} {g B : Nat} (h : noRes W g) (hb : Below B W W') (hB : g < B) : noRes W' g := blk_below h hb hB
theorem noRes.put {W : World} {g : Nat} (h : noRes W g) : noRes (((W.setCell ⟨g, 0, none⟩ (.slice none 0 0)).setCell ⟨g, 1, none⟩ (.slice none 0 0)).setCell ⟨g, 2, none⟩ (.int .i64 0)) g := blk_set3 h _ _ _
theorem keep3 {w : World} {g : Nat} {p : Addr} {v x y z : Value} (h : w.cell? p = some v) (hp : p.block ≠ g) : (((w.setCell ⟨g, 0, none⟩ x).setCell ⟨g, 1, none⟩ y).setCell ⟨g, 2, none⟩ z).cell? p = some v := by
  have e : ∀ (w : World) (i : Nat) (x : Value), (w.setCell ⟨g, i, none⟩ x).cell? p = w.cell? p := fun w i x => World.cell?_of_block (Below.heap_setCell _ _ _ _ hp)
  rw [e, e, e, h]
end Go.Proofs.YtdlfndjgncdgfaaGreatDoor
namespace Go.Proofs.YtdlfndjgncdgfaaGreatDoor
open Go.ChangeShapes Go.WideShapes Go.ChangeAt Go.RowKit Go.Shelf

set_option maxRecDepth 100000 in
set_option maxHeartbeats 4000000 in
theorem names_wp {Q : Exit → Act → World → Prop} {c : Act} {w0 : World} {M R T n e k nc rb : Nat} {a na : Option Addr} {name : ByteArray} {l : List Tok} (hc : EnFr M R T a n e k na l.length nc 0 c)
    (hT : w0.heap[T]? = some (.cells #[.string name, .slice none 0 0] 57 (0, 0))) (hrow : ∀ W, Below T w0 W → W.ownsRow rb 108 3 (.slice na l.length nc) l.length (toksCells l)) (hsz : ∀ t ∈ l, t.text.length ≤ 100) (hlen : l.length ≤ 100)
    (hQ : ∀ c' w' nv, EnFr M R T a n e k na l.length nc l.length c' → Below T w0 w' → w'.heap[T]? = some (.cells #[.string name, nv] 57 (0, 0)) → w'.ownsRow (T + 1) 9 1 nv l.length (strsCells (l.map tokT)) → Q (.exit 2) c' w') :
    Code.wp Tryz.prog (Code.loop (loopsEn 1)) Q c w0 := by
  refine wp_loop (fun c' w' => ∃ (j : Nat) (nv : Value), j ≤ l.length ∧ EnFr M R T a n e k na l.length nc j c' ∧ Below T w0 w' ∧ w'.heap[T]? = some (.cells #[.string name, nv] 57 (0, 0)) ∧ w'.ownsRow (T + 1) 9 1 nv j (strsCells ((l.take j).map tokT)))
    (fun c' _ => l.length - (intOf (c'.tmps.getD 63 undef)).toNat) ⟨0, _, Nat.zero_le _, hc, Below.refl _ _, hT, World.ownsRow_nil _ _ _ _⟩ ?_
  clear hc hT
  rintro c wr ⟨j, nv, hj, hc, hb, hC, hr⟩
  have HB := Lib.hid hb
  have HQ := Lib.hid hQ
  have HCB := Lib.hid hC
  have HROW := Lib.hid hr
  have hfew := row_few (hrow w0 (Below.refl _ _))
  obtain ⟨u, rfl⟩ := hc.lit
  obtain ⟨nva, nvc, rfl⟩ := ownsRow_form hr
  obtain ⟨hCl, c0', c1', f0, f1⟩ := blk2 hC
  obtain ⟨i0, hi0, hzz0, hzz1, hzz2⟩ := info_parts str_info
  have I1 := Lib.hid hi0
  have I2 := Lib.hid hzz0
  have I3 := Lib.hid hzz1
  have I4 := Lib.hid hzz2
  clear hi0 hzz0 hzz1 hzz2
  conv => arg 2; whnf
  by_cases hjl : j < l.length
  · obtain ⟨gn, cn, hvn, hcn, hgn, hcelln⟩ := row_el tokCells 3 (fun _ => rfl) (hrow _ hb) j hjl
    obtain ⟨rfl, rfl⟩ := slice_inj hvn
    have x0 : wr.cell? ⟨gn, j * 3, none⟩ = some (.int .i64 l[j].kind) := hcelln 0 (by omega)
    have x1 : wr.cell? ⟨gn, j * 3 + 1, none⟩ = some (.string (tokT l[j])) := hcelln 1 (by omega)
    have x2 : wr.cell? ⟨gn, j * 3 + 2, none⟩ = some (.int .i64 l[j].place) := hcelln 2 (by omega)
    have hts : (tokT l[j]).size ≤ 281474976710656 := by
      have := hsz _ (List.getElem_mem hjl)
      rw [tokT, strOfNums_size]
      omega
    have HTK := Lib.hid (take_snoc_map tokT l j hjl)
    generalize l[j] = t at *
    have HTS := Lib.hid hts
    have hbt : Below wr.heap.size wr (wr.alloc (.cells #[.int .i64 t.kind, .string (tokT t), .int .i64 t.place] 108)) := (Below.refl _ _).alloc (Nat.le_refl _) _
    have HBT := Lib.hid hbt
    have HTN := Lib.hid (heap_alloc_new wr (.cells #[.int .i64 t.kind, .string (tokT t), .int .i64 t.place] 108))
    have HCT := Lib.hid (blk_below hC hbt hCl)
    have hji : (j : Int) < l.length := by omega
    clear hc hQ hb hC hr hrow hsz hts hvn hcelln hbt
    go_upto_region 15 with (fail)
    generalize wr.alloc (.cells #[.int .i64 t.kind, .string (tokT t), .int .i64 t.place] 108) = Wt at *
    clear x0 x1 x2 c0' c1' f0 f1
    obtain ⟨_, z0, z1, z2, _⟩ := blk3 HTN.out
    obtain ⟨hCt, c0', c1', f0, f1⟩ := blk2 HCT.out
    have hnt : wr.heap.size < Wt.heap.size := blk_lt HTN.out
    have hmost : j + 1 ≤ 9223372036854775807 := by omega
    refine wp_region_noPanic ?_
    go_region_law (first | (go_simp; go_at_call 87; (with_reducible refine (clone_any (tokT t) Wt.drew HTS.out).mono ?_); rintro e Wc ⟨rfl, hbc⟩; have hBC : Below Wt.heap.size Wt Wc := drew_below hbc; have HBC := Lib.hid hBC; obtain ⟨_, q0, q1, q2, q3⟩ := blk2 (blk_below HCT.out hBC hCt); have q5 : Wc.cell? ⟨wr.heap.size, 1, none⟩ = some (.string (tokT t)) := (hBC.cell (p := ⟨wr.heap.size, 1, none⟩) hnt).trans z1; clear hbc hBC) | (refine step_append_lies _ rfl (.tmp 68) (.tmp 72) 55 rfl (T + 1) 9 i0 _ 1 16 Tryz.underlying55 I1.out I2.out I3.out I4.out rfl (by decide) _ j (strsCells ((l.take j).map tokT)) rfl (row_keep (HBT.out.trans ((HBC.out.alloc HBC.out.size _).mono HBT.out.size)) HROW.out) _ 1 1 [.string (tokT t)] rfl rfl (World.news_of_block (heap_alloc_new _ _)) (by intro u hu; rw [List.mem_singleton.1 hu]; rfl) (by decide) (by unfold maxLen; omega) (by omega) (by simp; omega) _ rfl ?_; rintro g4 c4 W8 hown4 hg4 hat4 hlt4; obtain ⟨s1, s2, s3, s4⟩ := step2 HB.out HCB.out HROW.out (HBT.out.trans ((HBC.out.alloc HBC.out.size _).mono HBT.out.size)) hg4 hown4; obtain ⟨_, d0, d1, e0, e1⟩ := blk2 s4; have S1 := Lib.hid s1; have S2 := Lib.hid s2; have S3 := Lib.hid s3; clear s1 s2 s3 s4 hown4 hg4 hat4))
    all_goals
      refine NoPanic.normal ?_
      simp only [Exit.inBlock, Exit.then]
      apply_assumption
      go_wp2
      refine ⟨⟨j + 1, _, by omega, ⟨rfl, rfl, rfl, rfl, rfl, rfl, rfl, rfl, rfl, rfl, rfl⟩, S1.out, S2.out, by rw [HTK.out, strsCells_snoc]; exact S3.out⟩, ?_⟩
      show l.length - (intOf (.int .i64 ((j : Int) + 1))).toNat < l.length - (intOf (.int .i64 (j : Int))).toNat
      simp [intOf]; omega
  · obtain rfl : j = l.length := by omega
    clear hc hQ hb hC hr hrow hsz
    go_wp2
    exact HQ.out _ _ _ ⟨rfl, rfl, rfl, rfl, rfl, rfl, rfl, rfl, rfl, rfl, rfl⟩ HB.out HCB.out (by have h := HROW.out; rw [List.take_length] at h; exact h)
end Go.Proofs.YtdlfndjgncdgfaaGreatDoor
namespace Go.Proofs.YtdlfndjgncdgfaaGreatDoor
open Go.ChangeShapes Go.WideShapes Go.ChangeAt Go.RowKit Go.Shelf

theorem numEnd_ge (zs : List Int) (i : Nat) : i ≤ numEnd zs i := by
  have h := runTo_ge zs isDig (minusTo zs i)
  have h2 : i ≤ minusTo zs i := by unfold minusTo; split <;> omega
  unfold numEnd
  omega
theorem numEnd_le (zs : List Int) (i : Nat) (h : i ≤ zs.length) : numEnd zs i ≤ zs.length := by
  unfold numEnd
  refine runTo_le zs isDig _ ?_
  unfold minusTo
  split
  · rename_i h1
    have := stA_lt h1
    omega
  · exact h
theorem quoGood_lt {ok : List Int → Bool} {zs : List Int} {i : Nat} (h : quoBad ok zs i = false) : quoEnd zs i < zs.length := by
  unfold quoBad at h
  cases h1 : stA zs (isC 34) (quoEnd zs i)
  · rw [h1] at h
    cases h
  · exact stA_lt h1
set_option maxHeartbeats 800000 in
theorem token_num_bad (b off n cap i : Nat) (x : Int) (v : Value) (sg : Int → Bool) (zs : List Int) (w : World) (hx : x = i) (hT : Tabs w) (hz : Bytes w (some ⟨b, off, none⟩) zs) (hn : zs.length = n) (hl : n ≤ 281474976710656) (hi : i < n) (hcap : n ≤ cap) (hk : KindV w v sg) (h1 : stA zs isLet i = false) (h2 : begins zs i = true) (h5 : numBad zs i = true) :
    Calls Tryz.prog 80 #[.slice (some ⟨b, off, none⟩) n cap, .int .i64 x, v] w fun e w' => e = .returned (tokVal (none)) ∧ Below w.heap.size w w' := by
  subst hx
  have HKS := Lib.hid hk
  have HR := Lib.hid (fun (j : Nat) (y : Int) v k W hy hb hk => stands_any (some ⟨b, off, none⟩) n cap j y zs v k W hy (Bytes.below hz (Nat.le_refl _) hb) hn hk hl)
  have HS := Lib.hid (fun c a j m t d W hb hij hj ha hm ht hd => sub_str b off c n a j m t d zs W (Bytes.below hz (Nat.le_refl _) hb) hn hij hj ha hm ht hd)
  have HBG := Lib.hid (fun W hb => begins_any (some ⟨b, off, none⟩) n cap i i zs W rfl (Bytes.below hz (Nat.le_refl _) hb) hn hl (by omega))
  have HNU := Lib.hid (fun W hb => number_any (some ⟨b, off, none⟩) n cap i i zs W rfl (Bytes.below hz (Nat.le_refl _) hb) hn hl (by omega))
  have HQU := Lib.hid (fun W hb => quoted_any (some ⟨b, off, none⟩) n cap i i zs W rfl (Tabs.below hT (Nat.le_refl _) hb) (Bytes.below hz (Nat.le_refl _) hb) hn hl hi hcap)
  have HN := Lib.hid hn
  have H1 := Lib.hid h1
  have H2 := Lib.hid h2
  have H5 : Hid (numVal zs i = .tuple #[.int .i64 0, .bool false]) := numVal_bad _ h5
  clear h5
  clear hz hn hT hk h1 h2
  have t0 : ((i : Int) == (n : Int)) = false := by simp; omega
  go_enter Tryz.func80, Tryz.ntmps80
  go_wp2_with fail
  refine (letter_any _).mono ?_
  rintro e W1 ⟨v1, rfl, hb1, hk1⟩
  have HK1 := Lib.hid hk1
  have HG1 := Lib.hid ((resBlk_new w).later hb1)
  have HB1 := Lib.hid (((Below.refl _ _).alloc (Nat.le_refl _) _).trans (hb1.mono (by simp)))
  clear hk1 hb1
  go_wp2_with fail
  refine (HR.out i _ v1 isLet W1 rfl HB1.out HK1.out).mono ?_
  rintro e W2 ⟨rfl, hb2⟩
  have HG2 := Lib.hid (HG1.out.later hb2)
  have HB2 := Lib.hid (HB1.out.trans (hb2.mono HB1.out.size))
  clear hb2
  rw [H1.out]
  go_wp2_with fail
  refine (HBG.out W2 HB2.out).mono ?_
  rintro e W3 ⟨rfl, hb3⟩
  have HG3 := Lib.hid (HG2.out.later hb3)
  have HB3 := Lib.hid (HB2.out.trans (hb3.mono HB2.out.size))
  clear hb3
  rw [H2.out]
  go_wp2_with fail
  refine (HNU.out W3 HB3.out).mono ?_
  rintro e W4 ⟨rfl, hb4⟩
  have HG4 := Lib.hid (HG3.out.later hb4)
  have HB4 := Lib.hid (HB3.out.trans (hb4.mono HB3.out.size))
  clear hb4
  rw [H5.out]
  obtain ⟨g0, g1, g2, f0, f1, f2⟩ := HG4.out.facts
  go_wp2
  exact bodyPost_ret (v := .tuple #[.agg #[.int .i64 0, .string ⟨#[]⟩, .int .i64 0], .int .i64 0, .bool false]) (by simp [results, Tryz.results80, go_sem, g0, g1, g2]) rfl ⟨rfl, ((HB4.out.setCell (Nat.le_refl _) _).setCell (Nat.le_refl _) _).setCell (Nat.le_refl _) _⟩
set_option maxHeartbeats 800000 in
theorem token_num_good (b off n cap i : Nat) (x : Int) (v : Value) (sg : Int → Bool) (zs : List Int) (w : World) (hx : x = i) (hT : Tabs w) (hz : Bytes w (some ⟨b, off, none⟩) zs) (hn : zs.length = n) (hl : n ≤ 281474976710656) (hi : i < n) (hcap : n ≤ cap) (hk : KindV w v sg) (h1 : stA zs isLet i = false) (h2 : begins zs i = true) (h5 : numBad zs i = false) :
    Calls Tryz.prog 80 #[.slice (some ⟨b, off, none⟩) n cap, .int .i64 x, v] w fun e w' => e = .returned (tokVal (some (⟨2, sub zs i (numEnd zs i), i⟩, numEnd zs i))) ∧ Below w.heap.size w w' := by
  subst hx
  have HKS := Lib.hid hk
  have HR := Lib.hid (fun (j : Nat) (y : Int) v k W hy hb hk => stands_any (some ⟨b, off, none⟩) n cap j y zs v k W hy (Bytes.below hz (Nat.le_refl _) hb) hn hk hl)
  have HS := Lib.hid (fun c a j m t d W hb hij hj ha hm ht hd => sub_str b off c n a j m t d zs W (Bytes.below hz (Nat.le_refl _) hb) hn hij hj ha hm ht hd)
  have HBG := Lib.hid (fun W hb => begins_any (some ⟨b, off, none⟩) n cap i i zs W rfl (Bytes.below hz (Nat.le_refl _) hb) hn hl (by omega))
  have HNU := Lib.hid (fun W hb => number_any (some ⟨b, off, none⟩) n cap i i zs W rfl (Bytes.below hz (Nat.le_refl _) hb) hn hl (by omega))
  have HQU := Lib.hid (fun W hb => quoted_any (some ⟨b, off, none⟩) n cap i i zs W rfl (Tabs.below hT (Nat.le_refl _) hb) (Bytes.below hz (Nat.le_refl _) hb) hn hl hi hcap)
  have HN := Lib.hid hn
  have H1 := Lib.hid h1
  have H2 := Lib.hid h2
  have H5 : Hid (numVal zs i = .tuple #[.int .i64 (numEnd zs i : Nat), .bool true]) := numVal_good _ h5
  have hlo := numEnd_ge zs i
  have hup := numEnd_le zs i (by omega)
  rw [hn] at hup
  generalize numEnd zs i = E at hlo hup H5 ⊢
  clear h5
  clear hz hn hT hk h1 h2
  have t0 : ((i : Int) == (n : Int)) = false := by simp; omega
  go_enter Tryz.func80, Tryz.ntmps80
  go_wp2_with fail
  refine (letter_any _).mono ?_
  rintro e W1 ⟨v1, rfl, hb1, hk1⟩
  have HK1 := Lib.hid hk1
  have HG1 := Lib.hid ((resBlk_new w).later hb1)
  have HB1 := Lib.hid (((Below.refl _ _).alloc (Nat.le_refl _) _).trans (hb1.mono (by simp)))
  clear hk1 hb1
  go_wp2_with fail
  refine (HR.out i _ v1 isLet W1 rfl HB1.out HK1.out).mono ?_
  rintro e W2 ⟨rfl, hb2⟩
  have HG2 := Lib.hid (HG1.out.later hb2)
  have HB2 := Lib.hid (HB1.out.trans (hb2.mono HB1.out.size))
  clear hb2
  rw [H1.out]
  go_wp2_with fail
  refine (HBG.out W2 HB2.out).mono ?_
  rintro e W3 ⟨rfl, hb3⟩
  have HG3 := Lib.hid (HG2.out.later hb3)
  have HB3 := Lib.hid (HB2.out.trans (hb3.mono HB2.out.size))
  clear hb3
  rw [H2.out]
  go_wp2_with fail
  refine (HNU.out W3 HB3.out).mono ?_
  rintro e W4 ⟨rfl, hb4⟩
  have HG4 := Lib.hid (HG3.out.later hb4)
  have HB4 := Lib.hid (HB3.out.trans (hb4.mono HB3.out.size))
  clear hb4
  rw [H5.out]
  have kc := HS.out (cap - i) i E (E - i) 22 9 W4 HB4.out hlo hup hi rfl rfl rfl
  have hci : ¬ cap = i := by omega
  obtain ⟨g0, g1, g2, f0, f1, f2⟩ := HG4.out.facts
  go_wp2
  exact bodyPost_ret (v := .tuple #[.agg #[.int .i64 2, .string (strOfNums (sub zs i E)), .int .i64 i], .int .i64 E, .bool true]) (by simp [results, Tryz.results80, go_sem, g0, g1, g2]) rfl ⟨rfl, ((HB4.out.setCell (Nat.le_refl _) _).setCell (Nat.le_refl _) _).setCell (Nat.le_refl _) _⟩
set_option maxHeartbeats 800000 in
theorem token_quo_bad (b off n cap i : Nat) (x : Int) (v : Value) (sg : Int → Bool) (zs : List Int) (w : World) (hx : x = i) (hT : Tabs w) (hz : Bytes w (some ⟨b, off, none⟩) zs) (hn : zs.length = n) (hl : n ≤ 281474976710656) (hi : i < n) (hcap : n ≤ cap) (hk : KindV w v sg) (h1 : stA zs isLet i = false) (h2 : begins zs i = false) (h3 : stA zs (isC 34) i = true) (h5 : quoBad okU zs i = true) :
    Calls Tryz.prog 80 #[.slice (some ⟨b, off, none⟩) n cap, .int .i64 x, v] w fun e w' => e = .returned (tokVal (none)) ∧ Below w.heap.size w w' := by
  subst hx
  have HKS := Lib.hid hk
  have HR := Lib.hid (fun (j : Nat) (y : Int) v k W hy hb hk => stands_any (some ⟨b, off, none⟩) n cap j y zs v k W hy (Bytes.below hz (Nat.le_refl _) hb) hn hk hl)
  have HS := Lib.hid (fun c a j m t d W hb hij hj ha hm ht hd => sub_str b off c n a j m t d zs W (Bytes.below hz (Nat.le_refl _) hb) hn hij hj ha hm ht hd)
  have HBG := Lib.hid (fun W hb => begins_any (some ⟨b, off, none⟩) n cap i i zs W rfl (Bytes.below hz (Nat.le_refl _) hb) hn hl (by omega))
  have HNU := Lib.hid (fun W hb => number_any (some ⟨b, off, none⟩) n cap i i zs W rfl (Bytes.below hz (Nat.le_refl _) hb) hn hl (by omega))
  have HQU := Lib.hid (fun W hb => quoted_any (some ⟨b, off, none⟩) n cap i i zs W rfl (Tabs.below hT (Nat.le_refl _) hb) (Bytes.below hz (Nat.le_refl _) hb) hn hl hi hcap)
  have HN := Lib.hid hn
  have H1 := Lib.hid h1
  have H2 := Lib.hid h2
  have H3 := Lib.hid h3
  have H5 : Hid (quoVal zs i = .tuple #[.int .i64 0, .bool false]) := if_pos h5
  clear h5
  clear hz hn hT hk h1 h2 h3
  have t0 : ((i : Int) == (n : Int)) = false := by simp; omega
  go_enter Tryz.func80, Tryz.ntmps80
  go_wp2_with fail
  refine (letter_any _).mono ?_
  rintro e W1 ⟨v1, rfl, hb1, hk1⟩
  have HK1 := Lib.hid hk1
  have HG1 := Lib.hid ((resBlk_new w).later hb1)
  have HB1 := Lib.hid (((Below.refl _ _).alloc (Nat.le_refl _) _).trans (hb1.mono (by simp)))
  clear hk1 hb1
  go_wp2_with fail
  refine (HR.out i _ v1 isLet W1 rfl HB1.out HK1.out).mono ?_
  rintro e W2 ⟨rfl, hb2⟩
  have HG2 := Lib.hid (HG1.out.later hb2)
  have HB2 := Lib.hid (HB1.out.trans (hb2.mono HB1.out.size))
  clear hb2
  rw [H1.out]
  go_wp2_with fail
  refine (HBG.out W2 HB2.out).mono ?_
  rintro e W3 ⟨rfl, hb3⟩
  have HG3 := Lib.hid (HG2.out.later hb3)
  have HB3 := Lib.hid (HB2.out.trans (hb3.mono HB2.out.size))
  clear hb3
  rw [H2.out]
  go_wp2_with fail
  refine (quote_any _).mono ?_
  rintro e W4 ⟨v4, rfl, hb4, hk4⟩
  have HK4 := Lib.hid hk4
  have HG4 := Lib.hid (HG3.out.later hb4)
  have HB4 := Lib.hid (HB3.out.trans (hb4.mono HB3.out.size))
  clear hk4 hb4
  go_wp2_with fail
  refine (HR.out i _ v4 (isC 34) W4 rfl HB4.out HK4.out).mono ?_
  rintro e W5 ⟨rfl, hb5⟩
  have HG5 := Lib.hid (HG4.out.later hb5)
  have HB5 := Lib.hid (HB4.out.trans (hb5.mono HB4.out.size))
  clear hb5
  rw [H3.out]
  go_wp2_with fail
  refine (HQU.out W5 HB5.out).mono ?_
  rintro e W6 ⟨rfl, hb6⟩
  have HG6 := Lib.hid (HG5.out.later hb6)
  have HB6 := Lib.hid (HB5.out.trans (hb6.mono HB5.out.size))
  clear hb6
  rw [H5.out]
  obtain ⟨g0, g1, g2, f0, f1, f2⟩ := HG6.out.facts
  go_wp2
  exact bodyPost_ret (v := .tuple #[.agg #[.int .i64 0, .string ⟨#[]⟩, .int .i64 0], .int .i64 0, .bool false]) (by simp [results, Tryz.results80, go_sem, g0, g1, g2]) rfl ⟨rfl, ((HB6.out.setCell (Nat.le_refl _) _).setCell (Nat.le_refl _) _).setCell (Nat.le_refl _) _⟩
set_option maxHeartbeats 800000 in
theorem token_quo_good (b off n cap i : Nat) (x : Int) (v : Value) (sg : Int → Bool) (zs : List Int) (w : World) (hx : x = i) (hT : Tabs w) (hz : Bytes w (some ⟨b, off, none⟩) zs) (hn : zs.length = n) (hl : n ≤ 281474976710656) (hi : i < n) (hcap : n ≤ cap) (hk : KindV w v sg) (h1 : stA zs isLet i = false) (h2 : begins zs i = false) (h3 : stA zs (isC 34) i = true) (h5 : quoBad okU zs i = false) :
    Calls Tryz.prog 80 #[.slice (some ⟨b, off, none⟩) n cap, .int .i64 x, v] w fun e w' => e = .returned (tokVal (some (⟨3, sub zs (i + 1) (quoEnd zs i), i⟩, quoEnd zs i + 1))) ∧ Below w.heap.size w w' := by
  subst hx
  have HKS := Lib.hid hk
  have HR := Lib.hid (fun (j : Nat) (y : Int) v k W hy hb hk => stands_any (some ⟨b, off, none⟩) n cap j y zs v k W hy (Bytes.below hz (Nat.le_refl _) hb) hn hk hl)
  have HS := Lib.hid (fun c a j m t d W hb hij hj ha hm ht hd => sub_str b off c n a j m t d zs W (Bytes.below hz (Nat.le_refl _) hb) hn hij hj ha hm ht hd)
  have HBG := Lib.hid (fun W hb => begins_any (some ⟨b, off, none⟩) n cap i i zs W rfl (Bytes.below hz (Nat.le_refl _) hb) hn hl (by omega))
  have HNU := Lib.hid (fun W hb => number_any (some ⟨b, off, none⟩) n cap i i zs W rfl (Bytes.below hz (Nat.le_refl _) hb) hn hl (by omega))
  have HQU := Lib.hid (fun W hb => quoted_any (some ⟨b, off, none⟩) n cap i i zs W rfl (Tabs.below hT (Nat.le_refl _) hb) (Bytes.below hz (Nat.le_refl _) hb) hn hl hi hcap)
  have HN := Lib.hid hn
  have H1 := Lib.hid h1
  have H2 := Lib.hid h2
  have H3 := Lib.hid h3
  have H5 : Hid (quoVal zs i = .tuple #[.int .i64 (quoEnd zs i + 1 : Nat), .bool true]) := if_neg (by rw [h5]; decide)
  have hlo : i + 1 ≤ quoEnd zs i := runTo_ge zs isPlain (i + 1)
  have hup := quoGood_lt h5
  rw [hn] at hup
  generalize quoEnd zs i = E at hlo hup H5 ⊢
  clear h5
  clear hz hn hT hk h1 h2 h3
  have t0 : ((i : Int) == (n : Int)) = false := by simp; omega
  go_enter Tryz.func80, Tryz.ntmps80
  go_wp2_with fail
  refine (letter_any _).mono ?_
  rintro e W1 ⟨v1, rfl, hb1, hk1⟩
  have HK1 := Lib.hid hk1
  have HG1 := Lib.hid ((resBlk_new w).later hb1)
  have HB1 := Lib.hid (((Below.refl _ _).alloc (Nat.le_refl _) _).trans (hb1.mono (by simp)))
  clear hk1 hb1
  go_wp2_with fail
  refine (HR.out i _ v1 isLet W1 rfl HB1.out HK1.out).mono ?_
  rintro e W2 ⟨rfl, hb2⟩
  have HG2 := Lib.hid (HG1.out.later hb2)
  have HB2 := Lib.hid (HB1.out.trans (hb2.mono HB1.out.size))
  clear hb2
  rw [H1.out]
  go_wp2_with fail
  refine (HBG.out W2 HB2.out).mono ?_
  rintro e W3 ⟨rfl, hb3⟩
  have HG3 := Lib.hid (HG2.out.later hb3)
  have HB3 := Lib.hid (HB2.out.trans (hb3.mono HB2.out.size))
  clear hb3
  rw [H2.out]
  go_wp2_with fail
  refine (quote_any _).mono ?_
  rintro e W4 ⟨v4, rfl, hb4, hk4⟩
  have HK4 := Lib.hid hk4
  have HG4 := Lib.hid (HG3.out.later hb4)
  have HB4 := Lib.hid (HB3.out.trans (hb4.mono HB3.out.size))
  clear hk4 hb4
  go_wp2_with fail
  refine (HR.out i _ v4 (isC 34) W4 rfl HB4.out HK4.out).mono ?_
  rintro e W5 ⟨rfl, hb5⟩
  have HG5 := Lib.hid (HG4.out.later hb5)
  have HB5 := Lib.hid (HB4.out.trans (hb5.mono HB4.out.size))
  clear hb5
  rw [H3.out]
  go_wp2_with fail
  refine (HQU.out W5 HB5.out).mono ?_
  rintro e W6 ⟨rfl, hb6⟩
  have HG6 := Lib.hid (HG5.out.later hb6)
  have HB6 := Lib.hid (HB5.out.trans (hb6.mono HB5.out.size))
  clear hb6
  rw [H5.out]
  have kc := HS.out (cap - (i + 1)) (i + 1) E (E - (i + 1)) 22 9 W6 HB6.out hlo (by omega) (by omega) rfl rfl rfl
  have hci : ¬ cap = i + 1 := by omega
  obtain ⟨g0, g1, g2, f0, f1, f2⟩ := HG6.out.facts
  go_wp2
  exact bodyPost_ret (v := .tuple #[.agg #[.int .i64 3, .string (strOfNums (sub zs (i + 1) E)), .int .i64 i], .int .i64 (E + 1 : Nat), .bool true]) (by simp [results, Tryz.results80, go_sem, g0, g1, g2]) rfl ⟨rfl, ((HB6.out.setCell (Nat.le_refl _) _).setCell (Nat.le_refl _) _).setCell (Nat.le_refl _) _⟩
set_option maxHeartbeats 800000 in
theorem token_sign (b off n cap i : Nat) (x : Int) (v : Value) (sg : Int → Bool) (zs : List Int) (w : World) (hx : x = i) (hT : Tabs w) (hz : Bytes w (some ⟨b, off, none⟩) zs) (hn : zs.length = n) (hl : n ≤ 281474976710656) (hi : i < n) (hcap : n ≤ cap) (hk : KindV w v sg) (h1 : stA zs isLet i = false) (h2 : begins zs i = false) (h3 : stA zs (isC 34) i = false) (h4 : stA zs sg i = true) :
    Calls Tryz.prog 80 #[.slice (some ⟨b, off, none⟩) n cap, .int .i64 x, v] w fun e w' => e = .returned (tokVal (some (⟨4, sub zs i (i + 1), i⟩, i + 1))) ∧ Below w.heap.size w w' := by
  subst hx
  have HKS := Lib.hid hk
  have HR := Lib.hid (fun (j : Nat) (y : Int) v k W hy hb hk => stands_any (some ⟨b, off, none⟩) n cap j y zs v k W hy (Bytes.below hz (Nat.le_refl _) hb) hn hk hl)
  have HS := Lib.hid (fun c a j m t d W hb hij hj ha hm ht hd => sub_str b off c n a j m t d zs W (Bytes.below hz (Nat.le_refl _) hb) hn hij hj ha hm ht hd)
  have HBG := Lib.hid (fun W hb => begins_any (some ⟨b, off, none⟩) n cap i i zs W rfl (Bytes.below hz (Nat.le_refl _) hb) hn hl (by omega))
  have HNU := Lib.hid (fun W hb => number_any (some ⟨b, off, none⟩) n cap i i zs W rfl (Bytes.below hz (Nat.le_refl _) hb) hn hl (by omega))
  have HQU := Lib.hid (fun W hb => quoted_any (some ⟨b, off, none⟩) n cap i i zs W rfl (Tabs.below hT (Nat.le_refl _) hb) (Bytes.below hz (Nat.le_refl _) hb) hn hl hi hcap)
  have HN := Lib.hid hn
  have H1 := Lib.hid h1
  have H2 := Lib.hid h2
  have H3 := Lib.hid h3
  have H4 := Lib.hid h4
  clear hz hn hT hk h1 h2 h3 h4
  have t0 : ((i : Int) == (n : Int)) = false := by simp; omega
  go_enter Tryz.func80, Tryz.ntmps80
  go_wp2_with fail
  refine (letter_any _).mono ?_
  rintro e W1 ⟨v1, rfl, hb1, hk1⟩
  have HK1 := Lib.hid hk1
  have HG1 := Lib.hid ((resBlk_new w).later hb1)
  have HB1 := Lib.hid (((Below.refl _ _).alloc (Nat.le_refl _) _).trans (hb1.mono (by simp)))
  clear hk1 hb1
  go_wp2_with fail
  refine (HR.out i _ v1 isLet W1 rfl HB1.out HK1.out).mono ?_
  rintro e W2 ⟨rfl, hb2⟩
  have HG2 := Lib.hid (HG1.out.later hb2)
  have HB2 := Lib.hid (HB1.out.trans (hb2.mono HB1.out.size))
  clear hb2
  rw [H1.out]
  go_wp2_with fail
  refine (HBG.out W2 HB2.out).mono ?_
  rintro e W3 ⟨rfl, hb3⟩
  have HG3 := Lib.hid (HG2.out.later hb3)
  have HB3 := Lib.hid (HB2.out.trans (hb3.mono HB2.out.size))
  clear hb3
  rw [H2.out]
  go_wp2_with fail
  refine (quote_any _).mono ?_
  rintro e W4 ⟨v4, rfl, hb4, hk4⟩
  have HK4 := Lib.hid hk4
  have HG4 := Lib.hid (HG3.out.later hb4)
  have HB4 := Lib.hid (HB3.out.trans (hb4.mono HB3.out.size))
  clear hk4 hb4
  go_wp2_with fail
  refine (HR.out i _ v4 (isC 34) W4 rfl HB4.out HK4.out).mono ?_
  rintro e W5 ⟨rfl, hb5⟩
  have HG5 := Lib.hid (HG4.out.later hb5)
  have HB5 := Lib.hid (HB4.out.trans (hb5.mono HB4.out.size))
  clear hb5
  rw [H3.out]
  go_wp2_with fail
  refine (HR.out i _ v sg W5 rfl HB5.out (HKS.out.later HB5.out)).mono ?_
  rintro e W6 ⟨rfl, hb6⟩
  have HG6 := Lib.hid (HG5.out.later hb6)
  have HB6 := Lib.hid (HB5.out.trans (hb6.mono HB5.out.size))
  clear hb6
  rw [H4.out]
  have kc := HS.out (cap - i) i (i + 1) 1 22 9 W6 HB6.out (by omega) (by omega) hi (by omega) rfl rfl
  have hci : ¬ cap = i := by omega
  obtain ⟨g0, g1, g2, f0, f1, f2⟩ := HG6.out.facts
  go_wp2
  exact bodyPost_ret (v := .tuple #[.agg #[.int .i64 4, .string (strOfNums (sub zs i (i + 1))), .int .i64 i], .int .i64 (i + 1 : Nat), .bool true]) (by simp [results, Tryz.results80, go_sem, g0, g1, g2]) rfl ⟨rfl, ((HB6.out.setCell (Nat.le_refl _) _).setCell (Nat.le_refl _) _).setCell (Nat.le_refl _) _⟩
set_option maxHeartbeats 800000 in
theorem token_none (b off n cap i : Nat) (x : Int) (v : Value) (sg : Int → Bool) (zs : List Int) (w : World) (hx : x = i) (hT : Tabs w) (hz : Bytes w (some ⟨b, off, none⟩) zs) (hn : zs.length = n) (hl : n ≤ 281474976710656) (hi : i < n) (hcap : n ≤ cap) (hk : KindV w v sg) (h1 : stA zs isLet i = false) (h2 : begins zs i = false) (h3 : stA zs (isC 34) i = false) (h4 : stA zs sg i = false) :
    Calls Tryz.prog 80 #[.slice (some ⟨b, off, none⟩) n cap, .int .i64 x, v] w fun e w' => e = .returned (tokVal (none)) ∧ Below w.heap.size w w' := by
  subst hx
  have HKS := Lib.hid hk
  have HR := Lib.hid (fun (j : Nat) (y : Int) v k W hy hb hk => stands_any (some ⟨b, off, none⟩) n cap j y zs v k W hy (Bytes.below hz (Nat.le_refl _) hb) hn hk hl)
  have HS := Lib.hid (fun c a j m t d W hb hij hj ha hm ht hd => sub_str b off c n a j m t d zs W (Bytes.below hz (Nat.le_refl _) hb) hn hij hj ha hm ht hd)
  have HBG := Lib.hid (fun W hb => begins_any (some ⟨b, off, none⟩) n cap i i zs W rfl (Bytes.below hz (Nat.le_refl _) hb) hn hl (by omega))
  have HNU := Lib.hid (fun W hb => number_any (some ⟨b, off, none⟩) n cap i i zs W rfl (Bytes.below hz (Nat.le_refl _) hb) hn hl (by omega))
  have HQU := Lib.hid (fun W hb => quoted_any (some ⟨b, off, none⟩) n cap i i zs W rfl (Tabs.below hT (Nat.le_refl _) hb) (Bytes.below hz (Nat.le_refl _) hb) hn hl hi hcap)
  have HN := Lib.hid hn
  have H1 := Lib.hid h1
  have H2 := Lib.hid h2
  have H3 := Lib.hid h3
  have H4 := Lib.hid h4
  clear hz hn hT hk h1 h2 h3 h4
  have t0 : ((i : Int) == (n : Int)) = false := by simp; omega
  go_enter Tryz.func80, Tryz.ntmps80
  go_wp2_with fail
  refine (letter_any _).mono ?_
  rintro e W1 ⟨v1, rfl, hb1, hk1⟩
  have HK1 := Lib.hid hk1
  have HG1 := Lib.hid ((resBlk_new w).later hb1)
  have HB1 := Lib.hid (((Below.refl _ _).alloc (Nat.le_refl _) _).trans (hb1.mono (by simp)))
  clear hk1 hb1
  go_wp2_with fail
  refine (HR.out i _ v1 isLet W1 rfl HB1.out HK1.out).mono ?_
  rintro e W2 ⟨rfl, hb2⟩
  have HG2 := Lib.hid (HG1.out.later hb2)
  have HB2 := Lib.hid (HB1.out.trans (hb2.mono HB1.out.size))
  clear hb2
  rw [H1.out]
  go_wp2_with fail
  refine (HBG.out W2 HB2.out).mono ?_
  rintro e W3 ⟨rfl, hb3⟩
  have HG3 := Lib.hid (HG2.out.later hb3)
  have HB3 := Lib.hid (HB2.out.trans (hb3.mono HB2.out.size))
  clear hb3
  rw [H2.out]
  go_wp2_with fail
  refine (quote_any _).mono ?_
  rintro e W4 ⟨v4, rfl, hb4, hk4⟩
  have HK4 := Lib.hid hk4
  have HG4 := Lib.hid (HG3.out.later hb4)
  have HB4 := Lib.hid (HB3.out.trans (hb4.mono HB3.out.size))
  clear hk4 hb4
  go_wp2_with fail
  refine (HR.out i _ v4 (isC 34) W4 rfl HB4.out HK4.out).mono ?_
  rintro e W5 ⟨rfl, hb5⟩
  have HG5 := Lib.hid (HG4.out.later hb5)
  have HB5 := Lib.hid (HB4.out.trans (hb5.mono HB4.out.size))
  clear hb5
  rw [H3.out]
  go_wp2_with fail
  refine (HR.out i _ v sg W5 rfl HB5.out (HKS.out.later HB5.out)).mono ?_
  rintro e W6 ⟨rfl, hb6⟩
  have HG6 := Lib.hid (HG5.out.later hb6)
  have HB6 := Lib.hid (HB5.out.trans (hb6.mono HB5.out.size))
  clear hb6
  rw [H4.out]
  obtain ⟨g0, g1, g2, f0, f1, f2⟩ := HG6.out.facts
  go_wp2
  exact bodyPost_ret (v := .tuple #[.agg #[.int .i64 0, .string ⟨#[]⟩, .int .i64 0], .int .i64 0, .bool false]) (by simp [results, Tryz.results80, go_sem, g0, g1, g2]) rfl ⟨rfl, ((HB6.out.setCell (Nat.le_refl _) _).setCell (Nat.le_refl _) _).setCell (Nat.le_refl _) _⟩
end Go.Proofs.YtdlfndjgncdgfaaGreatDoor
namespace Go.Proofs.YtdlfndjgncdgfaaGreatDoor
open Go.ChangeShapes Go.WideShapes Go.ChangeAt Go.RowKit Go.Shelf

theorem token_any (p : Option Addr) (n cap i : Nat) (x : Int) (v : Value) (sg : Int → Bool) (zs : List Int) (w : World) (hx : x = i) (hT : Tabs w) (hz : Bytes w p zs) (hn : zs.length = n) (hl : n ≤ 281474976710656) (hi : i ≤ n) (hcap : n ≤ cap) (hk : KindV w v sg) :
    Calls Tryz.prog 80 #[.slice p n cap, .int .i64 x, v] w fun e w' => e = .returned (tokVal (tok okU sg zs i)) ∧ Below w.heap.size w w' := by
  by_cases he : i = n
  · rw [tok_end (show i = zs.length by omega)]
    exact token_end p n cap i x v w hx he
  have hi' : i < n := by omega
  have hiz : i < zs.length := by omega
  obtain ⟨b, off, rfl, _, _⟩ := hz.2 (by rintro rfl; simp at hiz)
  cases h1 : stA zs isLet i
  rotate_left
  · rw [tok_name hiz h1]
    exact token_name b off n cap i x v zs w hx hz hn hl hi' hcap h1
  cases h2 : begins zs i
  rotate_left
  · rw [tok_num hiz h1 h2]
    cases h5 : numBad zs i
    · rw [if_neg (by decide)]
      exact token_num_good b off n cap i x v sg zs w hx hT hz hn hl hi' hcap hk h1 h2 h5
    · rw [if_pos rfl]
      exact token_num_bad b off n cap i x v sg zs w hx hT hz hn hl hi' hcap hk h1 h2 h5
  cases h3 : stA zs (isC 34) i
  rotate_left
  · rw [tok_quo hiz h1 h2 h3]
    cases h5 : quoBad okU zs i
    · rw [if_neg (by decide)]
      exact token_quo_good b off n cap i x v sg zs w hx hT hz hn hl hi' hcap hk h1 h2 h3 h5
    · rw [if_pos rfl]
      exact token_quo_bad b off n cap i x v sg zs w hx hT hz hn hl hi' hcap hk h1 h2 h3 h5
  cases h4 : stA zs sg i
  · rw [tok_none hiz h1 h2 h3 h4]
    exact token_none b off n cap i x v sg zs w hx hT hz hn hl hi' hcap hk h1 h2 h3 h4
  · rw [tok_sign hiz h1 h2 h3 h4]
    exact token_sign b off n cap i x v sg zs w hx hT hz hn hl hi' hcap hk h1 h2 h3 h4
end Go.Proofs.YtdlfndjgncdgfaaGreatDoor
