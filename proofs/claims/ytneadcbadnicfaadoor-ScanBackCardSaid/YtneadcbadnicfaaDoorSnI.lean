/-
  The scanner's Number: the number's text at its place is the plain one. Condition: the variable ErrRange holds an error.
-/
import Derived.Test.YtneadcbadnicfaaDoorSnG
import Derived.Test.YtneadcbadnicfaaDoorLexNumber
import Derived.Test.YtneadcbadnicfaaDoorBtsP
namespace Go.Proofs.YtneadcbadnicfaaDoor
open Go.ChangeShapes Go.WideShapes Go.ChangeAt Go.RowKit Go.Shelf

/-- Is a text a number between -2^63 and 2^64 - 1? -/
def wholeZ (t : List Int) : Bool := (numV t 8 true).isSome || (numV t 8 false).isSome
def numEndAt (zs : List Int) (b : Nat) : Nat := runTo zs isDig (minusTo zs b)
def numTxt (zs : List Int) (b : Nat) : List Int := (zs.drop b).take (numEndAt zs b - b)
def numStop (zs : List Int) (d : Nat) : Bool := stA zs (isC 46) d || (stA zs (isC 101) d || stA zs (isC 69) d)
/-- The number at a place, behind blanks: its text, and the place behind it. -/
def numAt (zs : List Int) (a : Nat) : Option (List Int × Nat) :=
  if numStop zs (numEndAt zs (runTo zs isBlank a)) = true then none
  else if wholeZ (numTxt zs (runTo zs isBlank a)) = true then some (numTxt zs (runTo zs isBlank a), numEndAt zs (runTo zs isBlank a)) else none
theorem numEndAt_ge (zs : List Int) (b : Nat) : b ≤ numEndAt zs b := by
  unfold numEndAt minusTo
  have := runTo_ge zs isDig (if stA zs (isC 45) b = true then b + 1 else b)
  split at this <;> split <;> first | omega | simp_all
theorem conv_slice {W : World} {p : Option Addr} {zs : List Int} (h : Bytes W p zs) (c : Nat) : (convert 22 9 (.slice p zs.length c)).run Tryd.prog W = .ok (.string (strOfNums zs)) W := by
  by_cases hz : zs = []
  · subst hz
    exact conv_zero W _ 5 _ Tryd.underlying22 Tryd.underlying5 Tryd.underlying9 p c
  · obtain ⟨b, off, rfl, _, hc⟩ := h.2 hz
    exact run_convert_bytes_arg W _ 5 Tryd.underlying22 Tryd.underlying5 b off zs.length c zs rfl hc _ Tryd.underlying9
theorem swhole_any (s : ByteArray) (w : World) (hE : ErrV w) (hs : s.size ≤ 281474976710656) :
    Calls Tryd.prog 45 #[.string s] w fun e w' => e = .returned (.bool (wholeZ (bts s))) ∧ Below w.heap.size w w' := by
  have N1 := Lib.hid (fun W hE => lexNumber_any s 8 true W hE hs)
  have N2 := Lib.hid (fun W hE => lexNumber_any s 8 false W hE hs)
  have HE := Lib.hid hE
  unfold wholeZ
  clear hE hs
  generalize numV (bts s) 8 true = x at N1 ⊢
  generalize numV (bts s) 8 false = y at N2 ⊢
  cases x with
  | none =>
    cases y with
    | none =>
      have N1' : Hid (∀ W, ErrV W → Calls Tryd.prog 56 #[.string s, .int .i64 8, .bool true] W fun e w' => e = .returned (.tuple #[.int .u64 0, .bool false]) ∧ Below W.heap.size W w') := N1
      have N2' : Hid (∀ W, ErrV W → Calls Tryd.prog 56 #[.string s, .int .i64 8, .bool false] W fun e w' => e = .returned (.tuple #[.int .u64 0, .bool false]) ∧ Below W.heap.size W w') := N2
      clear N1 N2
      go_enter Tryd.func45, Tryd.ntmps45
      go_wp2_with fail
      refine (N1'.out _ HE.out).mono ?_
      rintro e w1 ⟨rfl, hb1⟩
      have HB1 := Lib.hid hb1
      clear hb1
      go_wp2_with fail
      refine (N2'.out _ (HE.out.later HB1.out)).mono ?_
      rintro e w2 ⟨rfl, hb2⟩
      have HB2 := Lib.hid (HB1.out.trans (hb2.mono HB1.out.size))
      clear hb2
      go_wp2
      go_ret
      exact ⟨rfl, HB2.out⟩
    | some y =>
      have N1' : Hid (∀ W, ErrV W → Calls Tryd.prog 56 #[.string s, .int .i64 8, .bool true] W fun e w' => e = .returned (.tuple #[.int .u64 0, .bool false]) ∧ Below W.heap.size W w') := N1
      have N2' : Hid (∀ W, ErrV W → Calls Tryd.prog 56 #[.string s, .int .i64 8, .bool false] W fun e w' => e = .returned (.tuple #[.int .u64 (y : Nat), .bool true]) ∧ Below W.heap.size W w') := N2
      clear N1 N2
      go_enter Tryd.func45, Tryd.ntmps45
      go_wp2_with fail
      refine (N1'.out _ HE.out).mono ?_
      rintro e w1 ⟨rfl, hb1⟩
      have HB1 := Lib.hid hb1
      clear hb1
      go_wp2_with fail
      refine (N2'.out _ (HE.out.later HB1.out)).mono ?_
      rintro e w2 ⟨rfl, hb2⟩
      have HB2 := Lib.hid (HB1.out.trans (hb2.mono HB1.out.size))
      clear hb2
      go_wp2
      go_ret
      exact ⟨rfl, HB2.out⟩
  | some x =>
    cases y with
    | none =>
      have N1' : Hid (∀ W, ErrV W → Calls Tryd.prog 56 #[.string s, .int .i64 8, .bool true] W fun e w' => e = .returned (.tuple #[.int .u64 (x : Nat), .bool true]) ∧ Below W.heap.size W w') := N1
      have N2' : Hid (∀ W, ErrV W → Calls Tryd.prog 56 #[.string s, .int .i64 8, .bool false] W fun e w' => e = .returned (.tuple #[.int .u64 0, .bool false]) ∧ Below W.heap.size W w') := N2
      clear N1 N2
      go_enter Tryd.func45, Tryd.ntmps45
      go_wp2_with fail
      refine (N1'.out _ HE.out).mono ?_
      rintro e w1 ⟨rfl, hb1⟩
      have HB1 := Lib.hid hb1
      clear hb1
      go_wp2_with fail
      refine (N2'.out _ (HE.out.later HB1.out)).mono ?_
      rintro e w2 ⟨rfl, hb2⟩
      have HB2 := Lib.hid (HB1.out.trans (hb2.mono HB1.out.size))
      clear hb2
      go_wp2
      go_ret
      exact ⟨rfl, HB2.out⟩
    | some y =>
      have N1' : Hid (∀ W, ErrV W → Calls Tryd.prog 56 #[.string s, .int .i64 8, .bool true] W fun e w' => e = .returned (.tuple #[.int .u64 (x : Nat), .bool true]) ∧ Below W.heap.size W w') := N1
      have N2' : Hid (∀ W, ErrV W → Calls Tryd.prog 56 #[.string s, .int .i64 8, .bool false] W fun e w' => e = .returned (.tuple #[.int .u64 (y : Nat), .bool true]) ∧ Below W.heap.size W w') := N2
      clear N1 N2
      go_enter Tryd.func45, Tryd.ntmps45
      go_wp2_with fail
      refine (N1'.out _ HE.out).mono ?_
      rintro e w1 ⟨rfl, hb1⟩
      have HB1 := Lib.hid hb1
      clear hb1
      go_wp2_with fail
      refine (N2'.out _ (HE.out.later HB1.out)).mono ?_
      rintro e w2 ⟨rfl, hb2⟩
      have HB2 := Lib.hid (HB1.out.trans (hb2.mono HB1.out.size))
      clear hb2
      go_wp2
      go_ret
      exact ⟨rfl, HB2.out⟩
/-- What Number leaves. -/
def NumPost (w : World) (s mb : Nat) (p : Option Addr) (n cap K : Nat) (zs : List Int) (o : Option (List Int × Nat)) (e : Ending) (w' : World) : Prop :=
  (∃ T b, o = some (T, b) ∧ e = .returned (.tuple #[.string (strOfNums T), .bool true]) ∧ ScTo w s mb p n cap K zs b w') ∨
  (o = none ∧ ∃ a', e = .returned (.tuple #[.string ⟨#[]⟩, .bool false]) ∧ ScTo w s mb p n cap K zs a' w')
def NotErr (s mb : Nat) : Prop := 3 ≠ s ∧ 3 ≠ mb
theorem ErrV.exw {w w' : World} {R S : Nat} (h : ErrV w) (hb : Exw R S w.heap.size w w') (hn : 3 ≠ R ∧ 3 ≠ S) : ErrV w' := by
  obtain ⟨t, v, h⟩ := h
  exact ⟨t, v, cell_exw hb h hn.1 hn.2⟩
set_option maxHeartbeats 1600000 in
theorem snum_any (s mb : Nat) (p : Option Addr) (n cap K : Nat) (zs : List Int) (a : Nat) (w : World) (hE : ErrV w) (hN : NotErr s mb) (h : ScSt w s mb p n cap K zs a) :
    Calls Tryd.prog 28 #[.pointer (some ⟨s, 0, none⟩)] w fun e w' => NumPost w s mb p n cap K zs (numAt zs a) e w' := by
  obtain ⟨o, ho⟩ : ∃ o, numAt zs a = o := ⟨_, rfl⟩
  rw [ho]
  unfold numAt at ho
  have HE := Lib.hid hE
  have HN := Lib.hid hN
  have B1 := Lib.hid (sc_blank s mb p n cap K zs a w h)
  have hcap := h.cap_
  have hhigh := h.high
  have hlow := h.low
  have hlen := h.len
  have hbn : runTo zs isBlank a ≤ n := by have := runTo_le zs isBlank a (by rw [hlen]; exact h.le); omega
  have HY := Lib.hid h.by_
  have HNP := Lib.hid h.np
  clear hE hN h
  generalize runTo zs isBlank a = b at ho B1 hbn
  have T1 := Lib.hid (fun W h => taken_any s mb p n cap K zs b 45 W h)
  have D1 := Lib.hid (fun W h => pass_any s mb p n cap K zs (minusTo zs b) 41 isDig W h (kind_digit W))
  have hdb : b ≤ numEndAt zs b := numEndAt_ge zs b
  have T1' : Hid (∀ W, ScSt W s mb p n cap K zs b → Calls Tryd.prog 32 #[.pointer (some ⟨s, 0, none⟩), .int .u8 45] W fun e w' => (∃ x, e = .returned (.bool x)) ∧ ScTo W s mb p n cap K zs (minusTo zs b) w') := fun W h => (T1.out W h).mono fun e w' h => ⟨⟨_, h.1⟩, h.2⟩
  have D1' : Hid (∀ W, ScSt W s mb p n cap K zs (minusTo zs b) → Calls Tryd.prog 42 #[.pointer (some ⟨s, 0, none⟩), .func (.func 41) #[] #[]] W fun e w' => e = .returned (.bool true) ∧ ScTo W s mb p n cap K zs (numEndAt zs b) w') := D1
  clear T1 D1
  have HDN : Hid (numEndAt zs b ≤ n) := by
    have h1 : minusTo zs b ≤ zs.length := by
      unfold minusTo
      split
      · rename_i h; have := stA_lt h; omega
      · omega
    have := runTo_le zs isDig (minusTo zs b) h1
    unfold Hid numEndAt
    omega
  have HTX : Hid (numTxt zs b = (zs.drop b).take (numEndAt zs b - b)) := rfl
  generalize numTxt zs b = t at ho HTX
  generalize numEndAt zs b = d at ho HTX D1' hdb HDN
  generalize minusTo zs b = c at T1' D1'
  have S1 := Lib.hid (fun W h => sc_stands s mb p n cap K zs d 46 W h)
  have S2 := Lib.hid (fun W h => sc_stands s mb p n cap K zs d 101 W h)
  have S3 := Lib.hid (fun W h => sc_stands s mb p n cap K zs d 69 W h)
  unfold numStop at ho
  generalize stA zs (isC 46) d = x1 at S1 ho
  generalize stA zs (isC 101) d = x2 at S2 ho
  generalize stA zs (isC 69) d = x3 at S3 ho
  cases x1
  rotate_left
  · skip
    have HO : Hid (o = none) := (show none = o by simpa using ho).symm
    clear ho
    go_enter Tryd.func28, Tryd.ntmps28
    go_wp2_with fail
    refine B1.out.mono ?_
    rintro e w1 ⟨rfl, h1⟩
    have H1 := Lib.hid h1
    obtain ⟨hs, c0, c1, c2, f0, f1, f2⟩ := blk3 h1.2.blk
    clear h1
    go_wp2_with fail
    refine (T1'.out _ H1.out.2).mono ?_
    rintro e w2 ⟨⟨xx, rfl⟩, h2⟩
    have H2 := Lib.hid (H1.out.then h2)
    clear h2 hs c0 c1 c2 f0 f1 f2
    go_wp2_with fail
    refine (D1'.out _ H2.out.2).mono ?_
    rintro e w3 ⟨rfl, h3⟩
    have H3 := Lib.hid (H2.out.then h3)
    clear h3
    go_wp2_with fail
    refine (S1.out _ H3.out.2).mono ?_
    rintro e w4 ⟨rfl, h4⟩
    have H4 := Lib.hid (H3.out.bel h4)
    clear h4
    go_wp2
    go_ret2
    exact .inr ⟨HO.out, _, rfl, H4.out⟩
  cases x2
  rotate_left
  · skip
    have HO : Hid (o = none) := (show none = o by simpa using ho).symm
    clear ho
    go_enter Tryd.func28, Tryd.ntmps28
    go_wp2_with fail
    refine B1.out.mono ?_
    rintro e w1 ⟨rfl, h1⟩
    have H1 := Lib.hid h1
    obtain ⟨hs, c0, c1, c2, f0, f1, f2⟩ := blk3 h1.2.blk
    clear h1
    go_wp2_with fail
    refine (T1'.out _ H1.out.2).mono ?_
    rintro e w2 ⟨⟨xx, rfl⟩, h2⟩
    have H2 := Lib.hid (H1.out.then h2)
    clear h2 hs c0 c1 c2 f0 f1 f2
    go_wp2_with fail
    refine (D1'.out _ H2.out.2).mono ?_
    rintro e w3 ⟨rfl, h3⟩
    have H3 := Lib.hid (H2.out.then h3)
    clear h3
    go_wp2_with fail
    refine (S1.out _ H3.out.2).mono ?_
    rintro e w4 ⟨rfl, h4⟩
    have H4 := Lib.hid (H3.out.bel h4)
    clear h4
    go_wp2_with fail
    refine (S2.out _ H4.out.2).mono ?_
    rintro e w5 ⟨rfl, h5⟩
    have H5 := Lib.hid (H4.out.bel h5)
    clear h5
    go_wp2
    go_ret2
    exact .inr ⟨HO.out, _, rfl, H5.out⟩
  cases x3
  rotate_left
  · skip
    have HO : Hid (o = none) := (show none = o by simpa using ho).symm
    clear ho
    go_enter Tryd.func28, Tryd.ntmps28
    go_wp2_with fail
    refine B1.out.mono ?_
    rintro e w1 ⟨rfl, h1⟩
    have H1 := Lib.hid h1
    obtain ⟨hs, c0, c1, c2, f0, f1, f2⟩ := blk3 h1.2.blk
    clear h1
    go_wp2_with fail
    refine (T1'.out _ H1.out.2).mono ?_
    rintro e w2 ⟨⟨xx, rfl⟩, h2⟩
    have H2 := Lib.hid (H1.out.then h2)
    clear h2 hs c0 c1 c2 f0 f1 f2
    go_wp2_with fail
    refine (D1'.out _ H2.out.2).mono ?_
    rintro e w3 ⟨rfl, h3⟩
    have H3 := Lib.hid (H2.out.then h3)
    clear h3
    go_wp2_with fail
    refine (S1.out _ H3.out.2).mono ?_
    rintro e w4 ⟨rfl, h4⟩
    have H4 := Lib.hid (H3.out.bel h4)
    clear h4
    go_wp2_with fail
    refine (S2.out _ H4.out.2).mono ?_
    rintro e w5 ⟨rfl, h5⟩
    have H5 := Lib.hid (H4.out.bel h5)
    clear h5
    go_wp2_with fail
    refine (S3.out _ H5.out.2).mono ?_
    rintro e w6 ⟨rfl, h6⟩
    have H6 := Lib.hid (H5.out.bel h6)
    clear h6
    go_wp2
    go_ret2
    exact .inr ⟨HO.out, _, rfl, H6.out⟩
  rw [if_neg (by decide)] at ho
  have HSL : Hid (t.length ≤ n) := by have e := HTX.out; unfold Hid; rw [e]; simp; omega
  have HTB : Hid (∀ z ∈ t, 0 ≤ z ∧ z ≤ 255) := by have e := HTX.out; unfold Hid; rw [e]; exact fun z hz => bd_mem HY.out.1 z (List.mem_of_mem_drop (List.mem_of_mem_take hz))
  have HBT : Hid (bts (strOfNums t) = t) := bts_strOf t HTB.out
  have HSZ : Hid ((strOfNums t).size ≤ 281474976710656) := by unfold Hid; rw [← bts_length, HBT.out]; have := HSL.out; omega
  have HWH : Hid (wholeZ (bts (strOfNums t)) = wholeZ t) := by unfold Hid; rw [HBT.out]
  have hdn : d ≤ n := HDN.out
  obtain ⟨S, hS⟩ : ∃ S, strOfNums t = S := ⟨_, rfl⟩
  have HSS : Hid (strOfNums t = S) := hS
  rw [hS] at HSZ HWH
  clear hS
  by_cases hlt0 : b < d
  · cases hw : wholeZ t
    · rw [hw] at HWH
      have HO : Hid (o = none) := by rw [if_neg (by rw [hw]; decide)] at ho; exact ho.symm
      clear ho hw
      obtain ⟨bb, off, rfl, hlt, hc⟩ := HY.out.2 (by intro e; rw [e] at hlen; simp at hlen; omega)
      have CV : Hid (∀ W, Bytes W (some ⟨bb, off, none⟩) zs → ∀ c, (convert 22 9 (.slice (some ⟨bb, off + b, none⟩) (d - b) c)).run Tryd.prog W = .ok (.string S) W) := by
        intro W hz c
        have hb : Bytes W (some ⟨bb, off + b, none⟩) t := by
          refine ⟨bd_le HTB.out, fun _ => ?_⟩
          obtain ⟨b', off', e, hlt', hc'⟩ := hz.2 (by intro e; rw [e] at hlen; simp at hlen; omega)
          injection e with e
          injection e with e1 e2 _
          subst e1 e2
          refine ⟨_, _, rfl, hlt', fun i hi => ?_⟩
          have hi' : i < d - b := by have e := HTX.out; rw [e] at hi; simp at hi; omega
          have := hc' (b + i) (by omega)
          rw [Nat.add_assoc, this, HTX.out, getD_take hi']
        have := conv_slice hb c
        rw [show t.length = d - b by have e := HTX.out; rw [e]; simp; omega, HSS.out] at this
        exact this
      have hcb : ¬ cap = b := by omega
      clear hc hlt hlen
      go_enter Tryd.func28, Tryd.ntmps28
      go_wp2_with fail
      refine B1.out.mono ?_
      rintro e w1 ⟨rfl, h1⟩
      have H1 := Lib.hid h1
      obtain ⟨hs, c0, c1, c2, f0, f1, f2⟩ := blk3 h1.2.blk
      clear h1
      go_wp2_with fail
      refine (T1'.out _ H1.out.2).mono ?_
      rintro e w2 ⟨⟨xx, rfl⟩, h2⟩
      have H2 := Lib.hid (H1.out.then h2)
      clear h2 hs c0 c1 c2 f0 f1 f2
      go_wp2_with fail
      refine (D1'.out _ H2.out.2).mono ?_
      rintro e w3 ⟨rfl, h3⟩
      have H3 := Lib.hid (H2.out.then h3)
      clear h3
      go_wp2_with fail
      refine (S1.out _ H3.out.2).mono ?_
      rintro e w4 ⟨rfl, h4⟩
      have H4 := Lib.hid (H3.out.bel h4)
      clear h4
      go_wp2_with fail
      refine (S2.out _ H4.out.2).mono ?_
      rintro e w5 ⟨rfl, h5⟩
      have H5 := Lib.hid (H4.out.bel h5)
      clear h5
      go_wp2_with fail
      refine (S3.out _ H5.out.2).mono ?_
      rintro e w6 ⟨rfl, h6⟩
      have H6 := Lib.hid (H5.out.bel h6)
      clear h6
      obtain ⟨hs, c0, c1, c2, f0, f1, f2⟩ := blk3 H6.out.2.blk
      have hdn := H6.out.2.le
      have cv : ∀ c nq, (convert 22 9 (.slice (some ⟨bb, off + b, none⟩) (d - b) c)).run Tryd.prog (w6.drewN nq) = .ok (.string S) (w6.drewN nq) := fun c nq => CV.out _ (H6.out.2.by_.below (Nat.le_refl _) (bel_drewN (Below.refl _ _) nq)) c
      go_wp2
      go_quiet (fail)
      go_wp2_with fail
      refine (swhole_any S _ ((HE.out.exw H6.out.1 HN.out).later (bel_drewN (Below.refl _ _) _)) HSZ.out).mono ?_
      rintro e w7 ⟨rfl, hb7⟩
      have H7 := Lib.hid (H6.out.bel ((bel_drewN (Below.refl _ _) _).trans (hb7.mono (Nat.le_refl _))))
      clear hb7
      rw [HWH.out]
      go_wp2
      go_ret2
      exact .inr ⟨HO.out, _, rfl, H7.out⟩
    · rw [hw] at HWH
      have HO : Hid (o = some (t, d)) := by rw [if_pos hw] at ho; exact ho.symm
      clear ho hw
      obtain ⟨bb, off, rfl, hlt, hc⟩ := HY.out.2 (by intro e; rw [e] at hlen; simp at hlen; omega)
      have CV : Hid (∀ W, Bytes W (some ⟨bb, off, none⟩) zs → ∀ c, (convert 22 9 (.slice (some ⟨bb, off + b, none⟩) (d - b) c)).run Tryd.prog W = .ok (.string S) W) := by
        intro W hz c
        have hb : Bytes W (some ⟨bb, off + b, none⟩) t := by
          refine ⟨bd_le HTB.out, fun _ => ?_⟩
          obtain ⟨b', off', e, hlt', hc'⟩ := hz.2 (by intro e; rw [e] at hlen; simp at hlen; omega)
          injection e with e
          injection e with e1 e2 _
          subst e1 e2
          refine ⟨_, _, rfl, hlt', fun i hi => ?_⟩
          have hi' : i < d - b := by have e := HTX.out; rw [e] at hi; simp at hi; omega
          have := hc' (b + i) (by omega)
          rw [Nat.add_assoc, this, HTX.out, getD_take hi']
        have := conv_slice hb c
        rw [show t.length = d - b by have e := HTX.out; rw [e]; simp; omega, HSS.out] at this
        exact this
      have hcb : ¬ cap = b := by omega
      clear hc hlt hlen
      go_enter Tryd.func28, Tryd.ntmps28
      go_wp2_with fail
      refine B1.out.mono ?_
      rintro e w1 ⟨rfl, h1⟩
      have H1 := Lib.hid h1
      obtain ⟨hs, c0, c1, c2, f0, f1, f2⟩ := blk3 h1.2.blk
      clear h1
      go_wp2_with fail
      refine (T1'.out _ H1.out.2).mono ?_
      rintro e w2 ⟨⟨xx, rfl⟩, h2⟩
      have H2 := Lib.hid (H1.out.then h2)
      clear h2 hs c0 c1 c2 f0 f1 f2
      go_wp2_with fail
      refine (D1'.out _ H2.out.2).mono ?_
      rintro e w3 ⟨rfl, h3⟩
      have H3 := Lib.hid (H2.out.then h3)
      clear h3
      go_wp2_with fail
      refine (S1.out _ H3.out.2).mono ?_
      rintro e w4 ⟨rfl, h4⟩
      have H4 := Lib.hid (H3.out.bel h4)
      clear h4
      go_wp2_with fail
      refine (S2.out _ H4.out.2).mono ?_
      rintro e w5 ⟨rfl, h5⟩
      have H5 := Lib.hid (H4.out.bel h5)
      clear h5
      go_wp2_with fail
      refine (S3.out _ H5.out.2).mono ?_
      rintro e w6 ⟨rfl, h6⟩
      have H6 := Lib.hid (H5.out.bel h6)
      clear h6
      obtain ⟨hs, c0, c1, c2, f0, f1, f2⟩ := blk3 H6.out.2.blk
      have hdn := H6.out.2.le
      have cv : ∀ c nq, (convert 22 9 (.slice (some ⟨bb, off + b, none⟩) (d - b) c)).run Tryd.prog (w6.drewN nq) = .ok (.string S) (w6.drewN nq) := fun c nq => CV.out _ (H6.out.2.by_.below (Nat.le_refl _) (bel_drewN (Below.refl _ _) nq)) c
      go_wp2
      go_quiet (fail)
      go_wp2_with fail
      refine (swhole_any S _ ((HE.out.exw H6.out.1 HN.out).later (bel_drewN (Below.refl _ _) _)) HSZ.out).mono ?_
      rintro e w7 ⟨rfl, hb7⟩
      have H7 := Lib.hid (H6.out.bel ((bel_drewN (Below.refl _ _) _).trans (hb7.mono (Nat.le_refl _))))
      clear hb7
      rw [HWH.out]
      go_wp2
      go_ret2
      exact .inl ⟨t, d, HO.out, by rw [HSS.out]; rfl, H7.out⟩
  · obtain rfl : d = b := by omega
    have HT0 : Hid (t = []) := by have e := HTX.out; unfold Hid; rw [e]; simp
    have HO : Hid (o = none) := by rw [if_neg (by rw [HT0.out]; decide)] at ho; exact ho.symm
    have HWH : Hid (wholeZ (bts S) = false) := by unfold Hid; rw [HWH.out, HT0.out]; rfl
    clear ho hdb
    rcases p with _ | ⟨bb, off, xx⟩
    · skip
      go_enter Tryd.func28, Tryd.ntmps28
      go_wp2_with fail
      refine B1.out.mono ?_
      rintro e w1 ⟨rfl, h1⟩
      have H1 := Lib.hid h1
      obtain ⟨hs, c0, c1, c2, f0, f1, f2⟩ := blk3 h1.2.blk
      clear h1
      go_wp2_with fail
      refine (T1'.out _ H1.out.2).mono ?_
      rintro e w2 ⟨⟨xx, rfl⟩, h2⟩
      have H2 := Lib.hid (H1.out.then h2)
      clear h2 hs c0 c1 c2 f0 f1 f2
      go_wp2_with fail
      refine (D1'.out _ H2.out.2).mono ?_
      rintro e w3 ⟨rfl, h3⟩
      have H3 := Lib.hid (H2.out.then h3)
      clear h3
      go_wp2_with fail
      refine (S1.out _ H3.out.2).mono ?_
      rintro e w4 ⟨rfl, h4⟩
      have H4 := Lib.hid (H3.out.bel h4)
      clear h4
      go_wp2_with fail
      refine (S2.out _ H4.out.2).mono ?_
      rintro e w5 ⟨rfl, h5⟩
      have H5 := Lib.hid (H4.out.bel h5)
      clear h5
      go_wp2_with fail
      refine (S3.out _ H5.out.2).mono ?_
      rintro e w6 ⟨rfl, h6⟩
      have H6 := Lib.hid (H5.out.bel h6)
      clear h6
      obtain ⟨hs, c0, c1, c2, f0, f1, f2⟩ := blk3 H6.out.2.blk
      have hdn := H6.out.2.le
      have cv : ∀ q c nq, (convert 22 9 (.slice q 0 c)).run Tryd.prog (w6.drewN nq) = .ok (.string S) (w6.drewN nq) := fun q c nq => by
        rw [← HSS.out, HT0.out]
        exact conv_zero _ _ 5 _ Tryd.underlying22 Tryd.underlying5 Tryd.underlying9 q c
      go_wp2
      go_quiet (fail)
      go_wp2_with fail
      refine (swhole_any S _ ((HE.out.exw H6.out.1 HN.out).later (bel_drewN (Below.refl _ _) _)) HSZ.out).mono ?_
      rintro e w7 ⟨rfl, hb7⟩
      have H7 := Lib.hid (H6.out.bel ((bel_drewN (Below.refl _ _) _).trans (hb7.mono (Nat.le_refl _))))
      clear hb7
      rw [HWH.out]
      go_wp2
      go_ret2
      exact .inr ⟨HO.out, _, rfl, H7.out⟩
    · by_cases hcn : cap = d
      · subst hcn
        go_enter Tryd.func28, Tryd.ntmps28
        go_wp2_with fail
        refine B1.out.mono ?_
        rintro e w1 ⟨rfl, h1⟩
        have H1 := Lib.hid h1
        obtain ⟨hs, c0, c1, c2, f0, f1, f2⟩ := blk3 h1.2.blk
        clear h1
        go_wp2_with fail
        refine (T1'.out _ H1.out.2).mono ?_
        rintro e w2 ⟨⟨xx, rfl⟩, h2⟩
        have H2 := Lib.hid (H1.out.then h2)
        clear h2 hs c0 c1 c2 f0 f1 f2
        go_wp2_with fail
        refine (D1'.out _ H2.out.2).mono ?_
        rintro e w3 ⟨rfl, h3⟩
        have H3 := Lib.hid (H2.out.then h3)
        clear h3
        go_wp2_with fail
        refine (S1.out _ H3.out.2).mono ?_
        rintro e w4 ⟨rfl, h4⟩
        have H4 := Lib.hid (H3.out.bel h4)
        clear h4
        go_wp2_with fail
        refine (S2.out _ H4.out.2).mono ?_
        rintro e w5 ⟨rfl, h5⟩
        have H5 := Lib.hid (H4.out.bel h5)
        clear h5
        go_wp2_with fail
        refine (S3.out _ H5.out.2).mono ?_
        rintro e w6 ⟨rfl, h6⟩
        have H6 := Lib.hid (H5.out.bel h6)
        clear h6
        obtain ⟨hs, c0, c1, c2, f0, f1, f2⟩ := blk3 H6.out.2.blk
        have hdn := H6.out.2.le
        have cv : ∀ q c nq, (convert 22 9 (.slice q 0 c)).run Tryd.prog (w6.drewN nq) = .ok (.string S) (w6.drewN nq) := fun q c nq => by
          rw [← HSS.out, HT0.out]
          exact conv_zero _ _ 5 _ Tryd.underlying22 Tryd.underlying5 Tryd.underlying9 q c
        go_wp2
        go_quiet (fail)
        go_wp2_with fail
        refine (swhole_any S _ ((HE.out.exw H6.out.1 HN.out).later (bel_drewN (Below.refl _ _) _)) HSZ.out).mono ?_
        rintro e w7 ⟨rfl, hb7⟩
        have H7 := Lib.hid (H6.out.bel ((bel_drewN (Below.refl _ _) _).trans (hb7.mono (Nat.le_refl _))))
        clear hb7
        rw [HWH.out]
        go_wp2
        go_ret2
        exact .inr ⟨HO.out, _, rfl, H7.out⟩
      · skip
        go_enter Tryd.func28, Tryd.ntmps28
        go_wp2_with fail
        refine B1.out.mono ?_
        rintro e w1 ⟨rfl, h1⟩
        have H1 := Lib.hid h1
        obtain ⟨hs, c0, c1, c2, f0, f1, f2⟩ := blk3 h1.2.blk
        clear h1
        go_wp2_with fail
        refine (T1'.out _ H1.out.2).mono ?_
        rintro e w2 ⟨⟨xx, rfl⟩, h2⟩
        have H2 := Lib.hid (H1.out.then h2)
        clear h2 hs c0 c1 c2 f0 f1 f2
        go_wp2_with fail
        refine (D1'.out _ H2.out.2).mono ?_
        rintro e w3 ⟨rfl, h3⟩
        have H3 := Lib.hid (H2.out.then h3)
        clear h3
        go_wp2_with fail
        refine (S1.out _ H3.out.2).mono ?_
        rintro e w4 ⟨rfl, h4⟩
        have H4 := Lib.hid (H3.out.bel h4)
        clear h4
        go_wp2_with fail
        refine (S2.out _ H4.out.2).mono ?_
        rintro e w5 ⟨rfl, h5⟩
        have H5 := Lib.hid (H4.out.bel h5)
        clear h5
        go_wp2_with fail
        refine (S3.out _ H5.out.2).mono ?_
        rintro e w6 ⟨rfl, h6⟩
        have H6 := Lib.hid (H5.out.bel h6)
        clear h6
        obtain ⟨hs, c0, c1, c2, f0, f1, f2⟩ := blk3 H6.out.2.blk
        have hdn := H6.out.2.le
        have cv : ∀ q c nq, (convert 22 9 (.slice q 0 c)).run Tryd.prog (w6.drewN nq) = .ok (.string S) (w6.drewN nq) := fun q c nq => by
          rw [← HSS.out, HT0.out]
          exact conv_zero _ _ 5 _ Tryd.underlying22 Tryd.underlying5 Tryd.underlying9 q c
        go_wp2
        go_quiet (fail)
        go_wp2_with fail
        refine (swhole_any S _ ((HE.out.exw H6.out.1 HN.out).later (bel_drewN (Below.refl _ _) _)) HSZ.out).mono ?_
        rintro e w7 ⟨rfl, hb7⟩
        have H7 := Lib.hid (H6.out.bel ((bel_drewN (Below.refl _ _) _).trans (hb7.mono (Nat.le_refl _))))
        clear hb7
        rw [HWH.out]
        go_wp2
        go_ret2
        exact .inr ⟨HO.out, _, rfl, H7.out⟩
end Go.Proofs.YtneadcbadnicfaaDoor
