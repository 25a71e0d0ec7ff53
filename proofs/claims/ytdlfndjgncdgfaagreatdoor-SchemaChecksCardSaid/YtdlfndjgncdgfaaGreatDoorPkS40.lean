/-
  The document's own oneToken and unlike: is a text one token; are no two texts the same? Conditions: those that each theorem names; the library's tables hold what the row lists.
-/
import Derived.Test.YtdlfndjgncdgfaaGreatDoorPkS2
import Derived.Test.YtdlfndjgncdgfaaGreatDoorPkS11
import Derived.Test.YtdlfndjgncdgfaaGreatDoorPkS18
import Derived.Test.YtdlfndjgncdgfaaGreatDoorPkS33
import Derived.Test.YtdlfndjgncdgfaaGreatDoorPkS38
import Derived.Test.YtdlfndjgncdgfaaGreatDoorPkS39
import Derived.Deep.QuietTactic
import Derived.BigQuiet
namespace Go.Proofs.YtdlfndjgncdgfaaGreatDoor
open Go.ChangeShapes Go.WideShapes Go.ChangeAt Go.RowKit Go.Shelf

set_option maxRecDepth 100000 in
set_option maxHeartbeats 2000000 in
theorem one_sign (s sg : ByteArray) (x : Int) (i : Nat) (w : World) (hx : x = i) (hi : i < s.size) (hs : s.size ≤ 281474976710656) (hg : sg.size ≤ 9223372036854775807) (h1 : stA (bts s) isLet i = false) (h2 : begins (bts s) i = false) (h3 : stA (bts s) (isC 34) i = false) :
    Calls Tryz.prog 76 #[.string s, .string sg, .int .i64 x] w fun e w' => OneVal (if amg sg ((bts s).getD i 0) = true then some (⟨4, sub (bts s) i (i + 1), i⟩, i + 1) else none) e ∧ Below w.heap.size w w' := by
  subst hx
  unfold begins at h2
  rw [Bool.or_eq_false_iff] at h2
  obtain ⟨h4, h5⟩ := h2
  have hil : i < (bts s).length := by rw [bts_length]; exact hi
  rw [stA_of hil] at h1 h3 h4 h5
  rw [stA_at (p := isDig) rfl (i + 1)] at h5
  have hzi := bts_get hi
  have HHAS := Lib.hid (fun W => has_any sg ((bts s).getD i 0) W hg)
  obtain ⟨r, hr⟩ : ∃ r, (if amg sg ((bts s).getD i 0) = true then some ((⟨4, sub (bts s) i (i + 1), i⟩ : Tok), i + 1) else none) = r := ⟨_, rfl⟩
  have HR := Lib.hid hr
  have HX := Lib.hid (ext_str s i (i + 1))
  rw [hr]
  clear hr
  have HAT := Lib.hid (fun W => at_any s ((i : Int) + 1) (i + 1) W (by omega))
  generalize (bts s).getD i 0 = z at *
  generalize (bts s).getD (i + 1) 0 = z1 at *
  have hz : (s[i].toNat : Int) = z := hzi.symm
  have n34 : (z == 34) = false := h3
  have H1 := Lib.hid h1
  have H4 := Lib.hid h4
  have H5 := Lib.hid h5
  clear h1 h3 h4 h5 hzi hil
  by_cases h45 : z = 45
  · have t45 : (z == 45) = true := beq_iff_eq.2 h45
    have H5' := Lib.hid (show isDig z1 = false by have := H5.out; rw [h45] at this; exact this)
    clear h45
    go_enter Tryz.func76, Tryz.ntmps76
    go_wp2_with fail
    refine (rletter_any _ _).mono ?_
    rintro e w1 ⟨rfl, rfl⟩
    rw [H1.out]
    go_wp2_with fail
    refine (rdigit_any _ _).mono ?_
    rintro e w1 ⟨rfl, rfl⟩
    rw [H4.out]
    go_wp2_with fail
    refine (HAT.out _).mono ?_
    rintro e w1 ⟨rfl, rfl⟩
    go_wp2_with fail
    refine (rdigit_any _ _).mono ?_
    rintro e w1 ⟨rfl, rfl⟩
    rw [H5'.out]
    go_wp2_with fail
    refine (HHAS.out _).mono ?_
    rintro e w1 ⟨rfl, rfl⟩
    cases hq : amg sg z
    · have HRR := Lib.hid (show r = none by rw [← HR.out, hq]; rfl)
      clear hq
      go_wp2
      exact bodyPost_ret (v := .tuple #[.agg #[.int .i64 0, .string ⟨#[]⟩, .int .i64 i], .int .i64 i, .bool false]) (by simp [results, Tryz.results76, go_sem]) rfl ⟨HRR.out ▸ ⟨_, _, _, _, rfl⟩, two_new w _ _⟩
    · have HRR := Lib.hid (show r = some ((⟨4, sub (bts s) i (i + 1), i⟩ : Tok), i + 1) by rw [← HR.out, hq]; rfl)
      clear hq
      go_upto_region 33 with (fail)
      rw [HX.out]
      go_wp2
      exact bodyPost_ret (v := .tuple #[.agg #[.int .i64 4, .string (strOfNums (sub (bts s) i (i + 1))), .int .i64 i], .int .i64 (i + 1 : Nat), .bool true]) (by simp [results, Tryz.results76, go_sem]) rfl ⟨HRR.out ▸ rfl, two_new w _ _⟩
  · have t45 : (z == 45) = false := beq_eq_false_iff_ne.2 h45
    clear h45
    go_enter Tryz.func76, Tryz.ntmps76
    go_wp2_with fail
    refine (rletter_any _ _).mono ?_
    rintro e w1 ⟨rfl, rfl⟩
    rw [H1.out]
    go_wp2_with fail
    refine (rdigit_any _ _).mono ?_
    rintro e w1 ⟨rfl, rfl⟩
    rw [H4.out]
    go_wp2_with fail
    refine (HHAS.out _).mono ?_
    rintro e w1 ⟨rfl, rfl⟩
    cases hq : amg sg z
    · have HRR := Lib.hid (show r = none by rw [← HR.out, hq]; rfl)
      clear hq
      go_wp2
      exact bodyPost_ret (v := .tuple #[.agg #[.int .i64 0, .string ⟨#[]⟩, .int .i64 i], .int .i64 i, .bool false]) (by simp [results, Tryz.results76, go_sem]) rfl ⟨HRR.out ▸ ⟨_, _, _, _, rfl⟩, two_new w _ _⟩
    · have HRR := Lib.hid (show r = some ((⟨4, sub (bts s) i (i + 1), i⟩ : Tok), i + 1) by rw [← HR.out, hq]; rfl)
      clear hq
      go_upto_region 33 with (fail)
      rw [HX.out]
      go_wp2
      exact bodyPost_ret (v := .tuple #[.agg #[.int .i64 4, .string (strOfNums (sub (bts s) i (i + 1))), .int .i64 i], .int .i64 (i + 1 : Nat), .bool true]) (by simp [results, Tryz.results76, go_sem]) rfl ⟨HRR.out ▸ rfl, two_new w _ _⟩
theorem one_any (s sg : ByteArray) (x : Int) (i : Nat) (w : World) (hT : Tabs w) (hx : x = i) (hi : i ≤ s.size) (hs : s.size ≤ 281474976710656) (hg : sg.size ≤ 9223372036854775807) :
    Calls Tryz.prog 76 #[.string s, .string sg, .int .i64 x] w fun e w' => OneVal (tok okU (amg sg) (bts s) i) e ∧ Below w.heap.size w w' := by
  by_cases h0 : i = s.size
  · rw [tok_end (by rw [bts_length]; exact h0)]
    exact one_end s sg x i w hx h0
  have hlt : i < s.size := by omega
  have hil : i < (bts s).length := by rw [bts_length]; exact hlt
  cases h1 : stA (bts s) isLet i
  · cases h2 : begins (bts s) i
    · cases h3 : stA (bts s) (isC 34) i
      · have e : tok okU (amg sg) (bts s) i = if amg sg ((bts s).getD i 0) = true then some (⟨4, sub (bts s) i (i + 1), i⟩, i + 1) else none := by
          cases h4 : amg sg ((bts s).getD i 0)
          · rw [tok_none hil h1 h2 h3 (by rw [stA_of hil]; exact h4)]
            rfl
          · rw [tok_sign hil h1 h2 h3 (by rw [stA_of hil]; exact h4)]
            rfl
        rw [e]
        exact one_sign s sg x i w hx hlt hs hg h1 h2 h3
      · rw [tok_quo hil h1 h2 h3]
        exact one_quo s sg x i w hT hx hs h3
    · rw [tok_num hil h1 h2]
      exact one_num s sg x i w hx hs h1 h2
  · rw [tok_name hil h1]
    exact one_name s sg x i w hx hs h1
end Go.Proofs.YtdlfndjgncdgfaaGreatDoor
namespace Go.Proofs.YtdlfndjgncdgfaaGreatDoor
open Go.ChangeShapes Go.WideShapes Go.ChangeAt Go.RowKit Go.Shelf

def RefPost (base : Nat) (w : World) (r : List Tok × Int × Nat) (e : Ending) (w' : World) : Prop :=
  ∃ v, e = .returned (.tuple #[v, .int .i64 r.2.1, .int .i64 (r.2.2 : Nat)]) ∧ OwnT w' base v r.1 ∧ Below base w w'
theorem refPost_fault {base : Nat} {w w' : World} {r : List Tok × Int × Nat} {code : Int} {j : Nat} (hr : r = ([], code, j)) (hb : Below base w w') : RefPost base w r (.returned (.tuple #[.slice none 0 0, .int .i64 code, .int .i64 (j : Nat)])) w' := by
  subst hr
  exact ⟨_, rfl, ownT_nil _ _, hb⟩
theorem refPost_end {base : Nat} {w w' : World} {r : List Tok × Int × Nat} {v : Value} {l : List Tok} (hr : r = (l, 0, 0)) (ho : OwnT w' base v l) (hb : Below base w w') : RefPost base w r (.returned (.tuple #[v, .int .i64 0, .int .i64 0])) w' := by
  subst hr
  exact ⟨_, rfl, ho, hb⟩
theorem refTokens_long (s sg : ByteArray) (w : World) (hs : s.size ≤ 9223372036854775807) (h : 8192 < s.size) :
    Calls Tryz.prog 48 #[.string s, .string sg] w fun e w' => e = .returned (.tuple #[.slice none 0 0, .int .i64 16, .int .i64 8192]) ∧ w = w' := by
  go_enter Tryz.func48, Tryz.ntmps48
  go_wp2
  exact bodyPost_ret (v := .tuple #[.slice none 0 0, .int .i64 16, .int .i64 8192]) (by simp [results, Tryz.results48, go_sem]) rfl ⟨rfl, rfl⟩
set_option maxHeartbeats 1600000 in
set_option maxRecDepth 100000 in
theorem refTokens_short (s sg : ByteArray) (w : World) (hT : Tabs w) (h : s.size ≤ 8192) (hg : sg.size ≤ 9223372036854775807) :
    Calls Tryz.prog 48 #[.string s, .string sg] w (RefPost w.heap.size w (lexFrom s sg 0 [])) := by
  have HGAP := Lib.hid (fun (j : Nat) W hj => behind_any s j j W rfl (by omega) hj)
  have HTOK := Lib.hid (fun (j : Nat) W (hb : Below w.heap.size w W) hj => one_any s sg j j W (Tabs.below hT (Nat.le_refl _) hb) rfl hj (by omega) hg)
  clear hT
  go_enter Tryz.func48, Tryz.ntmps48
  go_wp2
  go_loopw [7, 8] (fun lv at' wr => Below w.heap.size w wr ∧ ∃ (j : Nat) (l : List Tok), j ≤ s.size ∧ at' = .int .i64 j ∧ OwnT wr w.heap.size lv l ∧ l.length ≤ 2048 ∧ lexFrom s sg 0 [] = lexFrom s sg j l) (fun lv _ _ => 2048 - lenOf lv)
  case atStart => exact ⟨Below.refl _ _, 0, [], Nat.zero_le _, rfl, ownT_nil _ _, by decide, rfl⟩
  case round =>
    obtain ⟨hb, j, l, hj, rfl, ho, hll, hr⟩ := hrel
    obtain ⟨a, c, rfl⟩ := ho.form
    have HB := Lib.hid hb
    have HJ := Lib.hid hr
    have HO := Lib.hid ho
    have hg1 := gap_le (bts s) j (by rw [bts_length]; exact hj)
    rw [bts_length] at hg1
    clear hb hr ho
    by_cases h2 : l.length = 2048
    · have HM := Lib.hid (lexFrom_many (s := s) (sg := sg) (j := j) h2)
      go_wp2_with fail
      refine (HGAP.out j _ hj).mono ?_
      rintro e W1 ⟨rfl, rfl⟩
      have t2 : ((l.length : Int) == 2048) = true := by simp; omega
      clear h2
      go_wp2
      exact bodyPost_ret (v := .tuple #[.slice none 0 0, .int .i64 16, .int .i64 (gap (bts s) j : Nat)]) (by simp [results, Tryz.results48, go_sem]) rfl (refPost_fault (HJ.out.trans HM.out) HB.out)
    · have HM := Lib.hid (lexFrom_step (s := s) (sg := sg) (j := j) (l := l) (by omega))
      have t2 : ((l.length : Int) == 2048) = false := by simp; omega
      go_wp2_with fail
      refine (HGAP.out j _ hj).mono ?_
      rintro e W1 ⟨rfl, rfl⟩
      generalize gap (bts s) j = k at hg1 HM ⊢
      go_wp2_with fail
      refine (HTOK.out k _ HB.out hg1).mono ?_
      rintro e W3 ⟨hone, hb3⟩
      have HB3 := Lib.hid (HB.out.trans (hb3.mono HB.out.size))
      have HO3 := Lib.hid (HO.out.below hb3 (Nat.le_refl _))
      clear hb3
      generalize hq : tok okU (amg sg) (bts s) k = q at HM hone ⊢
      obtain _ | ⟨t, e2⟩ := q
      · clear hq
        obtain ⟨x0, x2, x3, S, rfl⟩ := hone
        go_wp2
        exact bodyPost_ret (v := .tuple #[.slice none 0 0, .int .i64 10, .int .i64 (k : Nat)]) (by simp [results, Tryz.results48, go_sem]) rfl (refPost_fault (HJ.out.trans HM.out) (HB3.out.alloc HB3.out.size _))
      · have he2 := tok_le (by rw [bts_length]; exact hg1) hq
        rw [bts_length] at he2
        obtain rfl := hone
        obtain ⟨i0, hi0, hz0, hz1, hz2⟩ := info_parts tok_info
        have I1 := Lib.hid hi0
        have I2 := Lib.hid hz0
        have I3 := Lib.hid hz1
        have I4 := Lib.hid hz2
        clear hq hi0 hz0 hz1 hz2
        by_cases hkd : t.kind = 0
        · have tk : (t.kind == 0) = true := by simp [hkd]
          have HE := Lib.hid (HM.out.trans (if_pos hkd))
          clear hkd
          go_wp2_with (at_builtin; refine wpList_append_own _ rfl (.tmp 33) (.tmp 35) 69 rfl w.heap.size 108 i0 _ 3 32 Tryz.underlying69 I1.out I2.out I3.out I4.out rfl (by decide) _ l.length (toksCells l) rfl (HO3.out.below (((Below.refl W3.heap.size W3).alloc (Nat.le_refl _) _).alloc (by simp) _) (Nat.le_refl _)) ⟨W3.heap.size + 1, 0, none⟩ 1 1 (tokCells t) rfl rfl (tokCells_new _ t _ (by simp)) (tokCells_one t) (by unfold maxLen; omega) (by omega) (by have := HB3.out.size; simp; omega) ?_; intro v4 W4 hown4 hg4 hx; clear hx; obtain ⟨kk, hb4⟩ := grown_new HO3.out HB3.out hg4; have HB4 := Lib.hid hb4; have HO4 := Lib.hid (OwnT.snoc hown4); clear hown4 hg4 hb4)
          exact bodyPost_ret (v := .tuple #[v4, .int .i64 0, .int .i64 0]) (by simp [results, Tryz.results48, go_sem]) rfl (refPost_end (HJ.out.trans HE.out) HO4.out HB4.out)
        · have tk : (t.kind == 0) = false := by simp [hkd]
          have HE := Lib.hid (HM.out.trans (if_neg hkd))
          clear hkd
          go_wp2_with (at_builtin; refine wpList_append_own _ rfl (.tmp 33) (.tmp 35) 69 rfl w.heap.size 108 i0 _ 3 32 Tryz.underlying69 I1.out I2.out I3.out I4.out rfl (by decide) _ l.length (toksCells l) rfl (HO3.out.below (((Below.refl W3.heap.size W3).alloc (Nat.le_refl _) _).alloc (by simp) _) (Nat.le_refl _)) ⟨W3.heap.size + 1, 0, none⟩ 1 1 (tokCells t) rfl rfl (tokCells_new _ t _ (by simp)) (tokCells_one t) (by unfold maxLen; omega) (by omega) (by have := HB3.out.size; simp; omega) ?_; intro v4 W4 hown4 hg4 hx; clear hx; obtain ⟨kk, hb4⟩ := grown_new HO3.out HB3.out hg4; have HB4 := Lib.hid hb4; have HO4 := Lib.hid (OwnT.snoc hown4); clear hown4 hg4 hb4)
          obtain ⟨a4, c4, rfl⟩ := HO4.out.form
          go_roundw
          case rel => exact ⟨HB4.out, e2, l ++ [t], he2, rfl, HO4.out, by simp; omega, HJ.out.trans HE.out⟩
          case measure => simp [lenOf]; omega
theorem refTokens_any (s sg : ByteArray) (w : World) (hT : Tabs w) (hs : s.size ≤ 9223372036854775807) (hg : sg.size ≤ 9223372036854775807) :
    Calls Tryz.prog 48 #[.string s, .string sg] w (RefPost w.heap.size w (toks okU (amg sg) (bts s))) := by
  unfold toks
  rw [bts_length]
  by_cases h : 8192 < s.size
  · rw [if_pos h]
    exact (refTokens_long s sg w hs h).mono fun e w' ⟨he, hb⟩ => by rw [he]; exact refPost_fault rfl (hb ▸ Below.refl _ _)
  · rw [if_neg h]
    exact refTokens_short s sg w hT (by omega) hg
end Go.Proofs.YtdlfndjgncdgfaaGreatDoor
namespace Go.Proofs.YtdlfndjgncdgfaaGreatDoor
open Go.ChangeShapes Go.WideShapes Go.ChangeAt Go.RowKit Go.Shelf

set_option maxRecDepth 100000 in
set_option maxHeartbeats 4000000 in
theorem rone_any (s : ByteArray) (k : Int) (x : ByteArray) (w : World) (hT : Tabs w) (hs : s.size ≤ 9223372036854775807) :
    Calls Tryz.prog 37 #[.string s, .int .i64 k, .string x] w fun e w' => e = .returned (.bool (aloneB s k x)) ∧ Below w.heap.size w w' := by
  have HA : Hid (aloneB s k x = (decide ((toks okU (amg ⟨#[]⟩) (bts s)).2.1 = 0) && (decide ((toks okU (amg ⟨#[]⟩) (bts s)).1.length = 2) && decide (((toks okU (amg ⟨#[]⟩) (bts s)).1.getD 0 noTok).kind = k ∧ tokT ((toks okU (amg ⟨#[]⟩) (bts s)).1.getD 0 noTok) = x ∧ ((toks okU (amg ⟨#[]⟩) (bts s)).1.getD 0 noTok).place = 0)))) := Lib.hid rfl
  generalize aloneB s k x = res at *
  have HT := Lib.hid hT
  clear hT
  go_enter Tryz.func37, Tryz.ntmps37
  go_wp2_with fail
  refine (refTokens_any s ⟨#[]⟩ w HT.out hs (by decide)).mono ?_
  rintro e W1 ⟨v, rfl, ho, hb1⟩
  generalize toks okU (amg ⟨#[]⟩) (bts s) = q at *
  obtain ⟨l, code, p⟩ := q
  simp only at *
  have HB1 := Lib.hid hb1
  obtain ⟨a, c, rfl⟩ := ownsRow_form ho
  have hfew := row_few ho
  have HO := Lib.hid ho
  clear hb1 ho
  by_cases hc : code = 0
  · subst hc
    by_cases hl : l.length = 2
    · obtain ⟨t, t2, rfl⟩ : ∃ t t2, l = [t, t2] := by
        match l, hl with
        | [t, t2], _ => exact ⟨t, t2, rfl⟩
      obtain ⟨g, cc, hv, hcc, hg, hcell⟩ := row_el tokCells 3 (fun _ => rfl) HO.out 0 (by simp)
      obtain ⟨rfl, rfl⟩ := slice_inj hv
      have x0 : W1.cell? ⟨g, 0, none⟩ = some (.int .i64 t.kind) := hcell 0 (by omega)
      have x1 : W1.cell? ⟨g, 1, none⟩ = some (.string (tokT t)) := hcell 1 (by omega)
      have x2 : W1.cell? ⟨g, 2, none⟩ = some (.int .i64 t.place) := hcell 2 (by omega)
      have HR : Hid (res = decide (t.kind = k ∧ tokT t = x ∧ t.place = 0)) := Lib.hid (by rw [HA.out]; simp)
      have hz : (0 : Int) < 2 := by decide
      simp only [List.length_cons, List.length_nil, Nat.zero_add, Nat.reduceAdd] at *
      clear hv hcell hl HA
      generalize tokT t = tx at *
      generalize t.kind = tk at *
      generalize t.place = tp at *
      by_cases h1 : tk = k
      · subst h1
        by_cases h2 : tx = x
        · have t2 := ba_yes h2
          by_cases h3 : tp = 0
          · have HE := Lib.hid (show res = true by rw [HR.out]; simp [h2, h3])
            have t1 : ((tp : Int) == 0) = true := by simp; omega
            clear HR h2 h3
            go_wp2
            go_ret
            exact ⟨ret_bool HE.out.symm, HB1.out⟩
          · have HE := Lib.hid (show res = false by rw [HR.out]; simp [h3])
            have t1 : ((tp : Int) == 0) = false := by simp; omega
            clear HR h2 h3
            go_wp2
            go_ret
            exact ⟨ret_bool HE.out.symm, HB1.out⟩
        · have HE := Lib.hid (show res = false by rw [HR.out]; simp [h2])
          have t1 := ba_no h2
          clear HR h2
          go_wp2
          go_ret
          exact ⟨ret_bool HE.out.symm, HB1.out⟩
      · have HE := Lib.hid (show res = false by rw [HR.out]; simp [h1])
        have t1 : (tk == k) = false := by simpa using h1
        clear HR h1
        go_wp2
        go_ret
        exact ⟨ret_bool HE.out.symm, HB1.out⟩
    · have HE := Lib.hid (show res = false by rw [HA.out, decide_eq_false hl]; simp)
      have t1 : ((l.length : Int) == 2) = false := by simp; omega
      clear hl HA
      go_wp2
      go_ret
      exact ⟨ret_bool HE.out.symm, HB1.out⟩
  · have HE := Lib.hid (show res = false by rw [HA.out, decide_eq_false hc]; simp)
    have t1 : (code == 0) = false := by simpa using hc
    clear hc HA
    go_wp2
    go_ret
    exact ⟨ret_bool HE.out.symm, HB1.out⟩
theorem has_take_mem (l : List ByteArray) (s : ByteArray) (k j : Nat) (hjk : j < k) (hk : k ≤ l.length) (h : l[j] = s) : hasS (l.take k) s = true :=
  has_take_true _ _ j (by rw [List.length_take]; omega) (by rw [List.getElem_take]; exact h)
def UnAt (l : List ByteArray) (w : World) (i : Value) (wr : World) : Prop := ∃ k : Nat, k ≤ l.length ∧ i = .int .i64 k ∧ Below w.heap.size w wr ∧ dup l = dupFrom (l.take k) (l.drop k)
def UnAt2 (l : List ByteArray) (k : Nat) (q : ByteArray) (w : World) (i : Value) (wr : World) : Prop := ∃ j : Nat, j ≤ k ∧ i = .int .i64 j ∧ Below w.heap.size w wr ∧ hasS (l.take j) q = false
set_option maxRecDepth 100000 in
set_option maxHeartbeats 4000000 in
theorem runlike_any (l : List ByteArray) (v : Value) (base : Nat) (w : World) (h : w.ownsRow base 9 1 v l.length (strsCells l)) :
    Calls Tryz.prog 36 #[v] w fun e w' => e = .returned (.bool (decide (dup l = none))) ∧ Below w.heap.size w w' := by
  obtain ⟨a, c, rfl⟩ := ownsRow_form h
  have hfew := row_few h
  have HR := Lib.hid h
  clear h
  go_enter Tryz.func36, Tryz.ntmps36
  go_wp2
  go_loopw [3] (UnAt l w) (fun i _ => l.length - (intOf i).toNat)
  case atStart => exact ⟨0, Nat.zero_le _, rfl, Below.refl _ _, rfl⟩
  case round =>
    obtain ⟨k, hk, rfl, hb, hd⟩ := hrel
    have HB := Lib.hid hb
    by_cases hkl : k < l.length
    · obtain ⟨d1, d2⟩ := dup_step id l k hkl (by simp only [List.map_id]; exact hd)
      simp only [List.map_id, id_eq] at d1 d2
      have HD1 := Lib.hid d1
      have HD2 := Lib.hid d2
      have HQ : Hid (∀ j, ∀ hj : j < l.length, j < k → hasS (l.take (j + 1)) l[k] = (hasS (l.take j) l[k] || decide (l[k] = l[j]))) := Lib.hid (fun j hj _ => has_take_succ l l[k] j hj)
      have hki : (k : Int) < l.length := by omega
      clear hb hd d1 d2
      go_wp2
      go_loopw [4] (UnAt2 l k l[k] w) (fun i _ => l.length - (intOf i).toNat)
      case atStart => exact ⟨0, Nat.zero_le _, rfl, HB.out, rfl⟩
      case round =>
        obtain ⟨j, hj, rfl, hb, hi⟩ := hrel
        obtain ⟨g, cc, hv, hcc, hg, hcell⟩ := row_el strCells 1 (fun _ => rfl) (row_keep hb HR.out) k hkl
        obtain ⟨rfl, rfl⟩ := slice_inj hv
        have HB := Lib.hid hb
        by_cases hjk : j < k
        · have hjl : j < l.length := by omega
          obtain ⟨g2, cc2, hv2, hcc2, hg2, hcell2⟩ := row_el strCells 1 (fun _ => rfl) (row_keep hb HR.out) j hjl
          obtain ⟨hgg, rfl⟩ := slice_inj hv2
          obtain rfl : g = g2 := by simpa using hgg
          have x0 : wr.cell? ⟨g, k, none⟩ = some (.string l[k]) := by have := hcell 0 (by omega); rw [Nat.mul_one, Nat.add_zero] at this; exact this
          have x1 : wr.cell? ⟨g, j, none⟩ = some (.string l[j]) := by have := hcell2 0 (by omega); rw [Nat.mul_one, Nat.add_zero] at this; exact this
          have hst := HQ.out j hjl hjk
          have hji : (j : Int) < k := by omega
          have hjl2 : (j : Int) < l.length := by omega
          have HK : Hid (l[k] = l[j] → hasS (l.take k) l[k] = true) := Lib.hid (fun e => has_take_mem l l[k] k j hjk (Nat.le_of_lt hkl) e.symm)
          generalize l[k] = q at *
          generalize l[j] = r at *
          clear hv hv2 hgg hcell hcell2 hb
          by_cases hq : q = r
          · have HE := Lib.hid (HD1.out (HK.out hq))
            have t3 : (q.toList == r.toList) = true := ba_yes hq
            clear hq hi hst
            go_wp2_with fail
            go_quiet (fail)
            go_wp2
            go_ret
            exact ⟨ret_bool (by rw [HE.out]; rfl), bel_drewN HB.out _⟩
          · have HI := Lib.hid (show hasS (l.take (j + 1)) q = false by rw [hst, hi, Bool.false_or]; exact decide_eq_false hq)
            have t3 : (q.toList == r.toList) = false := ba_no hq
            clear hq hi hst
            go_wp2_with fail
            go_quiet (fail)
            go_wp2
            go_roundw
            case rel => exact ⟨j + 1, by omega, by go_num, bel_drewN HB.out _, HI.out⟩
            case measure => simp [intOf]; omega
        · obtain rfl : j = k := by omega
          have HE := Lib.hid (HD2.out hi)
          clear hi hb hv hcell
          go_wp2
          go_roundw
          case rel => exact ⟨j + 1, by omega, by go_num, HB.out, HE.out⟩
          case measure => simp [intOf]; omega
    · obtain rfl : k = l.length := by omega
      have HD : Hid (dup l = none) := Lib.hid (by rw [hd, List.drop_length]; rfl)
      clear hb hd
      go_wp2
      go_ret
      exact ⟨by rw [HD.out]; rfl, HB.out⟩
end Go.Proofs.YtdlfndjgncdgfaaGreatDoor
