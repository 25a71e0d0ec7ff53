/-
  The document's own One, at a quoted text. Conditions: those that each theorem names; the library's tables hold what the row lists.
-/
import Derived.Test.YtdlfndjgncdgfaaGreatDoorPkS2
import Derived.Test.YtdlfndjgncdgfaaGreatDoorPkS5
import Derived.Test.YtdlfndjgncdgfaaGreatDoorPkS10
import Derived.Test.YtdlfndjgncdgfaaGreatDoorPkS23
import Derived.Test.YtdlfndjgncdgfaaGreatDoorPkS31
import Derived.Test.YtdlfndjgncdgfaaGreatDoorPkS38
import Derived.Deep.Cut
namespace Go.Proofs.YtdlfndjgncdgfaaGreatDoor
open Go.ChangeShapes Go.WideShapes Go.ChangeAt Go.RowKit Go.Shelf

theorem amg_yes {s : ByteArray} {k : Nat} {c : Int} (h : k < s.size) (hc : (s[k].toNat : Int) = c) : amg s c = true := by
  refine decide_eq_true ?_
  rw [← hc, ← bts_get h, List.getD, List.getElem?_eq_getElem (by rw [bts_length]; exact h)]
  exact List.getElem_mem _
theorem amg_no {s : ByteArray} {c : Int} (h : ∀ j (hj : j < s.size), (s[j].toNat : Int) ≠ c) : amg s c = false := by
  refine decide_eq_false (fun hm => ?_)
  obtain ⟨j, hj, hv⟩ := List.mem_iff_getElem.1 hm
  have hj' : j < s.size := by rw [bts_length] at hj; exact hj
  refine h j hj' ?_
  rw [← bts_get hj', List.getD, List.getElem?_eq_getElem hj]
  exact hv
theorem has_any (s : ByteArray) (c : Int) (w : World) (hs : s.size ≤ 9223372036854775807) :
    Calls Tryz.prog 101 #[.string s, .int .u8 c] w fun e w' => e = .returned (.bool (amg s c)) ∧ w = w' := by
  obtain ⟨r, hr⟩ : ∃ r, amg s c = r := ⟨_, rfl⟩
  have HR := Lib.hid hr
  rw [hr]
  clear hr
  go_enter Tryz.func101, Tryz.ntmps101
  go_wp2
  go_loop [5] (fun i => ∃ k : Nat, k ≤ s.size ∧ i = .int .i64 k ∧ ∀ j (hj : j < s.size), j < k → (s[j].toNat : Int) ≠ c) (fun i => s.size - (intOf i).toNat)
  case atStart => exact ⟨0, Nat.zero_le _, rfl, fun j _ h => absurd h (Nat.not_lt_zero _)⟩
  case round =>
    obtain ⟨k, hk, rfl, hj⟩ := hrel
    have HJ := Lib.hid hj
    clear hj
    by_cases hlt : k < s.size
    · by_cases he : (s[k].toNat : Int) = c
      · have HA := Lib.hid (amg_yes hlt he)
        have t : ((s[k].toNat : Int) == c) = true := beq_iff_eq.2 he
        clear he
        go_wp2
        go_ret
        exact ⟨ret_bool (HA.out.symm.trans HR.out), rfl⟩
      · have t : ((s[k].toNat : Int) == c) = false := beq_eq_false_iff_ne.2 he
        have HN := Lib.hid he
        clear he
        go_wp2
        go_round
        case rel =>
          refine ⟨k + 1, by omega, by go_num, fun j hj h => ?_⟩
          rcases Nat.lt_or_ge j k with h' | h'
          · exact HJ.out j hj h'
          · obtain rfl : j = k := by omega
            exact HN.out
        case measure => simp [intOf]; omega
    · have HA := Lib.hid (amg_no (s := s) (c := c) fun j hj => HJ.out j hj (by omega))
      go_wp2
      go_ret
      exact ⟨ret_bool (HA.out.symm.trans HR.out), rfl⟩
theorem rtext_any (a : Option Addr) (cap n : Nat) (zs : List Int) (w : World) (hT : Tabs w) (hz : Bytes w a zs) (hn : zs.length = n) (hl : (n : Int) ≤ 9223372036854775800) (hcap : n ≤ cap) :
    Calls Tryz.prog 100 #[.slice a n cap] w fun e w' => e = .returned (.bool (okU zs)) ∧ Below w.heap.size w w' := by
  have HU := Lib.hid (rutf8_call a cap n zs w hT hz hn hl hcap)
  clear hT hz hn hl hcap
  go_enter Tryz.func100, Tryz.ntmps100
  go_wp2_with fail
  refine HU.out.mono ?_
  rintro e W1 ⟨rfl, hb⟩
  go_wp2
  go_ret
  exact ⟨rfl, hb⟩
end Go.Proofs.YtdlfndjgncdgfaaGreatDoor
namespace Go.Proofs.YtdlfndjgncdgfaaGreatDoor
open Go.ChangeShapes Go.WideShapes Go.ChangeAt Go.RowKit Go.Shelf

def OneVal (r : Option (Tok × Nat)) (e : Ending) : Prop :=
  match r with
  | some (t, k) => e = .returned (.tuple #[.agg #[.int .i64 t.kind, .string (strOfNums t.text), .int .i64 t.place], .int .i64 (k : Nat), .bool true])
  | none => ∃ (a c k : Int) (S : ByteArray), e = .returned (.tuple #[.agg #[.int .i64 a, .string S, .int .i64 c], .int .i64 k, .bool false])
theorem ext_str (s : ByteArray) (i j : Nat) : s.extract i j = strOfNums (sub (bts s) i j) := by
  refine bts_inj ?_
  rw [bts_part, bts_strOf]
  intro z hz
  have h2 : z ∈ bts s := List.mem_of_mem_drop (List.mem_of_mem_take hz)
  obtain ⟨j, hj, rfl⟩ := List.mem_iff_getElem.1 h2
  have := bts_bd s j
  rw [List.getD, List.getElem?_eq_getElem hj] at this
  exact this
theorem two_new (w : World) (a b : Obj) : Below w.heap.size w ((w.alloc a).alloc b) := ((Below.refl _ _).alloc (Nat.le_refl _) _).alloc (by rw [World.size_alloc]; omega) _
theorem stA_at {s : ByteArray} {p : Int → Bool} (h : p 0 = false) (k : Nat) : stA (bts s) p k = p ((bts s).getD k 0) := by
  by_cases hk : k < (bts s).length
  · exact stA_of hk
  · rw [stA_ge (by omega), List.getD, List.getElem?_eq_none (by omega)]
    exact h.symm
set_option maxRecDepth 100000 in
theorem one_end (s sg : ByteArray) (x : Int) (i : Nat) (w : World) (hx : x = i) (hi : i = s.size) :
    Calls Tryz.prog 76 #[.string s, .string sg, .int .i64 x] w fun e w' => OneVal (some (⟨0, [], i⟩, i)) e ∧ Below w.heap.size w w' := by
  subst hx
  subst hi
  go_enter Tryz.func76, Tryz.ntmps76
  go_wp2
  exact bodyPost_ret (v := .tuple #[.agg #[.int .i64 0, .string ⟨#[]⟩, .int .i64 s.size], .int .i64 s.size, .bool true]) (by simp [results, Tryz.results76, go_sem]) rfl ⟨rfl, two_new w _ _⟩
set_option maxRecDepth 100000 in
theorem one_name (s sg : ByteArray) (x : Int) (i : Nat) (w : World) (hx : x = i) (hs : s.size ≤ 281474976710656) (h1 : stA (bts s) isLet i = true) :
    Calls Tryz.prog 76 #[.string s, .string sg, .int .i64 x] w fun e w' => OneVal (some (⟨1, sub (bts s) i (runTo (bts s) (fun c => isLet c || isDig c) i), i⟩, runTo (bts s) (fun c => isLet c || isDig c) i)) e ∧ Below w.heap.size w w' := by
  subst hx
  have hi : i < s.size := by have := stA_lt h1; rwa [bts_length] at this
  have H1 := Lib.hid (show isLet (s[i].toNat : Int) = true by rw [← bts_get hi]; exact stA_p h1)
  have hup := runTo_le (bts s) (fun c => isLet c || isDig c) i (by rw [bts_length]; omega)
  have hlo := runTo_ge (bts s) (fun c => isLet c || isDig c) i
  rw [bts_length] at hup
  obtain ⟨E, hE⟩ : ∃ E, runTo (bts s) (fun c => isLet c || isDig c) i = E := ⟨_, rfl⟩
  rw [hE] at hup hlo ⊢
  have HE := Lib.hid hE
  clear h1 hE
  go_enter Tryz.func76, Tryz.ntmps76
  go_wp2_with fail
  refine (rletter_any _ _).mono ?_
  rintro e w1 ⟨rfl, rfl⟩
  rw [H1.out]
  go_wp2
  go_loop [10] (fun j => ∃ k : Nat, i ≤ k ∧ k ≤ E ∧ j = .int .i64 k ∧ runTo (bts s) (fun c => isLet c || isDig c) k = E) (fun j => E - (intOf j).toNat)
  case atStart => exact ⟨i, Nat.le_refl _, hlo, rfl, HE.out⟩
  case round =>
    obtain ⟨k, hik, hkE, rfl, hj⟩ := hrel
    have HJ := Lib.hid hj
    have HS := Lib.hid (stA_at (s := s) (p := fun c => isLet c || isDig c) rfl k)
    have HAT := Lib.hid (fun W => at_any s k k W rfl)
    generalize (bts s).getD k 0 = z at HS HAT
    clear hj
    go_wp2_with fail
    refine (HAT.out _).mono ?_
    rintro e w2 ⟨rfl, rfl⟩
    go_wp2_with fail
    refine (rletter_any _ _).mono ?_
    rintro e w2 ⟨rfl, rfl⟩
    cases hl : isLet z
    · go_wp2_with fail
      refine (HAT.out _).mono ?_
      rintro e w2 ⟨rfl, rfl⟩
      go_wp2_with fail
      refine (rdigit_any _ _).mono ?_
      rintro e w2 ⟨rfl, rfl⟩
      cases hd : isDig z
      · have hkk : k = E := by
          rw [← HJ.out]
          exact (runTo_stop (by rw [HS.out, hl, hd]; rfl)).symm
        subst hkk
        have HX := Lib.hid (ext_str s i k)
        clear hl hd
        go_upto_region 33 with (fail)
        rw [HX.out]
        go_wp2
        exact bodyPost_ret (v := .tuple #[.agg #[.int .i64 1, .string (strOfNums (sub (bts s) i k)), .int .i64 i], .int .i64 k, .bool true]) (by simp [results, Tryz.results76, go_sem]) rfl ⟨rfl, two_new w _ _⟩
      · have hst : stA (bts s) (fun c => isLet c || isDig c) k = true := by rw [HS.out, hl, hd]; rfl
        have HN := Lib.hid (HJ.out ▸ (runTo_step hst).symm)
        have hlt : k + 1 ≤ E := by have := runTo_ge (bts s) (fun c => isLet c || isDig c) (k + 1); rw [HN.out] at this; exact this
        clear hl hd hst
        go_wp2
        go_round
        case rel => exact ⟨k + 1, by omega, hlt, by go_num, HN.out⟩
        case measure => simp [intOf]; omega
    · have hst : stA (bts s) (fun c => isLet c || isDig c) k = true := by rw [HS.out, hl]; rfl
      have HN := Lib.hid (HJ.out ▸ (runTo_step hst).symm)
      have hlt : k + 1 ≤ E := by have := runTo_ge (bts s) (fun c => isLet c || isDig c) (k + 1); rw [HN.out] at this; exact this
      clear hl hst
      go_wp2
      go_round
      case rel => exact ⟨k + 1, by omega, hlt, by go_num, HN.out⟩
      case measure => simp [intOf]; omega
end Go.Proofs.YtdlfndjgncdgfaaGreatDoor
namespace Go.Proofs.YtdlfndjgncdgfaaGreatDoor
open Go.ChangeShapes Go.WideShapes Go.ChangeAt Go.RowKit Go.Shelf

theorem numBad_sub (zs : List Int) (i : Nat) : numBad zs i = (!goodN (sub zs i (numEnd zs i)) || stA zs isLet (numEnd zs i)) := by
  rw [numBad_drop, numBad_text, numEnd_drop zs i, stA_drop]
  have := sub_drop zs i 0 (numEnd (zs.drop i) 0)
  rw [Nat.add_zero] at this
  rw [this, sub_zero]
theorem numEnd_dig {zs : List Int} {i : Nat} (h : stA zs isDig i = true) : numEnd zs i = runTo zs isDig (i + 1) := by
  have hm : minusTo zs i = i := by
    unfold minusTo
    rw [if_neg]
    intro h2
    have a := of_decide_eq_true (show decide (48 ≤ zs.getD i 0 ∧ zs.getD i 0 ≤ 57) = true from stA_p h)
    have b := of_decide_eq_true (show decide (zs.getD i 0 = 45) = true from stA_p h2)
    omega
  unfold numEnd
  rw [hm, runTo_step h]
theorem numEnd_min {zs : List Int} {i : Nat} (h : stA zs (isC 45) i = true) : numEnd zs i = runTo zs isDig (i + 1) := by
  have hm : minusTo zs i = i + 1 := by
    unfold minusTo
    rw [if_pos h]
  unfold numEnd
  rw [hm]
set_option maxRecDepth 100000 in
set_option maxHeartbeats 1000000 in
theorem one_num (s sg : ByteArray) (x : Int) (i : Nat) (w : World) (hx : x = i) (hs : s.size ≤ 281474976710656) (h1 : stA (bts s) isLet i = false) (h2 : begins (bts s) i = true) :
    Calls Tryz.prog 76 #[.string s, .string sg, .int .i64 x] w fun e w' => OneVal (if numBad (bts s) i = true then none else some (⟨2, sub (bts s) i (numEnd (bts s) i), i⟩, numEnd (bts s) i)) e ∧ Below w.heap.size w w' := by
  subst hx
  have h3 : stA (bts s) isDig i = true ∨ (stA (bts s) (isC 45) i = true ∧ stA (bts s) isDig (i + 1) = true) := by
    unfold begins at h2
    rw [Bool.or_eq_true, Bool.and_eq_true] at h2
    exact h2
  have hi : i < s.size := by
    rcases h3 with h | ⟨h, _⟩
    · have := stA_lt h; rwa [bts_length] at this
    · have := stA_lt h; rwa [bts_length] at this
  have H1 := Lib.hid (show isLet (s[i].toNat : Int) = false by rw [← bts_get hi, ← stA_at (p := isLet) rfl i]; exact h1)
  have hNE : numEnd (bts s) i = runTo (bts s) isDig (i + 1) := h3.elim numEnd_dig (fun h => numEnd_min h.1)
  have hup := runTo_le (bts s) isDig (i + 1) (by rw [bts_length]; omega)
  have hlo := runTo_ge (bts s) isDig (i + 1)
  rw [bts_length] at hup
  have HB := Lib.hid (numBad_sub (bts s) i)
  rw [hNE] at HB ⊢
  obtain ⟨E, hE⟩ : ∃ E, runTo (bts s) isDig (i + 1) = E := ⟨_, rfl⟩
  rw [hE] at hup hlo HB ⊢
  obtain ⟨r, hr⟩ : ∃ r, (if numBad (bts s) i = true then none else some ((⟨2, sub (bts s) i E, i⟩ : Tok), E)) = r := ⟨_, rfl⟩
  have HRR := Lib.hid hr
  rw [hr]
  clear hr
  have HE := Lib.hid hE
  clear hE hNE h1 h2
  rcases h3 with h3 | ⟨h3, h4⟩
  · have H3 := Lib.hid (show isDig (s[i].toNat : Int) = true by rw [← bts_get hi]; exact stA_p h3)
    clear h3
    go_enter Tryz.func76, Tryz.ntmps76
    go_wp2_with fail
    refine (rletter_any _ _).mono ?_
    rintro e w1 ⟨rfl, rfl⟩
    rw [H1.out]
    go_wp2_with fail
    refine (rdigit_any _ _).mono ?_
    rintro e w1 ⟨rfl, rfl⟩
    rw [H3.out]
    go_wp2
    go_loop [10] (fun j => ∃ k : Nat, i + 1 ≤ k ∧ k ≤ E ∧ j = .int .i64 k ∧ runTo (bts s) isDig k = E) (fun j => E - (intOf j).toNat)
    case atStart => exact ⟨i + 1, Nat.le_refl _, hlo, by go_num, HE.out⟩
    case round =>
      obtain ⟨k, hik, hkE, rfl, hj⟩ := hrel
      have HJ := Lib.hid hj
      have HS := Lib.hid (stA_at (s := s) (p := isDig) rfl k)
      have HS2 := Lib.hid (stA_at (s := s) (p := isLet) rfl k)
      have HAT := Lib.hid (fun W => at_any s k k W rfl)
      generalize (bts s).getD k 0 = z at HS HS2 HAT
      clear hj
      go_wp2_with fail
      refine (HAT.out _).mono ?_
      rintro e w2 ⟨rfl, rfl⟩
      go_wp2_with fail
      refine (rdigit_any _ _).mono ?_
      rintro e w2 ⟨rfl, rfl⟩
      cases hd : isDig z
      · have hkk : k = E := by
          rw [← HJ.out]
          exact (runTo_stop (by rw [HS.out, hd])).symm
        subst hkk
        have HX := Lib.hid (ext_str s i k)
        have HG := Lib.hid (fun W => rgood_any (s.extract i k) W (by rw [ByteArray.size_extract]; omega))
        rw [bts_part] at HG
        clear hd
        go_upto_region 18 with (fail)
        generalize s.extract i k = S at HX HG ⊢
        obtain rfl := HX.out
        generalize sub (bts s) i k = T at HX HG HB HRR ⊢
        go_wp2_with fail
        refine (HG.out _).mono ?_
        rintro e w2 ⟨rfl, rfl⟩
        cases hg : goodN T
        · have HBB := Lib.hid (show numBad (bts s) i = true by rw [HB.out, hg]; rfl)
          clear hg
          go_wp2
          exact bodyPost_ret (v := .tuple #[.agg #[.int .i64 2, .string (strOfNums T), .int .i64 i], .int .i64 k, .bool false]) (by simp [results, Tryz.results76, go_sem]) rfl ⟨(show r = none by rw [← HRR.out, HBB.out]; rfl) ▸ ⟨_, _, _, _, rfl⟩, two_new w _ _⟩
        · go_wp2_with fail
          refine (HAT.out _).mono ?_
          rintro e w2 ⟨rfl, rfl⟩
          go_wp2_with fail
          refine (rletter_any _ _).mono ?_
          rintro e w2 ⟨rfl, rfl⟩
          cases hl : isLet z
          · have HBB := Lib.hid (show numBad (bts s) i = false by rw [HB.out, hg, HS2.out, hl]; rfl)
            clear hg hl
            go_wp2
            exact bodyPost_ret (v := .tuple #[.agg #[.int .i64 2, .string (strOfNums T), .int .i64 i], .int .i64 k, .bool true]) (by simp [results, Tryz.results76, go_sem]) rfl ⟨(show r = some ((⟨2, T, i⟩ : Tok), k) by rw [← HRR.out, HBB.out]; rfl) ▸ rfl, two_new w _ _⟩
          · have HBB := Lib.hid (show numBad (bts s) i = true by rw [HB.out, hg, HS2.out, hl]; rfl)
            clear hg hl
            go_wp2
            exact bodyPost_ret (v := .tuple #[.agg #[.int .i64 2, .string (strOfNums T), .int .i64 i], .int .i64 k, .bool false]) (by simp [results, Tryz.results76, go_sem]) rfl ⟨(show r = none by rw [← HRR.out, HBB.out]; rfl) ▸ ⟨_, _, _, _, rfl⟩, two_new w _ _⟩
      · have HN := Lib.hid (HJ.out ▸ (runTo_step (by rw [HS.out, hd] : stA (bts s) isDig k = true)).symm)
        have hlt : k + 1 ≤ E := by have := runTo_ge (bts s) isDig (k + 1); rw [HN.out] at this; exact this
        clear hd
        go_wp2
        go_round
        case rel => exact ⟨k + 1, by omega, hlt, by go_num, HN.out⟩
        case measure => simp [intOf]; omega
  · have t45 : ((s[i].toNat : Int) == 45) = true := by rw [← bts_get hi]; exact stA_p h3
    have H3 := Lib.hid (show isDig (s[i].toNat : Int) = false by
      rw [beq_iff_eq] at t45
      rw [t45]
      rfl)
    have HP := Lib.hid (show isDig ((bts s).getD (i + 1) 0) = true from stA_p h4)
    have HA1 := Lib.hid (fun W => at_any s ((i : Int) + 1) (i + 1) W (by omega))
    generalize (bts s).getD (i + 1) 0 = z1 at HP HA1
    clear h3 h4
    go_enter Tryz.func76, Tryz.ntmps76
    go_wp2_with fail
    refine (rletter_any _ _).mono ?_
    rintro e w1 ⟨rfl, rfl⟩
    rw [H1.out]
    go_wp2_with fail
    refine (rdigit_any _ _).mono ?_
    rintro e w1 ⟨rfl, rfl⟩
    rw [H3.out]
    go_wp2_with fail
    refine (HA1.out _).mono ?_
    rintro e w1 ⟨rfl, rfl⟩
    go_wp2_with fail
    refine (rdigit_any _ _).mono ?_
    rintro e w1 ⟨rfl, rfl⟩
    rw [HP.out]
    clear t45
    go_wp2
    go_loop [10] (fun j => ∃ k : Nat, i + 1 ≤ k ∧ k ≤ E ∧ j = .int .i64 k ∧ runTo (bts s) isDig k = E) (fun j => E - (intOf j).toNat)
    case atStart => exact ⟨i + 1, Nat.le_refl _, hlo, by go_num, HE.out⟩
    case round =>
      obtain ⟨k, hik, hkE, rfl, hj⟩ := hrel
      have HJ := Lib.hid hj
      have HS := Lib.hid (stA_at (s := s) (p := isDig) rfl k)
      have HS2 := Lib.hid (stA_at (s := s) (p := isLet) rfl k)
      have HAT := Lib.hid (fun W => at_any s k k W rfl)
      generalize (bts s).getD k 0 = z at HS HS2 HAT
      clear hj
      go_wp2_with fail
      refine (HAT.out _).mono ?_
      rintro e w2 ⟨rfl, rfl⟩
      go_wp2_with fail
      refine (rdigit_any _ _).mono ?_
      rintro e w2 ⟨rfl, rfl⟩
      cases hd : isDig z
      · have hkk : k = E := by
          rw [← HJ.out]
          exact (runTo_stop (by rw [HS.out, hd])).symm
        subst hkk
        have HX := Lib.hid (ext_str s i k)
        have HG := Lib.hid (fun W => rgood_any (s.extract i k) W (by rw [ByteArray.size_extract]; omega))
        rw [bts_part] at HG
        clear hd
        go_upto_region 18 with (fail)
        generalize s.extract i k = S at HX HG ⊢
        obtain rfl := HX.out
        generalize sub (bts s) i k = T at HX HG HB HRR ⊢
        go_wp2_with fail
        refine (HG.out _).mono ?_
        rintro e w2 ⟨rfl, rfl⟩
        cases hg : goodN T
        · have HBB := Lib.hid (show numBad (bts s) i = true by rw [HB.out, hg]; rfl)
          clear hg
          go_wp2
          exact bodyPost_ret (v := .tuple #[.agg #[.int .i64 2, .string (strOfNums T), .int .i64 i], .int .i64 k, .bool false]) (by simp [results, Tryz.results76, go_sem]) rfl ⟨(show r = none by rw [← HRR.out, HBB.out]; rfl) ▸ ⟨_, _, _, _, rfl⟩, two_new w _ _⟩
        · go_wp2_with fail
          refine (HAT.out _).mono ?_
          rintro e w2 ⟨rfl, rfl⟩
          go_wp2_with fail
          refine (rletter_any _ _).mono ?_
          rintro e w2 ⟨rfl, rfl⟩
          cases hl : isLet z
          · have HBB := Lib.hid (show numBad (bts s) i = false by rw [HB.out, hg, HS2.out, hl]; rfl)
            clear hg hl
            go_wp2
            exact bodyPost_ret (v := .tuple #[.agg #[.int .i64 2, .string (strOfNums T), .int .i64 i], .int .i64 k, .bool true]) (by simp [results, Tryz.results76, go_sem]) rfl ⟨(show r = some ((⟨2, T, i⟩ : Tok), k) by rw [← HRR.out, HBB.out]; rfl) ▸ rfl, two_new w _ _⟩
          · have HBB := Lib.hid (show numBad (bts s) i = true by rw [HB.out, hg, HS2.out, hl]; rfl)
            clear hg hl
            go_wp2
            exact bodyPost_ret (v := .tuple #[.agg #[.int .i64 2, .string (strOfNums T), .int .i64 i], .int .i64 k, .bool false]) (by simp [results, Tryz.results76, go_sem]) rfl ⟨(show r = none by rw [← HRR.out, HBB.out]; rfl) ▸ ⟨_, _, _, _, rfl⟩, two_new w _ _⟩
      · have HN := Lib.hid (HJ.out ▸ (runTo_step (by rw [HS.out, hd] : stA (bts s) isDig k = true)).symm)
        have hlt : k + 1 ≤ E := by have := runTo_ge (bts s) isDig (k + 1); rw [HN.out] at this; exact this
        clear hd
        go_wp2
        go_round
        case rel => exact ⟨k + 1, by omega, hlt, by go_num, HN.out⟩
        case measure => simp [intOf]; omega
end Go.Proofs.YtdlfndjgncdgfaaGreatDoor
namespace Go.Proofs.YtdlfndjgncdgfaaGreatDoor
open Go.ChangeShapes Go.WideShapes Go.ChangeAt Go.RowKit Go.Shelf

def TokBlk (g : Nat) (p : Int) (W : World) : Prop := W.heap[g]? = some (.cells #[.int .i64 0, .string ⟨#[]⟩, .int .i64 p] 108 (0, 0))
theorem TokBlk.below {g B : Nat} {p : Int} {W W' : World} (h : TokBlk g p W) (hb : Below B W W') (hg : g < B) : TokBlk g p W' := (hb.block g hg).trans h
theorem TokBlk.facts {g : Nat} {p : Int} {W : World} (h : TokBlk g p W) : W.cell? ⟨g, 0, none⟩ = some (.int .i64 0) ∧ W.cell? ⟨g, 1, none⟩ = some (.string ⟨#[]⟩) ∧ W.cell? ⟨g, 2, none⟩ = some (.int .i64 p) ∧ W.frozen? ⟨g, 0, none⟩ = false ∧ W.frozen? ⟨g, 1, none⟩ = false ∧ W.frozen? ⟨g, 2, none⟩ = false := by
  refine ⟨?_, ?_, ?_, ?_, ?_, ?_⟩
  · rw [cell_of_row W g 0 _ _ (0, 0) h]; rfl
  · rw [cell_of_row W g 1 _ _ (0, 0) h]; rfl
  · rw [cell_of_row W g 2 _ _ (0, 0) h]; rfl
  · simp [World.frozen?, show W.heap[g]? = _ from h]
  · simp [World.frozen?, show W.heap[g]? = _ from h]
  · simp [World.frozen?, show W.heap[g]? = _ from h]
theorem two_blocks (w : World) (i : Nat) (S : ByteArray) :
    Below w.heap.size w (Lib.bytesWorld ((w.alloc (.cells #[.int .i64 0, .string ⟨#[]⟩, .int .i64 0] 108)).alloc (.cells #[.int .i64 0, .string ⟨#[]⟩, .int .i64 (i : Nat)] 108)) 5 S) ∧
    TokBlk w.heap.size 0 (Lib.bytesWorld ((w.alloc (.cells #[.int .i64 0, .string ⟨#[]⟩, .int .i64 0] 108)).alloc (.cells #[.int .i64 0, .string ⟨#[]⟩, .int .i64 (i : Nat)] 108)) 5 S) ∧
    TokBlk (w.heap.size + 1) (i : Nat) (Lib.bytesWorld ((w.alloc (.cells #[.int .i64 0, .string ⟨#[]⟩, .int .i64 0] 108)).alloc (.cells #[.int .i64 0, .string ⟨#[]⟩, .int .i64 (i : Nat)] 108)) 5 S) ∧
    w.heap.size + 1 < (Lib.bytesWorld ((w.alloc (.cells #[.int .i64 0, .string ⟨#[]⟩, .int .i64 0] 108)).alloc (.cells #[.int .i64 0, .string ⟨#[]⟩, .int .i64 (i : Nat)] 108)) 5 S).heap.size := by
  refine ⟨below_bytesWorld (two_new w _ _) (by rw [World.size_alloc, World.size_alloc]; omega) _ _, ?_, ?_, ?_⟩
  · unfold TokBlk
    rw [Lib.bytesWorld_at_old _ _ _ _ (by rw [World.size_alloc, World.size_alloc]; omega), Below.heap_alloc _ _ _ (by rw [World.size_alloc]; omega)]
    exact heap_alloc_new w _
  · unfold TokBlk
    rw [Lib.bytesWorld_at_old _ _ _ _ (by rw [World.size_alloc, World.size_alloc]; omega), show w.heap.size + 1 = (w.alloc (.cells #[.int .i64 0, .string ⟨#[]⟩, .int .i64 0] 108)).heap.size from (World.size_alloc ..).symm]
    exact heap_alloc_new _ _
  · rw [Lib.bytesWorld_size, World.size_alloc, World.size_alloc]
    omega
set_option maxRecDepth 100000 in
set_option maxHeartbeats 2000000 in
theorem one_quo (s sg : ByteArray) (x : Int) (i : Nat) (w : World) (hT : Tabs w) (hx : x = i) (hs : s.size ≤ 281474976710656) (h1 : stA (bts s) (isC 34) i = true) :
    Calls Tryz.prog 76 #[.string s, .string sg, .int .i64 x] w fun e w' => OneVal (if quoBad okU (bts s) i = true then none else some (⟨3, sub (bts s) (i + 1) (quoEnd (bts s) i), i⟩, quoEnd (bts s) i + 1)) e ∧ Below w.heap.size w w' := by
  subst hx
  have hi : i < s.size := by have := stA_lt h1; rwa [bts_length] at this
  have hc : (s[i].toNat : Int) = 34 := by rw [← bts_get hi]; exact of_decide_eq_true (stA_p h1)
  have hup := runTo_le (bts s) isPlain (i + 1) (by rw [bts_length]; omega)
  have hlo := runTo_ge (bts s) isPlain (i + 1)
  rw [bts_length] at hup
  have HB := Lib.hid (show quoBad okU (bts s) i = (!stA (bts s) (isC 34) (runTo (bts s) isPlain (i + 1)) || !okU (sub (bts s) (i + 1) (runTo (bts s) isPlain (i + 1)))) from rfl)
  have hNE : quoEnd (bts s) i = runTo (bts s) isPlain (i + 1) := rfl
  rw [hNE]
  obtain ⟨E, hE⟩ : ∃ E, runTo (bts s) isPlain (i + 1) = E := ⟨_, rfl⟩
  rw [hE] at hup hlo HB ⊢
  obtain ⟨r, hr⟩ : ∃ r, (if quoBad okU (bts s) i = true then none else some ((⟨3, sub (bts s) (i + 1) E, i⟩ : Tok), E + 1)) = r := ⟨_, rfl⟩
  have HRR := Lib.hid hr
  rw [hr]
  have HE := Lib.hid hE
  have HT := Lib.hid hT
  clear hr hE hNE h1 hT
  go_enter Tryz.func76, Tryz.ntmps76
  go_wp2_with fail
  refine (rletter_any _ _).mono ?_
  rintro e w1 ⟨rfl, rfl⟩
  rw [show isLet 34 = false from rfl]
  go_wp2_with fail
  refine (rdigit_any _ _).mono ?_
  rintro e w1 ⟨rfl, rfl⟩
  rw [show isDig 34 = false from rfl]
  go_wp2
  go_loop [10] (fun j => ∃ k : Nat, i + 1 ≤ k ∧ k ≤ E ∧ j = .int .i64 k ∧ runTo (bts s) isPlain k = E) (fun j => E - (intOf j).toNat)
  case atStart => exact ⟨i + 1, Nat.le_refl _, hlo, by go_num, HE.out⟩
  case round =>
    obtain ⟨k, hik, hkE, rfl, hj⟩ := hrel
    have HJ := Lib.hid hj
    have HAT := Lib.hid (fun W => at_any s k k W rfl)
    clear hj
    by_cases hkl : k < s.size
    · obtain ⟨z, hz⟩ : ∃ z, (bts s).getD k 0 = z := ⟨_, rfl⟩
      have hz0 := bts_bd s k
      rw [hz] at HAT hz0
      have hzk : (s[k].toNat : Int) = z := by rw [← bts_get hkl]; exact hz
      by_cases g1 : 32 ≤ z
      · by_cases g2 : z = 34
        · have HST := Lib.hid (show stA (bts s) isPlain k = false by rw [stA_of (by rw [bts_length]; exact hkl), hz]; exact decide_eq_false (by omega))
          have HQ := Lib.hid (show stA (bts s) (isC 34) k = true by rw [stA_of (by rw [bts_length]; exact hkl), hz]; exact decide_eq_true g2)
          have hkk : k = E := by
            rw [← HJ.out]
            exact (runTo_stop HST.out).symm
          subst hkk
          subst g2
          obtain ⟨S, hS⟩ : ∃ S, S = s.extract (i + 1) k := ⟨_, rfl⟩
          have kc := fun W => Lib.run_convert_string_bytes (P := Tryz.prog) W 9 22 5 S Tryz.underlying9 Tryz.underlying22 Tryz.underlying5
          have hSZ : S.size = k - (i + 1) := by rw [hS, ByteArray.size_extract]; omega
          have HSB := Lib.hid (show bts S = sub (bts s) (i + 1) k from by rw [hS]; exact bts_part s (i + 1) k)
          have HSX := Lib.hid (show S = strOfNums (sub (bts s) (i + 1) k) from by rw [hS]; exact ext_str s (i + 1) k)
          have hS' := hS.symm
          clear hz HST hS
          go_wp2_with fail
          refine (HAT.out _).mono ?_
          rintro e w2 ⟨rfl, rfl⟩
          go_wp2_with fail
          have hcap := grownCap_ge ((w.alloc (.cells #[.int .i64 0, .string ⟨#[]⟩, .int .i64 0] 108)).alloc (.cells #[.int .i64 0, .string ⟨#[]⟩, .int .i64 (i : Nat)] 108)) (k - (i + 1)) 0 5
          have hz0 := bytes_of_bytesWorld ((w.alloc (.cells #[.int .i64 0, .string ⟨#[]⟩, .int .i64 0] 108)).alloc (.cells #[.int .i64 0, .string ⟨#[]⟩, .int .i64 (i : Nat)] 108)) S
          obtain ⟨hb0, hR, hTk, hsz⟩ := two_blocks w i S
          simp only [World.size_alloc] at hz0
          generalize grownCap ((w.alloc (.cells #[.int .i64 0, .string ⟨#[]⟩, .int .i64 0] 108)).alloc (.cells #[.int .i64 0, .string ⟨#[]⟩, .int .i64 (i : Nat)] 108)) (k - (i + 1)) 0 5 = cap at hcap ⊢
          generalize Lib.bytesWorld ((w.alloc (.cells #[.int .i64 0, .string ⟨#[]⟩, .int .i64 0] 108)).alloc (.cells #[.int .i64 0, .string ⟨#[]⟩, .int .i64 (i : Nat)] 108)) 5 S = W0 at hb0 hR hTk hsz hz0 ⊢
          have HZ := Lib.hid (rtext_any (some ⟨w.heap.size + 1 + 1, 0, none⟩) cap (k - (i + 1)) (bts S) W0 (Tabs.below HT.out (Nat.le_refl _) hb0) hz0 (by rw [bts_length]; exact hSZ) (by omega) (by omega))
          rw [HSB.out] at HZ
          refine HZ.out.mono ?_
          rintro e W2 ⟨rfl, hb2⟩
          have HBW := Lib.hid (hb0.trans (hb2.mono hb0.size))
          have HRB := Lib.hid (hR.below hb2 (by omega))
          have HTK := Lib.hid (hTk.below hb2 (by omega))
          have hs2 : w.heap.size + 1 < W2.heap.size := Nat.lt_of_lt_of_le hsz hb2.size
          clear hb0 hR hTk hz0 hcap HZ hb2 hsz kc
          obtain ⟨r0, r1, r2, r3, r4, r5⟩ := HRB.out.facts
          obtain ⟨t0, t1, t2, t3, t4, t5⟩ := HTK.out.facts
          cases ho : okU (sub (bts s) (i + 1) k)
          · have HBB := Lib.hid (show quoBad okU (bts s) i = true by rw [HB.out, ho]; simp)
            clear ho
            go_wp2
            exact bodyPost_ret (v := .tuple #[.agg #[.int .i64 0, .string ⟨#[]⟩, .int .i64 i], .int .i64 k, .bool false]) (by simp [results, Tryz.results76, go_sem, r0, r1, r2]) rfl ⟨(show r = none by rw [← HRR.out, HBB.out]; rfl) ▸ ⟨_, _, _, _, rfl⟩, ((HBW.out.setCell (Nat.le_refl _) _).setCell (Nat.le_refl _) _).setCell (Nat.le_refl _) _⟩
          · have HBB := Lib.hid (show quoBad okU (bts s) i = false by rw [HB.out, HQ.out, ho]; rfl)
            clear ho
            go_wp2
            obtain rfl := HSX.out
            exact bodyPost_ret (v := .tuple #[.agg #[.int .i64 3, .string (strOfNums (sub (bts s) (i + 1) k)), .int .i64 i], .int .i64 (k + 1 : Nat), .bool true]) (by simp [results, Tryz.results76, go_sem, r0, r1, r2]) rfl ⟨(show r = some ((⟨3, sub (bts s) (i + 1) k, i⟩ : Tok), k + 1) by rw [← HRR.out, HBB.out]; rfl) ▸ rfl, ((((HBW.out.setCell (Nat.le_succ _) _).setCell (Nat.le_succ _) _).setCell (Nat.le_refl _) _).setCell (Nat.le_refl _) _).setCell (Nat.le_refl _) _⟩
        · by_cases g3 : z = 92
          · have b1 : (z != 34) = true := bne_iff_ne.2 g2
            have b2 : (z != 92) = false := by rw [g3]; rfl
            have HST := Lib.hid (show stA (bts s) isPlain k = false by rw [stA_of (by rw [bts_length]; exact hkl), hz]; exact decide_eq_false (by omega))
            have HQ := Lib.hid (show stA (bts s) (isC 34) k = false by rw [stA_of (by rw [bts_length]; exact hkl), hz]; exact decide_eq_false (by omega))
            have n34 : (z != 34) = true := bne_iff_ne.2 (by omega)
            clear hz g2 g3
            have hkk : k = E := by
              rw [← HJ.out]
              exact (runTo_stop HST.out).symm
            subst hkk
            have HBB := Lib.hid (show quoBad okU (bts s) i = true by rw [HB.out, HQ.out]; rfl)
            go_wp2_with fail
            refine (HAT.out _).mono ?_
            rintro e w2 ⟨rfl, rfl⟩
            go_wp2
            exact bodyPost_ret (v := .tuple #[.agg #[.int .i64 0, .string ⟨#[]⟩, .int .i64 i], .int .i64 k, .bool false]) (by simp [results, Tryz.results76, go_sem]) rfl ⟨(show r = none by rw [← HRR.out, HBB.out]; rfl) ▸ ⟨_, _, _, _, rfl⟩, two_new w _ _⟩
          · by_cases g4 : z = 127
            · have b1 : (z != 34) = true := bne_iff_ne.2 g2
              have b2 : (z != 92) = true := bne_iff_ne.2 g3
              have b3 : (z != 127) = false := by rw [g4]; rfl
              have HST := Lib.hid (show stA (bts s) isPlain k = false by rw [stA_of (by rw [bts_length]; exact hkl), hz]; exact decide_eq_false (by omega))
              have HQ := Lib.hid (show stA (bts s) (isC 34) k = false by rw [stA_of (by rw [bts_length]; exact hkl), hz]; exact decide_eq_false (by omega))
              have n34 : (z != 34) = true := bne_iff_ne.2 (by omega)
              clear hz g2 g3 g4
              have hkk : k = E := by
                rw [← HJ.out]
                exact (runTo_stop HST.out).symm
              subst hkk
              have HBB := Lib.hid (show quoBad okU (bts s) i = true by rw [HB.out, HQ.out]; rfl)
              go_wp2_with fail
              refine (HAT.out _).mono ?_
              rintro e w2 ⟨rfl, rfl⟩
              go_wp2
              exact bodyPost_ret (v := .tuple #[.agg #[.int .i64 0, .string ⟨#[]⟩, .int .i64 i], .int .i64 k, .bool false]) (by simp [results, Tryz.results76, go_sem]) rfl ⟨(show r = none by rw [← HRR.out, HBB.out]; rfl) ▸ ⟨_, _, _, _, rfl⟩, two_new w _ _⟩
            · have b1 : (z != 34) = true := bne_iff_ne.2 g2
              have b2 : (z != 92) = true := bne_iff_ne.2 g3
              have b3 : (z != 127) = true := bne_iff_ne.2 g4
              have hst : stA (bts s) isPlain k = true := by rw [stA_of (by rw [bts_length]; exact hkl), hz]; exact decide_eq_true (by omega)
              have HN := Lib.hid (HJ.out ▸ (runTo_step hst).symm)
              have hlt : k + 1 ≤ E := by have := runTo_ge (bts s) isPlain (k + 1); rw [HN.out] at this; exact this
              clear hst hz g2 g3 g4
              go_wp2
              go_round
              case rel => exact ⟨k + 1, by omega, hlt, by go_num, HN.out⟩
              case measure => simp [intOf]; omega
      · have HST := Lib.hid (show stA (bts s) isPlain k = false by rw [stA_of (by rw [bts_length]; exact hkl), hz]; exact decide_eq_false (by omega))
        have HQ := Lib.hid (show stA (bts s) (isC 34) k = false by rw [stA_of (by rw [bts_length]; exact hkl), hz]; exact decide_eq_false (by omega))
        have n34 : (z != 34) = true := bne_iff_ne.2 (by omega)
        clear hz
        have hkk : k = E := by
          rw [← HJ.out]
          exact (runTo_stop HST.out).symm
        subst hkk
        have HBB := Lib.hid (show quoBad okU (bts s) i = true by rw [HB.out, HQ.out]; rfl)
        go_wp2_with fail
        refine (HAT.out _).mono ?_
        rintro e w2 ⟨rfl, rfl⟩
        go_wp2
        exact bodyPost_ret (v := .tuple #[.agg #[.int .i64 0, .string ⟨#[]⟩, .int .i64 i], .int .i64 k, .bool false]) (by simp [results, Tryz.results76, go_sem]) rfl ⟨(show r = none by rw [← HRR.out, HBB.out]; rfl) ▸ ⟨_, _, _, _, rfl⟩, two_new w _ _⟩
    · have HST := Lib.hid (stA_ge (zs := bts s) (p := isPlain) (i := k) (by rw [bts_length]; omega))
      have HQ := Lib.hid (stA_ge (zs := bts s) (p := isC 34) (i := k) (by rw [bts_length]; omega))
      rw [bts_end (by omega)] at HAT
      have hkk : k = E := by
        rw [← HJ.out]
        exact (runTo_stop HST.out).symm
      subst hkk
      have HBB := Lib.hid (show quoBad okU (bts s) i = true by rw [HB.out, HQ.out]; rfl)
      go_wp2_with fail
      refine (HAT.out _).mono ?_
      rintro e w2 ⟨rfl, rfl⟩
      go_wp2
      exact bodyPost_ret (v := .tuple #[.agg #[.int .i64 0, .string ⟨#[]⟩, .int .i64 i], .int .i64 k, .bool false]) (by simp [results, Tryz.results76, go_sem]) rfl ⟨(show r = none by rw [← HRR.out, HBB.out]; rfl) ▸ ⟨_, _, _, _, rfl⟩, two_new w _ _⟩
end Go.Proofs.YtdlfndjgncdgfaaGreatDoor
