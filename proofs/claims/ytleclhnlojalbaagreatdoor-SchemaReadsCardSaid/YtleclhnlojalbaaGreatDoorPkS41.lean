/-
  The document's own has and Text: a sign among some; whether bytes are a text. Conditions: those that each theorem names; the library's tables hold what the row lists.
  The document's own Behind: the place behind blanks and remarks. Conditions: those that each theorem names.
  The document's own One, at a text's end and at a name: the token at a place, and the place behind it. Conditions: those that each theorem names.
  The document's own One, at a number. Conditions: those that each theorem names.
-/
import Derived.Test.YtleclhnlojalbaaGreatDoorPkS11
import Derived.Test.YtleclhnlojalbaaGreatDoorPkS12
import Derived.Test.YtleclhnlojalbaaGreatDoorPkS13
import Derived.Test.YtleclhnlojalbaaGreatDoorPkS38
import Derived.Test.YtleclhnlojalbaaGreatDoorPkS39
import Derived.Test.YtleclhnlojalbaaGreatDoorPkS40
import Derived.Deep.Cut
namespace Go.Proofs.YtleclhnlojalbaaGreatDoor
open Go.ChangeShapes Go.WideShapes Go.ChangeAt Go.RowKit Go.Shelf

theorem amg_yes {s : ByteArray} {k : Nat} {c : Int} (h : k < s.size) (hc : (s[k].toNat : Int) = c) : amg s c = true := by
  refine decide_eq_true ?_
  rw [← hc, ← bts_get h, List.getD, List.getElem?_eq_getElem (by rw [bts_length]; exact h)]
  exact List.getElem_mem _
theorem amg_no {s : ByteArray} {c : Int} (h : ∀ j (hj : j < s.size), (s[j].toNat : Int) ≠ c) : amg s c = false := by
  refine decide_eq_false (fun hm => ?_)
  obtain ⟨j, hj, hv⟩ := List.mem_iff_getElem.1 hm
  have hj' : j < s.size := by rw [bts_length] at hj; exact hj
  refine h j hj' ?_
  rw [← bts_get hj', List.getD, List.getElem?_eq_getElem hj]
  exact hv
theorem has_any (s : ByteArray) (c : Int) (w : World) (hs : s.size ≤ 9223372036854775807) :
    Calls Tryz.prog 106 #[.string s, .int .u8 c] w fun e w' => e = .returned (.bool (amg s c)) ∧ w = w' := by
  obtain ⟨r, hr⟩ : ∃ r, amg s c = r := ⟨_, rfl⟩
  have HR := Lib.hid hr
  rw [hr]
  clear hr
  go_enter Tryz.func106, Tryz.ntmps106
  go_wp2
  go_loop [5] (fun i => ∃ k : Nat, k ≤ s.size ∧ i = .int .i64 k ∧ ∀ j (hj : j < s.size), j < k → (s[j].toNat : Int) ≠ c) (fun i => s.size - (intOf i).toNat)
  case atStart => exact ⟨0, Nat.zero_le _, rfl, fun j _ h => absurd h (Nat.not_lt_zero _)⟩
  case round =>
    obtain ⟨k, hk, rfl, hj⟩ := hrel
    have HJ := Lib.hid hj
    clear hj
    by_cases hlt : k < s.size
    · by_cases he : (s[k].toNat : Int) = c
      · have HA := Lib.hid (amg_yes hlt he)
        have t : ((s[k].toNat : Int) == c) = true := beq_iff_eq.2 he
        clear he
        go_wp2
        go_ret
        exact ⟨ret_bool (HA.out.symm.trans HR.out), rfl⟩
      · have t : ((s[k].toNat : Int) == c) = false := beq_eq_false_iff_ne.2 he
        have HN := Lib.hid he
        clear he
        go_wp2
        go_round
        case rel =>
          refine ⟨k + 1, by omega, by go_num, fun j hj h => ?_⟩
          rcases Nat.lt_or_ge j k with h' | h'
          · exact HJ.out j hj h'
          · obtain rfl : j = k := by omega
            exact HN.out
        case measure => simp [intOf]; omega
    · have HA := Lib.hid (amg_no (s := s) (c := c) fun j hj => HJ.out j hj (by omega))
      go_wp2
      go_ret
      exact ⟨ret_bool (HA.out.symm.trans HR.out), rfl⟩
theorem rtext_any (a : Option Addr) (cap n : Nat) (zs : List Int) (w : World) (hT : Tabs w) (hz : Bytes w a zs) (hn : zs.length = n) (hl : (n : Int) ≤ 9223372036854775800) (hcap : n ≤ cap) :
    Calls Tryz.prog 105 #[.slice a n cap] w fun e w' => e = .returned (.bool (okU zs)) ∧ Below w.heap.size w w' := by
  have HU := Lib.hid (rutf8_call a cap n zs w hT hz hn hl hcap)
  clear hT hz hn hl hcap
  go_enter Tryz.func105, Tryz.ntmps105
  go_wp2_with fail
  refine HU.out.mono ?_
  rintro e W1 ⟨rfl, hb⟩
  go_wp2
  go_ret
  exact ⟨rfl, hb⟩
end Go.Proofs.YtleclhnlojalbaaGreatDoor
namespace Go.Proofs.YtleclhnlojalbaaGreatDoor
open Go.ChangeShapes Go.WideShapes Go.ChangeAt Go.RowKit Go.Shelf

theorem blank_no {s : ByteArray} {k : Nat} (h : k < s.size) (hb : stA (bts s) isBlank k = false) : ((s[k].toNat : Int) == 32) = false ∧ ((s[k].toNat : Int) == 9) = false ∧ ((s[k].toNat : Int) == 10) = false ∧ ((s[k].toNat : Int) == 13) = false := by
  rw [stA_of (by rw [bts_length]; exact h), bts_get h] at hb
  have hc := of_decide_eq_false hb
  simp only [beq_eq_false_iff_ne, ne_eq]
  omega
theorem slash_no {s : ByteArray} {k : Nat} (h : k < s.size) (hc : (s[k].toNat : Int) = 47) (h2 : slash2 (bts s) k = false) : ((bts s).getD (k + 1) 0 == 47) = false := by
  unfold slash2 at h2
  rw [stA_of (by rw [bts_length]; exact h), bts_get h, hc, show isC 47 47 = true from rfl, Bool.true_and] at h2
  by_cases h3 : k + 1 < s.size
  · rw [stA_of (by rw [bts_length]; exact h3)] at h2
    exact h2
  · rw [bts_end (by omega)]
    rfl
theorem slash_yes {s : ByteArray} {k : Nat} (h : k < s.size) (h2 : slash2 (bts s) k = true) : ((s[k].toNat : Int) == 47) = true ∧ ((bts s).getD (k + 1) 0 == 47) = true := by
  unfold slash2 at h2
  rw [Bool.and_eq_true] at h2
  rw [← bts_get h]
  exact ⟨stA_p h2.1, stA_p h2.2⟩
set_option maxRecDepth 100000 in
set_option maxHeartbeats 800000 in
theorem behind_any (s : ByteArray) (x : Int) (i : Nat) (w : World) (hx : x = i) (hs : s.size ≤ 281474976710656) (hi : i ≤ s.size) :
    Calls Tryz.prog 79 #[.string s, .int .i64 x] w fun e w' => e = .returned (.int .i64 (gap (bts s) i : Nat)) ∧ w = w' := by
  subst hx
  obtain ⟨r, hr⟩ : ∃ r, gap (bts s) i = r := ⟨_, rfl⟩
  have HR := Lib.hid hr
  rw [hr]
  clear hr
  go_enter Tryz.func79, Tryz.ntmps79
  go_wp2
  go_loop [1] (fun j => ∃ k : Nat, k ≤ s.size ∧ j = .int .i64 k ∧ r = gap (bts s) k) (fun j => s.size - (intOf j).toNat)
  case atStart => exact ⟨i, hi, rfl, HR.out.symm⟩
  case round =>
    obtain ⟨k, hk, rfl, hj⟩ := hrel
    have HJ := Lib.hid hj
    clear hj
    by_cases hlt : k < s.size
    · have hgk := bts_get hlt
      cases hb : stA (bts s) isBlank k
      · cases h2 : slash2 (bts s) k
        · have HG := Lib.hid (gap_stop hb h2)
          obtain ⟨t32, t9, t10, t13⟩ := blank_no hlt hb
          by_cases c47 : (s[k].toNat : Int) = 47
          · have hd := slash_no hlt c47 h2
            have t47 : ((s[k].toNat : Int) == 47) = true := beq_iff_eq.2 c47
            clear hb h2 c47 hgk
            go_wp2_with fail
            refine (at_any s _ (k + 1) _ (by omega)).mono ?_
            rintro e w2 ⟨rfl, rfl⟩
            generalize (bts s).getD (k + 1) 0 = z at hd ⊢
            go_wp2
            go_ret
            exact ⟨ret_int (by rw [HJ.out, HG.out]), rfl⟩
          · have t47 : ((s[k].toNat : Int) == 47) = false := beq_eq_false_iff_ne.2 c47
            clear hb h2 c47 hgk
            go_wp2
            go_ret
            exact ⟨ret_int (by rw [HJ.out, HG.out]), rfl⟩
        · have HG := Lib.hid (gap_remark h2)
          obtain ⟨t32, t9, t10, t13⟩ := blank_no hlt hb
          obtain ⟨t47, hd⟩ := slash_yes hlt h2
          have hrl := runTo_le (bts s) notLf k (by rw [bts_length]; exact hk)
          have hrg := slash2_run h2
          rw [bts_length] at hrl
          clear hb h2 hgk
          go_wp2_with fail
          refine (at_any s _ (k + 1) _ (by omega)).mono ?_
          rintro e w2 ⟨rfl, rfl⟩
          generalize (bts s).getD (k + 1) 0 = z at hd ⊢
          go_wp2
          go_loop [1] (fun j => ∃ m : Nat, k ≤ m ∧ m ≤ s.size ∧ j = .int .i64 m ∧ runTo (bts s) notLf k = runTo (bts s) notLf m) (fun j => s.size - (intOf j).toNat)
          case atStart => exact ⟨k, Nat.le_refl _, hk, rfl, rfl⟩
          case round =>
            obtain ⟨m, hkm, hm, rfl, hq⟩ := hrel
            have HQ := Lib.hid hq
            clear hq
            by_cases hml : m < s.size
            · have hgm := bts_get hml
              by_cases c10 : (s[m].toNat : Int) = 10
              · have HS := Lib.hid (runTo_stop (zs := bts s) (p := notLf) (i := m) (by rw [stA_of (by rw [bts_length]; exact hml), hgm, c10]; rfl))
                have tm : ((s[m].toNat : Int) != 10) = false := by rw [c10]; rfl
                have hkm2 : k + 2 ≤ m := by have h1 := HQ.out; rw [HS.out] at h1; omega
                clear c10 hgm
                go_wp2
                go_round
                case rel => exact ⟨m, hm, rfl, by rw [HJ.out, HG.out, HQ.out, HS.out]⟩
                case measure => simp [intOf]; omega
              · have HS := Lib.hid (runTo_step (zs := bts s) (p := notLf) (i := m) (by rw [stA_of (by rw [bts_length]; exact hml), hgm]; exact decide_eq_true c10))
                have tm : ((s[m].toNat : Int) != 10) = true := by rw [bne_iff_ne]; exact c10
                clear c10 hgm
                go_wp2
                go_round
                case rel => exact ⟨m + 1, by omega, by omega, by go_num, by rw [HQ.out, HS.out]⟩
                case measure => simp [intOf]; omega
            · have HS := Lib.hid (runTo_stop (zs := bts s) (p := notLf) (i := m) (stA_ge (by rw [bts_length]; omega)))
              have hkm2 : k + 2 ≤ m := by have h1 := HQ.out; rw [HS.out] at h1; omega
              go_wp2
              go_round
              case rel => exact ⟨m, hm, rfl, by rw [HJ.out, HG.out, HQ.out, HS.out]⟩
              case measure => simp [intOf]; omega
      · have HG := Lib.hid (gap_blank hb)
        have hc : (s[k].toNat : Int) = 32 ∨ (s[k].toNat : Int) = 9 ∨ (s[k].toNat : Int) = 10 ∨ (s[k].toNat : Int) = 13 := by
          rw [← hgk]
          exact of_decide_eq_true (stA_p hb)
        clear hb hgk
        rcases hc with hc | hc | hc | hc
        · have t32 : ((s[k].toNat : Int) == 32) = true := by simp only [beq_iff_eq]; omega
          clear hc
          go_wp2
          go_round
          case rel => exact ⟨k + 1, by omega, by go_num, HJ.out.trans HG.out⟩
          case measure => simp [intOf]; omega
        · have t32 : ((s[k].toNat : Int) == 32) = false := by simp only [beq_eq_false_iff_ne, ne_eq]; omega
          have t9 : ((s[k].toNat : Int) == 9) = true := by simp only [beq_iff_eq]; omega
          clear hc
          go_wp2
          go_round
          case rel => exact ⟨k + 1, by omega, by go_num, HJ.out.trans HG.out⟩
          case measure => simp [intOf]; omega
        · have t32 : ((s[k].toNat : Int) == 32) = false := by simp only [beq_eq_false_iff_ne, ne_eq]; omega
          have t9 : ((s[k].toNat : Int) == 9) = false := by simp only [beq_eq_false_iff_ne, ne_eq]; omega
          have t10 : ((s[k].toNat : Int) == 10) = true := by simp only [beq_iff_eq]; omega
          clear hc
          go_wp2
          go_round
          case rel => exact ⟨k + 1, by omega, by go_num, HJ.out.trans HG.out⟩
          case measure => simp [intOf]; omega
        · have t32 : ((s[k].toNat : Int) == 32) = false := by simp only [beq_eq_false_iff_ne, ne_eq]; omega
          have t9 : ((s[k].toNat : Int) == 9) = false := by simp only [beq_eq_false_iff_ne, ne_eq]; omega
          have t10 : ((s[k].toNat : Int) == 10) = false := by simp only [beq_eq_false_iff_ne, ne_eq]; omega
          have t13 : ((s[k].toNat : Int) == 13) = true := by simp only [beq_iff_eq]; omega
          clear hc
          go_wp2
          go_round
          case rel => exact ⟨k + 1, by omega, by go_num, HJ.out.trans HG.out⟩
          case measure => simp [intOf]; omega
    · have HG := Lib.hid (gap_end (zs := bts s) (i := k) (by rw [bts_length]; omega))
      go_wp2
      go_ret
      exact ⟨ret_int (by rw [HJ.out, HG.out]), rfl⟩
end Go.Proofs.YtleclhnlojalbaaGreatDoor
namespace Go.Proofs.YtleclhnlojalbaaGreatDoor
open Go.ChangeShapes Go.WideShapes Go.ChangeAt Go.RowKit Go.Shelf

/-- What the document's One hands back: a token and the place behind it, or none. -/
def OneVal (r : Option (Tok × Nat)) (e : Ending) : Prop :=
  match r with
  | some (t, k) => e = .returned (.tuple #[.agg #[.int .i64 t.kind, .string (strOfNums t.text), .int .i64 t.place], .int .i64 (k : Nat), .bool true])
  | none => ∃ (a c k : Int) (S : ByteArray), e = .returned (.tuple #[.agg #[.int .i64 a, .string S, .int .i64 c], .int .i64 k, .bool false])
theorem ext_str (s : ByteArray) (i j : Nat) : s.extract i j = strOfNums (sub (bts s) i j) := by
  refine bts_inj ?_
  rw [bts_part, bts_strOf]
  intro z hz
  have h2 : z ∈ bts s := List.mem_of_mem_drop (List.mem_of_mem_take hz)
  obtain ⟨j, hj, rfl⟩ := List.mem_iff_getElem.1 h2
  have := bts_bd s j
  rw [List.getD, List.getElem?_eq_getElem hj] at this
  exact this
theorem two_new (w : World) (a b : Obj) : Below w.heap.size w ((w.alloc a).alloc b) := ((Below.refl _ _).alloc (Nat.le_refl _) _).alloc (by rw [World.size_alloc]; omega) _
/-- A kind at a place, told by the byte that at gives: no byte of the kind is 0. -/
theorem stA_at {s : ByteArray} {p : Int → Bool} (h : p 0 = false) (k : Nat) : stA (bts s) p k = p ((bts s).getD k 0) := by
  by_cases hk : k < (bts s).length
  · exact stA_of hk
  · rw [stA_ge (by omega), List.getD, List.getElem?_eq_none (by omega)]
    exact h.symm
set_option maxRecDepth 100000 in
theorem one_end (s sg : ByteArray) (x : Int) (i : Nat) (w : World) (hx : x = i) (hi : i = s.size) :
    Calls Tryz.prog 80 #[.string s, .string sg, .int .i64 x] w fun e w' => OneVal (some (⟨0, [], i⟩, i)) e ∧ Below w.heap.size w w' := by
  subst hx
  subst hi
  go_enter Tryz.func80, Tryz.ntmps80
  go_wp2
  exact bodyPost_ret (v := .tuple #[.agg #[.int .i64 0, .string ⟨#[]⟩, .int .i64 s.size], .int .i64 s.size, .bool true]) (by simp [results, Tryz.results80, go_sem]) rfl ⟨rfl, two_new w _ _⟩
set_option maxRecDepth 100000 in
theorem one_name (s sg : ByteArray) (x : Int) (i : Nat) (w : World) (hx : x = i) (hs : s.size ≤ 281474976710656) (h1 : stA (bts s) isLet i = true) :
    Calls Tryz.prog 80 #[.string s, .string sg, .int .i64 x] w fun e w' => OneVal (some (⟨1, sub (bts s) i (runTo (bts s) (fun c => isLet c || isDig c) i), i⟩, runTo (bts s) (fun c => isLet c || isDig c) i)) e ∧ Below w.heap.size w w' := by
  subst hx
  have hi : i < s.size := by have := stA_lt h1; rwa [bts_length] at this
  have H1 := Lib.hid (show isLet (s[i].toNat : Int) = true by rw [← bts_get hi]; exact stA_p h1)
  have hup := runTo_le (bts s) (fun c => isLet c || isDig c) i (by rw [bts_length]; omega)
  have hlo := runTo_ge (bts s) (fun c => isLet c || isDig c) i
  rw [bts_length] at hup
  obtain ⟨E, hE⟩ : ∃ E, runTo (bts s) (fun c => isLet c || isDig c) i = E := ⟨_, rfl⟩
  rw [hE] at hup hlo ⊢
  have HE := Lib.hid hE
  clear h1 hE
  go_enter Tryz.func80, Tryz.ntmps80
  go_wp2_with fail
  refine (rletter_any _ _).mono ?_
  rintro e w1 ⟨rfl, rfl⟩
  rw [H1.out]
  go_wp2
  go_loop [10] (fun j => ∃ k : Nat, i ≤ k ∧ k ≤ E ∧ j = .int .i64 k ∧ runTo (bts s) (fun c => isLet c || isDig c) k = E) (fun j => E - (intOf j).toNat)
  case atStart => exact ⟨i, Nat.le_refl _, hlo, rfl, HE.out⟩
  case round =>
    obtain ⟨k, hik, hkE, rfl, hj⟩ := hrel
    have HJ := Lib.hid hj
    have HS := Lib.hid (stA_at (s := s) (p := fun c => isLet c || isDig c) rfl k)
    have HAT := Lib.hid (fun W => at_any s k k W rfl)
    generalize (bts s).getD k 0 = z at HS HAT
    clear hj
    go_wp2_with fail
    refine (HAT.out _).mono ?_
    rintro e w2 ⟨rfl, rfl⟩
    go_wp2_with fail
    refine (rletter_any _ _).mono ?_
    rintro e w2 ⟨rfl, rfl⟩
    cases hl : isLet z
    · go_wp2_with fail
      refine (HAT.out _).mono ?_
      rintro e w2 ⟨rfl, rfl⟩
      go_wp2_with fail
      refine (rdigit_any _ _).mono ?_
      rintro e w2 ⟨rfl, rfl⟩
      cases hd : isDig z
      · have hkk : k = E := by
          rw [← HJ.out]
          exact (runTo_stop (by rw [HS.out, hl, hd]; rfl)).symm
        subst hkk
        have HX := Lib.hid (ext_str s i k)
        clear hl hd
        go_upto_region 33 with (fail)
        rw [HX.out]
        go_wp2
        exact bodyPost_ret (v := .tuple #[.agg #[.int .i64 1, .string (strOfNums (sub (bts s) i k)), .int .i64 i], .int .i64 k, .bool true]) (by simp [results, Tryz.results80, go_sem]) rfl ⟨rfl, two_new w _ _⟩
      · have hst : stA (bts s) (fun c => isLet c || isDig c) k = true := by rw [HS.out, hl, hd]; rfl
        have HN := Lib.hid (HJ.out ▸ (runTo_step hst).symm)
        have hlt : k + 1 ≤ E := by have := runTo_ge (bts s) (fun c => isLet c || isDig c) (k + 1); rw [HN.out] at this; exact this
        clear hl hd hst
        go_wp2
        go_round
        case rel => exact ⟨k + 1, by omega, hlt, by go_num, HN.out⟩
        case measure => simp [intOf]; omega
    · have hst : stA (bts s) (fun c => isLet c || isDig c) k = true := by rw [HS.out, hl]; rfl
      have HN := Lib.hid (HJ.out ▸ (runTo_step hst).symm)
      have hlt : k + 1 ≤ E := by have := runTo_ge (bts s) (fun c => isLet c || isDig c) (k + 1); rw [HN.out] at this; exact this
      clear hl hst
      go_wp2
      go_round
      case rel => exact ⟨k + 1, by omega, hlt, by go_num, HN.out⟩
      case measure => simp [intOf]; omega
end Go.Proofs.YtleclhnlojalbaaGreatDoor
namespace Go.Proofs.YtleclhnlojalbaaGreatDoor
open Go.ChangeShapes Go.WideShapes Go.ChangeAt Go.RowKit Go.Shelf

theorem numBad_sub (zs : List Int) (i : Nat) : numBad zs i = (!goodN (sub zs i (numEnd zs i)) || stA zs isLet (numEnd zs i)) := by
  rw [numBad_drop, numBad_text, numEnd_drop zs i, stA_drop]
  have := sub_drop zs i 0 (numEnd (zs.drop i) 0)
  rw [Nat.add_zero] at this
  rw [this, sub_zero]
theorem numEnd_dig {zs : List Int} {i : Nat} (h : stA zs isDig i = true) : numEnd zs i = runTo zs isDig (i + 1) := by
  have hm : minusTo zs i = i := by
    unfold minusTo
    rw [if_neg]
    intro h2
    have a := of_decide_eq_true (show decide (48 ≤ zs.getD i 0 ∧ zs.getD i 0 ≤ 57) = true from stA_p h)
    have b := of_decide_eq_true (show decide (zs.getD i 0 = 45) = true from stA_p h2)
    omega
  unfold numEnd
  rw [hm, runTo_step h]
theorem numEnd_min {zs : List Int} {i : Nat} (h : stA zs (isC 45) i = true) : numEnd zs i = runTo zs isDig (i + 1) := by
  have hm : minusTo zs i = i + 1 := by
    unfold minusTo
    rw [if_pos h]
  unfold numEnd
  rw [hm]
set_option maxRecDepth 100000 in
set_option maxHeartbeats 1000000 in
theorem one_num (s sg : ByteArray) (x : Int) (i : Nat) (w : World) (hx : x = i) (hs : s.size ≤ 281474976710656) (h1 : stA (bts s) isLet i = false) (h2 : begins (bts s) i = true) :
    Calls Tryz.prog 80 #[.string s, .string sg, .int .i64 x] w fun e w' => OneVal (if numBad (bts s) i = true then none else some (⟨2, sub (bts s) i (numEnd (bts s) i), i⟩, numEnd (bts s) i)) e ∧ Below w.heap.size w w' := by
  subst hx
  have h3 : stA (bts s) isDig i = true ∨ (stA (bts s) (isC 45) i = true ∧ stA (bts s) isDig (i + 1) = true) := by
    unfold begins at h2
    rw [Bool.or_eq_true, Bool.and_eq_true] at h2
    exact h2
  have hi : i < s.size := by
    rcases h3 with h | ⟨h, _⟩
    · have := stA_lt h; rwa [bts_length] at this
    · have := stA_lt h; rwa [bts_length] at this
  have H1 := Lib.hid (show isLet (s[i].toNat : Int) = false by rw [← bts_get hi, ← stA_at (p := isLet) rfl i]; exact h1)
  have hNE : numEnd (bts s) i = runTo (bts s) isDig (i + 1) := h3.elim numEnd_dig (fun h => numEnd_min h.1)
  have hup := runTo_le (bts s) isDig (i + 1) (by rw [bts_length]; omega)
  have hlo := runTo_ge (bts s) isDig (i + 1)
  rw [bts_length] at hup
  have HB := Lib.hid (numBad_sub (bts s) i)
  rw [hNE] at HB ⊢
  obtain ⟨E, hE⟩ : ∃ E, runTo (bts s) isDig (i + 1) = E := ⟨_, rfl⟩
  rw [hE] at hup hlo HB ⊢
  obtain ⟨r, hr⟩ : ∃ r, (if numBad (bts s) i = true then none else some ((⟨2, sub (bts s) i E, i⟩ : Tok), E)) = r := ⟨_, rfl⟩
  have HRR := Lib.hid hr
  rw [hr]
  clear hr
  have HE := Lib.hid hE
  clear hE hNE h1 h2
  rcases h3 with h3 | ⟨h3, h4⟩
  · have H3 := Lib.hid (show isDig (s[i].toNat : Int) = true by rw [← bts_get hi]; exact stA_p h3)
    clear h3
    go_enter Tryz.func80, Tryz.ntmps80
    go_wp2_with fail
    refine (rletter_any _ _).mono ?_
    rintro e w1 ⟨rfl, rfl⟩
    rw [H1.out]
    go_wp2_with fail
    refine (rdigit_any _ _).mono ?_
    rintro e w1 ⟨rfl, rfl⟩
    rw [H3.out]
    go_wp2
    go_loop [10] (fun j => ∃ k : Nat, i + 1 ≤ k ∧ k ≤ E ∧ j = .int .i64 k ∧ runTo (bts s) isDig k = E) (fun j => E - (intOf j).toNat)
    case atStart => exact ⟨i + 1, Nat.le_refl _, hlo, by go_num, HE.out⟩
    case round =>
      obtain ⟨k, hik, hkE, rfl, hj⟩ := hrel
      have HJ := Lib.hid hj
      have HS := Lib.hid (stA_at (s := s) (p := isDig) rfl k)
      have HS2 := Lib.hid (stA_at (s := s) (p := isLet) rfl k)
      have HAT := Lib.hid (fun W => at_any s k k W rfl)
      generalize (bts s).getD k 0 = z at HS HS2 HAT
      clear hj
      go_wp2_with fail
      refine (HAT.out _).mono ?_
      rintro e w2 ⟨rfl, rfl⟩
      go_wp2_with fail
      refine (rdigit_any _ _).mono ?_
      rintro e w2 ⟨rfl, rfl⟩
      cases hd : isDig z
      · have hkk : k = E := by
          rw [← HJ.out]
          exact (runTo_stop (by rw [HS.out, hd])).symm
        subst hkk
        have HX := Lib.hid (ext_str s i k)
        have HG := Lib.hid (fun W => rgood_any (s.extract i k) W (by rw [ByteArray.size_extract]; omega))
        rw [bts_part] at HG
        clear hd
        go_upto_region 18 with (fail)
        generalize s.extract i k = S at HX HG ⊢
        obtain rfl := HX.out
        generalize sub (bts s) i k = T at HX HG HB HRR ⊢
        go_wp2_with fail
        refine (HG.out _).mono ?_
        rintro e w2 ⟨rfl, rfl⟩
        cases hg : goodN T
        · have HBB := Lib.hid (show numBad (bts s) i = true by rw [HB.out, hg]; rfl)
          clear hg
          go_wp2
          exact bodyPost_ret (v := .tuple #[.agg #[.int .i64 2, .string (strOfNums T), .int .i64 i], .int .i64 k, .bool false]) (by simp [results, Tryz.results80, go_sem]) rfl ⟨(show r = none by rw [← HRR.out, HBB.out]; rfl) ▸ ⟨_, _, _, _, rfl⟩, two_new w _ _⟩
        · go_wp2_with fail
          refine (HAT.out _).mono ?_
          rintro e w2 ⟨rfl, rfl⟩
          go_wp2_with fail
          refine (rletter_any _ _).mono ?_
          rintro e w2 ⟨rfl, rfl⟩
          cases hl : isLet z
          · have HBB := Lib.hid (show numBad (bts s) i = false by rw [HB.out, hg, HS2.out, hl]; rfl)
            clear hg hl
            go_wp2
            exact bodyPost_ret (v := .tuple #[.agg #[.int .i64 2, .string (strOfNums T), .int .i64 i], .int .i64 k, .bool true]) (by simp [results, Tryz.results80, go_sem]) rfl ⟨(show r = some ((⟨2, T, i⟩ : Tok), k) by rw [← HRR.out, HBB.out]; rfl) ▸ rfl, two_new w _ _⟩
          · have HBB := Lib.hid (show numBad (bts s) i = true by rw [HB.out, hg, HS2.out, hl]; rfl)
            clear hg hl
            go_wp2
            exact bodyPost_ret (v := .tuple #[.agg #[.int .i64 2, .string (strOfNums T), .int .i64 i], .int .i64 k, .bool false]) (by simp [results, Tryz.results80, go_sem]) rfl ⟨(show r = none by rw [← HRR.out, HBB.out]; rfl) ▸ ⟨_, _, _, _, rfl⟩, two_new w _ _⟩
      · have HN := Lib.hid (HJ.out ▸ (runTo_step (by rw [HS.out, hd] : stA (bts s) isDig k = true)).symm)
        have hlt : k + 1 ≤ E := by have := runTo_ge (bts s) isDig (k + 1); rw [HN.out] at this; exact this
        clear hd
        go_wp2
        go_round
        case rel => exact ⟨k + 1, by omega, hlt, by go_num, HN.out⟩
        case measure => simp [intOf]; omega
  · have t45 : ((s[i].toNat : Int) == 45) = true := by rw [← bts_get hi]; exact stA_p h3
    have H3 := Lib.hid (show isDig (s[i].toNat : Int) = false by
      rw [beq_iff_eq] at t45
      rw [t45]
      rfl)
    have HP := Lib.hid (show isDig ((bts s).getD (i + 1) 0) = true from stA_p h4)
    have HA1 := Lib.hid (fun W => at_any s ((i : Int) + 1) (i + 1) W (by omega))
    generalize (bts s).getD (i + 1) 0 = z1 at HP HA1
    clear h3 h4
    go_enter Tryz.func80, Tryz.ntmps80
    go_wp2_with fail
    refine (rletter_any _ _).mono ?_
    rintro e w1 ⟨rfl, rfl⟩
    rw [H1.out]
    go_wp2_with fail
    refine (rdigit_any _ _).mono ?_
    rintro e w1 ⟨rfl, rfl⟩
    rw [H3.out]
    go_wp2_with fail
    refine (HA1.out _).mono ?_
    rintro e w1 ⟨rfl, rfl⟩
    go_wp2_with fail
    refine (rdigit_any _ _).mono ?_
    rintro e w1 ⟨rfl, rfl⟩
    rw [HP.out]
    clear t45
    go_wp2
    go_loop [10] (fun j => ∃ k : Nat, i + 1 ≤ k ∧ k ≤ E ∧ j = .int .i64 k ∧ runTo (bts s) isDig k = E) (fun j => E - (intOf j).toNat)
    case atStart => exact ⟨i + 1, Nat.le_refl _, hlo, by go_num, HE.out⟩
    case round =>
      obtain ⟨k, hik, hkE, rfl, hj⟩ := hrel
      have HJ := Lib.hid hj
      have HS := Lib.hid (stA_at (s := s) (p := isDig) rfl k)
      have HS2 := Lib.hid (stA_at (s := s) (p := isLet) rfl k)
      have HAT := Lib.hid (fun W => at_any s k k W rfl)
      generalize (bts s).getD k 0 = z at HS HS2 HAT
      clear hj
      go_wp2_with fail
      refine (HAT.out _).mono ?_
      rintro e w2 ⟨rfl, rfl⟩
      go_wp2_with fail
      refine (rdigit_any _ _).mono ?_
      rintro e w2 ⟨rfl, rfl⟩
      cases hd : isDig z
      · have hkk : k = E := by
          rw [← HJ.out]
          exact (runTo_stop (by rw [HS.out, hd])).symm
        subst hkk
        have HX := Lib.hid (ext_str s i k)
        have HG := Lib.hid (fun W => rgood_any (s.extract i k) W (by rw [ByteArray.size_extract]; omega))
        rw [bts_part] at HG
        clear hd
        go_upto_region 18 with (fail)
        generalize s.extract i k = S at HX HG ⊢
        obtain rfl := HX.out
        generalize sub (bts s) i k = T at HX HG HB HRR ⊢
        go_wp2_with fail
        refine (HG.out _).mono ?_
        rintro e w2 ⟨rfl, rfl⟩
        cases hg : goodN T
        · have HBB := Lib.hid (show numBad (bts s) i = true by rw [HB.out, hg]; rfl)
          clear hg
          go_wp2
          exact bodyPost_ret (v := .tuple #[.agg #[.int .i64 2, .string (strOfNums T), .int .i64 i], .int .i64 k, .bool false]) (by simp [results, Tryz.results80, go_sem]) rfl ⟨(show r = none by rw [← HRR.out, HBB.out]; rfl) ▸ ⟨_, _, _, _, rfl⟩, two_new w _ _⟩
        · go_wp2_with fail
          refine (HAT.out _).mono ?_
          rintro e w2 ⟨rfl, rfl⟩
          go_wp2_with fail
          refine (rletter_any _ _).mono ?_
          rintro e w2 ⟨rfl, rfl⟩
          cases hl : isLet z
          · have HBB := Lib.hid (show numBad (bts s) i = false by rw [HB.out, hg, HS2.out, hl]; rfl)
            clear hg hl
            go_wp2
            exact bodyPost_ret (v := .tuple #[.agg #[.int .i64 2, .string (strOfNums T), .int .i64 i], .int .i64 k, .bool true]) (by simp [results, Tryz.results80, go_sem]) rfl ⟨(show r = some ((⟨2, T, i⟩ : Tok), k) by rw [← HRR.out, HBB.out]; rfl) ▸ rfl, two_new w _ _⟩
          · have HBB := Lib.hid (show numBad (bts s) i = true by rw [HB.out, hg, HS2.out, hl]; rfl)
            clear hg hl
            go_wp2
            exact bodyPost_ret (v := .tuple #[.agg #[.int .i64 2, .string (strOfNums T), .int .i64 i], .int .i64 k, .bool false]) (by simp [results, Tryz.results80, go_sem]) rfl ⟨(show r = none by rw [← HRR.out, HBB.out]; rfl) ▸ ⟨_, _, _, _, rfl⟩, two_new w _ _⟩
      · have HN := Lib.hid (HJ.out ▸ (runTo_step (by rw [HS.out, hd] : stA (bts s) isDig k = true)).symm)
        have hlt : k + 1 ≤ E := by have := runTo_ge (bts s) isDig (k + 1); rw [HN.out] at this; exact this
        clear hd
        go_wp2
        go_round
        case rel => exact ⟨k + 1, by omega, hlt, by go_num, HN.out⟩
        case measure => simp [intOf]; omega
end Go.Proofs.YtleclhnlojalbaaGreatDoor
