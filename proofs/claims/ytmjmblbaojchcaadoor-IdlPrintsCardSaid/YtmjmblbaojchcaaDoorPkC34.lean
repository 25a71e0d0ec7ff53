/-
  The document's own Behind: the place behind blanks and remarks. Conditions: those that each theorem names.
  What a region that draws its order may use: a contract that leaves the world as it was; the string of no bytes. Conditions: those that each theorem names.
  The document's own One, at a text's end and at a name: the token at a place, and the place behind it. Conditions: those that each theorem names.
-/
import Derived.Test.YtmjmblbaojchcaaDoorPkC30
import Derived.Test.YtmjmblbaojchcaaDoorPkC31
import Derived.Test.YtmjmblbaojchcaaDoorPkC32
import Derived.Test.YtmjmblbaojchcaaDoorPkC33
import Derived.WalkKit
import Derived.BigQuiet
import Derived.Laws.BytesArg
import Derived.Below
import Derived.Deep.Cut
namespace Go.Proofs.YtmjmblbaojchcaaDoor
open Go.ChangeShapes Go.WideShapes Go.ChangeAt Go.RowKit Go.Shelf

theorem blank_no {s : ByteArray} {k : Nat} (h : k < s.size) (hb : stA (bts s) isBlank k = false) : ((s[k].toNat : Int) == 32) = false ∧ ((s[k].toNat : Int) == 9) = false ∧ ((s[k].toNat : Int) == 10) = false ∧ ((s[k].toNat : Int) == 13) = false := by
  rw [stA_of (by rw [bts_length]; exact h), bts_get h] at hb
  have hc := of_decide_eq_false hb
  simp only [beq_eq_false_iff_ne, ne_eq]
  omega
theorem slash_no {s : ByteArray} {k : Nat} (h : k < s.size) (hc : (s[k].toNat : Int) = 47) (h2 : slash2 (bts s) k = false) : ((bts s).getD (k + 1) 0 == 47) = false := by
  unfold slash2 at h2
  rw [stA_of (by rw [bts_length]; exact h), bts_get h, hc, show isC 47 47 = true from rfl, Bool.true_and] at h2
  by_cases h3 : k + 1 < s.size
  · rw [stA_of (by rw [bts_length]; exact h3)] at h2
    exact h2
  · rw [bts_end (by omega)]
    rfl
theorem slash_yes {s : ByteArray} {k : Nat} (h : k < s.size) (h2 : slash2 (bts s) k = true) : ((s[k].toNat : Int) == 47) = true ∧ ((bts s).getD (k + 1) 0 == 47) = true := by
  unfold slash2 at h2
  rw [Bool.and_eq_true] at h2
  rw [← bts_get h]
  exact ⟨stA_p h2.1, stA_p h2.2⟩
set_option maxRecDepth 100000 in
set_option maxHeartbeats 800000 in
theorem behind_any (s : ByteArray) (x : Int) (i : Nat) (w : World) (hx : x = i) (hs : s.size ≤ 281474976710656) (hi : i ≤ s.size) :
    Calls Tryd.prog 40 #[.string s, .int .i64 x] w fun e w' => e = .returned (.int .i64 (gap (bts s) i : Nat)) ∧ w = w' := by
  subst hx
  obtain ⟨r, hr⟩ : ∃ r, gap (bts s) i = r := ⟨_, rfl⟩
  have HR := Lib.hid hr
  rw [hr]
  clear hr
  go_enter Tryd.func40, Tryd.ntmps40
  go_wp2
  go_loop [1] (fun j => ∃ k : Nat, k ≤ s.size ∧ j = .int .i64 k ∧ r = gap (bts s) k) (fun j => s.size - (intOf j).toNat)
  case atStart => exact ⟨i, hi, rfl, HR.out.symm⟩
  case round =>
    obtain ⟨k, hk, rfl, hj⟩ := hrel
    have HJ := Lib.hid hj
    clear hj
    by_cases hlt : k < s.size
    · have hgk := bts_get hlt
      cases hb : stA (bts s) isBlank k
      · cases h2 : slash2 (bts s) k
        · have HG := Lib.hid (gap_stop hb h2)
          obtain ⟨t32, t9, t10, t13⟩ := blank_no hlt hb
          by_cases c47 : (s[k].toNat : Int) = 47
          · have hd := slash_no hlt c47 h2
            have t47 : ((s[k].toNat : Int) == 47) = true := beq_iff_eq.2 c47
            clear hb h2 c47 hgk
            go_wp2_with fail
            refine (at_any s _ (k + 1) _ (by omega)).mono ?_
            rintro e w2 ⟨rfl, rfl⟩
            generalize (bts s).getD (k + 1) 0 = z at hd ⊢
            go_wp2
            go_ret
            exact ⟨ret_int (by rw [HJ.out, HG.out]), rfl⟩
          · have t47 : ((s[k].toNat : Int) == 47) = false := beq_eq_false_iff_ne.2 c47
            clear hb h2 c47 hgk
            go_wp2
            go_ret
            exact ⟨ret_int (by rw [HJ.out, HG.out]), rfl⟩
        · have HG := Lib.hid (gap_remark h2)
          obtain ⟨t32, t9, t10, t13⟩ := blank_no hlt hb
          obtain ⟨t47, hd⟩ := slash_yes hlt h2
          have hrl := runTo_le (bts s) notLf k (by rw [bts_length]; exact hk)
          have hrg := slash2_run h2
          rw [bts_length] at hrl
          clear hb h2 hgk
          go_wp2_with fail
          refine (at_any s _ (k + 1) _ (by omega)).mono ?_
          rintro e w2 ⟨rfl, rfl⟩
          generalize (bts s).getD (k + 1) 0 = z at hd ⊢
          go_wp2
          go_loop [1] (fun j => ∃ m : Nat, k ≤ m ∧ m ≤ s.size ∧ j = .int .i64 m ∧ runTo (bts s) notLf k = runTo (bts s) notLf m) (fun j => s.size - (intOf j).toNat)
          case atStart => exact ⟨k, Nat.le_refl _, hk, rfl, rfl⟩
          case round =>
            obtain ⟨m, hkm, hm, rfl, hq⟩ := hrel
            have HQ := Lib.hid hq
            clear hq
            by_cases hml : m < s.size
            · have hgm := bts_get hml
              by_cases c10 : (s[m].toNat : Int) = 10
              · have HS := Lib.hid (runTo_stop (zs := bts s) (p := notLf) (i := m) (by rw [stA_of (by rw [bts_length]; exact hml), hgm, c10]; rfl))
                have tm : ((s[m].toNat : Int) != 10) = false := by rw [c10]; rfl
                have hkm2 : k + 2 ≤ m := by have h1 := HQ.out; rw [HS.out] at h1; omega
                clear c10 hgm
                go_wp2
                go_round
                case rel => exact ⟨m, hm, rfl, by rw [HJ.out, HG.out, HQ.out, HS.out]⟩
                case measure => simp [intOf]; omega
              · have HS := Lib.hid (runTo_step (zs := bts s) (p := notLf) (i := m) (by rw [stA_of (by rw [bts_length]; exact hml), hgm]; exact decide_eq_true c10))
                have tm : ((s[m].toNat : Int) != 10) = true := by rw [bne_iff_ne]; exact c10
                clear c10 hgm
                go_wp2
                go_round
                case rel => exact ⟨m + 1, by omega, by omega, by go_num, by rw [HQ.out, HS.out]⟩
                case measure => simp [intOf]; omega
            · have HS := Lib.hid (runTo_stop (zs := bts s) (p := notLf) (i := m) (stA_ge (by rw [bts_length]; omega)))
              have hkm2 : k + 2 ≤ m := by have h1 := HQ.out; rw [HS.out] at h1; omega
              go_wp2
              go_round
              case rel => exact ⟨m, hm, rfl, by rw [HJ.out, HG.out, HQ.out, HS.out]⟩
              case measure => simp [intOf]; omega
      · have HG := Lib.hid (gap_blank hb)
        have hc : (s[k].toNat : Int) = 32 ∨ (s[k].toNat : Int) = 9 ∨ (s[k].toNat : Int) = 10 ∨ (s[k].toNat : Int) = 13 := by
          rw [← hgk]
          exact of_decide_eq_true (stA_p hb)
        clear hb hgk
        rcases hc with hc | hc | hc | hc
        · have t32 : ((s[k].toNat : Int) == 32) = true := by simp only [beq_iff_eq]; omega
          clear hc
          go_wp2
          go_round
          case rel => exact ⟨k + 1, by omega, by go_num, HJ.out.trans HG.out⟩
          case measure => simp [intOf]; omega
        · have t32 : ((s[k].toNat : Int) == 32) = false := by simp only [beq_eq_false_iff_ne, ne_eq]; omega
          have t9 : ((s[k].toNat : Int) == 9) = true := by simp only [beq_iff_eq]; omega
          clear hc
          go_wp2
          go_round
          case rel => exact ⟨k + 1, by omega, by go_num, HJ.out.trans HG.out⟩
          case measure => simp [intOf]; omega
        · have t32 : ((s[k].toNat : Int) == 32) = false := by simp only [beq_eq_false_iff_ne, ne_eq]; omega
          have t9 : ((s[k].toNat : Int) == 9) = false := by simp only [beq_eq_false_iff_ne, ne_eq]; omega
          have t10 : ((s[k].toNat : Int) == 10) = true := by simp only [beq_iff_eq]; omega
          clear hc
          go_wp2
          go_round
          case rel => exact ⟨k + 1, by omega, by go_num, HJ.out.trans HG.out⟩
          case measure => simp [intOf]; omega
        · have t32 : ((s[k].toNat : Int) == 32) = false := by simp only [beq_eq_false_iff_ne, ne_eq]; omega
          have t9 : ((s[k].toNat : Int) == 9) = false := by simp only [beq_eq_false_iff_ne, ne_eq]; omega
          have t10 : ((s[k].toNat : Int) == 10) = false := by simp only [beq_eq_false_iff_ne, ne_eq]; omega
          have t13 : ((s[k].toNat : Int) == 13) = true := by simp only [beq_iff_eq]; omega
          clear hc
          go_wp2
          go_round
          case rel => exact ⟨k + 1, by omega, by go_num, HJ.out.trans HG.out⟩
          case measure => simp [intOf]; omega
    · have HG := Lib.hid (gap_end (zs := bts s) (i := k) (by rw [bts_length]; omega))
      go_wp2
      go_ret
      exact ⟨ret_int (by rw [HJ.out, HG.out]), rfl⟩
end Go.Proofs.YtmjmblbaojchcaaDoor
namespace Go.Proofs.YtmjmblbaojchcaaDoor
open Go.RowKit
theorem bel_drewN {B : Nat} {a w : World} (h : Below B a w) (n : Nat) : Below B a (w.drewN n) := h.trans ⟨rfl, rfl, rfl, Nat.le_refl _, fun _ _ => rfl⟩
theorem quiet_same {P : Program} {f : FuncId} {args : Array Value} {w : World} {n : Nat} {v : Value}
    (h : Calls P f args (w.drewN n) fun e w' => e = .returned v ∧ w.drewN n = w') : Calls P f args (w.drewN n) fun e w'' => e = .returned v ∧ ∃ m, w'' = w.drewN m :=
  h.mono fun _ _ ⟨he, hm⟩ => ⟨he, n, hm.symm⟩
/-- The string of no bytes, whatever the slice's address. -/
theorem conv_zero {P : Program} (w : World) (src e dst : TypeId) (hs : P.underlying src = some (.slice e)) (he : P.underlying e = some (.int .u8)) (hd : P.underlying dst = some .string) (a : Option Addr) (c : Nat) :
    (convert src dst (.slice a 0 c)).run P w = .ok (.string (strOfNums [])) w := by
  rw [run_convert_bytes_string w src dst e a 0 c hs he hd]
  cases a with
  | none => simp [Conv.bytesToString]; rfl
  | some x =>
    have hl : (loadCells x 0).run P w = .ok (([] : List Int).map (Value.int .u8)).toArray w := run_loadCells_list (P := P) w x [] (fun j v hj => by simp at hj)
    rw [run_bytesToString w x 0 c [] hl]
    simp [strOfNums]
    rfl
end Go.Proofs.YtmjmblbaojchcaaDoor
namespace Go.Proofs.YtmjmblbaojchcaaDoor
open Go.ChangeShapes Go.WideShapes Go.ChangeAt Go.RowKit Go.Shelf

/-- What the document's One hands back: a token and the place behind it, or none. -/
def OneVal (r : Option (Tok × Nat)) (e : Ending) : Prop :=
  match r with
  | some (t, k) => e = .returned (.tuple #[.agg #[.int .i64 t.kind, .string (strOfNums t.text), .int .i64 t.place], .int .i64 (k : Nat), .bool true])
  | none => ∃ (a c k : Int) (S : ByteArray), e = .returned (.tuple #[.agg #[.int .i64 a, .string S, .int .i64 c], .int .i64 k, .bool false])
theorem ext_str (s : ByteArray) (i j : Nat) : s.extract i j = strOfNums (sub (bts s) i j) := by
  refine bts_inj ?_
  rw [bts_part, bts_strOf]
  intro z hz
  have h2 : z ∈ bts s := List.mem_of_mem_drop (List.mem_of_mem_take hz)
  obtain ⟨j, hj, rfl⟩ := List.mem_iff_getElem.1 h2
  have := bts_bd s j
  rw [List.getD, List.getElem?_eq_getElem hj] at this
  exact this
theorem two_new (w : World) (a b : Obj) : Below w.heap.size w ((w.alloc a).alloc b) := ((Below.refl _ _).alloc (Nat.le_refl _) _).alloc (by rw [World.size_alloc]; omega) _
/-- A kind at a place, told by the byte that at gives: no byte of the kind is 0. -/
theorem stA_at {s : ByteArray} {p : Int → Bool} (h : p 0 = false) (k : Nat) : stA (bts s) p k = p ((bts s).getD k 0) := by
  by_cases hk : k < (bts s).length
  · exact stA_of hk
  · rw [stA_ge (by omega), List.getD, List.getElem?_eq_none (by omega)]
    exact h.symm
set_option maxRecDepth 100000 in
theorem one_end (s sg : ByteArray) (x : Int) (i : Nat) (w : World) (hx : x = i) (hi : i = s.size) :
    Calls Tryd.prog 41 #[.string s, .string sg, .int .i64 x] w fun e w' => OneVal (some (⟨0, [], i⟩, i)) e ∧ Below w.heap.size w w' := by
  subst hx
  subst hi
  go_enter Tryd.func41, Tryd.ntmps41
  go_wp2
  exact bodyPost_ret (v := .tuple #[.agg #[.int .i64 0, .string ⟨#[]⟩, .int .i64 s.size], .int .i64 s.size, .bool true]) (by simp [results, Tryd.results41, go_sem]) rfl ⟨rfl, two_new w _ _⟩
set_option maxRecDepth 100000 in
theorem one_name (s sg : ByteArray) (x : Int) (i : Nat) (w : World) (hx : x = i) (hs : s.size ≤ 281474976710656) (h1 : stA (bts s) isLet i = true) :
    Calls Tryd.prog 41 #[.string s, .string sg, .int .i64 x] w fun e w' => OneVal (some (⟨1, sub (bts s) i (runTo (bts s) (fun c => isLet c || isDig c) i), i⟩, runTo (bts s) (fun c => isLet c || isDig c) i)) e ∧ Below w.heap.size w w' := by
  subst hx
  have hi : i < s.size := by have := stA_lt h1; rwa [bts_length] at this
  have H1 := Lib.hid (show isLet (s[i].toNat : Int) = true by rw [← bts_get hi]; exact stA_p h1)
  have hup := runTo_le (bts s) (fun c => isLet c || isDig c) i (by rw [bts_length]; omega)
  have hlo := runTo_ge (bts s) (fun c => isLet c || isDig c) i
  rw [bts_length] at hup
  obtain ⟨E, hE⟩ : ∃ E, runTo (bts s) (fun c => isLet c || isDig c) i = E := ⟨_, rfl⟩
  rw [hE] at hup hlo ⊢
  have HE := Lib.hid hE
  clear h1 hE
  go_enter Tryd.func41, Tryd.ntmps41
  go_wp2_with fail
  refine (rletter_any _ _).mono ?_
  rintro e w1 ⟨rfl, rfl⟩
  rw [H1.out]
  go_wp2
  go_loop [10] (fun j => ∃ k : Nat, i ≤ k ∧ k ≤ E ∧ j = .int .i64 k ∧ runTo (bts s) (fun c => isLet c || isDig c) k = E) (fun j => E - (intOf j).toNat)
  case atStart => exact ⟨i, Nat.le_refl _, hlo, rfl, HE.out⟩
  case round =>
    obtain ⟨k, hik, hkE, rfl, hj⟩ := hrel
    have HJ := Lib.hid hj
    have HS := Lib.hid (stA_at (s := s) (p := fun c => isLet c || isDig c) rfl k)
    have HAT := Lib.hid (fun W => at_any s k k W rfl)
    generalize (bts s).getD k 0 = z at HS HAT
    clear hj
    go_wp2_with fail
    refine (HAT.out _).mono ?_
    rintro e w2 ⟨rfl, rfl⟩
    go_wp2_with fail
    refine (rletter_any _ _).mono ?_
    rintro e w2 ⟨rfl, rfl⟩
    cases hl : isLet z
    · go_wp2_with fail
      refine (HAT.out _).mono ?_
      rintro e w2 ⟨rfl, rfl⟩
      go_wp2_with fail
      refine (rdigit_any _ _).mono ?_
      rintro e w2 ⟨rfl, rfl⟩
      cases hd : isDig z
      · have hkk : k = E := by
          rw [← HJ.out]
          exact (runTo_stop (by rw [HS.out, hl, hd]; rfl)).symm
        subst hkk
        have HX := Lib.hid (ext_str s i k)
        clear hl hd
        go_upto_region 33 with (fail)
        rw [HX.out]
        go_wp2
        exact bodyPost_ret (v := .tuple #[.agg #[.int .i64 1, .string (strOfNums (sub (bts s) i k)), .int .i64 i], .int .i64 k, .bool true]) (by simp [results, Tryd.results41, go_sem]) rfl ⟨rfl, two_new w _ _⟩
      · have hst : stA (bts s) (fun c => isLet c || isDig c) k = true := by rw [HS.out, hl, hd]; rfl
        have HN := Lib.hid (HJ.out ▸ (runTo_step hst).symm)
        have hlt : k + 1 ≤ E := by have := runTo_ge (bts s) (fun c => isLet c || isDig c) (k + 1); rw [HN.out] at this; exact this
        clear hl hd hst
        go_wp2
        go_round
        case rel => exact ⟨k + 1, by omega, hlt, by go_num, HN.out⟩
        case measure => simp [intOf]; omega
    · have hst : stA (bts s) (fun c => isLet c || isDig c) k = true := by rw [HS.out, hl]; rfl
      have HN := Lib.hid (HJ.out ▸ (runTo_step hst).symm)
      have hlt : k + 1 ≤ E := by have := runTo_ge (bts s) (fun c => isLet c || isDig c) (k + 1); rw [HN.out] at this; exact this
      clear hl hst
      go_wp2
      go_round
      case rel => exact ⟨k + 1, by omega, hlt, by go_num, HN.out⟩
      case measure => simp [intOf]; omega
end Go.Proofs.YtmjmblbaojchcaaDoor
