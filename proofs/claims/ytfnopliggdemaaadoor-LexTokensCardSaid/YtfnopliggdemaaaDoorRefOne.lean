/-
  The document's own One, at a text's end and at a name: the token at a place, and the place behind it. Conditions: those that each theorem names.
-/
import Derived.Test.YtfnopliggdemaaaDoorRefHas
import Derived.Test.YtfnopliggdemaaaDoorDecimal
import Derived.Test.YtfnopliggdemaaaDoorPlacesWalk
namespace Go.Proofs.YtfnopliggdemaaaDoor
open Go.ChangeShapes Go.WideShapes Go.ChangeAt Go.RowKit Go.Shelf

/-- What the document's One hands back: a token and the place behind it, or none. -/
def OneVal (r : Option (Tok × Nat)) (e : Ending) : Prop :=
  match r with
  | some (t, k) => e = .returned (.tuple #[.agg #[.int .i64 t.kind, .string (strOfNums t.text), .int .i64 t.place], .int .i64 (k : Nat), .bool true])
  | none => ∃ (a c k : Int) (S : ByteArray), e = .returned (.tuple #[.agg #[.int .i64 a, .string S, .int .i64 c], .int .i64 k, .bool false])
theorem ext_str (s : ByteArray) (i j : Nat) : s.extract i j = strOfNums (sub (bts s) i j) := by
  refine bts_inj ?_
  rw [bts_part, bts_strOf]
  intro z hz
  have h2 : z ∈ bts s := List.mem_of_mem_drop (List.mem_of_mem_take hz)
  obtain ⟨j, hj, rfl⟩ := List.mem_iff_getElem.1 h2
  have := bts_bd s j
  rw [List.getD, List.getElem?_eq_getElem hj] at this
  exact this
theorem two_new (w : World) (a b : Obj) : Below w.heap.size w ((w.alloc a).alloc b) := ((Below.refl _ _).alloc (Nat.le_refl _) _).alloc (by rw [World.size_alloc]; omega) _
/-- A kind at a place, told by the byte that at gives: no byte of the kind is 0. -/
theorem stA_at {s : ByteArray} {p : Int → Bool} (h : p 0 = false) (k : Nat) : stA (bts s) p k = p ((bts s).getD k 0) := by
  by_cases hk : k < (bts s).length
  · exact stA_of hk
  · rw [stA_ge (by omega), List.getD, List.getElem?_eq_none (by omega)]
    exact h.symm
set_option maxRecDepth 100000 in
theorem one_end (s sg : ByteArray) (x : Int) (i : Nat) (w : World) (hx : x = i) (hi : i = s.size) :
    Calls Tryd.prog 19 #[.string s, .string sg, .int .i64 x] w fun e w' => OneVal (some (⟨0, [], i⟩, i)) e ∧ Below w.heap.size w w' := by
  subst hx
  subst hi
  go_enter Tryd.func19, Tryd.ntmps19
  go_wp2
  exact bodyPost_ret (v := .tuple #[.agg #[.int .i64 0, .string ⟨#[]⟩, .int .i64 s.size], .int .i64 s.size, .bool true]) (by simp [results, Tryd.results19, go_sem]) rfl ⟨rfl, two_new w _ _⟩
set_option maxRecDepth 100000 in
theorem one_name (s sg : ByteArray) (x : Int) (i : Nat) (w : World) (hx : x = i) (hs : s.size ≤ 281474976710656) (h1 : stA (bts s) isLet i = true) :
    Calls Tryd.prog 19 #[.string s, .string sg, .int .i64 x] w fun e w' => OneVal (some (⟨1, sub (bts s) i (runTo (bts s) (fun c => isLet c || isDig c) i), i⟩, runTo (bts s) (fun c => isLet c || isDig c) i)) e ∧ Below w.heap.size w w' := by
  subst hx
  have hi : i < s.size := by have := stA_lt h1; rwa [bts_length] at this
  have H1 := Lib.hid (show isLet (s[i].toNat : Int) = true by rw [← bts_get hi]; exact stA_p h1)
  have hup := runTo_le (bts s) (fun c => isLet c || isDig c) i (by rw [bts_length]; omega)
  have hlo := runTo_ge (bts s) (fun c => isLet c || isDig c) i
  rw [bts_length] at hup
  obtain ⟨E, hE⟩ : ∃ E, runTo (bts s) (fun c => isLet c || isDig c) i = E := ⟨_, rfl⟩
  rw [hE] at hup hlo ⊢
  have HE := Lib.hid hE
  clear h1 hE
  go_enter Tryd.func19, Tryd.ntmps19
  go_wp2_with fail
  refine (rletter_any _ _).mono ?_
  rintro e w1 ⟨rfl, rfl⟩
  rw [H1.out]
  go_wp2
  go_loop [10] (fun j => ∃ k : Nat, i ≤ k ∧ k ≤ E ∧ j = .int .i64 k ∧ runTo (bts s) (fun c => isLet c || isDig c) k = E) (fun j => E - (intOf j).toNat)
  case atStart => exact ⟨i, Nat.le_refl _, hlo, rfl, HE.out⟩
  case round =>
    obtain ⟨k, hik, hkE, rfl, hj⟩ := hrel
    have HJ := Lib.hid hj
    have HS := Lib.hid (stA_at (s := s) (p := fun c => isLet c || isDig c) rfl k)
    have HAT := Lib.hid (fun W => at_any s k k W rfl)
    generalize (bts s).getD k 0 = z at HS HAT
    clear hj
    go_wp2_with fail
    refine (HAT.out _).mono ?_
    rintro e w2 ⟨rfl, rfl⟩
    go_wp2_with fail
    refine (rletter_any _ _).mono ?_
    rintro e w2 ⟨rfl, rfl⟩
    cases hl : isLet z
    · go_wp2_with fail
      refine (HAT.out _).mono ?_
      rintro e w2 ⟨rfl, rfl⟩
      go_wp2_with fail
      refine (rdigit_any _ _).mono ?_
      rintro e w2 ⟨rfl, rfl⟩
      cases hd : isDig z
      · have hkk : k = E := by
          rw [← HJ.out]
          exact (runTo_stop (by rw [HS.out, hl, hd]; rfl)).symm
        subst hkk
        have HX := Lib.hid (ext_str s i k)
        clear hl hd
        go_upto_region 33 with (fail)
        rw [HX.out]
        go_wp2
        exact bodyPost_ret (v := .tuple #[.agg #[.int .i64 1, .string (strOfNums (sub (bts s) i k)), .int .i64 i], .int .i64 k, .bool true]) (by simp [results, Tryd.results19, go_sem]) rfl ⟨rfl, two_new w _ _⟩
      · have hst : stA (bts s) (fun c => isLet c || isDig c) k = true := by rw [HS.out, hl, hd]; rfl
        have HN := Lib.hid (HJ.out ▸ (runTo_step hst).symm)
        have hlt : k + 1 ≤ E := by have := runTo_ge (bts s) (fun c => isLet c || isDig c) (k + 1); rw [HN.out] at this; exact this
        clear hl hd hst
        go_wp2
        go_round
        case rel => exact ⟨k + 1, by omega, hlt, by go_num, HN.out⟩
        case measure => simp [intOf]; omega
    · have hst : stA (bts s) (fun c => isLet c || isDig c) k = true := by rw [HS.out, hl]; rfl
      have HN := Lib.hid (HJ.out ▸ (runTo_step hst).symm)
      have hlt : k + 1 ≤ E := by have := runTo_ge (bts s) (fun c => isLet c || isDig c) (k + 1); rw [HN.out] at this; exact this
      clear hl hst
      go_wp2
      go_round
      case rel => exact ⟨k + 1, by omega, hlt, by go_num, HN.out⟩
      case measure => simp [intOf]; omega
end Go.Proofs.YtfnopliggdemaaaDoor
