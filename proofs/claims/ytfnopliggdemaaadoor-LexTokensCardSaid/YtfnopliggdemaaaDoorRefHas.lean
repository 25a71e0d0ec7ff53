/-
  The document's own has and Text: a sign among some; whether bytes are a text. Conditions: those that each theorem names; the library's tables hold what the row lists.
-/
import Derived.Test.YtfnopliggdemaaaDoorRefLex
import Derived.Test.YtfnopliggdemaaaDoorRefNumber
import Derived.Test.YtfnopliggdemaaaDoorTokens
namespace Go.Proofs.YtfnopliggdemaaaDoor
open Go.ChangeShapes Go.WideShapes Go.ChangeAt Go.RowKit Go.Shelf

theorem amg_yes {s : ByteArray} {k : Nat} {c : Int} (h : k < s.size) (hc : (s[k].toNat : Int) = c) : amg s c = true := by
  refine decide_eq_true ?_
  rw [← hc, ← bts_get h, List.getD, List.getElem?_eq_getElem (by rw [bts_length]; exact h)]
  exact List.getElem_mem _
theorem amg_no {s : ByteArray} {c : Int} (h : ∀ j (hj : j < s.size), (s[j].toNat : Int) ≠ c) : amg s c = false := by
  refine decide_eq_false (fun hm => ?_)
  obtain ⟨j, hj, hv⟩ := List.mem_iff_getElem.1 hm
  have hj' : j < s.size := by rw [bts_length] at hj; exact hj
  refine h j hj' ?_
  rw [← bts_get hj', List.getD, List.getElem?_eq_getElem hj]
  exact hv
theorem has_any (s : ByteArray) (c : Int) (w : World) (hs : s.size ≤ 9223372036854775807) :
    Calls Tryd.prog 44 #[.string s, .int .u8 c] w fun e w' => e = .returned (.bool (amg s c)) ∧ w = w' := by
  obtain ⟨r, hr⟩ : ∃ r, amg s c = r := ⟨_, rfl⟩
  have HR := Lib.hid hr
  rw [hr]
  clear hr
  go_enter Tryd.func44, Tryd.ntmps44
  go_wp2
  go_loop [5] (fun i => ∃ k : Nat, k ≤ s.size ∧ i = .int .i64 k ∧ ∀ j (hj : j < s.size), j < k → (s[j].toNat : Int) ≠ c) (fun i => s.size - (intOf i).toNat)
  case atStart => exact ⟨0, Nat.zero_le _, rfl, fun j _ h => absurd h (Nat.not_lt_zero _)⟩
  case round =>
    obtain ⟨k, hk, rfl, hj⟩ := hrel
    have HJ := Lib.hid hj
    clear hj
    by_cases hlt : k < s.size
    · by_cases he : (s[k].toNat : Int) = c
      · have HA := Lib.hid (amg_yes hlt he)
        have t : ((s[k].toNat : Int) == c) = true := beq_iff_eq.2 he
        clear he
        go_wp2
        go_ret
        exact ⟨ret_bool (HA.out.symm.trans HR.out), rfl⟩
      · have t : ((s[k].toNat : Int) == c) = false := beq_eq_false_iff_ne.2 he
        have HN := Lib.hid he
        clear he
        go_wp2
        go_round
        case rel =>
          refine ⟨k + 1, by omega, by go_num, fun j hj h => ?_⟩
          rcases Nat.lt_or_ge j k with h' | h'
          · exact HJ.out j hj h'
          · obtain rfl : j = k := by omega
            exact HN.out
        case measure => simp [intOf]; omega
    · have HA := Lib.hid (amg_no (s := s) (c := c) fun j hj => HJ.out j hj (by omega))
      go_wp2
      go_ret
      exact ⟨ret_bool (HA.out.symm.trans HR.out), rfl⟩
theorem rtext_any (a : Option Addr) (cap n : Nat) (zs : List Int) (w : World) (hT : Tabs w) (hz : Bytes w a zs) (hn : zs.length = n) (hl : (n : Int) ≤ 9223372036854775800) (hcap : n ≤ cap) :
    Calls Tryd.prog 43 #[.slice a n cap] w fun e w' => e = .returned (.bool (okU zs)) ∧ Below w.heap.size w w' := by
  have HU := Lib.hid (rutf8_call a cap n zs w hT hz hn hl hcap)
  clear hT hz hn hl hcap
  go_enter Tryd.func43, Tryd.ntmps43
  go_wp2_with fail
  refine HU.out.mono ?_
  rintro e W1 ⟨rfl, hb⟩
  go_wp2
  go_ret
  exact ⟨rfl, hb⟩
end Go.Proofs.YtfnopliggdemaaaDoor
