/-
  The switch of ArenaPlays whole: whatever the call, it ends where the law's variables and the arena agree. Conditions: those that the theorem names.
-/
import Derived.Test.YtennhmaiecfgpaaPlaySw2
import Derived.Test.YtennhmaiecfgpaaPlaySw4
import Derived.Test.YtennhmaiecfgpaaPlaySw5
namespace Go.Proofs.Ytennhmaiecfgpaa
open Go.ChangeShapes Go.WideShapes Go.ChangeAt Go.RowKit

theorem switch_wp {K : Act → World → Prop} {Q : Exit → Act → World → Prop} {c : Act} {w : World} {most : Int} {a : Option Addr} {len cap base ar k x : Nat} {r L Kd N S U : Int} {D : Option Addr} {dl dc : Nat} {zs news : List Int} {over : Bool} {B : Option Addr} {cb : Nat} {A : Option Addr} {ca : Nat}
    (hc : Fr2 most a len cap base ar k x r (.int .i64 0) (.bool false) c) (h : Rnd w base ar x L Kd N S U D dl dc zs over B cb zs over A ca 0 false) (hL0 : 0 ≤ L) (hL1 : L ≤ 9223372036854775807) (hzs : zs.length ≤ 1000000) (hN1 : N ≤ 9223372036854775807)
    (hD : ∀ w', Below base w w' → SrcRow w' D dl dc (u8s news)) (hnl : news.length = dl) (g1 : dl ≤ 500) (g2 : r = 0 → N ≤ 5000 ∨ L < N) (g3 : r = 3 → N ≤ 5000 ∨ L ≤ 5000) (hK : After K w most a len cap base ar k x r L Kd N S U D dl dc zs) :
    Code.wp Try.prog playSwitch (Exit.then K Q) c w := by
  by_cases h0 : r = 0
  · subst h0
    cases over with
    | true => exact sw_room_over hc h hK
    | false =>
      by_cases hf : 0 ≤ N ∧ N ≤ L - zs.length
      · exact sw_room_yes hc h hL0 hL1 hzs hf.1 hf.2 (g2 rfl) hK
      · exact sw_room_no hc h hL0 hL1 hzs (by omega) (g2 rfl) hK
  by_cases h1 : r = 1
  · subst h1
    cases over with
    | true => exact sw_put_over hc h hD hnl g1 hK
    | false =>
      by_cases hf : (dl : Int) ≤ L - zs.length
      · exact sw_put_yes hc h hD hnl g1 hL0 hL1 hzs hf hK
      · exact sw_put_no hc h hD hnl g1 hL0 hL1 hzs (by omega) hK
  by_cases h2 : r = 2
  · subst h2
    by_cases hS : S = 1 ∨ S = 2 ∨ S = 4 ∨ S = 8
    · cases over with
      | true => exact sw_num_over hc h hS hK
      | false =>
        by_cases hf : S ≤ L - zs.length
        · exact sw_num_yes hc h hS hL0 hL1 hzs hf hK
        · exact sw_num_no hc h hS hL0 hL1 hzs (by omega) hK
    · exact sw_num_unsized hc h hS hK
  by_cases h3 : r = 3
  · subst h3
    by_cases hN : 1 ≤ N
    · cases over with
      | true => exact sw_align_over hc h hN hN1 hK
      | false =>
        by_cases hf : lack zs.length N ≤ L - zs.length
        · exact sw_align_yes hc h hN hN1 hL0 hL1 hzs (g3 rfl) hf hK
        · exact sw_align_no hc h hN hN1 hL0 hL1 hzs (by omega) hK
    · exact sw_align_low hc h (by omega) hK
  have e0 : (r == 0) = false := by simp [h0]
  have e1 : (r == 1) = false := by simp [h1]
  have e2 : (r == 2) = false := by simp [h2]
  have e3 : (r == 3) = false := by simp [h3]
  cases over with
  | true => exact sw_set_over hc h e0 e1 e2 e3 hK
  | false =>
    by_cases hS : S = 1 ∨ S = 2 ∨ S = 4 ∨ S = 8
    · by_cases hf : 0 ≤ N ∧ S ≤ zs.length - N
      · exact sw_set_yes hc h e0 e1 e2 e3 hS hzs hf.1 hf.2 hK
      · exact sw_set_out hc h e0 e1 e2 e3 hS hzs (by omega) hK
    · exact sw_set_unsized hc h e0 e1 e2 e3 hS hK
end Go.Proofs.Ytennhmaiecfgpaa
