/-
  The package lex's quoted: the place behind a quoted text. Conditions: those that each theorem names; the library's tables hold what the row lists.
-/
import Derived.Test.YtmjmblbaojchcaaDoorNumber
namespace Go.Proofs.YtmjmblbaojchcaaDoor
open Go.ChangeShapes Go.WideShapes Go.ChangeAt Go.RowKit Go.Shelf

/-- All of it is UTF-8. -/
def okU (zs : List Int) : Bool := decide (u8At zs 0 < 0)
def quoVal (zs : List Int) (i : Nat) : Value := if quoBad okU zs i = true then .tuple #[.int .i64 0, .bool false] else .tuple #[.int .i64 (quoEnd zs i + 1 : Nat), .bool true]
theorem quoVal_eq (zs : List Int) (i : Nat) : quoVal zs i = if quoBad okU zs i = true then .tuple #[.int .i64 0, .bool false] else .tuple #[.int .i64 (quoEnd zs i + 1 : Nat), .bool true] := rfl
theorem sub_length (zs : List Int) (i j : Nat) (_h : i ≤ j) (h2 : j ≤ zs.length) : (sub zs i j).length = j - i := by
  unfold sub
  rw [List.length_take, List.length_drop]
  omega
theorem sub_get (zs : List Int) (i j k : Nat) (h : k < j - i) : (sub zs i j).getD k 0 = zs.getD (i + k) 0 := by
  unfold sub
  simp [List.getD, h]
theorem sub_bd {zs : List Int} (h : ∀ i, 0 ≤ zs.getD i 0 ∧ zs.getD i 0 ≤ 255) (i j : Nat) : ∀ k, 0 ≤ (sub zs i j).getD k 0 ∧ (sub zs i j).getD k 0 ≤ 255 := by
  intro k
  by_cases hk : k < j - i
  · rw [sub_get zs i j k hk]
    exact h _
  · have : (sub zs i j).getD k 0 = 0 := by
      unfold sub
      rw [List.getD, List.getElem?_eq_none (by rw [List.length_take]; omega)]
      rfl
    rw [this]
    omega
theorem sub_utf8 (b off c n i j m : Nat) (zs : List Int) (w : World) (hT : Tabs w) (hz : Bytes w (some ⟨b, off, none⟩) zs) (hn : zs.length = n) (hl : n ≤ 281474976710656) (hij : i ≤ j) (hj : j < n) (hm : m = j - i) (hc : m ≤ c) :
    Calls Tryd.prog 76 #[.slice (some ⟨b, off + i, none⟩) m c] w fun e w' => e = .returned (.int .i64 (u8At (sub zs i j) 0)) ∧ Below w.heap.size w w' := by
  obtain ⟨b', off', he, hlt, hcell⟩ := hz.2 (by rintro rfl; simp at hn; omega)
  cases he
  have hlen := sub_length zs i j hij (by omega)
  refine wutf8_off b (off + i) c m (sub zs i j) w hT (sub_bd hz.1 i j) hlt (fun k hk => ?_) (by omega) (by omega) hc
  rw [sub_get zs i j k (by omega), Nat.add_assoc]
  exact hcell (i + k) (by omega)
set_option maxHeartbeats 800000 in
theorem quoted_any (p : Option Addr) (n cap i : Nat) (x : Int) (zs : List Int) (w : World) (hx : x = i) (hT : Tabs w) (hz : Bytes w p zs) (hn : zs.length = n) (hl : n ≤ 281474976710656) (hi : i < n) (hcap : n ≤ cap) :
    Calls Tryd.prog 54 #[.slice p n cap, .int .i64 x] w fun e w' => e = .returned (quoVal zs i) ∧ Below w.heap.size w w' := by
  subst hx
  obtain ⟨b, off, rfl, _, _⟩ := hz.2 (by rintro rfl; simp at hn; omega)
  have HR := Lib.hid (fun (j : Nat) (y : Int) v k W hy hb hk => stands_any (some ⟨b, off, none⟩) n cap j y zs v k W hy (Bytes.below hz (Nat.le_refl _) hb) hn hk hl)
  have HU := Lib.hid (fun (j : Nat) (y : Int) v k W hy hj hb hk => run_any (some ⟨b, off, none⟩) n cap j y zs v k W hy (Bytes.below hz (Nat.le_refl _) hb) hn hk hl hj)
  have HQ := Lib.hid (fun c j m W hb hij hj hm hc => sub_utf8 b off c n (i + 1) j m zs W (Tabs.below hT (Nat.le_refl _) hb) (Bytes.below hz (Nat.le_refl _) hb) hn hl hij hj hm hc)
  have HN := Lib.hid hn
  have HV := Lib.hid (quoVal_eq zs i)
  have hlo := runTo_ge zs isPlain (i + 1)
  have hup := runTo_le zs isPlain (i + 1) (by omega)
  rw [show quoEnd zs i = runTo zs isPlain (i + 1) from rfl] at HV
  have HB0 : Hid (quoBad okU zs i = (!stA zs (isC 34) (runTo zs isPlain (i + 1)) || !okU (sub zs (i + 1) (runTo zs isPlain (i + 1))))) := rfl
  rw [HB0.out] at HV
  rw [HN.out] at hup
  clear hz hn hT HB0
  go_enter Tryd.func54, Tryd.ntmps54
  go_wp2_with fail
  refine (plain_any _).mono ?_
  rintro e W1 ⟨v1, rfl, hb1, hk1⟩
  have HK1 := Lib.hid hk1
  have HB1 := Lib.hid hb1
  clear hk1 hb1
  go_wp2_with fail
  refine (HU.out (i + 1) _ v1 isPlain W1 (by omega) (by omega) HB1.out HK1.out).mono ?_
  rintro e W2 ⟨rfl, hb2⟩
  have HB2 := Lib.hid (HB1.out.trans (hb2.mono HB1.out.size))
  clear hb2
  generalize runTo zs isPlain (i + 1) = E at hlo hup HV ⊢
  go_wp2_with fail
  refine (quote_any _).mono ?_
  rintro e W3 ⟨v3, rfl, hb3, hk3⟩
  have HK3 := Lib.hid hk3
  have HB3 := Lib.hid (HB2.out.trans (hb3.mono HB2.out.size))
  clear hk3 hb3
  go_wp2_with fail
  refine (HR.out E _ v3 (isC 34) W3 rfl HB3.out HK3.out).mono ?_
  rintro e W4 ⟨rfl, hb4⟩
  have HB4 := Lib.hid (HB3.out.trans (hb4.mono HB3.out.size))
  clear hb4
  cases h1 : stA zs (isC 34) E
  · have HV' := Lib.hid (HV.out.trans (if_pos (by rw [h1]; rfl)))
    clear h1
    go_wp2
    go_ret2
    exact ⟨by rw [HV'.out]; rfl, HB4.out⟩
  · have hlt := stA_lt h1
    rw [HN.out] at hlt
    have hE : ¬ cap = i + 1 := by omega
    have H1 := Lib.hid h1
    clear h1
    go_wp2_with fail
    refine (HQ.out _ E _ W4 HB4.out hlo hlt rfl (by omega)).mono ?_
    rintro e W5 ⟨rfl, hb5⟩
    have HB5 := Lib.hid (HB4.out.trans (hb5.mono HB4.out.size))
    clear hb5
    have HO : Hid (okU (sub zs (i + 1) E) = decide (u8At (sub zs (i + 1) E) 0 < 0)) := rfl
    generalize u8At (sub zs (i + 1) E) 0 = u at HO ⊢
    by_cases hu : u < 0
    · have HV' := Lib.hid (HV.out.trans (if_neg (by rw [H1.out, HO.out, decide_eq_true hu]; decide)))
      go_wp2
      go_ret2
      exact ⟨by rw [HV'.out]; rfl, HB5.out⟩
    · have HV' := Lib.hid (HV.out.trans (if_pos (by rw [H1.out, HO.out, decide_eq_false hu]; rfl)))
      go_wp2
      go_ret2
      exact ⟨by rw [HV'.out]; rfl, HB5.out⟩
end Go.Proofs.YtmjmblbaojchcaaDoor
