/-
  The program's writer of JSON (package jsonwrite): Text. Conditions: those that each theorem names.
-/
import Derived.Test.YtiknhkkeifemcaaGreatDoorPkN34
namespace Go.Proofs.YtiknhkkeifemcaaGreatDoor
open Go.ChangeShapes Go.WideShapes Go.ChangeAt Go.RowKit Go.Shelf

theorem Bytes.part {w : World} {b off : Nat} {bs : List Int} (h : Bytes w (some ⟨b, off, none⟩) bs) (i k : Nat) (hk : k ≤ bs.length) : Bytes w (some ⟨b, off + i, none⟩) ((bs.drop i).take (k - i)) := by
  have hg : ∀ j, j < ((bs.drop i).take (k - i)).length → ((bs.drop i).take (k - i)).getD j 0 = bs.getD (i + j) 0 := fun j hj => by
    rw [List.length_take, List.length_drop] at hj
    rw [List.getD, List.getElem?_take, if_pos (by omega), List.getElem?_drop]
    rfl
  refine ⟨fun j => ?_, fun hne => ?_⟩
  · by_cases hj : j < ((bs.drop i).take (k - i)).length
    · rw [hg j hj]; exact h.1 _
    · rw [List.getD, List.getElem?_eq_none (by omega)]; decide
  · have hne2 : bs ≠ [] := by rintro rfl; exact hne (by simp)
    obtain ⟨b', off', he, hlt, hc⟩ := h.2 hne2
    injection he with he
    injection he with h1 h2 _
    subst h1 h2
    refine ⟨b, off + i, rfl, hlt, fun j hj => ?_⟩
    rw [hg j hj, Nat.add_assoc]
    rw [List.length_take, List.length_drop] at hj
    exact hc (i + j) (by omega)
structure TxQ (bs : List Int) (i k : Nat) : Prop where
  le : i ≤ k
  up : k ≤ bs.length
  same : (bs.take k).flatMap qB = (bs.take i).flatMap qB ++ (bs.drop i).take (k - i)
theorem TxQ.plain {bs : List Int} {i k : Nat} (h : TxQ bs i k) (hk : k < bs.length) (hq : qB (bs.getD k 0) = [bs.getD k 0]) : TxQ bs i (k + 1) := by
  refine ⟨by have := h.le; omega, hk, ?_⟩
  rw [qB_take hk, h.same, hq, List.append_assoc]
  congr 1
  have hl := h.le
  rw [show k + 1 - i = (k - i) + 1 by omega, List.take_add_one]
  congr 1
  rw [List.getElem?_drop, show i + (k - i) = k by omega, List.getElem?_eq_getElem hk, List.getD, List.getElem?_eq_getElem hk]
  rfl
theorem TxQ.esc {bs : List Int} {k : Nat} (hk : k < bs.length) : TxQ bs (k + 1) (k + 1) := ⟨Nat.le_refl _, hk, by simp⟩
theorem part_len {bs : List Int} {i k : Nat} (hk : k ≤ bs.length) : ((bs.drop i).take (k - i)).length = k - i := by rw [List.length_take, List.length_drop]; omega
theorem TxQ.next {bs enc : List Int} {i k : Nat} (h : TxQ bs i k) (hk : k < bs.length) {S : ByteArray} (hS : bts S = qB (bs.getD k 0)) : enc ++ 34 :: (bs.take i).flatMap qB ++ (bs.drop i).take (k - i) ++ bts S = enc ++ 34 :: (bs.take (k + 1)).flatMap qB := by
  rw [qB_take hk, h.same, hS]
  simp
theorem TxQ.last {bs enc : List Int} {i k : Nat} (h : TxQ bs i k) (hk : k = bs.length) : enc ++ 34 :: (bs.take i).flatMap qB ++ (bs.drop i).take (k - i) ++ bts ⟨#[34]⟩ = enc ++ quot bs := by
  have h1 := h.same
  rw [hk, List.take_length] at h1
  have h2 : bts ⟨#[34]⟩ = [34] := rfl
  rw [hk, h2]
  unfold quot
  rw [h1]
  simp
def TxAt (base wk ak mk : Nat) (rv cv : Value) (A : Option Addr) (L : Int) (enc bs : List Int) (pay : Int) (w : World) (vf vi : Value) (W : World) : Prop :=
  ∃ i k : Nat, vf = .int .i64 i ∧ vi = .int .i64 k ∧ TxQ bs i k ∧ JwTo base wk ak mk rv cv A L (enc ++ 34 :: (bs.take i).flatMap qB) (pay + bs.length + 1 + ((bs.take i).flatMap qB).length) w W
section
variable {w : World} {base wk ak mk : Nat} {rv cv : Value} {A : Option Addr} {L pay : Int} {enc bs : List Int}
set_option maxRecDepth 100000 in
set_option maxHeartbeats 4000000 in
theorem jtext_some (h : JwAt base wk ak mk rv cv A L enc pay w) {b off c : Nat} (hby : Bytes w (some ⟨b, off, none⟩) bs) (hcap : bs.length ≤ c) (hav : Avoid (fun j => some b = some j) wk ak mk A) (hlt : b < w.heap.size) (hlen : bs.length ≤ 1000000) :
    Calls Tryz.prog 38 #[.pointer (some ⟨wk, 0, none⟩), .slice (some ⟨b, off, none⟩) bs.length c] w fun e w' => e = .returned (.tuple #[]) ∧ JwTo base wk ak mk rv cv A L (enc ++ quot bs) (pay + 2 * (quot bs).length) w w' := by
  have HP := Lib.hid (jpay_any h (bs.length : Nat) (by omega))
  have HBY := Lib.hid hby
  have HAV := Lib.hid hav
  have hql := (quot_len bs).1
  obtain ⟨n, hn⟩ : ∃ n, bs.length = n := ⟨_, rfl⟩
  have HN := Lib.hid hn
  rw [hn] at HP hcap hlen hql ⊢
  clear h hby hav hn
  go_enter Tryz.func38, Tryz.ntmps38
  go_wp2_with fail
  refine HP.out.mono ?_
  intro e W1 hp
  obtain ⟨bb, rfl, hgo, hoff, hx⟩ := hp.bool
  have HX := Lib.hid hx
  clear hp hx
  cases bb
  · have HE := Lib.hid (show JwTo base wk ak mk rv cv A L (enc ++ quot bs) (pay + 2 * (quot bs).length) w W1 from ⟨A, .inr ((hoff rfl).more (by rw [List.length_append]; omega) (by omega)), HX.out⟩)
    clear hgo hoff
    go_wp2
    exact bodyPost_ret (v := .tuple #[]) (by simp [results, Tryz.results38, go_sem]) rfl ⟨rfl, HE.out⟩
  · have HG := Lib.hid (jputs_any (.inl (hgo rfl)) ⟨#[34]⟩ (by decide))
    clear hgo hoff
    go_wp2_with fail
    refine HG.out.mono ?_
    rintro e W2 ⟨rfl, ht⟩
    have HT : Hid (TxAt base wk ak mk rv cv A L enc bs pay w (.int .i64 0) (.int .i64 0) W2) := Lib.hid ⟨0, 0, rfl, rfl, ⟨Nat.le_refl _, Nat.zero_le _, by simp⟩, by
      have h2 := ht.from HX.out
      have h3 : enc ++ bts ⟨#[34]⟩ = enc ++ 34 :: (bs.take 0).flatMap qB := rfl
      rw [h3] at h2
      refine h2.more ?_
      have h4 : (((bs.take 0).flatMap qB).length : Int) = 0 := rfl
      rw [h4, HN.out]
      show pay + n + 1 ≤ _
      omega⟩
    clear ht HG
    go_wp2_with fail
    go_loopw [4, 18] (fun vf vi wr => TxAt base wk ak mk rv cv A L enc bs pay w vf vi wr) (fun _ vi _ => n - (intOf vi).toNat)
    case atStart => exact HT.out
    case round =>
      clear HT
      obtain ⟨i, k, rfl, rfl, hq, ht⟩ := hrel
      have HQ := Lib.hid hq
      obtain ⟨A1, hat, hx1⟩ := ht
      have HAT := Lib.hid hat
      have HX1 := Lib.hid hx1
      obtain ⟨ho1, ha1⟩ := hx1.avoid (D := fun j => some b = some j) (fun j hj => by injection hj with hj; omega) HAV.out
      have HBY1 := Lib.hid (HBY.out.outD ho1)
      have HA1 := Lib.hid ha1
      have hlt1 : b < wr.heap.size := Nat.lt_of_lt_of_le hlt hx1.size
      have hle := hq.le
      have hup := hq.up
      rw [HN.out] at hup
      clear hq hat hx1 ho1 ha1
      by_cases hkl : k < n
      · have hki : (k : Int) < n := by omega
        obtain ⟨b', off', he, _, hcell⟩ := HBY1.out.2 (by rintro rfl; have := HN.out; simp at this; omega)
        injection he with he
        injection he with e1 e2 _
        subst e1 e2
        have x0 := hcell k (by rw [HN.out]; exact hkl)
        obtain ⟨hz0, hz1⟩ := HBY1.out.1 k
        obtain ⟨z, hz⟩ : ∃ z, bs.getD k 0 = z := ⟨_, rfl⟩
        rw [hz] at x0 hz0 hz1
        have HZ := Lib.hid hz
        clear hcell hz
        go_wp2_with fail
        refine (jesc_any z hz0 hz1 wr).mono ?_
        rintro e W3 ⟨⟨Sg, bb, rfl, hs6, htr, hfa⟩, hb3⟩
        have HB3 := Lib.hid hb3
        clear hb3 x0
        cases bb
        · have HQF : Hid (qB (bs.getD k 0) = [bs.getD k 0]) := Lib.hid (by rw [HZ.out]; exact hfa rfl)
          have HEN := Lib.hid (show TxAt base wk ak mk rv cv A L enc bs pay w (.int .i64 i) (.int .i64 ((k + 1 : Nat) : Int)) W3 from ⟨i, k + 1, rfl, rfl, HQ.out.plain (by rw [HN.out]; exact hkl) HQF.out, A1, HAT.out.below HB3.out, HX1.out.trans (.of_below A1 HB3.out)⟩)
          clear htr hfa
          go_wp2
          go_roundw
          case rel => exact HEN.out
          case measure => simp [intOf]; omega
        · have HTR := Lib.hid (htr rfl)
          clear htr hfa
          have hpl := part_len (bs := bs) (i := i) (k := k) (by rw [HN.out]; omega)
          have hlg : ∀ g, rowOf (some (⟨b, off + i, none⟩ : Addr)) = some g → g < W3.heap.size := fun g hg => by
            have hs3 := HB3.out.size
            simp [rowOf] at hg
            omega
          have hpu := jput_any (HAT.out.below HB3.out) (S := some ⟨b, off + i, none⟩) (c := c - i) ((HBY1.out.below (Nat.le_refl _) HB3.out).part i k (by rw [HN.out]; omega)) (fun e => by cases e) HA1.out hlg (by rw [hpl]; omega)
          rw [hpl] at hpu
          have HPU := Lib.hid hpu
          have HPL := Lib.hid hpl
          clear hpu hpl hlg
          go_wp2_with fail
          refine HPU.out.mono ?_
          rintro e W4 ⟨rfl, ht4⟩
          obtain ⟨A4, hat4, hx4⟩ := ht4
          have HPS := Lib.hid (jputs_any hat4 Sg (by omega))
          have HX4 := Lib.hid ((HX1.out.trans (.of_below A1 HB3.out)).trans hx4)
          clear hat4 hx4 HPU
          go_wp2_with fail
          refine HPS.out.mono ?_
          rintro e W5 ⟨rfl, ht5⟩
          have HEN := Lib.hid (show TxAt base wk ak mk rv cv A L enc bs pay w (.int .i64 ((k + 1 : Nat) : Int)) (.int .i64 ((k + 1 : Nat) : Int)) W5 from ⟨k + 1, k + 1, rfl, rfl, .esc (by rw [HN.out]; exact hkl), by
            have h5 := ht5.from HX4.out
            have e1 := HQ.out.next (enc := enc) (by rw [HN.out]; exact hkl) (S := Sg) (by rw [HZ.out]; exact HTR.out)
            have e2 := congrArg List.length e1
            rw [e1] at h5
            refine h5.more ?_
            rw [List.length_append, List.length_append, List.length_append, List.length_append, HPL.out, bts_length] at e2
            simp only [List.length_cons] at e2
            omega⟩)
          clear ht5 HPS
          go_wp2
          go_roundw
          case rel => exact HEN.out
          case measure => simp [intOf]; omega
      · obtain rfl : k = n := by omega
        have hki : ¬ ((k : Nat) : Int) < k := by omega
        have hlg : ∀ g, rowOf (some (⟨b, off + i, none⟩ : Addr)) = some g → g < wr.heap.size := fun g hg => by
          simp [rowOf] at hg
          omega
        have hpl := part_len (bs := bs) (i := i) (k := k) (by rw [HN.out]; omega)
        by_cases hic : i = c
        · have HQ0 := Lib.hid (show ((bs.drop i).take (k - i)) = [] by rw [show k - i = 0 by omega]; rfl)
          have hpu := jput_any HAT.out (S := some ⟨b, off, none⟩) (bs := []) (c := 0) ⟨fun j => by simp, fun h => absurd rfl h⟩ (fun e => by cases e) HA1.out hlg (by simp)
          have HPU : Hid (Calls Tryz.prog 64 #[.pointer (some ⟨wk, 0, none⟩), .slice (some ⟨b, off, none⟩) 0 0] wr fun e w' => e = .returned (.tuple #[]) ∧ JwTo base wk ak mk rv cv A1 L (enc ++ 34 :: (bs.take i).flatMap qB ++ []) (pay + bs.length + 1 + ((bs.take i).flatMap qB).length + (([] : List Int).length : Nat)) wr w') := Lib.hid hpu
          clear hpu hlg hpl
          subst hic
          go_wp2_with fail
          refine HPU.out.mono ?_
          rintro e W4 ⟨rfl, ht4⟩
          obtain ⟨A4, hat4, hx4⟩ := ht4
          have HPS := Lib.hid (jputs_any hat4 ⟨#[34]⟩ (by decide))
          have HX4 := Lib.hid (HX1.out.trans hx4)
          clear hat4 hx4 HPU
          go_wp2_with fail
          refine HPS.out.mono ?_
          rintro e W5 ⟨rfl, ht5⟩
          have HEND := Lib.hid (show JwTo base wk ak mk rv cv A L (enc ++ quot bs) (pay + 2 * (quot bs).length) w W5 by
            have h5 := ht5.from HX4.out
            have e1 := HQ.out.last (enc := enc) HN.out.symm
            rw [HQ0.out] at e1
            have e2 := congrArg List.length e1
            rw [e1] at h5
            refine h5.more ?_
            rw [List.length_append, List.length_append, List.length_append, List.length_append] at e2
            have e3 : (bts ⟨#[34]⟩).length = 1 := rfl
            have e4 : ((⟨#[34]⟩ : ByteArray).size : Int) = 1 := rfl
            have e5 := HN.out
            simp only [List.length_cons, List.length_nil] at e2 ⊢
            omega)
          clear ht5 HPS
          go_wp2
          exact bodyPost_end (v := .tuple #[]) (by simp [results, Tryz.results38, go_sem]) rfl ⟨rfl, HEND.out⟩
        · have hic2 : i < c := by omega
          have hpu := jput_any HAT.out (S := some ⟨b, off + i, none⟩) (bs := (bs.drop i).take (k - i)) (c := c - i) (HBY1.out.part i k (by rw [HN.out]; omega)) (fun e => by cases e) HA1.out hlg (by rw [hpl]; omega)
          rw [hpl] at hpu
          have HPU := Lib.hid hpu
          have HPL := Lib.hid hpl
          clear hpu hpl hlg
          go_wp2_with fail
          refine HPU.out.mono ?_
          rintro e W4 ⟨rfl, ht4⟩
          obtain ⟨A4, hat4, hx4⟩ := ht4
          have HPS := Lib.hid (jputs_any hat4 ⟨#[34]⟩ (by decide))
          have HX4 := Lib.hid (HX1.out.trans hx4)
          clear hat4 hx4 HPU
          go_wp2_with fail
          refine HPS.out.mono ?_
          rintro e W5 ⟨rfl, ht5⟩
          have HEND := Lib.hid (show JwTo base wk ak mk rv cv A L (enc ++ quot bs) (pay + 2 * (quot bs).length) w W5 by
            have h5 := ht5.from HX4.out
            have e1 := HQ.out.last (enc := enc) HN.out.symm
            have e2 := congrArg List.length e1
            rw [e1] at h5
            refine h5.more ?_
            rw [List.length_append, List.length_append, List.length_append, List.length_append, HPL.out] at e2
            have e3 : (bts ⟨#[34]⟩).length = 1 := rfl
            have e4 : ((⟨#[34]⟩ : ByteArray).size : Int) = 1 := rfl
            have e5 := HN.out
            simp only [List.length_cons] at e2
            omega)
          clear ht5 HPS
          go_wp2
          exact bodyPost_end (v := .tuple #[]) (by simp [results, Tryz.results38, go_sem]) rfl ⟨rfl, HEND.out⟩
end
end Go.Proofs.YtiknhkkeifemcaaGreatDoor
