/-
  The program's writer of JSON (package jsonwrite): Text of any bytes; data; of a writer that is nil. Conditions: those that each theorem names.
-/
import Derived.Test.YtiknhkkeifemcaaGreatDoorPkN35
namespace Go.Proofs.YtiknhkkeifemcaaGreatDoor
open Go.ChangeShapes Go.WideShapes Go.ChangeAt Go.RowKit Go.Shelf

section
variable {w : World} {base wk ak mk : Nat} {rv cv : Value} {A : Option Addr} {L pay : Int} {enc bs : List Int}
theorem avoid_none (A : Option Addr) (wk ak mk : Nat) : Avoid (fun j => rowOf (none : Option Addr) = some j) wk ak mk A := ⟨fun h => by simp [rowOf] at h, fun h => by simp [rowOf] at h, fun h => by simp [rowOf] at h, fun r _ h => by simp [rowOf] at h⟩
set_option maxRecDepth 100000 in
set_option maxHeartbeats 4000000 in
theorem jtext_none (h : JwAt base wk ak mk rv cv A L enc pay w) :
    Calls Tryz.prog 38 #[.pointer (some ⟨wk, 0, none⟩), .slice none 0 0] w fun e w' => e = .returned (.tuple #[]) ∧ JwTo base wk ak mk rv cv A L (enc ++ quot []) (pay + 2 * (quot []).length) w w' := by
  have HP := Lib.hid (jpay_any h 0 (by omega))
  have HL : Hid (((quot []).length : Int) = 2) := Lib.hid rfl
  clear h
  go_enter Tryz.func38, Tryz.ntmps38
  go_wp2_with fail
  refine HP.out.mono ?_
  intro e W1 hp
  obtain ⟨bb, rfl, hgo, hoff, hx⟩ := hp.bool
  have HX := Lib.hid hx
  clear hp hx
  cases bb
  · have HE := Lib.hid (show JwTo base wk ak mk rv cv A L (enc ++ quot []) (pay + 2 * (quot []).length) w W1 from ⟨A, .inr ((hoff rfl).more (by rw [List.length_append]; omega) (by rw [HL.out]; omega)), HX.out⟩)
    clear hgo hoff
    go_wp2
    exact bodyPost_ret (v := .tuple #[]) (by simp [results, Tryz.results38, go_sem]) rfl ⟨rfl, HE.out⟩
  · have HG := Lib.hid (jputs_any (.inl (hgo rfl)) ⟨#[34]⟩ (by decide))
    clear hgo hoff
    go_wp2_with fail
    refine HG.out.mono ?_
    rintro e W2 ⟨rfl, ht⟩
    obtain ⟨A2, hat2, hx2⟩ := ht
    have HPU : Hid (Calls Tryz.prog 64 #[.pointer (some ⟨wk, 0, none⟩), .slice none 0 0] W2 fun e w' => e = .returned (.tuple #[]) ∧ JwTo base wk ak mk rv cv A2 L (enc ++ bts ⟨#[34]⟩ ++ []) (pay + 0 + (⟨#[34]⟩ : ByteArray).size + (([] : List Int).length : Nat)) W2 w') := Lib.hid (jput_any hat2 (S := none) (bs := []) (c := 0) ⟨fun j => by simp, fun h => absurd rfl h⟩ (fun _ => rfl) (avoid_none _ _ _ _) (fun g hg => by simp [rowOf] at hg) (by simp))
    have HX2 := Lib.hid (HX.out.trans hx2)
    clear hat2 hx2 HG
    go_wp2_with fail
    go_loopw [4, 18] (fun vf vi wr => vf = .int .i64 0 ∧ vi = .int .i64 0 ∧ wr = W2) (fun _ _ _ => 0)
    case atStart => exact ⟨rfl, rfl, rfl⟩
    case round =>
      obtain ⟨rfl, rfl, rfl⟩ := hrel
      go_wp2_with fail
      refine HPU.out.mono ?_
      rintro e W4 ⟨rfl, ht4⟩
      obtain ⟨A4, hat4, hx4⟩ := ht4
      have HPS := Lib.hid (jputs_any hat4 ⟨#[34]⟩ (by decide))
      have HX4 := Lib.hid (HX2.out.trans hx4)
      clear hat4 hx4 HPU
      go_wp2_with fail
      refine HPS.out.mono ?_
      rintro e W5 ⟨rfl, ht5⟩
      have HEND := Lib.hid (show JwTo base wk ak mk rv cv A L (enc ++ quot []) (pay + 2 * (quot []).length) w W5 by
        have h5 := ht5.from HX4.out
        have e1 : enc ++ bts ⟨#[34]⟩ ++ [] ++ bts ⟨#[34]⟩ = enc ++ quot [] := by rw [List.append_nil, List.append_assoc]; rfl
        rw [e1] at h5
        refine h5.more ?_
        rw [HL.out]
        show pay + 0 + 1 + 0 + 1 ≤ _
        omega)
      clear ht5 HPS
      go_wp2
      exact bodyPost_end (v := .tuple #[]) (by simp [results, Tryz.results38, go_sem]) rfl ⟨rfl, HEND.out⟩
set_option maxRecDepth 100000 in
set_option maxHeartbeats 4000000 in
theorem jtext_zero (h : JwAt base wk ak mk rv cv A L enc pay w) {ad : Addr} (hav : Avoid (fun j => rowOf (some ad) = some j) wk ak mk A) (hlt : ∀ g, rowOf (some ad) = some g → g < w.heap.size) :
    Calls Tryz.prog 38 #[.pointer (some ⟨wk, 0, none⟩), .slice (some ad) 0 0] w fun e w' => e = .returned (.tuple #[]) ∧ JwTo base wk ak mk rv cv A L (enc ++ quot []) (pay + 2 * (quot []).length) w w' := by
  have HP := Lib.hid (jpay_any h 0 (by omega))
  have HL : Hid (((quot []).length : Int) = 2) := Lib.hid rfl
  have HAV := Lib.hid hav
  have HLT := Lib.hid hlt
  clear h hav hlt
  go_enter Tryz.func38, Tryz.ntmps38
  go_wp2_with fail
  refine HP.out.mono ?_
  intro e W1 hp
  obtain ⟨bb, rfl, hgo, hoff, hx⟩ := hp.bool
  have HX := Lib.hid hx
  clear hp hx
  cases bb
  · have HE := Lib.hid (show JwTo base wk ak mk rv cv A L (enc ++ quot []) (pay + 2 * (quot []).length) w W1 from ⟨A, .inr ((hoff rfl).more (by rw [List.length_append]; omega) (by rw [HL.out]; omega)), HX.out⟩)
    clear hgo hoff
    go_wp2
    exact bodyPost_ret (v := .tuple #[]) (by simp [results, Tryz.results38, go_sem]) rfl ⟨rfl, HE.out⟩
  · have HG := Lib.hid (jputs_any (.inl (hgo rfl)) ⟨#[34]⟩ (by decide))
    clear hgo hoff
    go_wp2_with fail
    refine HG.out.mono ?_
    rintro e W2 ⟨rfl, ht⟩
    obtain ⟨A2, hat2, hx2⟩ := ht
    have HX2 := Lib.hid (HX.out.trans hx2)
    have HPU : Hid (Calls Tryz.prog 64 #[.pointer (some ⟨wk, 0, none⟩), .slice (some ad) 0 0] W2 fun e w' => e = .returned (.tuple #[]) ∧ JwTo base wk ak mk rv cv A2 L (enc ++ bts ⟨#[34]⟩ ++ []) (pay + 0 + (⟨#[34]⟩ : ByteArray).size + (([] : List Int).length : Nat)) W2 w') := Lib.hid (jput_any hat2 (S := some ad) (bs := []) (c := 0) ⟨fun j => by simp, fun h => absurd rfl h⟩ (fun e => by cases e) (HX2.out.avoid HLT.out HAV.out).2 (fun g hg => Nat.lt_of_lt_of_le (HLT.out g hg) HX2.out.size) (by simp))
    clear hat2 hx2 HG
    go_wp2_with fail
    go_loopw [4, 18] (fun vf vi wr => vf = .int .i64 0 ∧ vi = .int .i64 0 ∧ wr = W2) (fun _ _ _ => 0)
    case atStart => exact ⟨rfl, rfl, rfl⟩
    case round =>
      obtain ⟨rfl, rfl, rfl⟩ := hrel
      go_wp2_with fail
      refine HPU.out.mono ?_
      rintro e W4 ⟨rfl, ht4⟩
      obtain ⟨A4, hat4, hx4⟩ := ht4
      have HPS := Lib.hid (jputs_any hat4 ⟨#[34]⟩ (by decide))
      have HX4 := Lib.hid (HX2.out.trans hx4)
      clear hat4 hx4 HPU
      go_wp2_with fail
      refine HPS.out.mono ?_
      rintro e W5 ⟨rfl, ht5⟩
      have HEND := Lib.hid (show JwTo base wk ak mk rv cv A L (enc ++ quot []) (pay + 2 * (quot []).length) w W5 by
        have h5 := ht5.from HX4.out
        have e1 : enc ++ bts ⟨#[34]⟩ ++ [] ++ bts ⟨#[34]⟩ = enc ++ quot [] := by rw [List.append_nil, List.append_assoc]; rfl
        rw [e1] at h5
        refine h5.more ?_
        rw [HL.out]
        show pay + 0 + 1 + 0 + 1 ≤ _
        omega)
      clear ht5 HPS
      go_wp2
      exact bodyPost_end (v := .tuple #[]) (by simp [results, Tryz.results38, go_sem]) rfl ⟨rfl, HEND.out⟩
set_option maxRecDepth 100000 in
set_option maxHeartbeats 4000000 in
theorem jtext_room (h : JwAt base wk ak mk rv cv A L enc pay w) {b off : Nat} {t : Option Nat} {c : Nat} (hc : 0 < c) (hav : Avoid (fun j => rowOf (some ⟨b, off, t⟩) = some j) wk ak mk A) (hlt : ∀ g, rowOf (some ⟨b, off, t⟩) = some g → g < w.heap.size) :
    Calls Tryz.prog 38 #[.pointer (some ⟨wk, 0, none⟩), .slice (some ⟨b, off, t⟩) 0 c] w fun e w' => e = .returned (.tuple #[]) ∧ JwTo base wk ak mk rv cv A L (enc ++ quot []) (pay + 2 * (quot []).length) w w' := by
  have HP := Lib.hid (jpay_any h 0 (by omega))
  have HL : Hid (((quot []).length : Int) = 2) := Lib.hid rfl
  have HAV := Lib.hid hav
  have HLT := Lib.hid hlt
  clear h hav hlt
  go_enter Tryz.func38, Tryz.ntmps38
  go_wp2_with fail
  refine HP.out.mono ?_
  intro e W1 hp
  obtain ⟨bb, rfl, hgo, hoff, hx⟩ := hp.bool
  have HX := Lib.hid hx
  clear hp hx
  cases bb
  · have HE := Lib.hid (show JwTo base wk ak mk rv cv A L (enc ++ quot []) (pay + 2 * (quot []).length) w W1 from ⟨A, .inr ((hoff rfl).more (by rw [List.length_append]; omega) (by rw [HL.out]; omega)), HX.out⟩)
    clear hgo hoff
    go_wp2
    exact bodyPost_ret (v := .tuple #[]) (by simp [results, Tryz.results38, go_sem]) rfl ⟨rfl, HE.out⟩
  · have HG := Lib.hid (jputs_any (.inl (hgo rfl)) ⟨#[34]⟩ (by decide))
    clear hgo hoff
    go_wp2_with fail
    refine HG.out.mono ?_
    rintro e W2 ⟨rfl, ht⟩
    obtain ⟨A2, hat2, hx2⟩ := ht
    have HX2 := Lib.hid (HX.out.trans hx2)
    have HPU : Hid (Calls Tryz.prog 64 #[.pointer (some ⟨wk, 0, none⟩), .slice (some ⟨b, off, t⟩) 0 c] W2 fun e w' => e = .returned (.tuple #[]) ∧ JwTo base wk ak mk rv cv A2 L (enc ++ bts ⟨#[34]⟩ ++ []) (pay + 0 + (⟨#[34]⟩ : ByteArray).size + (([] : List Int).length : Nat)) W2 w') := Lib.hid (jput_any hat2 (S := some ⟨b, off, t⟩) (bs := []) (c := c) ⟨fun j => by simp, fun h => absurd rfl h⟩ (fun e => by cases e) (HX2.out.avoid HLT.out HAV.out).2 (fun g hg => Nat.lt_of_lt_of_le (HLT.out g hg) HX2.out.size) (by simp))
    clear hat2 hx2 HG
    go_wp2_with fail
    go_loopw [4, 18] (fun vf vi wr => vf = .int .i64 0 ∧ vi = .int .i64 0 ∧ wr = W2) (fun _ _ _ => 0)
    case atStart => exact ⟨rfl, rfl, rfl⟩
    case round =>
      obtain ⟨rfl, rfl, rfl⟩ := hrel
      go_wp2_with fail
      refine HPU.out.mono ?_
      rintro e W4 ⟨rfl, ht4⟩
      obtain ⟨A4, hat4, hx4⟩ := ht4
      have HPS := Lib.hid (jputs_any hat4 ⟨#[34]⟩ (by decide))
      have HX4 := Lib.hid (HX2.out.trans hx4)
      clear hat4 hx4 HPU
      go_wp2_with fail
      refine HPS.out.mono ?_
      rintro e W5 ⟨rfl, ht5⟩
      have HEND := Lib.hid (show JwTo base wk ak mk rv cv A L (enc ++ quot []) (pay + 2 * (quot []).length) w W5 by
        have h5 := ht5.from HX4.out
        have e1 : enc ++ bts ⟨#[34]⟩ ++ [] ++ bts ⟨#[34]⟩ = enc ++ quot [] := by rw [List.append_nil, List.append_assoc]; rfl
        rw [e1] at h5
        refine h5.more ?_
        rw [HL.out]
        show pay + 0 + 1 + 0 + 1 ≤ _
        omega)
      clear ht5 HPS
      go_wp2
      exact bodyPost_end (v := .tuple #[]) (by simp [results, Tryz.results38, go_sem]) rfl ⟨rfl, HEND.out⟩
structure OutB (w : World) (wk ak mk : Nat) (A : Option Addr) (S : Option Addr) (c : Nat) (bs : List Int) : Prop where
  by_ : Bytes w S bs
  cap : bs.length ≤ c
  nil : S = none → c = 0
  av : Avoid (fun j => rowOf S = some j) wk ak mk A
  lt : ∀ g, rowOf S = some g → g < w.heap.size
  few : bs.length ≤ 100000
theorem OutB.step {w w' : World} {A A' S : Option Addr} {c : Nat} {bs : List Int} (h : OutB w wk ak mk A S c bs) (hx : Fx wk ak mk A A' w w') : OutB w' wk ak mk A' S c bs := by
  obtain ⟨h1, h2⟩ := hx.avoid h.lt h.av
  exact ⟨h.by_.outD h1, h.cap, h.nil, h2, fun g hg => Nat.lt_of_lt_of_le (h.lt g hg) hx.size, h.few⟩
theorem jtext_any (h : JwAt base wk ak mk rv cv A L enc pay w) {S : Option Addr} {c : Nat} (hb : OutB w wk ak mk A S c bs) :
    Calls Tryz.prog 38 #[.pointer (some ⟨wk, 0, none⟩), .slice S bs.length c] w fun e w' => e = .returned (.tuple #[]) ∧ JwTo base wk ak mk rv cv A L (enc ++ quot bs) (pay + 2 * (quot bs).length) w w' := by
  cases S with
  | none =>
    have hbs : bs = [] := by
      by_cases hne : bs = []
      · exact hne
      · obtain ⟨b, off, he, _⟩ := hb.by_.2 hne
        cases he
    subst hbs
    rw [hb.nil rfl]
    exact jtext_none h
  | some ad =>
    by_cases hne : bs = []
    · subst hne
      obtain ⟨b, off, t⟩ := ad
      rcases Nat.eq_zero_or_pos c with rfl | hc
      · exact jtext_zero h hb.av hb.lt
      · exact jtext_room h hc hb.av hb.lt
    · obtain ⟨b, off, he, hlt, _⟩ := hb.by_.2 hne
      injection he with he
      subst he
      exact jtext_some h hb.by_ hb.cap (by have := hb.av; simpa [rowOf] using this) hlt (by have := hb.few; omega)
end
end Go.Proofs.YtiknhkkeifemcaaGreatDoor
