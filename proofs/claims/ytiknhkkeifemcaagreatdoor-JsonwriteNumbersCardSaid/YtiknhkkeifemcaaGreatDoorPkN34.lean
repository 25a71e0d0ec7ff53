/-
  The program's writer of JSON (package jsonwrite): escaped; Text; data. Conditions: those that each theorem names.
-/
import Derived.Test.YtiknhkkeifemcaaGreatDoorPkN3
import Derived.Test.YtiknhkkeifemcaaGreatDoorPkN20
import Derived.Test.YtiknhkkeifemcaaGreatDoorPkN31
import Derived.Test.YtiknhkkeifemcaaGreatDoorPkN32
import Derived.Lib.ConvBytes
namespace Go.Proofs.YtiknhkkeifemcaaGreatDoor
open Go.ChangeShapes Go.WideShapes Go.ChangeAt Go.RowKit

theorem conv_bts (s : ByteArray) (w : World) : ∃ K w2, (convert 9 22 (.string s)).run Tryz.prog w = .ok (.slice (some ⟨w.heap.size, 0, none⟩) s.size K) w2 ∧ s.size ≤ K ∧ Below w.heap.size w w2 ∧ w.heap.size < w2.heap.size ∧ Bytes w2 (some ⟨w.heap.size, 0, none⟩) (bts s) := by
  have hlt : w.heap.size < (Lib.bytesWorld w 5 s).heap.size := by rw [Lib.bytesWorld_size]; omega
  refine ⟨_, _, Lib.run_convert_string_bytes (P := Tryz.prog) w 9 22 5 s Tryz.underlying9 Tryz.underlying22 Tryz.underlying5, grownCap_ge w _ _ _, ?_, hlt, ?_⟩
  · exact ⟨rfl, rfl, rfl, by omega, fun k hk => Lib.bytesWorld_at_old w _ _ k hk⟩
  · refine ⟨fun i => ?_, fun _ => ⟨_, 0, rfl, hlt, fun i hi => ?_⟩⟩
    · by_cases h : i < s.size
      · rw [bts_get h]
        have := (s[i]'h).toNat_lt
        omega
      · rw [bts_end (by omega)]
        omega
    · rw [bts_length] at hi
      rw [Nat.zero_add, Lib.bytesWorld_cell w _ _ i hi, bts_get hi]
      congr 3
      simp [List.getD, hi]
      rfl
section
variable {w : World} {base wk ak mk : Nat} {rv cv : Value} {A : Option Addr} {L pay : Int} {enc bs : List Int}
set_option maxRecDepth 100000 in
set_option maxHeartbeats 4000000 in
theorem jput_any (h : JwAt base wk ak mk rv cv A L enc pay w) {S : Option Addr} {c : Nat} (hby : Bytes w S bs) (hc0 : S = none → c = 0) (hav : Avoid (fun j => rowOf S = some j) wk ak mk A) (hlt : ∀ g, rowOf S = some g → g < w.heap.size) (hlen : bs.length ≤ 1000000000) :
    Calls Tryz.prog 64 #[.pointer (some ⟨wk, 0, none⟩), .slice S bs.length c] w fun e w' => e = .returned (.tuple #[]) ∧ JwTo base wk ak mk rv cv A L (enc ++ bs) (pay + bs.length) w w' := by
  have HP := Lib.hid (jpay_any h (bs.length : Nat) (by omega))
  have HBY := Lib.hid hby
  have HC0 := Lib.hid hc0
  have HAV := Lib.hid hav
  have HLT := Lib.hid hlt
  have hB : base ≤ w.heap.size := by have := h.lts; omega
  clear h hby hc0 hav hlt
  go_enter Tryz.func64, Tryz.ntmps64
  go_wp2_with fail
  refine HP.out.mono ?_
  intro e W1 hp
  obtain ⟨b, rfl, hgo, hoff, hx⟩ := hp.bool
  have HX := Lib.hid hx
  have HB1 : Hid (base ≤ W1.heap.size) := Lib.hid (Nat.le_trans hB hx.size)
  obtain ⟨ho, ha⟩ := hx.avoid HLT.out HAV.out
  have HBY1 := Lib.hid (HBY.out.outD ho)
  have HA1 := Lib.hid ha
  have HLT1 : Hid (∀ g, rowOf S = some g → g < W1.heap.size) := Lib.hid (fun g hg => Nat.lt_of_lt_of_le (HLT.out g hg) hx.size)
  clear hp hx ho ha
  cases b
  · have HE := Lib.hid (show JwTo base wk ak mk rv cv A L (enc ++ bs) (pay + bs.length) w W1 from ⟨A, .inr ((hoff rfl).more (by rw [List.length_append]; omega) (Int.le_refl _)), HX.out⟩)
    clear hgo hoff
    go_wp2
    exact bodyPost_end (v := .tuple #[]) (by simp [results, Tryz.results64, go_sem]) rfl ⟨rfl, HE.out⟩
  · obtain ⟨cap, left, hst, h2, h3, h4⟩ := hgo rfl
    obtain ⟨c0, c1, c2, c3, c4⟩ := blk5q hst.blk
    clear hgo hoff
    by_cases hfit : enc.length + bs.length ≤ 32768
    · have HPU := Lib.hid (put_yes (news := bs) hst.arena S bs.length c (by omega) HB1.out rfl (fun w' hm => bytes_srcrow (HBY1.out.outD ⟨hm.os, hm.tape, hm.output, hm.size, fun j hj => hm.block j (HLT1.out j hj) (fun e => HA1.out.2.1 (e ▸ hj)) (fun e => HA1.out.2.2.2 j e.symm hj)⟩) HC0.out))
      have HSS := Lib.hid (fun W hW => JwSt.stepped (w' := W) (zs' := enc ++ bs) (over' := false) hst hW)
      clear hst
      go_wp2_with fail
      refine HPU.out.mono ?_
      rintro e W3 ⟨rfl, hs3⟩
      have HE := Lib.hid (show JwTo base wk ak mk rv cv A L (enc ++ bs) (pay + bs.length) w W3 by
        obtain ⟨A3, cap3, h5, h6⟩ := HSS.out W3 hs3
        exact ⟨A3, .inl ⟨cap3, left, h5, h2, h3, h4⟩, HX.out.trans h6⟩)
      clear hs3 c0 c1 c2 c3 c4 HSS HPU
      go_wp2
      exact bodyPost_end (v := .tuple #[]) (by simp [results, Tryz.results64, go_sem]) rfl ⟨rfl, HE.out⟩
    · have HPU := Lib.hid (put_no hst.arena S bs.length c (.inr (by omega)))
      have HSS := Lib.hid (fun W hW => JwSt.stepped (w' := W) (zs' := enc) (over' := true) hst hW)
      clear hst
      go_wp2_with fail
      refine HPU.out.mono ?_
      rintro e W3 ⟨rfl, hs3⟩
      have HE := Lib.hid (show JwTo base wk ak mk rv cv A L (enc ++ bs) (pay + bs.length) w W3 by
        obtain ⟨A3, cap3, h5, h6⟩ := HSS.out W3 hs3
        exact ⟨A3, .inr ⟨cap3, enc, true, left, false, 0, h5, .inl ⟨rfl, rfl, rfl, by rw [List.length_append]; omega⟩⟩, HX.out.trans h6⟩)
      clear hs3 c0 c1 c2 c3 c4 HSS HPU
      go_wp2
      exact bodyPost_end (v := .tuple #[]) (by simp [results, Tryz.results64, go_sem]) rfl ⟨rfl, HE.out⟩
theorem avoid_new {S : Option Addr} {B : Nat} (hlts : wk < B ∧ ak < B ∧ mk < B ∧ ∀ r, rowOf A = some r → r < B) (hS : ∀ g, rowOf S = some g → B ≤ g) : Avoid (fun j => rowOf S = some j) wk ak mk A :=
  ⟨fun h => by have := hS _ h; omega, fun h => by have := hS _ h; omega, fun h => by have := hS _ h; omega, fun r hr h => by have := hS _ h; have := hlts.2.2.2 r hr; omega⟩
set_option maxRecDepth 100000 in
set_option maxHeartbeats 4000000 in
theorem jputs_any (h : JwAt base wk ak mk rv cv A L enc pay w) (s : ByteArray) (hlen : s.size ≤ 1000000000) :
    Calls Tryz.prog 33 #[.pointer (some ⟨wk, 0, none⟩), .string s] w fun e w' => e = .returned (.tuple #[]) ∧ JwTo base wk ak mk rv cv A L (enc ++ bts s) (pay + s.size) w w' := by
  obtain ⟨K, w2, hcv, hK, hb2, hl2, hby⟩ := conv_bts s w
  have hlts := h.lts
  have hbl := bts_length s
  have hp := jput_any (h.below hb2) (c := K) hby (fun e => by cases e) (avoid_new (B := w.heap.size) ⟨hlts.1, hlts.2.1, hlts.2.2.1, hlts.2.2.2.1⟩ (fun g hg => by simp [rowOf] at hg; omega)) (fun g hg => by simp [rowOf] at hg; omega) (by omega)
  rw [hbl] at hp
  have HP := Lib.hid hp
  have HB := Lib.hid hb2
  clear h hlts hbl hp hby hb2
  go_enter Tryz.func33, Tryz.ntmps33
  go_wp2_with fail
  refine HP.out.mono ?_
  rintro e W3 ⟨rfl, ht⟩
  have HE := Lib.hid (ht.from (.of_below A HB.out))
  clear ht
  go_wp2
  exact bodyPost_end (v := .tuple #[]) (by simp [results, Tryz.results33, go_sem]) rfl ⟨rfl, HE.out⟩
end
end Go.Proofs.YtiknhkkeifemcaaGreatDoor
namespace Go.Proofs.YtiknhkkeifemcaaGreatDoor
open Go.ChangeShapes Go.WideShapes Go.ChangeAt Go.RowKit Go.Shelf

def EscIs (c : Int) (e : Ending) : Prop := ∃ (S : ByteArray) (b : Bool), e = .returned (.tuple #[.string S, .bool b]) ∧ S.size ≤ 6 ∧ (b = true → bts S = qB c) ∧ (b = false → qB c = [c])
set_option maxRecDepth 100000 in
set_option maxHeartbeats 4000000 in
theorem jesc_any (c : Int) (h0 : 0 ≤ c) (h1 : c ≤ 255) (w : World) : Calls Tryz.prog 76 #[.int .u8 c] w fun e w' => EscIs c e ∧ Below w.heap.size w w' := by
  by_cases e34 : c = 34
  · subst e34
    go_enter Tryz.func76, Tryz.ntmps76
    go_wp2
    go_ret2
    exact ⟨⟨_, true, rfl, by decide, fun _ => by kernel_rfl, fun h => by cases h⟩, Below.refl _ _⟩
  by_cases e92 : c = 92
  · subst e92
    go_enter Tryz.func76, Tryz.ntmps76
    go_wp2
    go_ret2
    exact ⟨⟨_, true, rfl, by decide, fun _ => by kernel_rfl, fun h => by cases h⟩, Below.refl _ _⟩
  by_cases e8 : c = 8
  · subst e8
    go_enter Tryz.func76, Tryz.ntmps76
    go_wp2
    go_ret2
    exact ⟨⟨_, true, rfl, by decide, fun _ => by kernel_rfl, fun h => by cases h⟩, Below.refl _ _⟩
  by_cases e9 : c = 9
  · subst e9
    go_enter Tryz.func76, Tryz.ntmps76
    go_wp2
    go_ret2
    exact ⟨⟨_, true, rfl, by decide, fun _ => by kernel_rfl, fun h => by cases h⟩, Below.refl _ _⟩
  by_cases e10 : c = 10
  · subst e10
    go_enter Tryz.func76, Tryz.ntmps76
    go_wp2
    go_ret2
    exact ⟨⟨_, true, rfl, by decide, fun _ => by kernel_rfl, fun h => by cases h⟩, Below.refl _ _⟩
  by_cases e12 : c = 12
  · subst e12
    go_enter Tryz.func76, Tryz.ntmps76
    go_wp2
    go_ret2
    exact ⟨⟨_, true, rfl, by decide, fun _ => by kernel_rfl, fun h => by cases h⟩, Below.refl _ _⟩
  by_cases e13 : c = 13
  · subst e13
    go_enter Tryz.func76, Tryz.ntmps76
    go_wp2
    go_ret2
    exact ⟨⟨_, true, rfl, by decide, fun _ => by kernel_rfl, fun h => by cases h⟩, Below.refl _ _⟩
  have b34 : (c == 34) = false := beq_false_of_ne e34
  have b92 : (c == 92) = false := beq_false_of_ne e92
  have b8 : (c == 8) = false := beq_false_of_ne e8
  have b9 : (c == 9) = false := beq_false_of_ne e9
  have b10 : (c == 10) = false := beq_false_of_ne e10
  have b12 : (c == 12) = false := beq_false_of_ne e12
  have b13 : (c == 13) = false := beq_false_of_ne e13
  have HQ : Hid (qB c = if c < 32 then [92, 117, 48, 48, hexC (c / 16), hexC (c % 16)] else [c]) := Lib.hid (by
    unfold qB
    rw [if_neg e34, if_neg e92, if_neg e8, if_neg e9, if_neg e10, if_neg e12, if_neg e13])
  clear e34 e92 e8 e9 e10 e12 e13
  by_cases hc : c < 32
  · have HQ2 := Lib.hid (HQ.out.trans (if_pos hc))
    have hb := (Below.refl w.heap.size w).alloc (Nat.le_refl _) (.cells #[.int .u8 c] 5)
    have HB := Lib.hid hb
    have HD := Lib.hid (digits_any (some ⟨w.heap.size, 0, none⟩) 1 1 [c] (w.alloc (.cells #[.int .u8 c] 5)) (bytes_at h0 h1 (by rw [World.size_alloc]; omega) (by simp)) rfl (Nat.le_refl _) (by omega))
    obtain ⟨D, hD⟩ : ∃ D, strOfNums (digL [c]) = D := ⟨_, rfl⟩
    rw [hD] at HD
    have HBD : Hid (bts D = [hexC (c / 16), hexC (c % 16)] ∧ D.size = 2) := Lib.hid (by
      have h2 : bts D = digL [c] := by rw [← hD]; exact bts_strOf _ (digL_bd (by intro z hz; rw [List.mem_singleton.1 hz]; omega))
      refine ⟨h2, ?_⟩
      rw [← bts_length, h2, digL_len]; rfl)
    have hDs : D.size = 2 := HBD.out.2
    clear HQ hb hD
    go_enter Tryz.func76, Tryz.ntmps76
    go_wp2_with fail
    refine HD.out.mono ?_
    rintro e W1 ⟨rfl, hb1⟩
    have HB1 := Lib.hid (HB.out.trans (hb1.mono HB.out.size))
    clear hb1 HD
    go_wp2
    go_ret2
    refine ⟨⟨_, true, rfl, ?_, fun _ => ?_, fun h => by cases h⟩, HB1.out⟩
    · rw [ByteArray.size_append, hDs]; decide
    · rw [bts_append, HBD.out.1, HQ2.out]; rfl
  · have HQ2 := Lib.hid (HQ.out.trans (if_neg hc))
    clear HQ
    go_enter Tryz.func76, Tryz.ntmps76
    go_wp2
    go_ret2
    exact ⟨⟨_, false, rfl, by decide, fun h => (by cases h), fun _ => HQ2.out⟩, Below.refl _ _⟩
end Go.Proofs.YtiknhkkeifemcaaGreatDoor
