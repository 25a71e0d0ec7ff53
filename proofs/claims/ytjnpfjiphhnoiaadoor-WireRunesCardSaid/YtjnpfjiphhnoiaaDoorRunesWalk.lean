/-
  The law WireRunes returns true at every number and all bytes behind: a walk over the callees' contracts. Condition: the library's tables hold what the row lists.
-/
import Derived.Test.YtjnpfjiphhnoiaaDoorAwake
import Derived.Test.YtjnpfjiphhnoiaaDoorApp
import Derived.Test.YtjnpfjiphhnoiaaDoorRune
import Derived.Lib.ConvBytes
namespace Go.Proofs.YtjnpfjiphhnoiaaDoor
open Go.ChangeShapes Go.WideShapes Go.ChangeAt Go.RowKit
theorem and_i32 (r : Int) : bits BinOp.and .i32 r 2097151 = r % 2097152 := by
  have h2 : (BitVec.ofInt 32 2097151).toNat = 2 ^ 21 - 1 := by decide
  show IntKind.i32.wrap ((BitVec.ofInt 32 r &&& BitVec.ofInt 32 2097151).toNat : Int) = _
  rw [BitVec.toNat_and, h2, Nat.and_two_pow_sub_one_eq_mod, BitVec.toNat_ofInt, IntKind.wrap_i32]
  have h3 : (2 : Nat) ^ 21 = 2097152 := rfl
  have h4 : ((2 ^ 32 : Nat) : Int) = 4294967296 := rfl
  rw [h3, h4]
  omega
/-- '[]byte(string(rune(c)))': the sign's bytes in a new row. -/
theorem conv_rune (c : Nat) (w : World) : ∃ K w2, (convert 9 29 (.string (Utf8.encode (c : Int)))).run Tryd.prog w = .ok (.slice (some ⟨w.heap.size, 0, none⟩) (Utf8.encode (c : Int)).size K) w2 ∧ (Utf8.encode (c : Int)).size ≤ K ∧ Below w.heap.size w w2 ∧ w.heap.size < w2.heap.size ∧
    ∀ j, j < (Utf8.encode (c : Int)).size → w2.cell? ⟨w.heap.size, j, none⟩ = some (.int .u8 ((Utf8.encode (c : Int)).data.toList.getD j 0).toNat) := by
  refine ⟨_, _, Lib.run_convert_string_bytes (P := Tryd.prog) w 9 29 5 (Utf8.encode (c : Int)) Tryd.underlying9 Tryd.underlying29 Tryd.underlying5, grownCap_ge w _ _ _, ?_, ?_, fun j hj => Lib.bytesWorld_cell w _ _ j hj⟩
  · exact ⟨rfl, rfl, rfl, by rw [Lib.bytesWorld_size]; omega, fun k hk => Lib.bytesWorld_at_old w _ _ k hk⟩
  · rw [Lib.bytesWorld_size]; omega
theorem encode_enc (c : Nat) (hc : isRune c) : (Utf8.encode (c : Int)).size = (enc c).length ∧ ∀ j, j < (enc c).length → (((Utf8.encode (c : Int)).data.toList.getD j 0).toNat : Int) = (enc c).getD j 0 := by
  have hv : Utf8.valid (c : Int) = true := by
    unfold isRune at hc
    simp only [Utf8.valid]
    simp
    omega
  unfold isRune at hc
  unfold Utf8.encode enc
  simp only [hv, if_true, Int.toNat_natCast]
  by_cases h1 : c < 128
  · rw [if_pos h1, if_pos h1]
    refine ⟨rfl, fun j hj => ?_⟩
    obtain rfl : j = 0 := by simp at hj; omega
    show ((UInt8.ofNat c).toNat : Int) = (c : Int)
    simp; omega
  rw [if_neg h1, if_neg h1]
  by_cases h2 : c < 2048
  · rw [if_pos h2, if_pos h2]
    refine ⟨rfl, fun j hj => ?_⟩
    obtain rfl | rfl : j = 0 ∨ j = 1 := by simp at hj; omega
    · show ((UInt8.ofNat (192 + c / 64)).toNat : Int) = ((192 + c / 64 : Nat) : Int)
      simp only [UInt8.toNat_ofNat']; omega
    · show ((UInt8.ofNat (128 + c % 64)).toNat : Int) = ((128 + c % 64 : Nat) : Int)
      simp only [UInt8.toNat_ofNat']; omega
  rw [if_neg h2, if_neg h2]
  by_cases h3 : c < 65536
  · rw [if_pos h3, if_pos h3]
    refine ⟨rfl, fun j hj => ?_⟩
    obtain rfl | rfl | rfl : j = 0 ∨ j = 1 ∨ j = 2 := by simp at hj; omega
    · show ((UInt8.ofNat (224 + c / 4096)).toNat : Int) = ((224 + c / 4096 : Nat) : Int)
      simp only [UInt8.toNat_ofNat']; omega
    · show ((UInt8.ofNat (128 + c / 64 % 64)).toNat : Int) = ((128 + c / 64 % 64 : Nat) : Int)
      simp only [UInt8.toNat_ofNat']; omega
    · show ((UInt8.ofNat (128 + c % 64)).toNat : Int) = ((128 + c % 64 : Nat) : Int)
      simp only [UInt8.toNat_ofNat']; omega
  rw [if_neg h3, if_neg h3]
  refine ⟨rfl, fun j hj => ?_⟩
  obtain rfl | rfl | rfl | rfl : j = 0 ∨ j = 1 ∨ j = 2 ∨ j = 3 := by simp at hj; omega
  · show ((UInt8.ofNat (240 + c / 262144)).toNat : Int) = ((240 + c / 262144 : Nat) : Int)
    simp only [UInt8.toNat_ofNat']; omega
  · show ((UInt8.ofNat (128 + c / 4096 % 64)).toNat : Int) = ((128 + c / 4096 % 64 : Nat) : Int)
    simp only [UInt8.toNat_ofNat']; omega
  · show ((UInt8.ofNat (128 + c / 64 % 64)).toNat : Int) = ((128 + c / 64 % 64 : Nat) : Int)
    simp only [UInt8.toNat_ofNat']; omega
  · show ((UInt8.ofNat (128 + c % 64)).toNat : Int) = ((128 + c % 64 : Nat) : Int)
    simp only [UInt8.toNat_ofNat']; omega
/-- The same for a sign: its bytes, in a new row. -/
theorem conv_good (c : Nat) (hc : isRune c) (w : World) : ∃ s K w2, Utf8.encode (c : Int) = s ∧ (convert 9 29 (.string s)).run Tryd.prog w = .ok (.slice (some ⟨w.heap.size, 0, none⟩) (enc c).length K) w2 ∧ (enc c).length ≤ K ∧ Below w.heap.size w w2 ∧ w.heap.size < w2.heap.size ∧
    ∀ j, j < (enc c).length → w2.cell? ⟨w.heap.size, j, none⟩ = some (.int .u8 ((enc c).getD j 0)) := by
  obtain ⟨K, w2, hconv, hK, hb2, hs2, hcell2⟩ := conv_rune c w
  obtain ⟨hel, hec⟩ := encode_enc c hc
  rw [hel] at hconv hK hcell2
  exact ⟨_, K, w2, rfl, hconv, hK, hb2, hs2, fun j hj => (hcell2 j hj).trans (congrArg (fun z => some (Value.int .u8 z)) (hec j hj))⟩
theorem conv_any (c : Nat) (w : World) : ∃ s n K w2, Utf8.encode (c : Int) = s ∧ (convert 9 29 (.string s)).run Tryd.prog w = .ok (.slice (some ⟨w.heap.size, 0, none⟩) n K) w2 ∧ Below w.heap.size w w2 := by
  obtain ⟨K, w2, hconv, _, hb2, _, _⟩ := conv_rune c w
  exact ⟨_, _, K, w2, rfl, hconv, hb2⟩
theorem srcRow_alloc {w : World} {b : Nat} {m c : Nat} {news : List Value} (h : SrcRow w (some ⟨b, 0, none⟩) m c news) (o : Obj) : SrcRow (w.alloc o) (some ⟨b, 0, none⟩) m c news := by
  obtain ⟨h1, h2, h3⟩ := h
  refine ⟨h1, h2, .inr ⟨_, rfl, fun j u hu => ?_⟩⟩
  rcases h3 with ⟨h, _⟩ | ⟨ad, had, hc⟩
  · cases h
  · cases had
    have := hc j u hu
    exact (World.cell?_alloc_lt w o _ (World.block_lt_of_cell? _ _ this)).trans this
set_option maxRecDepth 100000 in
set_option maxHeartbeats 2000000 in
theorem runes_low (r : Int) (c : Nat) (a1 : Option Addr) (len cap : Nat) (zs : List Int) (w : World) (hr : r % 2097152 = c) (hc : isRune c) (hc2 : (c : Int) < 55296) (hz : IsRow .u8 w a1 len cap zs) (hbig : (len : Int) ≤ 100) (hT : Tabs w) :
    Calls Tryd.prog 9 #[.int .i32 r, .slice a1 len cap] w fun e w' => e = .returned (.bool true) ∧ Below w.heap.size w w' := by
  have HA := Lib.hid (awake_any w hT)
  have HT := Lib.hid hT
  have HZ := Lib.hid hz
  obtain ⟨hl, hm, hzl, hwf, hp⟩ := hz
  unfold maxLen at hm
  have HW := Lib.hid (bytes_wf (take_wf (m := len) hwf))
  have HL := Lib.hid (show (zs.take len).length = len by simp; omega)
  have HC := Lib.hid hc
  have hc1 : (c : Int) ≤ 1114111 := by unfold isRune at hc; omega
  have hc0 : (0 : Int) ≤ (c : Int) := by omega
  obtain ⟨x, hx⟩ : ∃ x : Int, (c : Int) = x := ⟨_, rfl⟩
  have hand : bits BinOp.and IntKind.i32 r 2097151 = x := by rw [and_i32, hr, hx]
  rw [hx] at hc0 hc1 hc2
  have HX := Lib.hid hx
  obtain ⟨L, hL⟩ : ∃ L, (enc c).length = L := ⟨_, rfl⟩
  have hLL := enc_len c
  rw [hL] at hLL
  have HLE := Lib.hid hL
  clear hT hwf hp hzl hr hc hL hx
  obtain ⟨i0, hi0, hz0, hz1, hz2⟩ := info_parts u8_info
  have I1 := Lib.hid hi0
  have I2 := Lib.hid hz0
  have I3 := Lib.hid hz1
  have I4 := Lib.hid hz2
  clear hi0 hz0 hz1 hz2
  go_enter Tryd.func9, Tryd.ntmps9
  go_wp2_with fail
  refine HA.out.mono ?_
  rintro e w1 ⟨rfl, hb⟩
  obtain ⟨s, K, w2, hs, hconv, hK, hb2, hs2, hcell2⟩ := conv_good c HC.out w1
  subst hs
  rw [HLE.out] at hconv hK hcell2
  rw [HX.out] at hconv
  have HB2 := Lib.hid (hb.trans (hb2.mono hb.size))
  have HC2 := Lib.hid hcell2
  have hw1 := hb.size
  clear hb hb2 hcell2
  go_wp2_with fail
  clear hconv hand
  go_loopw [7] (fun i wr => Below w2.heap.size w2 wr ∧ ∃ k : Nat, 1 ≤ k ∧ k ≤ L ∧ i = .int .i64 k) (fun i _ => L - (intOf i).toNat)
  case atStart => exact ⟨Below.refl _ _, 1, Nat.le_refl _, hLL.1, rfl⟩
  case round =>
    obtain ⟨hbel, k, hk1, hkL, rfl⟩ := hrel
    have HR := Lib.hid hbel
    have hwr := hbel.size
    clear hbel
    by_cases hlt : k < L
    · have hKk : ¬ K = k := by omega
      go_wp2_with fail
      refine (wutf8_off w1.heap.size 0 K k ((enc c).take k) wr (HT.out.below (Nat.le_refl _) (HB2.out.trans (HR.out.mono HB2.out.size))) (bd_le fun z hz => enc_bd c HC.out z (List.mem_of_mem_take hz)) (by omega) (fun i hi => by
        have h1 := HLE.out
        have hi' : i < k := by simp at hi; omega
        rw [Nat.zero_add, HR.out.cell (p := ⟨w1.heap.size, i, none⟩) (by omega), HC2.out i (by omega)]
        simp [List.getD, hi']) (by have h1 := HLE.out; simp; omega) (by omega) (by omega)).mono ?_
      rintro e w3 ⟨rfl, hb3⟩
      rw [u8At_first _ (by have h1 := HLE.out; simp; omega) (dec_take c HC.out k hk1 (by rw [HLE.out]; exact hlt))]
      have HB3 := Lib.hid (HR.out.trans (hb3.mono HR.out.size))
      have hw3 := hb3.size
      clear hb3
      go_wp2_with fail
      refine (wutf8_off w1.heap.size k (K - k) (L - k) ((enc c).drop k) w3 (HT.out.below (Nat.le_refl _) (HB2.out.trans (HB3.out.mono HB2.out.size))) (bd_le fun z hz => enc_bd c HC.out z (List.mem_of_mem_drop hz)) (by omega) (fun i hi => by
        have h1 := HLE.out
        have hi' : k + i < L := by simp at hi; omega
        rw [HB3.out.cell (p := ⟨w1.heap.size, k + i, none⟩) (by omega), HC2.out (k + i) (by omega)]
        simp [List.getD]) (by have h1 := HLE.out; simp; omega) (by omega) (by omega)).mono ?_
      rintro e w4 ⟨rfl, hb4⟩
      rw [u8At_first _ (by have h1 := HLE.out; simp; omega) (dec_drop c HC.out k hk1 (by rw [HLE.out]; exact hlt))]
      have HB4 := Lib.hid (HB3.out.trans (hb4.mono HB3.out.size))
      clear hb4
      go_wp2_with fail
      go_roundw
      case rel => exact ⟨HB4.out, k + 1, by omega, by omega, by go_num⟩
      case measure => simp [intOf]; omega
    · have hsrc : SrcRow wr (some ⟨w1.heap.size, 0, none⟩) L K (u8s (enc c)) := by
        have h1 := HLE.out
        refine ⟨by simp [u8s, h1], fun u hu => ?_, .inr ⟨_, rfl, fun j u hu => ?_⟩⟩
        · obtain ⟨z, _, rfl⟩ := List.mem_map.1 hu
          rfl
        · have hj : j < (enc c).length := by
            have := (List.getElem?_eq_some_iff.1 hu).1
            simpa [u8s] using this
          rw [Go.WideShapes.add_plain, Nat.zero_add, HR.out.cell (p := ⟨w1.heap.size, j, none⟩) (by omega), HC2.out j (by omega)]
          simpa [u8s, List.getD, hj] using hu
      have HS := Lib.hid hsrc
      have HBr := Lib.hid (HB2.out.trans (HR.out.mono HB2.out.size))
      have hwr2 : w.heap.size ≤ wr.heap.size := HBr.out.size
      clear hsrc
      go_wp2_with (first | (at_builtin; refine wpList_app_u8 rfl (.tmp 90) (.tmp 91) 29 29 rfl wr.heap.size 5 i0 (.int .u8 0) Tryd.underlying29 I1.out I2.out I3.out I4.out rfl wr.heap.size 0 0 [] rfl (World.ownsRow_made wr #[] 0 (Nat.le_refl _) (Nat.zero_le _) rfl) (.slice (some ⟨w1.heap.size, 0, none⟩) L K) L (enc c) rfl ((srcRow_alloc HS.out (.cells #[] 5)).toSrc Tryd.underlying29) (by omega) (by simp) ?_; intro g5 c5 w5 hown5 hb5; have hown5' : OwnR w5 wr.heap.size 5 g5 L c5 (enc c) := by rw [Nat.zero_add, List.nil_append] at hown5; exact hown5) | (at_builtin; refine wpList_app_u8 rfl (.tmp 92) (.tmp 93) 29 29 rfl wr.heap.size 5 i0 (.int .u8 0) Tryd.underlying29 I1.out I2.out I3.out I4.out rfl g5 L c5 (enc c) rfl hown5' (.slice a1 len cap) len (zs.take len) rfl ((HZ.out.src (HBr.out.trans ((((Below.refl _ wr).alloc (Nat.le_refl _) _).trans hb5).mono hwr2))).toSrc Tryd.underlying29) (by omega) (by exact Nat.le_trans (Nat.le_of_lt (by simp)) hb5.size) ?_; intro g6 c6 w6 hown6 hb6))
      have HB6 := Lib.hid (HBr.out.trans (((((Below.refl _ wr).alloc (Nat.le_refl _) _).trans hb5).trans hb6).mono hwr2))
      obtain ⟨hl6, _, hg6, hc6, _, hcell6, _⟩ := hown6.facts
      have HC6 := Lib.hid hcell6
      have HL6 := Lib.hid hl6
      clear hown5 hown5' hb5 hown6 hb6 hcell6 hl6
      refine (wutf8_off g6 0 c6 (L + len) (enc c ++ zs.take len) w6 (HT.out.below (Nat.le_refl _) HB6.out) (enc_append_bd c HC.out _ HW.out) hg6 (fun i hi => by rw [Nat.zero_add]; exact HC6.out i hi) (by have h1 := HL6.out; omega) (by omega) (by omega)).mono ?_
      rintro e w7 ⟨rfl, hb7⟩
      rw [u8At_enc c HC.out _ HW.out, HLE.out]
      have HB7 := Lib.hid (HB6.out.trans (hb7.mono HB6.out.size))
      clear hb7
      have hrange := u8At_range (zs.take len) 0
      rw [HL.out] at hrange
      go_wp2_with fail
      refine (wutf8_gen a1 cap len (zs.take len) w7 (HT.out.below (Nat.le_refl _) HB7.out) (HZ.out.bytes HB7.out) HL.out (by omega) hl).mono ?_
      rintro e w8 ⟨rfl, hb8⟩
      have HB8 := Lib.hid (HB7.out.trans (hb8.mono HB7.out.size))
      clear hb8
      generalize u8At (zs.take len) 0 = U at hrange
      by_cases hU : U < 0
      · rw [show shiftBy L U = -1 from if_pos hU]
        go_wp2
        go_ret
        exact ⟨rfl, HB8.out⟩
      · rw [show shiftBy L U = L + U from if_neg hU]
        have hU' : 0 ≤ U := by omega
        clear hU
        go_wp2
        go_ret
        exact ⟨rfl, HB8.out⟩
set_option maxRecDepth 100000 in
set_option maxHeartbeats 2000000 in
theorem runes_high (r : Int) (c : Nat) (a1 : Option Addr) (len cap : Nat) (zs : List Int) (w : World) (hr : r % 2097152 = c) (hc : isRune c) (hc2 : 57344 ≤ (c : Int)) (hz : IsRow .u8 w a1 len cap zs) (hbig : (len : Int) ≤ 100) (hT : Tabs w) :
    Calls Tryd.prog 9 #[.int .i32 r, .slice a1 len cap] w fun e w' => e = .returned (.bool true) ∧ Below w.heap.size w w' := by
  have HA := Lib.hid (awake_any w hT)
  have HT := Lib.hid hT
  have HZ := Lib.hid hz
  obtain ⟨hl, hm, hzl, hwf, hp⟩ := hz
  unfold maxLen at hm
  have HW := Lib.hid (bytes_wf (take_wf (m := len) hwf))
  have HL := Lib.hid (show (zs.take len).length = len by simp; omega)
  have HC := Lib.hid hc
  have hc1 : (c : Int) ≤ 1114111 := by unfold isRune at hc; omega
  have hc0 : (0 : Int) ≤ (c : Int) := by omega
  obtain ⟨x, hx⟩ : ∃ x : Int, (c : Int) = x := ⟨_, rfl⟩
  have hand : bits BinOp.and IntKind.i32 r 2097151 = x := by rw [and_i32, hr, hx]
  rw [hx] at hc0 hc1 hc2
  have HX := Lib.hid hx
  obtain ⟨L, hL⟩ : ∃ L, (enc c).length = L := ⟨_, rfl⟩
  have hLL := enc_len c
  rw [hL] at hLL
  have HLE := Lib.hid hL
  clear hT hwf hp hzl hr hc hL hx
  obtain ⟨i0, hi0, hz0, hz1, hz2⟩ := info_parts u8_info
  have I1 := Lib.hid hi0
  have I2 := Lib.hid hz0
  have I3 := Lib.hid hz1
  have I4 := Lib.hid hz2
  clear hi0 hz0 hz1 hz2
  go_enter Tryd.func9, Tryd.ntmps9
  go_wp2_with fail
  refine HA.out.mono ?_
  rintro e w1 ⟨rfl, hb⟩
  obtain ⟨s, K, w2, hs, hconv, hK, hb2, hs2, hcell2⟩ := conv_good c HC.out w1
  subst hs
  rw [HLE.out] at hconv hK hcell2
  rw [HX.out] at hconv
  have HB2 := Lib.hid (hb.trans (hb2.mono hb.size))
  have HC2 := Lib.hid hcell2
  have hw1 := hb.size
  clear hb hb2 hcell2
  go_wp2_with fail
  clear hconv hand
  go_loopw [7] (fun i wr => Below w2.heap.size w2 wr ∧ ∃ k : Nat, 1 ≤ k ∧ k ≤ L ∧ i = .int .i64 k) (fun i _ => L - (intOf i).toNat)
  case atStart => exact ⟨Below.refl _ _, 1, Nat.le_refl _, hLL.1, rfl⟩
  case round =>
    obtain ⟨hbel, k, hk1, hkL, rfl⟩ := hrel
    have HR := Lib.hid hbel
    have hwr := hbel.size
    clear hbel
    by_cases hlt : k < L
    · have hKk : ¬ K = k := by omega
      go_wp2_with fail
      refine (wutf8_off w1.heap.size 0 K k ((enc c).take k) wr (HT.out.below (Nat.le_refl _) (HB2.out.trans (HR.out.mono HB2.out.size))) (bd_le fun z hz => enc_bd c HC.out z (List.mem_of_mem_take hz)) (by omega) (fun i hi => by
        have h1 := HLE.out
        have hi' : i < k := by simp at hi; omega
        rw [Nat.zero_add, HR.out.cell (p := ⟨w1.heap.size, i, none⟩) (by omega), HC2.out i (by omega)]
        simp [List.getD, hi']) (by have h1 := HLE.out; simp; omega) (by omega) (by omega)).mono ?_
      rintro e w3 ⟨rfl, hb3⟩
      rw [u8At_first _ (by have h1 := HLE.out; simp; omega) (dec_take c HC.out k hk1 (by rw [HLE.out]; exact hlt))]
      have HB3 := Lib.hid (HR.out.trans (hb3.mono HR.out.size))
      have hw3 := hb3.size
      clear hb3
      go_wp2_with fail
      refine (wutf8_off w1.heap.size k (K - k) (L - k) ((enc c).drop k) w3 (HT.out.below (Nat.le_refl _) (HB2.out.trans (HB3.out.mono HB2.out.size))) (bd_le fun z hz => enc_bd c HC.out z (List.mem_of_mem_drop hz)) (by omega) (fun i hi => by
        have h1 := HLE.out
        have hi' : k + i < L := by simp at hi; omega
        rw [HB3.out.cell (p := ⟨w1.heap.size, k + i, none⟩) (by omega), HC2.out (k + i) (by omega)]
        simp [List.getD]) (by have h1 := HLE.out; simp; omega) (by omega) (by omega)).mono ?_
      rintro e w4 ⟨rfl, hb4⟩
      rw [u8At_first _ (by have h1 := HLE.out; simp; omega) (dec_drop c HC.out k hk1 (by rw [HLE.out]; exact hlt))]
      have HB4 := Lib.hid (HB3.out.trans (hb4.mono HB3.out.size))
      clear hb4
      go_wp2_with fail
      go_roundw
      case rel => exact ⟨HB4.out, k + 1, by omega, by omega, by go_num⟩
      case measure => simp [intOf]; omega
    · have hsrc : SrcRow wr (some ⟨w1.heap.size, 0, none⟩) L K (u8s (enc c)) := by
        have h1 := HLE.out
        refine ⟨by simp [u8s, h1], fun u hu => ?_, .inr ⟨_, rfl, fun j u hu => ?_⟩⟩
        · obtain ⟨z, _, rfl⟩ := List.mem_map.1 hu
          rfl
        · have hj : j < (enc c).length := by
            have := (List.getElem?_eq_some_iff.1 hu).1
            simpa [u8s] using this
          rw [Go.WideShapes.add_plain, Nat.zero_add, HR.out.cell (p := ⟨w1.heap.size, j, none⟩) (by omega), HC2.out j (by omega)]
          simpa [u8s, List.getD, hj] using hu
      have HS := Lib.hid hsrc
      have HBr := Lib.hid (HB2.out.trans (HR.out.mono HB2.out.size))
      have hwr2 : w.heap.size ≤ wr.heap.size := HBr.out.size
      clear hsrc
      go_wp2_with (first | (at_builtin; refine wpList_app_u8 rfl (.tmp 90) (.tmp 91) 29 29 rfl wr.heap.size 5 i0 (.int .u8 0) Tryd.underlying29 I1.out I2.out I3.out I4.out rfl wr.heap.size 0 0 [] rfl (World.ownsRow_made wr #[] 0 (Nat.le_refl _) (Nat.zero_le _) rfl) (.slice (some ⟨w1.heap.size, 0, none⟩) L K) L (enc c) rfl ((srcRow_alloc HS.out (.cells #[] 5)).toSrc Tryd.underlying29) (by omega) (by simp) ?_; intro g5 c5 w5 hown5 hb5; have hown5' : OwnR w5 wr.heap.size 5 g5 L c5 (enc c) := by rw [Nat.zero_add, List.nil_append] at hown5; exact hown5) | (at_builtin; refine wpList_app_u8 rfl (.tmp 92) (.tmp 93) 29 29 rfl wr.heap.size 5 i0 (.int .u8 0) Tryd.underlying29 I1.out I2.out I3.out I4.out rfl g5 L c5 (enc c) rfl hown5' (.slice a1 len cap) len (zs.take len) rfl ((HZ.out.src (HBr.out.trans ((((Below.refl _ wr).alloc (Nat.le_refl _) _).trans hb5).mono hwr2))).toSrc Tryd.underlying29) (by omega) (by exact Nat.le_trans (Nat.le_of_lt (by simp)) hb5.size) ?_; intro g6 c6 w6 hown6 hb6))
      have HB6 := Lib.hid (HBr.out.trans (((((Below.refl _ wr).alloc (Nat.le_refl _) _).trans hb5).trans hb6).mono hwr2))
      obtain ⟨hl6, _, hg6, hc6, _, hcell6, _⟩ := hown6.facts
      have HC6 := Lib.hid hcell6
      have HL6 := Lib.hid hl6
      clear hown5 hown5' hb5 hown6 hb6 hcell6 hl6
      refine (wutf8_off g6 0 c6 (L + len) (enc c ++ zs.take len) w6 (HT.out.below (Nat.le_refl _) HB6.out) (enc_append_bd c HC.out _ HW.out) hg6 (fun i hi => by rw [Nat.zero_add]; exact HC6.out i hi) (by have h1 := HL6.out; omega) (by omega) (by omega)).mono ?_
      rintro e w7 ⟨rfl, hb7⟩
      rw [u8At_enc c HC.out _ HW.out, HLE.out]
      have HB7 := Lib.hid (HB6.out.trans (hb7.mono HB6.out.size))
      clear hb7
      have hrange := u8At_range (zs.take len) 0
      rw [HL.out] at hrange
      go_wp2_with fail
      refine (wutf8_gen a1 cap len (zs.take len) w7 (HT.out.below (Nat.le_refl _) HB7.out) (HZ.out.bytes HB7.out) HL.out (by omega) hl).mono ?_
      rintro e w8 ⟨rfl, hb8⟩
      have HB8 := Lib.hid (HB7.out.trans (hb8.mono HB7.out.size))
      clear hb8
      generalize u8At (zs.take len) 0 = U at hrange
      by_cases hU : U < 0
      · rw [show shiftBy L U = -1 from if_pos hU]
        go_wp2
        go_ret
        exact ⟨rfl, HB8.out⟩
      · rw [show shiftBy L U = L + U from if_neg hU]
        have hU' : 0 ≤ U := by omega
        clear hU
        go_wp2
        go_ret
        exact ⟨rfl, HB8.out⟩
theorem i32_mask (x : Int) (h0 : 0 ≤ x) (h1 : x < 2147483648) (k : Nat) (hk : k ≤ 31) : bits BinOp.and .i32 x (2 ^ k - 1) = x % 2 ^ k :=
  bits_mask .i32 31 (by decide) (fun n h0 h1 => IntWalk.i32_in n ⟨by omega, by omega⟩) k hk x h0 h1
theorem own_raw3 (w : World) (x : Int) (c : Nat) (hx : (c : Int) = x) (base : Nat) (hb : base ≤ w.heap.size) :
    OwnR (w.alloc (.cells #[.int .u8 (224 + x / 4096 % 16), .int .u8 (128 + x / 64 % 64), .int .u8 (128 + x % 64)] 5)) base 5 w.heap.size 3 3 (raw3 c) := by
  refine ⟨by simp [u8s, raw3], .inr ⟨w.heap.size, 3, _, rfl, hb, heap_alloc_new w _, Nat.le_refl _, by decide, rfl, ?_⟩⟩
  subst hx
  simp [u8s, raw3]
theorem own_raw4 (w : World) (x : Int) (c : Nat) (hx : (c : Int) = x) (base g : Nat) (hg : w.heap.size = g) (hb : base ≤ g) :
    OwnR (w.alloc (.cells #[.int .u8 (240 + x / 262144 % 8), .int .u8 (128 + x / 4096 % 64), .int .u8 (128 + x / 64 % 64), .int .u8 (128 + x % 64)] 5)) base 5 g 4 4 (raw4 c) := by
  subst hg
  refine ⟨by simp [u8s, raw4], .inr ⟨w.heap.size, 4, _, rfl, hb, heap_alloc_new w _, Nat.le_refl _, by decide, rfl, ?_⟩⟩
  subst hx
  simp [u8s, raw4]
set_option maxRecDepth 100000 in
set_option maxHeartbeats 2000000 in
theorem runes_half (r : Int) (c : Nat) (a1 : Option Addr) (len cap : Nat) (zs : List Int) (w : World) (hr : r % 2097152 = c) (hc1 : 55296 ≤ c) (hc2 : c < 57344) (hz : IsRow .u8 w a1 len cap zs) (hbig : (len : Int) ≤ 100) (hT : Tabs w) :
    Calls Tryd.prog 9 #[.int .i32 r, .slice a1 len cap] w fun e w' => e = .returned (.bool true) ∧ Below w.heap.size w w' := by
  have HA := Lib.hid (awake_any w hT)
  have HT := Lib.hid hT
  have HZ := Lib.hid hz
  obtain ⟨hl, hm, hzl, hwf, hp⟩ := hz
  unfold maxLen at hm
  have HW := Lib.hid (bytes_wf (take_wf (m := len) hwf))
  have HL := Lib.hid (show (zs.take len).length = len by simp; omega)
  have HC := Lib.hid (show 55296 ≤ c ∧ c < 57344 by omega)
  obtain ⟨x, hx⟩ : ∃ x : Int, (c : Int) = x := ⟨_, rfl⟩
  have hand : bits BinOp.and IntKind.i32 r 2097151 = x := by rw [and_i32, hr, hx]
  have h1 : 55296 ≤ x := by omega
  have h2 : x < 57344 := by omega
  have m1 : bits BinOp.and .i32 (x / 4096) 15 = x / 4096 % 16 := i32_mask (x / 4096) (by omega) (by omega) 4 (by decide)
  have m2 : bits BinOp.and .i32 (x / 64) 63 = x / 64 % 64 := i32_mask (x / 64) (by omega) (by omega) 6 (by decide)
  have m3 : bits BinOp.and .i32 x 63 = x % 64 := i32_mask x (by omega) (by omega) 6 (by decide)
  have w1 : IntKind.u8.wrap (x / 4096 % 16) = x / 4096 % 16 := IntWalk.u8_in _ ⟨by omega, by omega⟩
  have w2 : IntKind.u8.wrap (x / 64 % 64) = x / 64 % 64 := IntWalk.u8_in _ ⟨by omega, by omega⟩
  have w3 : IntKind.u8.wrap (x % 64) = x % 64 := IntWalk.u8_in _ ⟨by omega, by omega⟩
  have o1 : bits BinOp.or .u8 224 (x / 4096 % 16) = 224 + x / 4096 % 16 := u8_or224 _ (by omega) (by omega)
  have o2 : bits BinOp.or .u8 128 (x / 64 % 64) = 128 + x / 64 % 64 := u8_or128 _ (by omega) (by omega)
  have o3 : bits BinOp.or .u8 128 (x % 64) = 128 + x % 64 := u8_or128 _ (by omega) (by omega)
  have HX := Lib.hid hx
  clear hT hwf hp hzl hr hx hc1 hc2
  obtain ⟨i0, hi0, hz0, hz1, hz2⟩ := info_parts u8_info
  have I1 := Lib.hid hi0
  have I2 := Lib.hid hz0
  have I3 := Lib.hid hz1
  have I4 := Lib.hid hz2
  clear hi0 hz0 hz1 hz2
  go_enter Tryd.func9, Tryd.ntmps9
  go_wp2_with fail
  refine HA.out.mono ?_
  rintro e w1 ⟨rfl, hb⟩
  obtain ⟨s, n, K, w2, hs, hconv, hb2⟩ := conv_any c w1
  subst hs
  rw [HX.out] at hconv
  have HB2 := Lib.hid (hb.trans (hb2.mono hb.size))
  have hw1 := hb.size
  have hw2 := hb2.size
  clear hb hb2
  go_wp2_with (at_builtin; refine wpList_app_u8 rfl (.tmp 67) (.tmp 68) 29 29 rfl w2.heap.size 5 i0 (.int .u8 0) Tryd.underlying29 I1.out I2.out I3.out I4.out rfl w2.heap.size 3 3 (raw3 c) rfl (own_raw3 w2 x c HX.out w2.heap.size (by simp)) (.slice a1 len cap) len (zs.take len) rfl ((HZ.out.src (HB2.out.alloc (Nat.le_trans hw1 hw2) _)).toSrc Tryd.underlying29) (by omega) (by simp) ?_; intro g6 c6 w6 hown6 hb6)
  have HB6 := Lib.hid ((HB2.out.alloc (Nat.le_trans hw1 hw2) _).trans (hb6.mono (Nat.le_trans hw1 hw2)))
  obtain ⟨hl6, _, hg6, hc6, _, hcell6, _⟩ := hown6.facts
  have HC6 := Lib.hid hcell6
  have HL6 := Lib.hid hl6
  clear hown6 hb6 hcell6 hl6
  refine (wutf8_off g6 0 c6 (3 + len) (raw3 c ++ zs.take len) w6 (HT.out.below (Nat.le_refl _) HB6.out) (raw3_bd c _ HW.out) hg6 (fun i hi => by rw [Nat.zero_add]; exact HC6.out i hi) (by have h1 := HL6.out; omega) (by omega) (by omega)).mono ?_
  rintro e w7 ⟨rfl, hb7⟩
  rw [u8At_first _ (by have h1 := HL6.out; omega) (dec_raw3 c HC.out _ HW.out)]
  have HB7 := Lib.hid (HB6.out.trans (hb7.mono HB6.out.size))
  clear hb7
  go_wp2
  go_ret
  exact ⟨rfl, HB7.out⟩
set_option maxRecDepth 100000 in
set_option maxHeartbeats 2000000 in
theorem runes_over (r : Int) (c : Nat) (a1 : Option Addr) (len cap : Nat) (zs : List Int) (w : World) (hr : r % 2097152 = c) (hc1 : 1114111 < c) (hz : IsRow .u8 w a1 len cap zs) (hbig : (len : Int) ≤ 100) (hT : Tabs w) :
    Calls Tryd.prog 9 #[.int .i32 r, .slice a1 len cap] w fun e w' => e = .returned (.bool true) ∧ Below w.heap.size w w' := by
  have HA := Lib.hid (awake_any w hT)
  have HT := Lib.hid hT
  have HZ := Lib.hid hz
  obtain ⟨hl, hm, hzl, hwf, hp⟩ := hz
  unfold maxLen at hm
  have HW := Lib.hid (bytes_wf (take_wf (m := len) hwf))
  have HL := Lib.hid (show (zs.take len).length = len by simp; omega)
  have HC := Lib.hid (show 1114111 < c ∧ c < 2097152 by omega)
  obtain ⟨x, hx⟩ : ∃ x : Int, (c : Int) = x := ⟨_, rfl⟩
  have hand : bits BinOp.and IntKind.i32 r 2097151 = x := by rw [and_i32, hr, hx]
  have h1 : 1114111 < x := by omega
  have h2 : x < 2097152 := by omega
  have m1 : bits BinOp.and .i32 (x / 4096) 15 = x / 4096 % 16 := i32_mask (x / 4096) (by omega) (by omega) 4 (by decide)
  have m2 : bits BinOp.and .i32 (x / 64) 63 = x / 64 % 64 := i32_mask (x / 64) (by omega) (by omega) 6 (by decide)
  have m3 : bits BinOp.and .i32 x 63 = x % 64 := i32_mask x (by omega) (by omega) 6 (by decide)
  have w1 : IntKind.u8.wrap (x / 4096 % 16) = x / 4096 % 16 := IntWalk.u8_in _ ⟨by omega, by omega⟩
  have w2 : IntKind.u8.wrap (x / 64 % 64) = x / 64 % 64 := IntWalk.u8_in _ ⟨by omega, by omega⟩
  have w3 : IntKind.u8.wrap (x % 64) = x % 64 := IntWalk.u8_in _ ⟨by omega, by omega⟩
  have o1 : bits BinOp.or .u8 224 (x / 4096 % 16) = 224 + x / 4096 % 16 := u8_or224 _ (by omega) (by omega)
  have o2 : bits BinOp.or .u8 128 (x / 64 % 64) = 128 + x / 64 % 64 := u8_or128 _ (by omega) (by omega)
  have o3 : bits BinOp.or .u8 128 (x % 64) = 128 + x % 64 := u8_or128 _ (by omega) (by omega)
  have m4 : bits BinOp.and .i32 (x / 262144) 7 = x / 262144 % 8 := i32_mask (x / 262144) (by omega) (by omega) 3 (by decide)
  have m5 : bits BinOp.and .i32 (x / 4096) 63 = x / 4096 % 64 := i32_mask (x / 4096) (by omega) (by omega) 6 (by decide)
  have w4 : IntKind.u8.wrap (x / 262144 % 8) = x / 262144 % 8 := IntWalk.u8_in _ ⟨by omega, by omega⟩
  have w5 : IntKind.u8.wrap (x / 4096 % 64) = x / 4096 % 64 := IntWalk.u8_in _ ⟨by omega, by omega⟩
  have o4 : bits BinOp.or .u8 240 (x / 262144 % 8) = 240 + x / 262144 % 8 := u8_or240 _ (by omega) (by omega)
  have o5 : bits BinOp.or .u8 128 (x / 4096 % 64) = 128 + x / 4096 % 64 := u8_or128 _ (by omega) (by omega)
  have HX := Lib.hid hx
  clear hT hwf hp hzl hr hx hc1
  obtain ⟨i0, hi0, hz0, hz1, hz2⟩ := info_parts u8_info
  have I1 := Lib.hid hi0
  have I2 := Lib.hid hz0
  have I3 := Lib.hid hz1
  have I4 := Lib.hid hz2
  clear hi0 hz0 hz1 hz2
  go_enter Tryd.func9, Tryd.ntmps9
  go_wp2_with fail
  refine HA.out.mono ?_
  rintro e w1 ⟨rfl, hb⟩
  obtain ⟨s, n, K, w2, hs, hconv, hb2⟩ := conv_any c w1
  subst hs
  rw [HX.out] at hconv
  have HB2 := Lib.hid (hb.trans (hb2.mono hb.size))
  have hw1 := hb.size
  have hw2 := hb2.size
  clear hb hb2
  go_wp2_with (at_builtin; refine wpList_app_u8 rfl (.tmp 67) (.tmp 68) 29 29 rfl w2.heap.size 5 i0 (.int .u8 0) Tryd.underlying29 I1.out I2.out I3.out I4.out rfl (w2.heap.size + 1) 4 4 (raw4 c) rfl (own_raw4 (w2.alloc (.cells #[.int .u8 (224 + x / 4096 % 16), .int .u8 (128 + x / 64 % 64), .int .u8 (128 + x % 64)] 5)) x c HX.out w2.heap.size (w2.heap.size + 1) (by simp) (by omega)) (.slice a1 len cap) len (zs.take len) rfl ((HZ.out.src ((HB2.out.alloc (Nat.le_trans hw1 hw2) _).alloc (by simp; omega) _)).toSrc Tryd.underlying29) (by omega) (by simp; omega) ?_; intro g6 c6 w6 hown6 hb6)
  have HB6 := Lib.hid (((HB2.out.alloc (Nat.le_trans hw1 hw2) _).alloc (by simp; omega) _).trans (hb6.mono (Nat.le_trans hw1 hw2)))
  obtain ⟨hl6, _, hg6, hc6, _, hcell6, _⟩ := hown6.facts
  have HC6 := Lib.hid hcell6
  have HL6 := Lib.hid hl6
  clear hown6 hb6 hcell6 hl6
  refine (wutf8_off g6 0 c6 (4 + len) (raw4 c ++ zs.take len) w6 (HT.out.below (Nat.le_refl _) HB6.out) (raw4_bd c _ HW.out) hg6 (fun i hi => by rw [Nat.zero_add]; exact HC6.out i hi) (by have h1 := HL6.out; omega) (by omega) (by omega)).mono ?_
  rintro e w7 ⟨rfl, hb7⟩
  rw [u8At_first _ (by have h1 := HL6.out; omega) (dec_raw4 c HC.out _ HW.out)]
  have HB7 := Lib.hid (HB6.out.trans (hb7.mono HB6.out.size))
  clear hb7
  go_wp2
  go_ret
  exact ⟨rfl, HB7.out⟩
set_option maxRecDepth 100000 in
theorem wireRunes_walk (r : Int) (a1 : Option Addr) (len cap : Nat) (zs : List Int) (w : World) (_hr : (Lit.int .i32 r).wf = true) (hz : IsRow .u8 w a1 len cap zs) (hT : Tabs w) :
    Calls Tryd.prog 9 #[.int .i32 r, .slice a1 len cap] w fun e w' => e = .returned (.bool true) ∧ Below w.heap.size w w' := by
  by_cases hbig : (len : Int) ≤ 100
  · obtain ⟨c, hc⟩ := nat_of (r % 2097152) (by omega)
    by_cases h1 : c < 55296
    · exact runes_low r c a1 len cap zs w hc (Or.inl h1) (by omega) hz hbig hT
    by_cases h2 : c < 57344
    · exact runes_half r c a1 len cap zs w hc (by omega) h2 hz hbig hT
    by_cases h3 : c ≤ 1114111
    · exact runes_high r c a1 len cap zs w hc (Or.inr ⟨by omega, h3⟩) (by omega) hz hbig hT
    · exact runes_over r c a1 len cap zs w hc (by omega) hz hbig hT
  · have hbig' : (100 : Int) < len := by omega
    have HA := Lib.hid (awake_any w hT)
    clear hz hT hbig
    go_enter Tryd.func9, Tryd.ntmps9
    go_wp2_with fail
    refine HA.out.mono ?_
    rintro e w1 ⟨rfl, hb⟩
    go_wp2_with fail
    go_ret
    exact ⟨rfl, hb⟩
end Go.Proofs.YtjnpfjiphhnoiaaDoor
