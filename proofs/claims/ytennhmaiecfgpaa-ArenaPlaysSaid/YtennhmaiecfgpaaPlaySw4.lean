/-
  The switch of ArenaPlays, calls of the kinds Align and Set: each way from its head to what follows. Conditions: those that each theorem names.
-/
import Derived.Test.YtennhmaiecfgpaaPlaySw3
import Derived.StillTailTactics
namespace Go.Proofs.Ytennhmaiecfgpaa
open Go.ChangeShapes Go.WideShapes Go.ChangeAt Go.RowKit

section
variable {K : Act → World → Prop} {Q : Exit → Act → World → Prop} {c : Act} {w : World} {most : Int} {a : Option Addr} {len cap base ar k x : Nat} {r L Kd N S U : Int} {D : Option Addr} {dl dc : Nat} {zs news : List Int} {over : Bool} {B : Option Addr} {cb : Nat} {A : Option Addr} {ca : Nat}
set_option maxRecDepth 100000 in
set_option maxHeartbeats 400000 in
theorem sw_align_low (hc : Fr2 most a len cap base ar k x 3 (.int .i64 0) (.bool false) c) (h : Rnd w base ar x L Kd N S U D dl dc zs over B cb zs over A ca 0 false) (hN : N < 1) (hK : After K w most a len cap base ar k x 3 L Kd N S U D dl dc zs) :
    Code.wp Try.prog playSwitch (Exit.then K Q) c w := by
  obtain ⟨u, rfl⟩ := fr2_lit hc
  have HK := Lib.hid hK
  have H := Lib.hid h
  have cN : w.cell? ⟨x, 1, none⟩ = some (.int .i64 N) := by simp [World.cell?, h.hx]
  have cW := cell_of_one h.hw
  have fW := free_of_one h.hw
  clear hc hK h
  conv => arg 2; whnf
  go_wp2_with fail
  refine (align_low hN).mono ?_
  rintro e w1 ⟨rfl, rfl⟩
  go_wp2
  have hs := H.out.setWant 0
  exact HK.out _ _ 0 false zs over B cb A ca ⟨rfl, rfl, rfl, rfl, rfl, rfl, rfl, rfl, rfl, rfl, rfl, rfl, rfl, rfl, rfl, rfl⟩ hs.2 hs.1 (by omega)
set_option maxRecDepth 100000 in
set_option maxHeartbeats 400000 in
theorem sw_align_over (hc : Fr2 most a len cap base ar k x 3 (.int .i64 0) (.bool false) c) (h : Rnd w base ar x L Kd N S U D dl dc zs true B cb zs true A ca 0 false) (hN : 1 ≤ N) (hN1 : N ≤ 9223372036854775807) (hK : After K w most a len cap base ar k x 3 L Kd N S U D dl dc zs) :
    Code.wp Try.prog playSwitch (Exit.then K Q) c w := by
  obtain ⟨u, rfl⟩ := fr2_lit hc
  have HK := Lib.hid hK
  have H := Lib.hid h
  have cN : w.cell? ⟨x, 1, none⟩ = some (.int .i64 N) := by simp [World.cell?, h.hx]
  have r0 := Int.tmod_nonneg N (show (0 : Int) ≤ zs.length by omega)
  have r1 := Int.tmod_lt_of_pos (zs.length : Int) (show 0 < N by omega)
  obtain ⟨q, hq⟩ : ∃ q, (zs.length : Int).tmod N = q := ⟨_, rfl⟩
  rw [hq] at r0 r1
  have hlk : (N - q).tmod N = lack zs.length N := by
    unfold lack
    rw [hq]
    by_cases h0 : q = 0
    · rw [if_pos h0, h0, Int.sub_zero, Int.tmod_self]
    · rw [if_neg h0, Int.tmod_eq_of_lt (by omega) (by omega)]
  obtain ⟨lk, hlk2⟩ : ∃ lk, lack zs.length N = lk := ⟨_, rfl⟩
  have hlb := lack_bd zs.length N (by omega)
  rw [hlk2] at hlk hlb
  rw [Int.tmod_eq_emod_of_nonneg (by omega)] at hlk
  have HLK := Lib.hid hlk
  clear hlk
  have HL2 := Lib.hid hlk2
  have hN0 : N ≠ 0 := by omega
  have HR := Lib.hid (align_no h.arena hN hN1 (.inl rfl))
  clear hc hK h hlk2
  conv => arg 2; whnf
  go_wp2_with fail
  refine HR.out.mono ?_
  rintro e w1 ⟨rfl, hst⟩
  obtain ⟨hb1, A1, ca1, h1⟩ := H.out.stepped hst
  have H1 := Lib.hid h1
  have HB1 := Lib.hid hb1
  have h1d := h1.below ((Below.refl w1.heap.size w1).drew)
  have H1D := Lib.hid h1d
  have cN1 : w1.cell? ⟨x, 1, none⟩ = some (.int .i64 N) := by simp [World.cell?, h1.hx]
  have cB1 := cell_of_one h1.hb
  clear hst hb1 h1 h1d cN
  go_upto_region 36 with fail
  go_still_tail 12, (by kernel_rfl)
  change wpList _ _ _ _ _ w1.drew
  have hdr := HB1.out.drew
  have HDR := Lib.hid hdr
  have hsz : w1.drew.heap.size = w1.heap.size := rfl
  clear hdr hsz
  generalize w1.drew = w2 at *
  go_wp2_with fail
  rw [HLK.out]
  refine (grow_over H1D.out lk).mono ?_
  rintro e w3 ⟨rfl, rfl⟩
  have cW := cell_of_one H1D.out.hw
  have fW := free_of_one H1D.out.hw
  go_wp2
  have hs := H1D.out.setWant 0
  exact HK.out _ _ 0 false zs true B cb A1 ca1 ⟨rfl, rfl, rfl, rfl, rfl, rfl, rfl, rfl, rfl, rfl, rfl, rfl, rfl, rfl, rfl, rfl⟩ hs.2 (HDR.out.trans hs.1) (by omega)
set_option maxRecDepth 100000 in
set_option maxHeartbeats 400000 in
theorem sw_align_no (hc : Fr2 most a len cap base ar k x 3 (.int .i64 0) (.bool false) c) (h : Rnd w base ar x L Kd N S U D dl dc zs false B cb zs false A ca 0 false) (hN : 1 ≤ N) (hN1 : N ≤ 9223372036854775807) (hL0 : 0 ≤ L) (hL1 : L ≤ 9223372036854775807) (hzs : zs.length ≤ 1000000) (hno : L - zs.length < lack zs.length N) (hK : After K w most a len cap base ar k x 3 L Kd N S U D dl dc zs) :
    Code.wp Try.prog playSwitch (Exit.then K Q) c w := by
  obtain ⟨u, rfl⟩ := fr2_lit hc
  have HK := Lib.hid hK
  have H := Lib.hid h
  have cN : w.cell? ⟨x, 1, none⟩ = some (.int .i64 N) := by simp [World.cell?, h.hx]
  have r0 := Int.tmod_nonneg N (show (0 : Int) ≤ zs.length by omega)
  have r1 := Int.tmod_lt_of_pos (zs.length : Int) (show 0 < N by omega)
  obtain ⟨q, hq⟩ : ∃ q, (zs.length : Int).tmod N = q := ⟨_, rfl⟩
  rw [hq] at r0 r1
  have hlk : (N - q).tmod N = lack zs.length N := by
    unfold lack
    rw [hq]
    by_cases h0 : q = 0
    · rw [if_pos h0, h0, Int.sub_zero, Int.tmod_self]
    · rw [if_neg h0, Int.tmod_eq_of_lt (by omega) (by omega)]
  obtain ⟨lk, hlk2⟩ : ∃ lk, lack zs.length N = lk := ⟨_, rfl⟩
  have hlb := lack_bd zs.length N (by omega)
  rw [hlk2] at hlk hlb
  rw [Int.tmod_eq_emod_of_nonneg (by omega)] at hlk
  have HLK := Lib.hid hlk
  clear hlk
  have HL2 := Lib.hid hlk2
  have hN0 : N ≠ 0 := by omega
  rw [hlk2] at hno
  have HR := Lib.hid (align_no h.arena hN hN1 (.inr (by rw [hlk2]; unfold atMost; omega)))
  have HNO := Lib.hid hno
  clear hno
  clear hc hK h hlk2
  conv => arg 2; whnf
  go_wp2_with fail
  refine HR.out.mono ?_
  rintro e w1 ⟨rfl, hst⟩
  obtain ⟨hb1, A1, ca1, h1⟩ := H.out.stepped hst
  have H1 := Lib.hid h1
  have HB1 := Lib.hid hb1
  have h1d := h1.below ((Below.refl w1.heap.size w1).drew)
  have H1D := Lib.hid h1d
  have cN1 : w1.cell? ⟨x, 1, none⟩ = some (.int .i64 N) := by simp [World.cell?, h1.hx]
  have cB1 := cell_of_one h1.hb
  clear hst hb1 h1 h1d cN
  go_upto_region 36 with fail
  go_still_tail 12, (by kernel_rfl)
  change wpList _ _ _ _ _ w1.drew
  have hdr := HB1.out.drew
  have HDR := Lib.hid hdr
  have hsz : w1.drew.heap.size = w1.heap.size := rfl
  clear hdr hsz
  generalize w1.drew = w2 at *
  go_wp2_with fail
  rw [HLK.out]
  refine (grow_no H1D.out lk hL0 hL1 (by omega) (.inr HNO.out)).mono ?_
  rintro e w3 ⟨rfl, hb3, h3⟩
  have H3 := Lib.hid h3
  have HB3 := Lib.hid (HDR.out.trans hb3)
  have cW := cell_of_one h3.hw
  have fW := free_of_one h3.hw
  clear hb3 h3
  go_wp2
  have hs := H3.out.setWant 0
  exact HK.out _ _ 0 false zs true B cb A1 ca1 ⟨rfl, rfl, rfl, rfl, rfl, rfl, rfl, rfl, rfl, rfl, rfl, rfl, rfl, rfl, rfl, rfl⟩ hs.2 (HB3.out.trans hs.1) (by omega)
set_option maxRecDepth 100000 in
set_option maxHeartbeats 400000 in
theorem sw_align_yes (hc : Fr2 most a len cap base ar k x 3 (.int .i64 0) (.bool false) c) (h : Rnd w base ar x L Kd N S U D dl dc zs false B cb zs false A ca 0 false) (hN : 1 ≤ N) (hN1 : N ≤ 9223372036854775807) (hL0 : 0 ≤ L) (hL1 : L ≤ 9223372036854775807) (hzs : zs.length ≤ 1000000) (hg : N ≤ 5000 ∨ L ≤ 5000) (hyes : lack zs.length N ≤ L - zs.length) (hK : After K w most a len cap base ar k x 3 L Kd N S U D dl dc zs) :
    Code.wp Try.prog playSwitch (Exit.then K Q) c w := by
  obtain ⟨u, rfl⟩ := fr2_lit hc
  have HK := Lib.hid hK
  have H := Lib.hid h
  have cN : w.cell? ⟨x, 1, none⟩ = some (.int .i64 N) := by simp [World.cell?, h.hx]
  have r0 := Int.tmod_nonneg N (show (0 : Int) ≤ zs.length by omega)
  have r1 := Int.tmod_lt_of_pos (zs.length : Int) (show 0 < N by omega)
  obtain ⟨q, hq⟩ : ∃ q, (zs.length : Int).tmod N = q := ⟨_, rfl⟩
  rw [hq] at r0 r1
  have hlk : (N - q).tmod N = lack zs.length N := by
    unfold lack
    rw [hq]
    by_cases h0 : q = 0
    · rw [if_pos h0, h0, Int.sub_zero, Int.tmod_self]
    · rw [if_neg h0, Int.tmod_eq_of_lt (by omega) (by omega)]
  obtain ⟨lk, hlk2⟩ : ∃ lk, lack zs.length N = lk := ⟨_, rfl⟩
  have hlb := lack_bd zs.length N (by omega)
  rw [hlk2] at hlk hlb
  rw [Int.tmod_eq_emod_of_nonneg (by omega)] at hlk
  have HLK := Lib.hid hlk
  clear hlk
  have HL2 := Lib.hid hlk2
  have hN0 : N ≠ 0 := by omega
  rw [hlk2] at hyes
  have HR := Lib.hid (align_yes h.arena hN hN1 (by rw [hlk2]; unfold atMost; omega) (by have := h.o1; have := h.o2; have := h.o3; omega))
  have HYES := Lib.hid hyes
  have hlk5 : lk ≤ 5000 := by omega
  clear hyes
  clear hc hK h hlk2
  conv => arg 2; whnf
  go_wp2_with fail
  refine HR.out.mono ?_
  rintro e w1 ⟨rfl, hst⟩
  rw [HL2.out] at hst
  obtain ⟨hb1, A1, ca1, h1⟩ := H.out.stepped hst
  have H1 := Lib.hid h1
  have HB1 := Lib.hid hb1
  have h1d := h1.below ((Below.refl w1.heap.size w1).drew)
  have H1D := Lib.hid h1d
  have cN1 : w1.cell? ⟨x, 1, none⟩ = some (.int .i64 N) := by simp [World.cell?, h1.hx]
  have cB1 := cell_of_one h1.hb
  clear hst hb1 h1 h1d cN
  go_upto_region 36 with fail
  go_still_tail 12, (by kernel_rfl)
  change wpList _ _ _ _ _ w1.drew
  have hdr := HB1.out.drew
  have HDR := Lib.hid hdr
  have hsz : w1.drew.heap.size = w1.heap.size := rfl
  clear hdr hsz
  generalize w1.drew = w2 at *
  go_wp2_with fail
  rw [HLK.out]
  refine (grow_yes H1D.out lk hL1 hlb.1 HYES.out (by omega)).mono ?_
  rintro e w3 ⟨rfl, hb3, B3, cb3, h3⟩
  have H3 := Lib.hid h3
  have HB3 := Lib.hid (HDR.out.trans hb3)
  have cW := cell_of_one h3.hw
  have fW := free_of_one h3.hw
  clear hb3 h3
  go_wp2
  have hs := H3.out.setWant 0
  exact HK.out _ _ 0 true _ false B3 cb3 A1 ca1 ⟨rfl, rfl, rfl, rfl, rfl, rfl, rfl, rfl, rfl, rfl, rfl, rfl, rfl, rfl, rfl, rfl⟩ hs.2 (HB3.out.trans hs.1) (by rw [List.length_append]; simp [zeros]; omega)
end
end Go.Proofs.Ytennhmaiecfgpaa
