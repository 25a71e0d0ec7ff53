/-
  What Room, Put, Num, Align, Set and Bytes do to an arena, each by a walk of its text. Conditions: those that each theorem names.
-/
import Derived.Test.YtennhmaiecfgpaaArena
namespace Go.Proofs.Ytennhmaiecfgpaa
open Go.ChangeShapes Go.WideShapes Go.ChangeAt Go.RowKit

theorem room_yes {w : World} {base b : Nat} {A : Option Addr} {cap : Nat} {zs : List Int} {most n : Int} (h : IsArena w base b A cap zs most false) (h0 : 0 ≤ n) (h1 : n ≤ most - zs.length) (hbase : base ≤ w.heap.size) :
    Calls Try.prog 9 #[.pointer (some ⟨b, 0, none⟩), .int .i64 n] w fun e w' => e = .returned (.tuple #[.int .i64 zs.length, .bool true]) ∧ Stepped w w' base b A (zs ++ zeros n.toNat) most false := by
  obtain ⟨n, rfl⟩ := Int.eq_ofNat_of_zero_le h0
  rw [Int.toNat_natCast]
  have H := Lib.hid h
  obtain ⟨i0, hi0, hz0, hz1, hz2⟩ := info_parts u8_info
  have I1 := Lib.hid hi0
  have I2 := Lib.hid hz0
  have I3 := Lib.hid hz1
  have I4 := Lib.hid hz2
  have c0 := h.c0
  have c1 := h.c1
  have c2 := h.c2
  have hf := h.fits
  have hbd := h.bound
  clear hi0 hz0 hz1 hz2 h
  go_enter Try.func9, Try.ntmps9
  go_wp2_with (first | (go_at_call 20; refine (next_yes _ _ _ _ (by omega) (by omega) (by omega) (by omega) (by omega)).mono ?_; rintro e w' ⟨rfl, rfl⟩) | (at_builtin; refine wpList_app_zeros _ rfl (.tmp 41) (.tmp 42) 26 3 rfl base 5 i0 Try.underlying26 Try.underlying3 I1.out I2.out I3.out I4.out A cap zs zs.length n rfl rfl H.out.own rfl (by omega) hbase ?_; intro A2 cap2 w2 hown2 hg2 hfr2; have hbk := hg2.block _ H.out.lt (fun e => H.out.ne e.symm); have d0 := (World.cell?_of_block (w := w) (a := ⟨b, 0, none⟩) hbk).trans H.out.c0; have e0 := (World.frozen?_of_block (w := w) (a := ⟨b, 0, none⟩) hbk).trans H.out.f0; have HO := Lib.hid hown2; have HG := Lib.hid hg2; have HF := Lib.hid hfr2; have HK := Lib.hid hbk; clear hown2 hg2 hfr2 hbk))
  go_ret2
  exact ⟨rfl, stepped_grown H.out HO.out HG.out HF.out h1⟩
theorem room_no {w : World} {base b : Nat} {A : Option Addr} {cap : Nat} {zs : List Int} {most n : Int} {over : Bool} (h : IsArena w base b A cap zs most over) (hn : over = true ∨ n < 0 ∨ most - zs.length < n) :
    Calls Try.prog 9 #[.pointer (some ⟨b, 0, none⟩), .int .i64 n] w fun e w' => e = .returned (.tuple #[.int .i64 0, .bool false]) ∧ Stepped w w' base b A zs most true := by
  have H := Lib.hid h
  have c0 := h.c0
  have c1 := h.c1
  have c2 := h.c2
  have g2 := h.f2
  have hf := h.fits
  have hbd := h.bound
  clear h
  cases over with
  | true =>
    clear hn
    go_enter Try.func9, Try.ntmps9
    go_wp2
    go_ret2
    exact ⟨rfl, A, cap, H.out, Moved.refl _ _ _, Fresh.refl _ _⟩
  | false =>
    have hn' : (zs.length : Int) < 0 ∨ n < 0 ∨ most < zs.length ∨ most - zs.length < n := by
      rcases hn with h | h | h
      · cases h
      · omega
      · omega
    clear hn
    go_enter Try.func9, Try.ntmps9
    go_wp2_with (go_at_call 20; refine (next_no _ _ _ _ hn' (by omega)).mono ?_; rintro e w' ⟨rfl, rfl⟩)
    go_ret2
    exact ⟨rfl, stepped_over H.out⟩
theorem num_unsized {w : World} {s n : Int} (hs : ¬ (s = 1 ∨ s = 2 ∨ s = 4 ∨ s = 8)) (b : Nat) :
    Calls Try.prog 11 #[.pointer (some ⟨b, 0, none⟩), .int .i64 s, .int .u64 n] w fun e w' => e = .returned (.tuple #[.int .i64 0, .bool false]) ∧ w = w' := by
  go_enter Try.func11, Try.ntmps11
  go_wp2_with (go_at_call 21; refine (sized_no _ _ hs).mono ?_; rintro e w' ⟨rfl, rfl⟩)
  go_ret2
  exact ⟨rfl, rfl⟩
theorem stepped_store {w w' : World} {base b g : Nat} {cap : Nat} {zs zs' : List Int} {most : Int} {over : Bool} (h : IsArena w base b (some ⟨g, 0, none⟩) cap zs most over) (ho : OwnR w' base 5 g zs.length cap zs') (hg : w.grownBy w' (some g)) : Stepped w w' base b (some ⟨g, 0, none⟩) zs' most over := by
  have hl := ho.facts.1
  have hbk := hg.block _ h.lt (fun e => h.ne e.symm)
  have hc : ∀ j, w'.cell? ⟨b, j, none⟩ = w.cell? ⟨b, j, none⟩ := fun j => World.cell?_of_block (w := w) (a := ⟨b, j, none⟩) hbk
  have hz : ∀ j, w'.frozen? ⟨b, j, none⟩ = w.frozen? ⟨b, j, none⟩ := fun j => World.frozen?_of_block (w := w) (a := ⟨b, j, none⟩) hbk
  exact ⟨_, cap, ⟨by rw [hl, hc]; exact h.c0, by rw [hc]; exact h.c1, by rw [hc]; exact h.c2, by rw [hz]; exact h.f0, by rw [hz]; exact h.f1, by rw [hz]; exact h.f2, ho.toV, h.ne, h.low, Nat.lt_of_lt_of_le h.lt hg.size, by rw [hl]; exact h.fits, h.bound⟩, (Moved.refl _ _ _).grown hg, Fresh.refl _ _⟩
theorem set_yes {w : World} {base b : Nat} {A : Option Addr} {cap : Nat} {zs : List Int} {most a s n : Int} (h : IsArena w base b A cap zs most false) (h0 : 0 ≤ a) (h2 : a ≤ zs.length) (h3 : s ≤ zs.length - a) (hs : s = 1 ∨ s = 2 ∨ s = 4 ∨ s = 8) :
    Calls Try.prog 15 #[.pointer (some ⟨b, 0, none⟩), .int .i64 a, .int .i64 s, .int .u64 n] w fun e w' => e = .returned (.bool true) ∧ Stepped w w' base b A (laidOver zs a.toNat n s.toNat) most false := by
  have hf := h.fits
  have hbd := h.bound
  rcases h.own.nil_or with ⟨_, _, hz⟩ | ⟨g, rfl, hr⟩
  · rw [hz] at h3 h2; simp at h3 h2; omega
  have H := Lib.hid h
  have HR := Lib.hid hr
  have c0 := h.c0
  have c2 := h.c2
  clear h hr
  go_enter Try.func15, Try.ntmps15
  go_wp2_with (go_at_call 23; refine (store_yes base g zs.length cap a s n _ zs HR.out (by omega) h0 h2 h3 hs).mono ?_; rintro e w' ⟨rfl, ho, hg⟩; have HO := Lib.hid ho; have HG := Lib.hid hg; clear ho hg)
  go_ret
  exact ⟨rfl, stepped_store H.out HO.out HG.out⟩
theorem set_no {w : World} {base b : Nat} {A : Option Addr} {cap : Nat} {zs : List Int} {most a s n : Int} {over : Bool} (h : IsArena w base b A cap zs most over) (hn : over = true ∨ ¬ (s = 1 ∨ s = 2 ∨ s = 4 ∨ s = 8) ∨ a < 0 ∨ (zs.length : Int) < a ∨ zs.length - a < s) :
    Calls Try.prog 15 #[.pointer (some ⟨b, 0, none⟩), .int .i64 a, .int .i64 s, .int .u64 n] w fun e w' => e = .returned (.bool false) ∧ w = w' := by
  have hf := h.fits
  have hbd := h.bound
  have c0 := h.c0
  have c2 := h.c2
  clear h
  cases over with
  | true =>
    clear hn
    go_enter Try.func15, Try.ntmps15
    go_wp2
    go_ret
    exact ⟨rfl, rfl⟩
  | false =>
    have hn' : ¬ (s = 1 ∨ s = 2 ∨ s = 4 ∨ s = 8) ∨ a < 0 ∨ (zs.length : Int) < a ∨ zs.length - a < s := by
      rcases hn with h | h
      · cases h
      · exact h
    have HN := Lib.hid hn'
    clear hn hn'
    go_enter Try.func15, Try.ntmps15
    go_wp2_with (go_at_call 23; refine (store_no _ _ _ _ _ _ _ (by omega) HN.out).mono ?_; rintro e w' ⟨rfl, rfl⟩)
    go_ret
    exact ⟨rfl, rfl⟩
theorem num_yes {w : World} {base b : Nat} {A : Option Addr} {cap : Nat} {zs : List Int} {most s n : Int} (h : IsArena w base b A cap zs most false) (hs : s = 1 ∨ s = 2 ∨ s = 4 ∨ s = 8) (h1 : s ≤ most - zs.length) (hbase : base ≤ w.heap.size) :
    Calls Try.prog 11 #[.pointer (some ⟨b, 0, none⟩), .int .i64 s, .int .u64 n] w fun e w' => e = .returned (.tuple #[.int .i64 zs.length, .bool true]) ∧ Stepped w w' base b A (laidOver (zs ++ zeros s.toNat) zs.length n s.toNat) most false := by
  have H := Lib.hid h
  have HS := Lib.hid hs
  have hs0 : 0 ≤ s := by omega
  clear h hs
  go_enter Try.func11, Try.ntmps11
  go_wp2_with fail
  refine (sized_yes _ _ HS.out).mono ?_
  rintro e w' ⟨rfl, rfl⟩
  go_wp2_with fail
  refine (room_yes H.out hs0 h1 hbase).mono ?_
  rintro e w1 ⟨rfl, A1, cap1, hA1, hm1, hf1⟩
  have H1 := Lib.hid hA1
  have HM := Lib.hid hm1
  have HF := Lib.hid hf1
  have hl : (zs ++ zeros s.toNat).length = zs.length + s.toNat := by simp [zeros]
  have HL := Lib.hid hl
  clear hA1 hm1 hf1 hl
  go_wp2_with fail
  refine (set_yes (a := zs.length) (s := s) (n := n) H1.out (by omega) (by rw [HL.out]; omega) (by rw [HL.out]; omega) HS.out).mono ?_
  rintro e w2 ⟨rfl, hst⟩
  have HST := Lib.hid hst
  clear hst
  go_wp2
  go_ret2
  rw [Int.toNat_natCast] at HST
  exact ⟨rfl, HST.out.trans HM.out HF.out⟩
theorem num_no {w : World} {base b : Nat} {A : Option Addr} {cap : Nat} {zs : List Int} {most s n : Int} {over : Bool} (h : IsArena w base b A cap zs most over) (hs : s = 1 ∨ s = 2 ∨ s = 4 ∨ s = 8) (hn : over = true ∨ most - zs.length < s) :
    Calls Try.prog 11 #[.pointer (some ⟨b, 0, none⟩), .int .i64 s, .int .u64 n] w fun e w' => e = .returned (.tuple #[.int .i64 0, .bool false]) ∧ Stepped w w' base b A zs most true := by
  have H := Lib.hid h
  have HS := Lib.hid hs
  have HN : Hid (over = true ∨ s < 0 ∨ most - zs.length < s) := Lib.hid (by rcases hn with h | h; exact .inl h; exact .inr (.inr h))
  clear h hs hn
  go_enter Try.func11, Try.ntmps11
  go_wp2_with fail
  refine (sized_yes _ _ HS.out).mono ?_
  rintro e w' ⟨rfl, rfl⟩
  go_wp2_with fail
  refine (room_no H.out HN.out).mono ?_
  rintro e w1 ⟨rfl, hst⟩
  have HST := Lib.hid hst
  clear hst
  go_wp2
  go_ret2
  exact ⟨rfl, HST.out⟩
/-- How many bytes bring a length to a multiple. -/
def lack (len : Nat) (n : Int) : Int := if (len : Int).tmod n = 0 then 0 else n - (len : Int).tmod n
theorem lack_bd (len : Nat) (n : Int) (hn : 1 ≤ n) : 0 ≤ lack len n ∧ lack len n < n := by
  have h1 := Int.tmod_nonneg n (show (0 : Int) ≤ len by omega)
  have h2 := Int.tmod_lt_of_pos (len : Int) (show 0 < n by omega)
  unfold lack
  split <;> omega
theorem align_low {w : World} {b : Nat} {n : Int} (hn : n < 1) :
    Calls Try.prog 14 #[.pointer (some ⟨b, 0, none⟩), .int .i64 n] w fun e w' => e = .returned (.bool false) ∧ w = w' := by
  go_enter Try.func14, Try.ntmps14
  go_wp2
  go_ret
  exact ⟨rfl, rfl⟩
end Go.Proofs.Ytennhmaiecfgpaa
