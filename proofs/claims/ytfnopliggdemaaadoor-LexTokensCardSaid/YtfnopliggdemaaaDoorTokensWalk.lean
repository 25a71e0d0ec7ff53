/-
  The law LexTokens returns true at all texts and all masks: a walk over the callees' contracts. Condition: the library's tables and its variable ErrRange hold what the row lists.
-/
import Derived.Test.YtfnopliggdemaaaDoorRefSame
import Derived.Test.YtfnopliggdemaaaDoorLAwake
import Derived.Laws.RangeString
namespace Go.Proofs.YtfnopliggdemaaaDoor
open Go.ChangeShapes Go.WideShapes Go.ChangeAt Go.RowKit Go.Shelf

theorem signs_size : (⟨#[123, 125, 58, 59, 61, 44, 60, 62, 46, 91, 93, 42, 33, 38, 124, 40, 41, 35, 63, 45]⟩ : ByteArray).size = 20 := rfl
theorem signs_ascii (k : Nat) (h : k < (⟨#[123, 125, 58, 59, 61, 44, 60, 62, 46, 91, 93, 42, 33, 38, 124, 40, 41, 35, 63, 45]⟩ : ByteArray).size) : ((⟨#[123, 125, 58, 59, 61, 44, 60, 62, 46, 91, 93, 42, 33, 38, 124, 40, 41, 35, 63, 45]⟩ : ByteArray)[k]'h).toNat < 128 := by
  have : ∀ k (h : k < 20), ((⟨#[123, 125, 58, 59, 61, 44, 60, 62, 46, 91, 93, 42, 33, 38, 124, 40, 41, 35, 63, 45]⟩ : ByteArray)[k]'h).toNat < 128 := by decide
  exact this k h
theorem toksF_len (ok : List Int → Bool) (sg : Int → Bool) (zs : List Int) : ∀ (f i : Nat) (l0 : List Tok), f + l0.length = 2049 → l0.length ≤ 2048 → (toksF ok sg zs f i l0).1.length ≤ 2048
  | 0, i, l0, h, h2 => by omega
  | f + 1, i, l0, h, h2 => by
    simp only [toksF]
    by_cases h3 : l0.length = 2048
    · rw [if_pos h3]
      exact Nat.zero_le _
    · rw [if_neg h3]
      cases tok ok sg zs (gap zs i) with
      | none => exact Nat.zero_le _
      | some x =>
        obtain ⟨t, e⟩ := x
        simp only
        split
        · simp only [List.length_append, List.length_singleton]
          omega
        · exact toksF_len ok sg zs f e (l0 ++ [t]) (by simp only [List.length_append, List.length_singleton]; omega) (by simp only [List.length_append, List.length_singleton]; omega)
theorem toks_len (ok : List Int → Bool) (sg : Int → Bool) (zs : List Int) : (toks ok sg zs).1.length ≤ 2048 := by
  unfold toks
  split
  · exact Nat.zero_le _
  · exact toksF_len ok sg zs 2049 0 [] rfl (Nat.zero_le _)
set_option maxRecDepth 100000 in
set_option maxHeartbeats 2000000 in
theorem lexTokens_walk (s : ByteArray) (m : Int) (w : World) (hs : s.size ≤ 9223372036854775807) (_hm : (Lit.int .u32 m).wf = true) (hT : Tabs w) (hE : ErrV w) :
    Calls Tryd.prog 3 #[.string s, .int .u32 m] w fun e w' => e = .returned (.bool true) ∧ Below w.heap.size w w' := by
  have HA := Lib.hid (awake_any w hT hE)
  have HT := Lib.hid hT
  clear hT hE
  by_cases h20 : 20000 < s.size
  · go_enter Tryd.func3, Tryd.ntmps3
    go_wp2_with fail
    refine HA.out.mono ?_
    rintro e W1 ⟨rfl, hb1⟩
    go_wp2
    go_ret
    exact ⟨rfl, hb1⟩
  · go_enter Tryd.func3, Tryd.ntmps3
    go_wp2_with fail
    refine HA.out.mono ?_
    rintro e W1 ⟨rfl, hb1⟩
    have HB1 := Lib.hid hb1
    clear hb1
    go_wp2
    go_loopw [5] (fun sm w' => ∃ (pos : Nat) (S : ByteArray), pos ≤ 20 ∧ w' = W1.iter ⟨#[123, 125, 58, 59, 61, 44, 60, 62, 46, 91, 93, 42, 33, 38, 124, 40, 41, 35, 63, 45]⟩ pos ∧ sm = .string S ∧ S.size ≤ pos) (fun _ w' => 20 - w'.iterPos W1.heap.size)
    case atStart => exact ⟨0, ⟨#[]⟩, Nat.zero_le _, rfl, rfl, Nat.zero_le _⟩
    case round =>
      obtain ⟨pos, S, hp, rfl, rfl, hS⟩ := hrel
      by_cases hlt : pos < 20
      · have hnx : ∀ ty, (Instr.next (.pointer (some ⟨W1.heap.size, 0, none⟩)) true ty).run Tryd.prog (W1.iter ⟨#[123, 125, 58, 59, 61, 44, 60, 62, 46, 91, 93, 42, 33, 38, 124, 40, 41, 35, 63, 45]⟩ pos) = _ := fun ty => run_next_ascii W1 ⟨#[123, 125, 58, 59, 61, 44, 60, 62, 46, 91, 93, 42, 33, 38, 124, 40, 41, 35, 63, 45]⟩ pos ty hlt (signs_ascii pos hlt)
        have hez : ((⟨#[123, 125, 58, 59, 61, 44, 60, 62, 46, 91, 93, 42, 33, 38, 124, 40, 41, 35, 63, 45]⟩ : ByteArray).extract pos (pos + 1)).size ≤ 1 := by rw [ByteArray.size_extract]; omega
        have q0 : ¬ 9223372036854775807 < S.size + ((⟨#[123, 125, 58, 59, 61, 44, 60, 62, 46, 91, 93, 42, 33, 38, 124, 40, 41, 35, 63, 45]⟩ : ByteArray).extract pos (pos + 1)).size := by omega
        by_cases hbit : (bits BinOp.and IntKind.u32 (m / 2 ^ pos) 1 == 1) = true
        · go_wp2
          go_roundw
          case rel => exact ⟨pos + 1, _, hlt, rfl, rfl, by rw [ByteArray.size_append]; omega⟩
          case measure => simp; omega
        · have hbit' := Bool.eq_false_iff.2 hbit
          clear hbit
          go_wp2
          go_roundw
          case rel => exact ⟨pos + 1, S, hlt, rfl, rfl, by omega⟩
          case measure => simp; omega
      · have hnx : ∀ ty, (Instr.next (.pointer (some ⟨W1.heap.size, 0, none⟩)) true ty).run Tryd.prog (W1.iter ⟨#[123, 125, 58, 59, 61, 44, 60, 62, 46, 91, 93, 42, 33, 38, 124, 40, 41, 35, 63, 45]⟩ pos) = _ := fun ty => run_next_end W1 ⟨#[123, 125, 58, 59, 61, 44, 60, 62, 46, 91, 93, 42, 33, 38, 124, 40, 41, 35, 63, 45]⟩ pos ty hlt
        have hbi : Below w.heap.size w (W1.iter ⟨#[123, 125, 58, 59, 61, 44, 60, 62, 46, 91, 93, 42, 33, 38, 124, 40, 41, 35, 63, 45]⟩ pos) := HB1.out.alloc HB1.out.size _
        have HX := Lib.hid (lexTokens_any s S (W1.iter ⟨#[123, 125, 58, 59, 61, 44, 60, 62, 46, 91, 93, 42, 33, 38, 124, 40, 41, 35, 63, 45]⟩ pos) (Tabs.below HT.out (Nat.le_refl _) hbi) hs)
        have HBI := Lib.hid hbi
        have HLEN := Lib.hid (toks_len okU (amg S) (bts s))
        have HR := Lib.hid (fun W (hb : Below w.heap.size w W) => refTokens_any s S W (Tabs.below HT.out (Nat.le_refl _) hb) hs (by omega))
        clear hbi
        generalize toks okU (amg S) (bts s) = r at HX HLEN HR
        obtain ⟨l, code, at'⟩ := r
        go_wp2_with fail
        refine HX.out.mono ?_
        rintro e W2 ⟨v, rfl, ho, hb2⟩
        have HB2 := Lib.hid (HBI.out.trans (hb2.mono HBI.out.size))
        have HO := Lib.hid ho
        clear hb2 ho
        simp only
        go_wp2_with fail
        have HB3 : Below w.heap.size w (W2.alloc (.cells #[.int .i64 code, .int .i64 (at' : Nat)] 27)) := HB2.out.alloc HB2.out.size _
        refine (HR.out _ HB3).mono ?_
        rintro e W4 ⟨v', rfl, ho', hb4⟩
        have k0 : W4.cell? ⟨W2.heap.size, 0, none⟩ = some (.int .i64 code) := by
          rw [hb4.cell (p := ⟨W2.heap.size, 0, none⟩) (by simp), cell_of_row _ _ _ _ _ (0, 0) (heap_alloc_new W2 _)]
          rfl
        have k1 : W4.cell? ⟨W2.heap.size, 1, none⟩ = some (.int .i64 (at' : Nat)) := by
          rw [hb4.cell (p := ⟨W2.heap.size, 1, none⟩) (by simp), cell_of_row _ _ _ _ _ (0, 0) (heap_alloc_new W2 _)]
          rfl
        have HB4 := Lib.hid (HB3.trans (hb4.mono HB3.size))
        have HO' := Lib.hid ho'
        have HO4 := Lib.hid (HO.out.below (((Below.refl _ _).alloc (Nat.le_refl _) _).trans (hb4.mono (by rw [World.size_alloc]; omega))) (Nat.le_refl _))
        clear hb4 ho' HB3
        simp only
        go_wp2_with fail
        refine (same_any l v v' _ _ W4 HO4.out HO'.out (Nat.le_trans HLEN.out (by decide))).mono ?_
        rintro e W5 ⟨rfl, hb5⟩
        go_wp2
        go_ret
        exact ⟨rfl, HB4.out.trans (hb5.mono HB4.out.size)⟩
end Go.Proofs.YtfnopliggdemaaaDoor
