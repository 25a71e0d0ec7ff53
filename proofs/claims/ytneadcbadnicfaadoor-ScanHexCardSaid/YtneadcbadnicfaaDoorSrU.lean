/-
  The document's Digits and Undigits: digits of base sixteen, there and back. Conditions: those that each theorem names.
-/
import Derived.Test.YtneadcbadnicfaaDoorSnDg
import Derived.Test.YtneadcbadnicfaaDoorSnUn
import Derived.BigQuiet
namespace Go.Proofs.YtneadcbadnicfaaDoor
open Go.ChangeShapes Go.WideShapes Go.ChangeAt Go.RowKit Go.Shelf

/-- What the document's Undigits leaves. -/
def RUndPost (w : World) (o : Option (List Int)) (e : Ending) (w' : World) : Prop :=
  ((∃ T v, o = some T ∧ e = .returned (.tuple #[v, .bool true]) ∧ w'.ownsRow w.heap.size 5 1 v T.length (T.map (Value.int .u8)) ∧ ∀ z ∈ T, 0 ≤ z ∧ z ≤ 255) ∨
  (o = none ∧ e = .returned (.tuple #[.slice none 0 0, .bool false]))) ∧ Below w.heap.size w w'
set_option maxRecDepth 20000 in
set_option maxHeartbeats 800000 in
theorem rundig_any (p : Option Addr) (n cap : Nat) (zs : List Int) (w : World) (hz : Bytes w p zs) (hn : zs.length = n) (hl : n ≤ 1000000) :
    Calls Tryd.prog 24 #[.slice p n cap] w fun e w' => RUndPost w (undig zs) e w' := by
  obtain ⟨o, ho⟩ : ∃ o, undig zs = o := ⟨_, rfl⟩
  rw [ho]
  have HZ := Lib.hid hz
  have HO := Lib.hid ho
  have HN := Lib.hid hn
  obtain ⟨i0, hi0, hzz0, hzz1, hzz2⟩ := info_parts u8_info
  have I1 := Lib.hid hi0
  have I2 := Lib.hid hzz0
  have I3 := Lib.hid hzz1
  have I4 := Lib.hid hzz2
  clear hz ho hn hi0 hzz0 hzz1 hzz2
  go_enter Tryd.func24, Tryd.ntmps24
  go_wp2
  go_loopw [4, 5] (fun v i wr => ∃ (j : Nat) (T : List Int), j ≤ n ∧ Hid (j = 2 * T.length) ∧ i = .int .i64 j ∧ o = joinO T (undig (zs.drop j)) ∧ wr.ownsRow w.heap.size 5 1 v T.length (T.map (Value.int .u8)) ∧ (∀ z ∈ T, 0 ≤ z ∧ z ≤ 255) ∧ Below w.heap.size w wr) (fun _ i _ => n - (intOf i).toNat)
  case atStart =>
    refine ⟨0, [], Nat.zero_le _, (show (0 : Nat) = 2 * 0 from rfl), rfl, ?_, World.ownsRow_nil _ _ _ _, (fun z hz => by cases hz), Below.refl _ _⟩
    rw [← HO.out, List.drop_zero]
    cases undig zs <;> rfl
  case round =>
    obtain ⟨j, T, hk, HT, rfl, ho, hw, hbd, hb⟩ := hrel
    have HE := Lib.hid ho
    have HW := Lib.hid hw
    have HBD := Lib.hid hbd
    have HB := Lib.hid hb
    obtain ⟨va, vc, rfl⟩ := ownsRow_form hw
    clear ho hw hbd hb
    by_cases hkn : j < n
    · by_cases hk1 : j + 1 < n
      · have hst := undig_step (zs := zs) (k := j) (by rw [HN.out]; omega)
        obtain ⟨b, off, rfl, hlt, hc⟩ := HZ.out.2 (by intro e; have := HN.out; rw [e] at this; simp at this; omega)
        have hc1 := (HB.out.cell (p := ⟨b, off + j, none⟩) hlt).trans (hc j (by rw [HN.out]; omega))
        have hc2 := (HB.out.cell (p := ⟨b, off + (j + 1), none⟩) hlt).trans (hc (j + 1) (by rw [HN.out]; omega))
        obtain ⟨x0, x1⟩ := HZ.out.1 j
        obtain ⟨y0, y1⟩ := HZ.out.1 (j + 1)
        generalize zs.getD j 0 = x at hst hc1 x0 x1
        generalize zs.getD (j + 1) 0 = y at hst hc2 y0 y1
        have DX : Hid (∀ W, Calls Tryd.prog 40 #[.int .i64 x, .bool false] W fun e w' => e = .returned (.int .i64 (optZ (hexD x))) ∧ W = w') := fun W => by rw [← digZ_small]; exact rdigit13 x false W (by omega) x1
        have DY : Hid (∀ W, Calls Tryd.prog 40 #[.int .i64 y, .bool false] W fun e w' => e = .returned (.int .i64 (optZ (hexD y))) ∧ W = w') := fun W => by rw [← digZ_small]; exact rdigit13 y false W (by omega) y1
        have wx := IntWalk.i64_in x ⟨by omega, by omega⟩
        have wy := IntWalk.i64_in y ⟨by omega, by omega⟩
        have HST := Lib.hid hst
        have hxl := @hexD_lt x
        have hyl := @hexD_lt y
        clear hc hst
        cases hx : hexD x with
        | none =>
          have HN0 : Hid (joinO T (undig (zs.drop j)) = none) := by have e := HST.out; rw [hx] at e; unfold Hid; rw [e]; rfl
          cases hy : hexD y with
          | none =>
            have DX' : Hid (∀ W, Calls Tryd.prog 40 #[.int .i64 x, .bool false] W fun e w' => e = .returned (.int .i64 (-1)) ∧ W = w') := by rw [hx] at DX; exact DX
            have DY' : Hid (∀ W, Calls Tryd.prog 40 #[.int .i64 y, .bool false] W fun e w' => e = .returned (.int .i64 (-1)) ∧ W = w') := by rw [hy] at DY; exact DY
            clear DX DY hx hy hxl hyl
            go_wp2
            go_quiet (first | (go_at_call 40; with_reducible exact quiet_same (DX'.out _)) | (go_at_call 40; with_reducible exact quiet_same (DY'.out _)))
            go_wp2
            go_ret2
            exact ⟨.inr ⟨HE.out.trans HN0.out, rfl⟩, HB.out.trans (bel_drewN (Below.refl _ _) _)⟩
          | some yy =>
            have yl := hyl hy
            have DX' : Hid (∀ W, Calls Tryd.prog 40 #[.int .i64 x, .bool false] W fun e w' => e = .returned (.int .i64 (-1)) ∧ W = w') := by rw [hx] at DX; exact DX
            have DY' : Hid (∀ W, Calls Tryd.prog 40 #[.int .i64 y, .bool false] W fun e w' => e = .returned (.int .i64 (yy : Nat)) ∧ W = w') := by rw [hy] at DY; exact DY
            clear DX DY hx hy hxl hyl
            go_wp2
            go_quiet (first | (go_at_call 40; with_reducible exact quiet_same (DX'.out _)) | (go_at_call 40; with_reducible exact quiet_same (DY'.out _)))
            go_wp2
            go_ret2
            exact ⟨.inr ⟨HE.out.trans HN0.out, rfl⟩, HB.out.trans (bel_drewN (Below.refl _ _) _)⟩
        | some xx =>
          have xl := hxl hx
          cases hy : hexD y with
          | none =>
            have HN0 : Hid (joinO T (undig (zs.drop j)) = none) := by have e := HST.out; rw [hx, hy] at e; unfold Hid; rw [e]; rfl
            have DX' : Hid (∀ W, Calls Tryd.prog 40 #[.int .i64 x, .bool false] W fun e w' => e = .returned (.int .i64 (xx : Nat)) ∧ W = w') := by rw [hx] at DX; exact DX
            have DY' : Hid (∀ W, Calls Tryd.prog 40 #[.int .i64 y, .bool false] W fun e w' => e = .returned (.int .i64 (-1)) ∧ W = w') := by rw [hy] at DY; exact DY
            clear DX DY hx hy hxl hyl
            go_wp2
            go_quiet (first | (go_at_call 40; with_reducible exact quiet_same (DX'.out _)) | (go_at_call 40; with_reducible exact quiet_same (DY'.out _)))
            go_wp2
            go_ret2
            exact ⟨.inr ⟨HE.out.trans HN0.out, rfl⟩, HB.out.trans (bel_drewN (Below.refl _ _) _)⟩
          | some yy =>
            have HN0 : Hid (joinO T (undig (zs.drop j)) = joinO (T ++ [((xx * 16 + yy : Nat) : Int)]) (undig (zs.drop (j + 2)))) := by
              have e := HST.out
              rw [hx, hy] at e
              unfold Hid
              rw [e]
              cases undig (zs.drop (j + 2)) <;> simp [joinO]
            have HL := Lib.hid (And.intro (hxl hx) (hyl hy))
            have DX' : Hid (∀ W, Calls Tryd.prog 40 #[.int .i64 x, .bool false] W fun e w' => e = .returned (.int .i64 (xx : Nat)) ∧ W = w') := by rw [hx] at DX; exact DX
            have DY' : Hid (∀ W, Calls Tryd.prog 40 #[.int .i64 y, .bool false] W fun e w' => e = .returned (.int .i64 (yy : Nat)) ∧ W = w') := by rw [hy] at DY; exact DY
            have yl := HL.out.2
            have wz := wraps_u8 (16 * (xx : Int) + (yy : Int)) (by omega) (by omega)
            have wz2 := IntWalk.i64_in (16 * (xx : Int) + (yy : Int)) ⟨by omega, by omega⟩
            have HZB : Hid (∀ y ∈ [16 * (xx : Int) + (yy : Int)], 0 ≤ y ∧ y ≤ 255) := fun y hy => by rw [List.mem_singleton.1 hy]; omega
            have hTl : T.length ≤ 1000000 := by have := HT.out; omega
            clear DX DY hx hy hxl hyl
            go_wp2
            go_quiet (first | (go_at_call 40; with_reducible exact quiet_same (DX'.out _)) | (go_at_call 40; with_reducible exact quiet_same (DY'.out _)))
            go_upto_region 10 with (fail)
            generalize hW3 : wr.drewN _ = W3
            have HB3 : Hid (Below w.heap.size w W3) := by unfold Hid; rw [← hW3]; exact bel_drewN HB.out _
            have HO3 : Hid (W3.ownsRow w.heap.size 5 1 (.slice va T.length vc) T.length (T.map (Value.int .u8))) := by unfold Hid; rw [← hW3]; exact HW.out
            have hs3 : w.heap.size ≤ W3.heap.size := HB3.out.size
            clear hW3
            go_wp2_with (at_builtin; refine wpList_append_any _ rfl (.tmp 38) (.tmp 44) 22 22 rfl w.heap.size 5 i0 _ 1 Tryd.underlying22 I1.out I2.out I3.out rfl _ T.length (T.map (Value.int .u8)) rfl (HO3.out.alloc _) _ 1 ([16 * (xx : Int) + (yy : Int)].map (Value.int .u8)) rfl (src_u8 (bytes_row (heap_alloc_new _ _) HZB.out) rfl (Below.refl _ _) 1) (by unfold maxLen; omega) (by rw [I4.out]; omega) (by simp; omega) ?_; intro v4 W4 hown4 hg4 hat4; clear hat4)
            have HB4 := Lib.hid (HB3.out.trans (grown_below HO3.out hg4 hs3))
            have HO4 := Lib.hid hown4
            clear hown4 hg4
            go_wp2
            go_roundw
            case rel =>
              refine ⟨j + 2, T ++ [((xx * 16 + yy : Nat) : Int)], by omega, (show j + 2 = 2 * (T ++ [((xx * 16 + yy : Nat) : Int)]).length by have := HT.out; rw [List.length_append]; simp; omega), by go_num, HE.out.trans HN0.out, ?_, fun z hz => ?_, HB4.out⟩
              · have := HO4.out
                rw [List.length_append, List.map_append, show ((xx * 16 + yy : Nat) : Int) = 16 * (xx : Int) + (yy : Int) by omega]
                exact this
              · rcases List.mem_append.1 hz with h | h
                · exact HBD.out z h
                · rw [List.mem_singleton.1 h]; omega
            case measure => simp [intOf]; omega
      · have HN0 : Hid (o = none) := by
          unfold Hid
          rw [← HO.out]
          exact undig_odd (by rw [HN.out]; have := HT.out; omega)
        go_wp2
        go_ret2
        exact ⟨.inr ⟨HN0.out, rfl⟩, HB.out⟩
    · obtain rfl : n = j := by omega
      have HN0 : Hid (o = some T) := by
        unfold Hid
        rw [HE.out, List.drop_eq_nil_of_le (by rw [HN.out]; exact Nat.le_refl _)]
        simp [undig, joinO]
      go_wp2
      go_ret2
      exact ⟨.inl ⟨T, _, HN0.out, rfl, HW.out, HBD.out⟩, HB.out⟩
theorem hex_cut {k : Int} (h0 : 0 ≤ k) (h1 : k < 16) : (⟨#[48, 49, 50, 51, 52, 53, 54, 55, 56, 57, 97, 98, 99, 100, 101, 102]⟩ : ByteArray).extract k.toNat (k + 1).toNat = strOfNums [hexC k] := by
  have h : k = 0 ∨ k = 1 ∨ k = 2 ∨ k = 3 ∨ k = 4 ∨ k = 5 ∨ k = 6 ∨ k = 7 ∨ k = 8 ∨ k = 9 ∨ k = 10 ∨ k = 11 ∨ k = 12 ∨ k = 13 ∨ k = 14 ∨ k = 15 := by omega
  rcases h with rfl | rfl | rfl | rfl | rfl | rfl | rfl | rfl | rfl | rfl | rfl | rfl | rfl | rfl | rfl | rfl <;> rfl
theorem strOf_size (zs : List Int) : (strOfNums zs).size = zs.length := by
  show (strOfNums zs).data.size = _
  rw [← Array.length_toList, strOfNums_data, List.length_map]
set_option maxHeartbeats 800000 in
theorem rdigits_any (p : Option Addr) (n cap : Nat) (zs : List Int) (w : World) (hz : Bytes w p zs) (hn : zs.length = n) (hl : n ≤ 100000) :
    Calls Tryd.prog 26 #[.slice p n cap] w fun e w' => e = .returned (.string (strOfNums (digL zs))) ∧ Below w.heap.size w w' := by
  have HZ := Lib.hid hz
  have HN := Lib.hid hn
  obtain ⟨S, hS⟩ : ∃ S, strOfNums (digL zs) = S := ⟨_, rfl⟩
  rw [hS]
  have HSS := Lib.hid hS
  clear hS hz hn
  go_enter Tryd.func26, Tryd.ntmps26
  go_wp2
  go_loopw [4, 5] (fun v i wr => ∃ k : Nat, k ≤ n ∧ i = .int .i64 k ∧ v = .string (strOfNums (digL (zs.take k))) ∧ Below w.heap.size w wr) (fun _ i _ => n - (intOf i).toNat)
  case atStart => exact ⟨0, Nat.zero_le _, rfl, rfl, Below.refl _ _⟩
  case round =>
    obtain ⟨k, hk, rfl, rfl, hb⟩ := hrel
    have HB := Lib.hid hb
    clear hb
    by_cases hkn : k < n
    · obtain ⟨b, off, rfl, hlt, hc⟩ := HZ.out.2 (by intro e; have := HN.out; rw [e] at this; simp at this; omega)
      have hci := (HB.out.cell (p := ⟨b, off + k, none⟩) hlt).trans (hc k (by rw [HN.out]; exact hkn))
      have ht := digL_take (zs := zs) (k := k) (by rw [HN.out]; exact hkn)
      have hsz : (digL (zs.take k)).length ≤ 200000 := by rw [digL_len, List.length_take]; omega
      obtain ⟨c0, c1⟩ := HZ.out.1 k
      generalize zs.getD k 0 = c at hci ht c0 c1
      clear hc
      obtain ⟨H, hH⟩ : ∃ H, c / 16 = H := ⟨_, rfl⟩
      obtain ⟨L, hL⟩ : ∃ L, c % 16 = L := ⟨_, rfl⟩
      have h0 : 0 ≤ H := by omega
      have h1 : H < 16 := by omega
      have l0 : 0 ≤ L := by omega
      have l1 : L < 16 := by omega
      rw [hH, hL] at ht
      have td : c.tdiv 16 = H := (Int.tdiv_eq_ediv_of_nonneg c0).trans hH
      have tm : c.tmod 16 = L := (Int.tmod_eq_emod_of_nonneg c0).trans hL
      clear hH hL
      have wH := wraps_u8 H (by omega) (by omega)
      have wH1 := wraps_u8 (H + 1) (by omega) (by omega)
      have wL := wraps_u8 L (by omega) (by omega)
      have wL1 := wraps_u8 (L + 1) (by omega) (by omega)
      have sH : ∀ W, (Instr.slice 9 (.string ⟨#[48, 49, 50, 51, 52, 53, 54, 55, 56, 57, 97, 98, 99, 100, 101, 102]⟩) (some (.int .u8 H)) (some (.int .u8 (H + 1))) none).run Tryd.prog W = .ok (.string (strOfNums [hexC H])) W := fun W => by
        rw [run_slice_string W _ _ _ _ _ _ Tryd.underlying9 h0 (by omega) (by show H + 1 ≤ 16; omega), hex_cut h0 h1]
      have sL : ∀ W, (Instr.slice 9 (.string ⟨#[48, 49, 50, 51, 52, 53, 54, 55, 56, 57, 97, 98, 99, 100, 101, 102]⟩) (some (.int .u8 L)) (some (.int .u8 (L + 1))) none).run Tryd.prog W = .ok (.string (strOfNums [hexC L])) W := fun W => by
        rw [run_slice_string W _ _ _ _ _ _ Tryd.underlying9 l0 (by omega) (by show L + 1 ≤ 16; omega), hex_cut l0 l1]
      have q1 : ∀ W, (Op.stringOp .add (strOfNums (digL (zs.take k))) (strOfNums [hexC H])).run Tryd.prog W = .ok (.string (strOfNums (digL (zs.take k)) ++ strOfNums [hexC H])) W := fun W => run_string_add_sum W _ _ (by simp only [strOf_size, List.length_cons, List.length_nil]; omega)
      have q2 : ∀ W, (Op.stringOp .add (strOfNums (digL (zs.take k)) ++ strOfNums [hexC H]) (strOfNums [hexC L])).run Tryd.prog W = .ok (.string (strOfNums (digL (zs.take k)) ++ strOfNums [hexC H] ++ strOfNums [hexC L])) W := fun W => run_string_add_sum W _ _ (by simp only [ByteArray.size_append, strOf_size, List.length_cons, List.length_nil]; omega)
      have HT : Hid (strOfNums (digL (zs.take k)) ++ strOfNums [hexC H] ++ strOfNums [hexC L] = strOfNums (digL (zs.take (k + 1)))) := by
        unfold Hid
        rw [ht, ← strOf_app, ← strOf_app, List.append_assoc]
        rfl
      clear ht hsz
      generalize strOfNums (digL (zs.take k)) ++ strOfNums [hexC H] ++ strOfNums [hexC L] = S2 at q2 HT
      generalize strOfNums (digL (zs.take k)) ++ strOfNums [hexC H] = S1 at q1 q2
      generalize strOfNums (digL (zs.take k)) = S0 at q1
      generalize strOfNums [hexC H] = SH at sH q1
      generalize strOfNums [hexC L] = SL at sL q2
      go_wp2
      go_quiet (fail)
      go_wp2
      go_roundw
      case rel => exact ⟨k + 1, by omega, by go_num, congrArg Value.string HT.out, bel_drewN HB.out _⟩
      case measure => simp [intOf]; omega
    · obtain rfl : n = k := by omega
      have HT : Hid (strOfNums (digL (zs.take n)) = S) := by
        unfold Hid
        rw [List.take_of_length_le (by rw [HN.out]; exact Nat.le_refl _), HSS.out]
      go_wp2
      go_ret
      exact ⟨congrArg (fun s => Ending.returned (.string s)) HT.out, HB.out⟩
end Go.Proofs.YtneadcbadnicfaaDoor
