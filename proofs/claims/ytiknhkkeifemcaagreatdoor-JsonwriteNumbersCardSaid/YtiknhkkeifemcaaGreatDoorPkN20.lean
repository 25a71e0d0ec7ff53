/-
  The order of a struct's fields, plain: how long, and which places. No run of the program stands in this text. Conditions: those that each theorem names.
-/
import Derived.Test.YtiknhkkeifemcaaGreatDoorPkN2
import Derived.Test.YtiknhkkeifemcaaGreatDoorPkN8
import Derived.Test.YtiknhkkeifemcaaGreatDoorPkN9
import Derived.Test.YtiknhkkeifemcaaGreatDoorPkN13
import Derived.Test.YtiknhkkeifemcaaGreatDoorPkN16
import Derived.Test.YtiknhkkeifemcaaGreatDoorPkN19
import Derived.BigQuiet
import Derived.Deep.AppendSrc
import Derived.Laws.IdiomCopy
import Derived.Laws.IdiomStrings
import Derived.Laws.Cover4
namespace Go.Proofs.YtiknhkkeifemcaaGreatDoor
open Go.ChangeShapes Go.WideShapes Go.ChangeAt Go.RowKit Go.Shelf
section
open Go.Lib
theorem bk_strOf_bts' (s : ByteArray) : strOfNums (bts s) = s := by
  apply ByteArray.ext
  apply Array.ext'
  rw [strOfNums_data]
  unfold bts
  rw [List.map_map]
  conv => rhs; rw [← List.map_id s.data.toList]
  refine List.map_congr_left fun z _ => ?_
  show UInt8.ofNat ((z.toNat : Int)).toNat = z
  rw [Int.toNat_natCast]
  exact UInt8.ofNat_toNat
theorem bk_strOf_app (a b : List Int) : strOfNums (a ++ b) = strOfNums a ++ strOfNums b := by
  apply ByteArray.ext
  apply Array.ext'
  rw [strOfNums_data, ByteArray.data_append, Array.toList_append, strOfNums_data, strOfNums_data, List.map_append]

def qB (z : Int) : List Int :=
  if z = 34 then [92, 34] else if z = 92 then [92, 92] else if z = 8 then [92, 98] else if z = 9 then [92, 116] else if z = 10 then [92, 110] else if z = 12 then [92, 102] else if z = 13 then [92, 114]
  else if z < 32 then [92, 117, 48, 48, hexC (z / 16), hexC (z % 16)] else [z]
def quot (T : List Int) : List Int := 34 :: (T.flatMap qB ++ [34])
theorem qB_bd {z : Int} (h0 : 0 ≤ z) (h1 : z ≤ 255) : ∀ y ∈ qB z, 0 ≤ y ∧ y ≤ 255 := by
  intro y hy
  unfold qB at hy
  repeat' split at hy
  all_goals (simp at hy)
  all_goals first | omega | skip
  rcases hy with rfl | rfl | rfl | rfl | rfl
  · decide
  · decide
  · decide
  · exact hexC_bd (by omega) (by omega)
  · exact hexC_bd (by omega) (by omega)
theorem quot_bd {T : List Int} (h : ∀ z ∈ T, 0 ≤ z ∧ z ≤ 255) : ∀ z ∈ quot T, 0 ≤ z ∧ z ≤ 255 := by
  intro z hz
  unfold quot at hz
  rcases List.mem_cons.1 hz with rfl | hz
  · decide
  rcases List.mem_append.1 hz with hz | hz
  · obtain ⟨x, hx, hz⟩ := List.mem_flatMap.1 hz
    exact qB_bd (h x hx).1 (h x hx).2 z hz
  · rw [List.mem_singleton.1 hz]; decide
theorem qB_len (z : Int) : (qB z).length ≤ 6 := by unfold qB; repeat' split
                                                   all_goals (simp only [List.length_cons, List.length_nil]; omega)
theorem qBs_len (T : List Int) : (T.flatMap qB).length ≤ 6 * T.length := by
  induction T with
  | nil => simp
  | cons z T ih => rw [List.flatMap_cons, List.length_append]; have := qB_len z; simp only [List.length_cons]; omega
theorem qB_take {zs : List Int} {k : Nat} (h : k < zs.length) : (zs.take (k + 1)).flatMap qB = (zs.take k).flatMap qB ++ qB (zs.getD k 0) := by
  rw [List.take_succ_eq_append_getElem h, List.flatMap_append]
  simp [List.getD, h]
def qF : List Int := [34, 92, 8, 9, 10, 12, 13]
def qG : List Int := [34, 92, 98, 116, 110, 102, 114]
theorem qB_hit {k : Nat} (h : k < 7) : qB (qF.getD k 0) = [92, qG.getD k 0] := by
  have : k = 0 ∨ k = 1 ∨ k = 2 ∨ k = 3 ∨ k = 4 ∨ k = 5 ∨ k = 6 := by omega
  rcases this with rfl | rfl | rfl | rfl | rfl | rfl | rfl <;> rfl
theorem qB_miss {z : Int} (h : ∀ k, k < 7 → qF.getD k 0 ≠ z) : qB z = if z < 32 then [92, 117, 48, 48, hexC (z / 16), hexC (z % 16)] else [z] := by
  have h0 := h 0 (by decide)
  have h1 := h 1 (by decide)
  have h2 := h 2 (by decide)
  have h3 := h 3 (by decide)
  have h4 := h 4 (by decide)
  have h5 := h 5 (by decide)
  have h6 := h 6 (by decide)
  simp [qF] at h0 h1 h2 h3 h4 h5 h6
  unfold qB
  rw [if_neg (by omega), if_neg (by omega), if_neg (by omega), if_neg (by omega), if_neg (by omega), if_neg (by omega), if_neg (by omega)]
end
theorem bk_hex_cut {k : Int} (h0 : 0 ≤ k) (h1 : k < 16) : (⟨#[48, 49, 50, 51, 52, 53, 54, 55, 56, 57, 97, 98, 99, 100, 101, 102]⟩ : ByteArray).extract k.toNat (k + 1).toNat = strOfNums [hexC k] := by
  have h : k = 0 ∨ k = 1 ∨ k = 2 ∨ k = 3 ∨ k = 4 ∨ k = 5 ∨ k = 6 ∨ k = 7 ∨ k = 8 ∨ k = 9 ∨ k = 10 ∨ k = 11 ∨ k = 12 ∨ k = 13 ∨ k = 14 ∨ k = 15 := by omega
  rcases h with rfl | rfl | rfl | rfl | rfl | rfl | rfl | rfl | rfl | rfl | rfl | rfl | rfl | rfl | rfl | rfl <;> rfl
theorem bk_strOf_size (zs : List Int) : (strOfNums zs).size = zs.length := by
  show (strOfNums zs).data.size = _
  rw [← Array.length_toList, strOfNums_data, List.length_map]
set_option maxHeartbeats 800000 in
theorem bk_rdigits_any (p : Option Addr) (n cap : Nat) (zs : List Int) (w : World) (hz : Bytes w p zs) (hn : zs.length = n) (hl : n ≤ 100000) :
    Calls Tryz.prog 46 #[.slice p n cap] w fun e w' => e = .returned (.string (strOfNums (digL zs))) ∧ Below w.heap.size w w' := by
  have HZ := Lib.hid hz
  have HN := Lib.hid hn
  obtain ⟨S, hS⟩ : ∃ S, strOfNums (digL zs) = S := ⟨_, rfl⟩
  rw [hS]
  have HSS := Lib.hid hS
  clear hS hz hn
  go_enter Tryz.func46, Tryz.ntmps46
  go_wp2
  go_loopw [4, 5] (fun v i wr => ∃ k : Nat, k ≤ n ∧ i = .int .i64 k ∧ v = .string (strOfNums (digL (zs.take k))) ∧ Below w.heap.size w wr) (fun _ i _ => n - (intOf i).toNat)
  case atStart => exact ⟨0, Nat.zero_le _, rfl, rfl, Below.refl _ _⟩
  case round =>
    obtain ⟨k, hk, rfl, rfl, hb⟩ := hrel
    have HB := Lib.hid hb
    clear hb
    by_cases hkn : k < n
    · obtain ⟨b, off, rfl, hlt, hc⟩ := HZ.out.2 (by intro e; have := HN.out; rw [e] at this; simp at this; omega)
      have hci := (HB.out.cell (p := ⟨b, off + k, none⟩) hlt).trans (hc k (by rw [HN.out]; exact hkn))
      have ht := digL_take (zs := zs) (k := k) (by rw [HN.out]; exact hkn)
      have hsz : (digL (zs.take k)).length ≤ 200000 := by rw [digL_len, List.length_take]; omega
      obtain ⟨c0, c1⟩ := HZ.out.1 k
      generalize zs.getD k 0 = c at hci ht c0 c1
      clear hc
      obtain ⟨H, hH⟩ : ∃ H, c / 16 = H := ⟨_, rfl⟩
      obtain ⟨L, hL⟩ : ∃ L, c % 16 = L := ⟨_, rfl⟩
      have h0 : 0 ≤ H := by omega
      have h1 : H < 16 := by omega
      have l0 : 0 ≤ L := by omega
      have l1 : L < 16 := by omega
      rw [hH, hL] at ht
      have td : c.tdiv 16 = H := (Int.tdiv_eq_ediv_of_nonneg c0).trans hH
      have tm : c.tmod 16 = L := (Int.tmod_eq_emod_of_nonneg c0).trans hL
      clear hH hL
      have wH := wraps_u8 H (by omega) (by omega)
      have wH1 := wraps_u8 (H + 1) (by omega) (by omega)
      have wL := wraps_u8 L (by omega) (by omega)
      have wL1 := wraps_u8 (L + 1) (by omega) (by omega)
      have sH : ∀ W, (Instr.slice 9 (.string ⟨#[48, 49, 50, 51, 52, 53, 54, 55, 56, 57, 97, 98, 99, 100, 101, 102]⟩) (some (.int .u8 H)) (some (.int .u8 (H + 1))) none).run Tryz.prog W = .ok (.string (strOfNums [hexC H])) W := fun W => by
        rw [run_slice_string W _ _ _ _ _ _ Tryz.underlying9 h0 (by omega) (by show H + 1 ≤ 16; omega), bk_hex_cut h0 h1]
      have sL : ∀ W, (Instr.slice 9 (.string ⟨#[48, 49, 50, 51, 52, 53, 54, 55, 56, 57, 97, 98, 99, 100, 101, 102]⟩) (some (.int .u8 L)) (some (.int .u8 (L + 1))) none).run Tryz.prog W = .ok (.string (strOfNums [hexC L])) W := fun W => by
        rw [run_slice_string W _ _ _ _ _ _ Tryz.underlying9 l0 (by omega) (by show L + 1 ≤ 16; omega), bk_hex_cut l0 l1]
      have q1 : ∀ W, (Op.stringOp .add (strOfNums (digL (zs.take k))) (strOfNums [hexC H])).run Tryz.prog W = .ok (.string (strOfNums (digL (zs.take k)) ++ strOfNums [hexC H])) W := fun W => run_string_add_sum W _ _ (by simp only [bk_strOf_size, List.length_cons, List.length_nil]; omega)
      have q2 : ∀ W, (Op.stringOp .add (strOfNums (digL (zs.take k)) ++ strOfNums [hexC H]) (strOfNums [hexC L])).run Tryz.prog W = .ok (.string (strOfNums (digL (zs.take k)) ++ strOfNums [hexC H] ++ strOfNums [hexC L])) W := fun W => run_string_add_sum W _ _ (by simp only [ByteArray.size_append, bk_strOf_size, List.length_cons, List.length_nil]; omega)
      have HT : Hid (strOfNums (digL (zs.take k)) ++ strOfNums [hexC H] ++ strOfNums [hexC L] = strOfNums (digL (zs.take (k + 1)))) := by
        unfold Hid
        rw [ht, ← bk_strOf_app, ← bk_strOf_app, List.append_assoc]
        rfl
      clear ht hsz
      generalize strOfNums (digL (zs.take k)) ++ strOfNums [hexC H] ++ strOfNums [hexC L] = S2 at q2 HT
      generalize strOfNums (digL (zs.take k)) ++ strOfNums [hexC H] = S1 at q1 q2
      generalize strOfNums (digL (zs.take k)) = S0 at q1
      generalize strOfNums [hexC H] = SH at sH q1
      generalize strOfNums [hexC L] = SL at sL q2
      go_wp2
      go_quiet (fail)
      go_wp2
      go_roundw
      case rel => exact ⟨k + 1, by omega, by go_num, congrArg Value.string HT.out, bel_drewN HB.out _⟩
      case measure => simp [intOf]; omega
    · obtain rfl : n = k := by omega
      have HT : Hid (strOfNums (digL (zs.take n)) = S) := by
        unfold Hid
        rw [List.take_of_length_le (by rw [HN.out]; exact Nat.le_refl _), HSS.out]
      go_wp2
      go_ret
      exact ⟨congrArg (fun s => Ending.returned (.string s)) HT.out, HB.out⟩

theorem src_str {W : World} (s : ByteArray) : Go.Src Tryz.prog 1 9 (.string s) s.size ((bts s).map (Value.int .u8)) W := by
  have h := Src.ofString (P := Tryz.prog) W Tryz.underlying9 s
  have e : byteCells s = (bts s).map (Value.int .u8) := by simp [byteCells, bts]
  rw [e] at h
  exact h
theorem qf_get {j : Int} (h0 : 0 ≤ j) (h1 : j < 7) : ((((⟨#[34, 92, 8, 9, 10, 12, 13]⟩ : ByteArray)[j.toNat]'(by show j.toNat < 7; omega)).toNat : Nat) : Int) = qF.getD j.toNat 0 := by
  have h : j = 0 ∨ j = 1 ∨ j = 2 ∨ j = 3 ∨ j = 4 ∨ j = 5 ∨ j = 6 := by omega
  rcases h with rfl | rfl | rfl | rfl | rfl | rfl | rfl <;> rfl
theorem qg_get {j : Int} (h0 : 0 ≤ j) (h1 : j < 7) : ((((⟨#[34, 92, 98, 116, 110, 102, 114]⟩ : ByteArray)[j.toNat]'(by show j.toNat < 7; omega)).toNat : Nat) : Int) = qG.getD j.toNat 0 := by
  have h : j = 0 ∨ j = 1 ∨ j = 2 ∨ j = 3 ∨ j = 4 ∨ j = 5 ∨ j = 6 := by omega
  rcases h with rfl | rfl | rfl | rfl | rfl | rfl | rfl <;> rfl
theorem own_first (w : World) (z : Int) : (w.alloc (.cells #[.int .u8 z] 5)).ownsRow w.heap.size 5 1 (.slice (some ⟨w.heap.size, 0, none⟩) 1 1) [z].length ([z].map (Value.int .u8)) :=
  ⟨rfl, .inr ⟨w.heap.size, 1, #[.int .u8 z], rfl, Nat.le_refl _, heap_alloc_new w _, Nat.le_refl _, by unfold maxLen; omega, rfl, rfl⟩⟩
theorem bytes_at {W : World} {b off : Nat} {z : Int} (h0 : 0 ≤ z) (h1 : z ≤ 255) (hb : b < W.heap.size) (h : W.cell? ⟨b, off, none⟩ = some (.int .u8 z)) : Bytes W (some ⟨b, off, none⟩) [z] :=
  ⟨bd_le (fun y hy => by rw [List.mem_singleton.1 hy]; exact ⟨h0, h1⟩), fun _ => ⟨b, off, rfl, hb, fun i hi => by
    have : i = 0 := by simpa using hi
    subst this
    exact h⟩⟩
theorem qrow_keep {w w' : World} (h : Below w.heap.size w w') {base : Nat} {e : TypeId} {size : Nat} {v : Value} {n : Nat} {xs : List Value} (ho : w.ownsRow base e size v n xs) : w'.ownsRow base e size v n xs := by
  obtain ⟨hl, h'⟩ := ho
  refine ⟨hl, ?_⟩
  rcases h' with h1 | ⟨g', cap', cur, hv, h1, hg', h2⟩
  · exact .inl h1
  · exact .inr ⟨g', cap', cur, hv, h1, (h.block g' (blk_lt hg')).trans hg', h2⟩
set_option maxRecDepth 20000 in
set_option maxHeartbeats 1600000 in
theorem quoted_any (p : Option Addr) (n cap : Nat) (T : List Int) (w : World) (hz : Bytes w p T) (hn : T.length = n) (hcap : n ≤ cap) (hl : n ≤ 20000) :
    Calls Tryz.prog 24 #[.slice p n cap] w fun e w' => e = .returned (.string (strOfNums (quot T))) ∧ Below w.heap.size w w' := by
  obtain ⟨S, hS⟩ : ∃ S, strOfNums (quot T) = S := ⟨_, rfl⟩
  rw [hS]
  have HSS := Lib.hid hS
  have HZ := Lib.hid hz
  have HN := Lib.hid hn
  have HM := Lib.hid (own_first w 34)
  clear hS
  obtain ⟨i0, hi0, hzz0, hzz1, hzz2⟩ := info_parts su8_info
  have I1 := Lib.hid hi0
  have I2 := Lib.hid hzz0
  have I3 := Lib.hid hzz1
  have I4 := Lib.hid hzz2
  clear hz hn hi0 hzz0 hzz1 hzz2
  go_enter Tryz.func24, Tryz.ntmps24
  go_wp2
  go_loopw [3, 6, 7] (fun v i _ wr => ∃ (k : Nat) (X : List Int), k ≤ n ∧ i = .int .i64 k ∧ Hid (X = 34 :: (T.take k).flatMap qB) ∧ wr.ownsRow w.heap.size 5 1 v X.length (X.map (Value.int .u8)) ∧ Below w.heap.size w wr) (fun _ i _ _ => n - (intOf i).toNat)
  case atStart => exact ⟨0, [34], Nat.zero_le _, rfl, rfl, HM.out, (Below.refl _ _).alloc (Nat.le_refl _) _⟩
  case round =>
    obtain ⟨k, X, hk, rfl, HX, ho, hb⟩ := hrel
    obtain ⟨va, vc, rfl⟩ := ownsRow_form ho
    have HO := Lib.hid ho
    have HB := Lib.hid hb
    have hXl : X.length ≤ 120001 := by
      have := qBs_len (T.take k)
      rw [HX, List.length_cons]
      rw [List.length_take] at this
      omega
    clear ho hb HM
    by_cases hkn : k < n
    · obtain ⟨b, off, rfl, hlt, hc⟩ := HZ.out.2 (by intro e; have := HN.out; rw [e] at this; simp at this; omega)
      have HCI := Lib.hid (hc k (by rw [HN.out]; exact hkn))
      have HT := Lib.hid (qB_take (zs := T) (k := k) (by rw [HN.out]; exact hkn))
      obtain ⟨z0, z1⟩ := HZ.out.1 k
      generalize T.getD k 0 = z at HCI HT z0 z1
      clear hc
      go_wp2
      go_loopw [7] (fun q wr => ∃ j : Int, 0 ≤ j ∧ j ≤ 7 ∧ q = .int .i64 j ∧ Hid (∀ m : Nat, (m : Int) < j → qF.getD m 0 ≠ z) ∧ wr.ownsRow w.heap.size 5 1 (.slice va X.length vc) X.length (X.map (Value.int .u8)) ∧ Below w.heap.size w wr) (fun q _ => 7 - (intOf q).toNat)
      case atStart => exact ⟨0, by decide, by decide, rfl, fun m hm => by omega, HO.out, HB.out⟩
      case round =>
        obtain ⟨j, j0, j7, rfl, HF, ho, hb⟩ := hrel
        clear HO HB
        have HO := Lib.hid ho
        have HB := Lib.hid hb
        have hci := (HB.out.cell (p := ⟨b, off + k, none⟩) hlt).trans HCI.out
        clear ho hb
        by_cases hj : j < 7
        · obtain ⟨A, hA⟩ : ∃ A, (⟨#[34, 92, 8, 9, 10, 12, 13]⟩ : ByteArray)[j.toNat]'(by show j.toNat < 7; omega) = A := ⟨_, rfl⟩
          have hAk : (A.toNat : Int) = qF.getD j.toNat 0 := by rw [← hA]; exact qf_get j0 hj
          by_cases hz : qF.getD j.toNat 0 = z
          · have hAz := hAk.trans hz
            have HQ : Hid (qB z = [92, qG.getD j.toNat 0]) := by unfold Hid; rw [← hz]; exact qB_hit (by omega)
            obtain ⟨G, hG⟩ : ∃ G, (⟨#[34, 92, 98, 116, 110, 102, 114]⟩ : ByteArray)[j.toNat]'(by show j.toNat < 7; omega) = G := ⟨_, rfl⟩
            have HGk : Hid ((G.toNat : Int) = qG.getD j.toNat 0) := by unfold Hid; rw [← hG]; exact qg_get j0 hj
            have HZB : Hid (∀ y ∈ [92, (G.toNat : Int)], 0 ≤ y ∧ y ≤ 255) := fun y hy => by
              have := G.toNat_lt
              simp at hy
              omega
            clear hz hAk
            go_wp2
            go_quiet (fail)
            go_upto_region 10 with (fail)
            generalize hW3 : wr.drewN _ = W3
            have HB3 : Hid (Below w.heap.size w W3) := by unfold Hid; rw [← hW3]; exact bel_drewN HB.out _
            have HO3 : Hid (W3.ownsRow w.heap.size 5 1 (.slice va X.length vc) X.length (X.map (Value.int .u8))) := by unfold Hid; rw [← hW3]; exact HO.out
            have hs3 : w.heap.size ≤ W3.heap.size := HB3.out.size
            clear hW3 hci
            go_wp2_with (at_builtin; refine wpList_append_any _ rfl (.tmp 35) (.tmp 39) 22 22 rfl w.heap.size 5 i0 _ 1 Tryz.underlying22 I1.out I2.out I3.out rfl _ X.length (X.map (Value.int .u8)) rfl (HO3.out.alloc _) _ 2 ([92, (G.toNat : Int)].map (Value.int .u8)) rfl (src_u8 (sbytes_row (heap_alloc_new _ _) HZB.out) rfl (Below.refl _ _) 2) (by unfold maxLen; omega) (by rw [I4.out]; omega) (by simp; omega) ?_; intro v4 W4 hown4 hg4 hat4; clear hat4)
            have HB4 := Lib.hid (HB3.out.trans (grown_below HO3.out hg4 hs3))
            have HO4 := Lib.hid hown4
            clear hown4 hg4
            go_wp2
            go_roundw
            case rel =>
              refine ⟨k + 1, X ++ [92, (G.toNat : Int)], by omega, by go_num, ?_, ?_, HB4.out⟩
              · unfold Hid; rw [HT.out, HX, HQ.out, HGk.out]; rfl
              · have := HO4.out
                rw [List.length_append, List.map_append]
                exact this
            case measure => simp [intOf]; omega
          · have hAz : ¬ (A.toNat : Int) = z := fun e => hz (hAk.symm.trans e)
            have HF2 : Hid (∀ m : Nat, (m : Int) < j + 1 → qF.getD m 0 ≠ z) := fun m hm => by
              by_cases h : (m : Int) < j
              · exact HF m h
              · have : m = j.toNat := by omega
                rw [this]; exact hz
            clear hz hAk
            go_wp2
            go_quiet (fail)
            go_wp2
            go_roundw
            case rel => exact ⟨j + 1, by omega, by omega, rfl, HF2, HO.out, bel_drewN HB.out _⟩
            case measure => simp [intOf]; omega
        · obtain rfl : j = 7 := by omega
          have HQ := Lib.hid (qB_miss (z := z) (fun m hm => HF m (by omega)))
          have HXE : Hid (34 :: (T.take (k + 1)).flatMap qB = X ++ qB z) := by unfold Hid; rw [HT.out, HX]; rfl
          by_cases hz : z < 32
          · rw [if_pos hz] at HQ
            have hsd : (strOfNums (digL [z])).size = 2 := by rw [bk_strOf_size, digL_len]; rfl
            have hbd : bts (strOfNums (digL [z])) = [hexC (z / 16), hexC (z % 16)] := bts_strOf _ (digL_bd (fun y hy => by rw [List.mem_singleton.1 hy]; exact ⟨z0, z1⟩))
            have HSR : Hid (∀ W, Go.Src Tryz.prog 1 9 (.string (strOfNums (digL [z]))) 2 ([hexC (z / 16), hexC (z % 16)].map (Value.int .u8)) W) := fun W => by
              have := src_str (W := W) (strOfNums (digL [z]))
              rw [hsd, hbd] at this
              exact this
            have HRD := Lib.hid (fun (c : Nat) W (hb : b < W.heap.size) (h : W.cell? ⟨b, off + k, none⟩ = some (.int .u8 z)) => bk_rdigits_any (some ⟨b, off + k, none⟩) 1 c [z] W (bytes_at z0 z1 hb h) rfl (by decide))
            generalize strOfNums (digL [z]) = DS at HSR HRD
            have HSU : Hid (∀ W, Go.Src Tryz.prog 1 9 (.string ⟨#[92, 117, 48, 48]⟩) 4 ([(92 : Int), 117, 48, 48].map (Value.int .u8)) W) := fun W => src_str (W := W) ⟨#[92, 117, 48, 48]⟩
            clear hsd hbd
            go_wp2
            go_quiet (fail)
            go_upto_region 12 with (fail)
            generalize hW3 : wr.drewN _ = W3
            have HB3 : Hid (Below w.heap.size w W3) := by unfold Hid; rw [← hW3]; exact bel_drewN HB.out _
            have HO3 : Hid (W3.ownsRow w.heap.size 5 1 (.slice va X.length vc) X.length (X.map (Value.int .u8))) := by unfold Hid; rw [← hW3]; exact HO.out
            have hs3 : w.heap.size ≤ W3.heap.size := HB3.out.size
            have HCK : Hid (W3.cell? ⟨b, off + k, none⟩ = some (.int .u8 z)) := by unfold Hid; exact (HB3.out.cell (p := ⟨b, off + k, none⟩) hlt).trans HCI.out
            clear hW3 hci
            go_wp2_with (at_builtin; refine wpList_append_any _ rfl (.tmp 46) (.const (.string ⟨#[92, 117, 48, 48]⟩)) 22 9 rfl w.heap.size 5 i0 _ 1 Tryz.underlying22 I1.out I2.out I3.out rfl _ X.length (X.map (Value.int .u8)) rfl HO3.out _ 4 ([(92 : Int), 117, 48, 48].map (Value.int .u8)) rfl (HSU.out _) (by unfold maxLen; omega) (by rw [I4.out]; omega) hs3 ?_; intro v4 W4 hown4 hg4 hat4; clear hat4)
            have hb4 : Below w.heap.size w W4 := HB3.out.grown hg4 hs3 (fun k hk => (ownsRow_lt HO3.out k hk).1)
            obtain ⟨a4, m4, rfl⟩ := ownsRow_form hown4
            have HB4 := Lib.hid hb4
            have HO4 := Lib.hid hown4
            have hc4 := (hb4.cell (p := ⟨b, off + k, none⟩) hlt).trans HCI.out
            have hl4 := Nat.lt_of_lt_of_le hlt hb4.size
            clear hown4 hg4 hb4
            go_wp2_with fail
            refine (HRD.out _ _ hl4 hc4).mono ?_
            rintro e W5 ⟨rfl, hb5⟩
            have HB5 := Lib.hid (HB4.out.trans (hb5.mono HB4.out.size))
            have HO5 := Lib.hid (qrow_keep hb5 HO4.out)
            have hs5 := HB5.out.size
            clear hb5 hc4 hl4
            go_wp2_with (at_builtin; refine wpList_append_any _ rfl (.tmp 48) (.tmp 54) 22 9 rfl w.heap.size 5 i0 _ 1 Tryz.underlying22 I1.out I2.out I3.out rfl _ (X.length + 4) (X.map (Value.int .u8) ++ [(92 : Int), 117, 48, 48].map (Value.int .u8)) rfl HO5.out _ 2 ([hexC (z / 16), hexC (z % 16)].map (Value.int .u8)) rfl (HSR.out _) (by unfold maxLen; omega) (by rw [I4.out]; omega) hs5 ?_; intro v6 W6 hown6 hg6 hat6; clear hat6)
            have HB6 := Lib.hid (HB5.out.grown hg6 hs5 (fun k hk => (ownsRow_lt HO5.out k hk).1))
            have HO6 := Lib.hid hown6
            clear hown6 hg6
            go_wp2
            go_roundw
            case rel =>
              refine ⟨k + 1, X ++ qB z, by omega, by go_num, HXE.symm, ?_, HB6.out⟩
              have := HO6.out
              rw [HQ.out, List.length_append, List.map_append]
              rw [List.append_assoc, ← List.map_append] at this
              exact this
            case measure => simp [intOf]; omega
          · rw [if_neg hz] at HQ
            have HZB : Hid (∀ y ∈ [z], 0 ≤ y ∧ y ≤ 255) := fun y hy => by rw [List.mem_singleton.1 hy]; exact ⟨z0, z1⟩
            go_wp2
            go_quiet (fail)
            go_upto_region 14 with (fail)
            generalize hW3 : wr.drewN _ = W3
            have HB3 : Hid (Below w.heap.size w W3) := by unfold Hid; rw [← hW3]; exact bel_drewN HB.out _
            have HO3 : Hid (W3.ownsRow w.heap.size 5 1 (.slice va X.length vc) X.length (X.map (Value.int .u8))) := by unfold Hid; rw [← hW3]; exact HO.out
            have hs3 : w.heap.size ≤ W3.heap.size := HB3.out.size
            have hck := (HB3.out.cell (p := ⟨b, off + k, none⟩) hlt).trans HCI.out
            clear hW3 hci
            go_wp2_with (at_builtin; refine wpList_append_any _ rfl (.tmp 56) (.tmp 61) 22 22 rfl w.heap.size 5 i0 _ 1 Tryz.underlying22 I1.out I2.out I3.out rfl _ X.length (X.map (Value.int .u8)) rfl (HO3.out.alloc _) _ 1 ([z].map (Value.int .u8)) rfl (src_u8 (sbytes_row (heap_alloc_new _ _) HZB.out) rfl (Below.refl _ _) 1) (by unfold maxLen; omega) (by rw [I4.out]; omega) (by simp; omega) ?_; intro v4 W4 hown4 hg4 hat4; clear hat4)
            have HB4 := Lib.hid (HB3.out.trans (grown_below HO3.out hg4 hs3))
            have HO4 := Lib.hid hown4
            clear hown4 hg4
            go_wp2
            go_roundw
            case rel =>
              refine ⟨k + 1, X ++ qB z, by omega, by go_num, HXE.symm, ?_, HB4.out⟩
              have := HO4.out
              rw [HQ.out, List.length_append, List.map_append]
              exact this
            case measure => simp [intOf]; omega
    · obtain rfl : n = k := by omega
      have HZB : Hid (∀ y ∈ [(34 : Int)], 0 ≤ y ∧ y ≤ 255) := fun y hy => by rw [List.mem_singleton.1 hy]; decide
      have HXE : Hid (X ++ [34] = quot T) := by
        unfold Hid
        rw [HX, List.take_of_length_le (by rw [HN.out]; exact Nat.le_refl _)]
        rfl
      have HQB := Lib.hid (quot_bd (sbytes_mem HZ.out))
      have hsw := HB.out.size
      go_wp2_with (at_builtin; refine wpList_append_any _ rfl (.tmp 63) (.tmp 64) 22 22 rfl w.heap.size 5 i0 _ 1 Tryz.underlying22 I1.out I2.out I3.out rfl _ X.length (X.map (Value.int .u8)) rfl (HO.out.alloc _) _ 1 ([(34 : Int)].map (Value.int .u8)) rfl (src_u8 (sbytes_row (heap_alloc_new _ _) HZB.out) rfl (Below.refl _ _) 1) (by unfold maxLen; omega) (by rw [I4.out]; omega) (by simp; omega) ?_; intro v4 W4 hown4 hg4 hat4; clear hat4)
      have HB4 := Lib.hid (HB.out.trans (grown_below HO.out hg4 hsw))
      have hq : W4.ownsRow w.heap.size 5 1 v4 (quot T).length ((quot T).map (Value.int .u8)) := by
        rw [← HXE.out, List.length_append, List.map_append]
        exact hown4
      obtain ⟨p', c', rfl, _, h2, _⟩ := own_bytes hq HQB.out
      have cv := conv_own h2 rfl c'
      have hql : (quot T).length = X.length + 1 := by rw [← HXE.out, List.length_append]; rfl
      rw [hql] at cv
      clear hq h2 hown4 hg4 HXE HQB
      rw [HSS.out] at cv
      rw [hql]
      clear hql
      generalize X.length + 1 = xl at cv ⊢
      go_wp2
      rw [cv]
      go_wp2
      go_ret
      exact ⟨rfl, HB4.out⟩

end Go.Proofs.YtiknhkkeifemcaaGreatDoor
namespace Go.Proofs.YtiknhkkeifemcaaGreatDoor
open Go.ChangeShapes Go.WideShapes Go.ChangeAt Go.RowKit Go.Shelf

def decS (k : Nat) (n : Nat) : List Int := if kSign k = true ∧ 9223372036854775808 ≤ n then 45 :: decDigs (18446744073709551616 - n) else decDigs n
def namJ (es : List SCho) (ref : Int) (n : Nat) : ByteArray := (es.getD ref.toNat ⟨⟨#[]⟩, []⟩).names.getD n ⟨#[]⟩
def boolF (n : Nat) : List Int := if n = 0 then [102, 97, 108, 115, 101] else [116, 114, 117, 101]
def numJ (es : List SCho) (k : Nat) (ref : Int) (n : Nat) : List Int :=
  if k = 1 then boolF n else if k = 10 then quot (bts (namJ es ref n)) else if k = 5 ∨ k = 9 then 34 :: (decS k n ++ [34]) else decS k n
def bytJ (k : Nat) (bs : List Int) : List Int := if k = 11 then quot bs else 34 :: (digL bs ++ [34])
abbrev NextJ := Nat → Int → Int → PV → List Int
def kidJ (es : List SCho) (nx : NextJ) (k : Nat) (ref lists : Int) (q : PV) : List Int :=
  if sortP k lists = 1 then numJ es k ref q.num else if sortP k lists = 2 then bytJ k q.bytes else nx k ref lists q
def elemJ (es : List SCho) (nx : NextJ) (k : Nat) (ref lists : Int) (q : PV) : List Int := if sortP k lists = 4 then nx k ref lists q else kidJ es nx k ref lists q
def kidN (q : PV) (j : Int) : PV := q.kids.getD j.toNat nilV
def elsJ (f : Nat → List Int) : Nat → List Int
  | 0 => []
  | j + 1 => elsJ f j ++ ((if j = 0 then [] else [44]) ++ f j)
def listF (es : List SCho) (nx : NextJ) (k : Nat) (ref lists : Int) (q : PV) : List Int :=
  91 :: (elsJ (fun j => elemJ es nx k ref (lists - 1) (kidN q j)) q.kids.length ++ [93])
def ltJ (fs : List SFld) (a b : Nat) : Bool := uLt (unitsP (fs.getD a noSF).name) (unitsP (fs.getD b noSF).name)
def ordJ (fs : List SFld) : List Nat := sortD (ltJ fs) fs.length
def fldJ (es : List SCho) (nx : NextJ) (c : List Int) (f : SFld) (q : PV) : List Int :=
  if sortP f.kind f.lists = 4 ∧ q.has = false then [] else c ++ (quot (bts f.name) ++ (58 :: elemJ es nx f.kind f.ref f.lists q))
def comJ (acc : List Int) : List Int := if acc = [] then [] else [44]
def fldsJ (es : List SCho) (nx : NextJ) (fs : List SFld) (q : PV) : List Nat → List Int → List Int
  | [], acc => acc
  | i :: l, acc => fldsJ es nx fs q l (acc ++ fldJ es nx (comJ acc) (fs.getD i noSF) (kidN q i))
def recJ (ss : List SRec) (ref : Int) : List SFld := (ss.getD ref.toNat ⟨⟨#[]⟩, []⟩).fields
def strJ (ss : List SRec) (es : List SCho) (nx : NextJ) (ref : Int) (q : PV) : List Int :=
  123 :: (fldsJ es nx (recJ ss ref) q (ordJ (recJ ss ref)) [] ++ [125])
def conJ (ss : List SRec) (es : List SCho) (nx : NextJ) (k : Nat) (ref lists : Int) (q : PV) : List Int := if sortP k lists = 3 then listF es nx k ref lists q else strJ ss es nx ref q
def encJ (ss : List SRec) (es : List SCho) : Nat → NextJ
  | 0 => conJ ss es (fun _ _ _ _ => [])
  | r + 1 => conJ ss es (encJ ss es r)
theorem decS_len (k n : Nat) : 1 ≤ (decS k n).length ∧ (decS k n).length ≤ 22 := by
  unfold decS
  split
  · have := decD_length 20 (18446744073709551616 - n)
    unfold decDigs
    rw [List.length_cons]
    omega
  · have := decD_length 20 n
    unfold decDigs
    omega
theorem qB_pos (z : Int) : 1 ≤ (qB z).length := by
  unfold qB
  repeat' split
  all_goals exact Nat.succ_le_succ (Nat.zero_le _)
theorem quot_len (T : List Int) : T.length + 2 ≤ (quot T).length ∧ (quot T).length ≤ 6 * T.length + 2 := by
  have h1 := qBs_len T
  have h2 : T.length ≤ (T.flatMap qB).length := by
    clear h1
    induction T with
    | nil => simp
    | cons z T ih =>
      rw [List.flatMap_cons, List.length_append, List.length_cons]
      have := qB_pos z
      omega
  have e : (quot T).length = (T.flatMap qB).length + 2 := by unfold quot; rw [List.length_cons, List.length_append, List.length_singleton]
  omega
theorem fldJ_cost (es : List SCho) (nx : NextJ) (c : List Int) (f : SFld) (q : PV) (h : ¬ (sortP f.kind f.lists = 4 ∧ q.has = false)) : 3 ≤ (fldJ es nx c f q).length := by
  unfold fldJ
  rw [if_neg h]
  have := quot_len (bts f.name)
  rw [List.length_append, List.length_append, List.length_cons]
  omega
end Go.Proofs.YtiknhkkeifemcaaGreatDoor
namespace Go.Proofs.YtiknhkkeifemcaaGreatDoor

theorem ordJ_len (fs : List SFld) : (ordJ fs).length = fs.length := sortD_len _ _
theorem ordJ_lt (fs : List SFld) {p : Nat} (h : p ∈ ordJ fs) : p < fs.length := (sortD_mem _ _ p).1 h
end Go.Proofs.YtiknhkkeifemcaaGreatDoor
