/-
  The law ScanUnits by a walk of its text: at every input it returns true. Condition: the library's tables and its variable ErrRange hold what the row lists.
-/
import Derived.Test.YtneadcbadnicfaaDoorSnUn
import Derived.Test.YtneadcbadnicfaaDoorSnUnP
namespace Go.Proofs.YtneadcbadnicfaaDoor
open Go.ChangeShapes Go.WideShapes Go.ChangeAt Go.RowKit Go.Shelf

def dgOf (D : ByteArray) (k : Int) : Int := (bts D).getD k.toNat 0
theorem uTxt_is (D : ByteArray) (n : Int) : uTxt D n = uD (dgOf D) n := rfl
theorem digs_false : Digs (dgOf ⟨#[48, 49, 50, 51, 52, 53, 54, 55, 56, 57, 97, 98, 99, 100, 101, 102]⟩) := fun k h0 h1 => by
  have h : k = 0 ∨ k = 1 ∨ k = 2 ∨ k = 3 ∨ k = 4 ∨ k = 5 ∨ k = 6 ∨ k = 7 ∨ k = 8 ∨ k = 9 ∨ k = 10 ∨ k = 11 ∨ k = 12 ∨ k = 13 ∨ k = 14 ∨ k = 15 := by omega
  rcases h with rfl | rfl | rfl | rfl | rfl | rfl | rfl | rfl | rfl | rfl | rfl | rfl | rfl | rfl | rfl | rfl <;> rfl
theorem digs_true : Digs (dgOf ⟨#[48, 49, 50, 51, 52, 53, 54, 55, 56, 57, 65, 66, 67, 68, 69, 70]⟩) := fun k h0 h1 => by
  have h : k = 0 ∨ k = 1 ∨ k = 2 ∨ k = 3 ∨ k = 4 ∨ k = 5 ∨ k = 6 ∨ k = 7 ∨ k = 8 ∨ k = 9 ∨ k = 10 ∨ k = 11 ∨ k = 12 ∨ k = 13 ∨ k = 14 ∨ k = 15 := by omega
  rcases h with rfl | rfl | rfl | rfl | rfl | rfl | rfl | rfl | rfl | rfl | rfl | rfl | rfl | rfl | rfl | rfl <;> rfl
theorem dgOf_bd (D : ByteArray) (k : Int) : 0 ≤ dgOf D k ∧ dgOf D k ≤ 255 := bts_bd D _
theorem uD_bd (D : ByteArray) (n : Int) : ∀ z ∈ uD (dgOf D) n, 0 ≤ z ∧ z ≤ 255 := by
  intro z hz
  unfold uD at hz
  simp only [List.mem_cons, List.mem_nil_iff, or_false] at hz
  rcases hz with rfl | rfl | rfl | rfl | rfl | rfl
  · decide
  · decide
  all_goals exact dgOf_bd D _
/-- The text in quotes that the law reads, and what comes of it. -/
theorem quote_bts {T : List Int} (hT : ∀ z ∈ T, 0 ≤ z ∧ z ≤ 255) : bts (⟨#[34]⟩ ++ strOfNums T ++ ⟨#[34]⟩) = [34] ++ T ++ [34] ∧ ∀ z ∈ [34] ++ T ++ [34], 0 ≤ z ∧ z ≤ 255 := by
  have hb : ∀ z ∈ [34] ++ T ++ [34], (0 : Int) ≤ z ∧ z ≤ 255 := by
    intro z hz
    rcases List.mem_append.1 hz with h | h
    · rcases List.mem_append.1 h with h | h
      · rw [List.mem_singleton.1 h]; decide
      · exact hT z h
    · rw [List.mem_singleton.1 h]; decide
  refine ⟨?_, hb⟩
  rw [show (⟨#[34]⟩ : ByteArray) = strOfNums [34] from rfl, ← strOf_app, ← strOf_app]
  exact bts_strOf _ hb
/-- Open and Text of a text that was just made bytes of. -/
theorem str_open (S : ByteArray) (K : Nat) (w : World) (hs : S.size ≤ 1000) (hK : S.size ≤ K) :
    Calls Tryd.prog 10 #[.slice (some ⟨w.heap.size, 0, none⟩) S.size K, .int .i64 0] (Lib.bytesWorld w 5 S) fun e w' =>
      e = .returned (.pointer (some ⟨w.heap.size + 1 + 1, 0, none⟩)) ∧ ScSt w' (w.heap.size + 1 + 1) (w.heap.size + 1) (some ⟨w.heap.size, 0, none⟩) S.size K (1099511627776 + 0) (bts S) 0 ∧ Below w.heap.size w w' := by
  have hsz : (Lib.bytesWorld w 5 S).heap.size = w.heap.size + 1 := Lib.bytesWorld_size ..
  refine (open_any (some ⟨w.heap.size, 0, none⟩) S.size K (bts S) 0 _ (bytes_new w S) (bts_length S) hK (by omega) (fun q hq => by cases hq; show w.heap.size < _; omega)).mono ?_
  rintro e w' ⟨he, h1, h2⟩
  have hc : clampZ 0 S.size = 0 := by unfold clampZ; rw [if_neg (by decide), if_pos (by omega)]; rfl
  rw [hsz] at he h1 h2
  rw [hc] at h1
  exact ⟨he, h1, (Lib.bytesWorld_below w 5 S).trans (h2.mono (by omega))⟩
theorem str_text (S : ByteArray) (K : Nat) (w w1 : World) (hT : Tabs w) (hs : ScSt w1 (w.heap.size + 1 + 1) (w.heap.size + 1) (some ⟨w.heap.size, 0, none⟩) S.size K (1099511627776 + 0) (bts S) 0) (hb : Below w.heap.size w w1) :
    Calls Tryd.prog 11 #[.pointer (some ⟨w.heap.size + 1 + 1, 0, none⟩)] w1 fun e w' => (∀ T b, txtAt (bts S) 0 = some (T, b) → ∃ q c, e = .returned (.tuple #[.slice q T.length c, .bool true]) ∧ Bytes w' q T) ∧ (txtAt (bts S) 0 = none → e = .returned (.tuple #[.slice none 0 0, .bool false])) ∧ Below w.heap.size w w' := by
  refine (text_any _ _ _ _ _ _ _ _ _ (hT.below (Nat.le_refl _) hb) (not_tabs hT (by omega) (by omega)) (fun q hq => by cases hq; have := blk_lt hs.met; show w.heap.size < _; omega) hs).mono ?_
  rintro e w' (⟨T, b, v, h1, rfl, h2, h3, h4, h5⟩ | ⟨h1, a', rfl, h5⟩)
  · refine ⟨fun T' b' h => ?_, fun h => ?_, ScTo.new hb h5 (by omega) (by omega)⟩
    · rw [h1] at h
      injection h with h
      injection h with e1 e2
      subst e1 e2
      obtain ⟨q, c, rfl, _, hq, _⟩ := own_bytes h2 h3
      exact ⟨q, c, rfl, hq⟩
    · rw [h1] at h; cases h
  · exact ⟨fun T' b' h => (by rw [h1] at h; cases h), fun _ => rfl, ScTo.new hb h5 (by omega) (by omega)⟩
/-- A text in quotes made bytes of, named. -/
theorem made_quote {T : List Int} (hT : ∀ z ∈ T, 0 ≤ z ∧ z ≤ 255) (hl : T.length ≤ 900) : ∃ R1 R2 : ByteArray, (∀ W, (Op.stringOp .add ⟨#[34]⟩ (strOfNums T)).run Tryd.prog W = .ok (.string R1) W) ∧ (∀ W, (Op.stringOp .add R1 ⟨#[34]⟩).run Tryd.prog W = .ok (.string R2) W) ∧ bts R2 = [34] ++ T ++ [34] ∧ R2.size ≤ 1000 := by
  have hs : (strOfNums T).size = T.length := by rw [← bts_length, bts_strOf T hT]
  have h1 : (⟨#[34]⟩ ++ strOfNums T : ByteArray).size = 1 + T.length := by rw [ByteArray.size_append, hs]; rfl
  have h2 : (⟨#[34]⟩ ++ strOfNums T ++ ⟨#[34]⟩ : ByteArray).size = 1 + T.length + 1 := by rw [ByteArray.size_append, h1]; rfl
  refine ⟨_, _, fun W => run_string_add_sum W _ _ (by rw [hs]; show 1 + T.length ≤ _; omega), fun W => run_string_add_sum W _ _ (by rw [h1]; show 1 + T.length + 1 ≤ _; omega), (quote_bts hT).1, by rw [h2]; omega⟩
set_option maxRecDepth 50000 in
set_option maxHeartbeats 4000000 in
theorem scanUnits_walk (r : Int) (great : Bool) (w : World) (_hr : (Lit.int .i32 r).wf = true) (hT : Tabs w) (hE : ErrV w) :
    Calls Tryd.prog 5 #[.int .i32 r, .bool great] w fun e w' => e = .returned (.bool true) ∧ Below w.heap.size w w' := by
  have HA := Lib.hid (awake13_any w hT hE)
  have HT := Lib.hid hT
  have am := and_i32 r
  obtain ⟨m, hm⟩ : ∃ m, r % 2097152 = m := ⟨_, rfl⟩
  have m0 : 0 ≤ m := by omega
  have m1 : m < 2097152 := by omega
  rw [hm] at am
  clear hm hT hE _hr
  cases great
  · skip
    by_cases c1 : 1114111 < m
    · skip
      go_enter Tryd.func5, Tryd.ntmps5
      go_wp2_with fail
      refine HA.out.mono ?_
      rintro e w1 ⟨rfl, hb1⟩
      have HB1 := Lib.hid hb1
      clear hb1
      go_upto_region 7 with (fail)
      have HB4 := Lib.hid (HB1.out.alloc HB1.out.size (.cells #[.string ⟨#[48, 49, 50, 51, 52, 53, 54, 55, 56, 57, 97, 98, 99, 100, 101, 102]⟩] 9))
      have hcell := (blk_cell (heap_alloc_new w1 (.cells #[.string ⟨#[48, 49, 50, 51, 52, 53, 54, 55, 56, 57, 97, 98, 99, 100, 101, 102]⟩] 9)) 0).trans rfl
      have hlt4 : w1.heap.size < (w1.alloc (.cells #[.string ⟨#[48, 49, 50, 51, 52, 53, 54, 55, 56, 57, 97, 98, 99, 100, 101, 102]⟩] 9)).heap.size := by simp
      generalize w1.alloc (.cells #[.string ⟨#[48, 49, 50, 51, 52, 53, 54, 55, 56, 57, 97, 98, 99, 100, 101, 102]⟩] 9) = W4 at *
      generalize w1.heap.size = bx at hcell hlt4 ⊢
      clear hcell
      go_wp2
      go_ret
      exact ⟨rfl, HB4.out⟩
    have U1 := Lib.hid (fun (B : Nat) (W : World) h => units1_any B ⟨#[48, 49, 50, 51, 52, 53, 54, 55, 56, 57, 97, 98, 99, 100, 101, 102]⟩ rfl m m0 (by omega) W h)
    by_cases c2 : m ≤ 65535
    · obtain ⟨R1, R2, q1, q2, hR, hRs⟩ := made_quote (uD_bd ⟨#[48, 49, 50, 51, 52, 53, 54, 55, 56, 57, 97, 98, 99, 100, 101, 102]⟩ m) (by show 6 ≤ 900; decide)
      have HTX := Lib.hid (one_unit digs_false m m0 c2 (bd_le (quote_bts (uD_bd ⟨#[48, 49, 50, 51, 52, 53, 54, 55, 56, 57, 97, 98, 99, 100, 101, 102]⟩ m)).2))
      rw [← hR] at HTX
      have kc := fun W => Lib.run_convert_string_bytes (P := Tryd.prog) W 9 22 5 R2 Tryd.underlying9 Tryd.underlying22 Tryd.underlying5
      rw [uTxt_is] at U1
      generalize strOfNums (uD (dgOf ⟨#[48, 49, 50, 51, 52, 53, 54, 55, 56, 57, 97, 98, 99, 100, 101, 102]⟩) m) = S1 at q1 U1
      clear hR
      by_cases c3 : 55296 ≤ m ∧ m < 57344
      · obtain ⟨c4, c5⟩ := c3
        have HO : Hid (txtAt (bts R2) 0 = none) := by unfold Hid; rw [HTX.out, if_neg (by omega)]
        go_enter Tryd.func5, Tryd.ntmps5
        go_wp2_with fail
        refine HA.out.mono ?_
        rintro e w1 ⟨rfl, hb1⟩
        have HB1 := Lib.hid hb1
        clear hb1
        go_upto_region 7 with (fail)
        have HB4 := Lib.hid (HB1.out.alloc HB1.out.size (.cells #[.string ⟨#[48, 49, 50, 51, 52, 53, 54, 55, 56, 57, 97, 98, 99, 100, 101, 102]⟩] 9))
        have hcell := (blk_cell (heap_alloc_new w1 (.cells #[.string ⟨#[48, 49, 50, 51, 52, 53, 54, 55, 56, 57, 97, 98, 99, 100, 101, 102]⟩] 9)) 0).trans rfl
        have hlt4 : w1.heap.size < (w1.alloc (.cells #[.string ⟨#[48, 49, 50, 51, 52, 53, 54, 55, 56, 57, 97, 98, 99, 100, 101, 102]⟩] 9)).heap.size := by simp
        generalize w1.alloc (.cells #[.string ⟨#[48, 49, 50, 51, 52, 53, 54, 55, 56, 57, 97, 98, 99, 100, 101, 102]⟩] 9) = W4 at *
        generalize w1.heap.size = bx at hcell hlt4 ⊢
        go_wp2_with fail
        refine (U1.out bx _ hcell).mono ?_
        rintro e w5 ⟨rfl, hb1⟩
        have HB5 := Lib.hid (HB4.out.trans (hb1.mono HB4.out.size))
        clear hb1 hcell
        go_wp2_with fail
        refine (str_open R2 _ w5 hRs (grownCap_ge ..)).mono ?_
        rintro e w6 ⟨rfl, h6, hb6⟩
        have H6 := Lib.hid h6
        have HB6 := Lib.hid hb6
        clear h6 hb6
        go_wp2_with fail
        refine (str_text R2 _ w5 w6 (HT.out.below (Nat.le_refl _) HB5.out) H6.out HB6.out).mono ?_
        rintro e w7 ⟨h7, h8, hb7⟩
        have HB7 := Lib.hid (HB5.out.trans (hb7.mono HB5.out.size))
        obtain rfl := h8 HO.out
        clear h7 h8 hb7
        go_wp2
        go_ret
        exact ⟨rfl, HB7.out⟩
      · have HO : Hid (txtAt (bts R2) 0 = some (enc m.toNat, 8)) := by unfold Hid; rw [HTX.out, if_pos (by omega)]
        have HRU : Hid (isRune m.toNat) := by unfold Hid isRune; omega
        by_cases c4 : 55296 ≤ m
        · have c5 : ¬ m < 57344 := fun h => c3 ⟨c4, h⟩
          clear c3
          go_enter Tryd.func5, Tryd.ntmps5
          go_wp2_with fail
          refine HA.out.mono ?_
          rintro e w1 ⟨rfl, hb1⟩
          have HB1 := Lib.hid hb1
          clear hb1
          go_upto_region 7 with (fail)
          have HB4 := Lib.hid (HB1.out.alloc HB1.out.size (.cells #[.string ⟨#[48, 49, 50, 51, 52, 53, 54, 55, 56, 57, 97, 98, 99, 100, 101, 102]⟩] 9))
          have hcell := (blk_cell (heap_alloc_new w1 (.cells #[.string ⟨#[48, 49, 50, 51, 52, 53, 54, 55, 56, 57, 97, 98, 99, 100, 101, 102]⟩] 9)) 0).trans rfl
          have hlt4 : w1.heap.size < (w1.alloc (.cells #[.string ⟨#[48, 49, 50, 51, 52, 53, 54, 55, 56, 57, 97, 98, 99, 100, 101, 102]⟩] 9)).heap.size := by simp
          generalize w1.alloc (.cells #[.string ⟨#[48, 49, 50, 51, 52, 53, 54, 55, 56, 57, 97, 98, 99, 100, 101, 102]⟩] 9) = W4 at *
          generalize w1.heap.size = bx at hcell hlt4 ⊢
          go_wp2_with fail
          refine (U1.out bx _ hcell).mono ?_
          rintro e w5 ⟨rfl, hb1⟩
          have HB5 := Lib.hid (HB4.out.trans (hb1.mono HB4.out.size))
          clear hb1 hcell
          go_wp2_with fail
          refine (str_open R2 _ w5 hRs (grownCap_ge ..)).mono ?_
          rintro e w6 ⟨rfl, h6, hb6⟩
          have H6 := Lib.hid h6
          have HB6 := Lib.hid hb6
          clear h6 hb6
          go_wp2_with fail
          refine (str_text R2 _ w5 w6 (HT.out.below (Nat.le_refl _) HB5.out) H6.out HB6.out).mono ?_
          rintro e w7 ⟨h7, h8, hb7⟩
          have HB7 := Lib.hid (HB5.out.trans (hb7.mono HB5.out.size))
          obtain ⟨q, c, rfl, hq⟩ := h7 _ _ HO.out
          have cv := conv_own hq rfl c
          have hen := encode_str m.toNat HRU.out
          rw [show ((m.toNat : Nat) : Int) = m by omega] at hen
          have cvr : ∀ W, (convert 21 9 (.int .i32 m)).run Tryd.prog W = .ok (.string (strOfNums (enc m.toNat))) W := fun W => by
            rw [run_convert_int_string W _ _ .i32 m (by rw [Tryd.underlying21]; rfl) Tryd.underlying9, hen]
          clear h7 h8 hb7 hen
          generalize strOfNums (enc m.toNat) = X at cv cvr
          generalize (enc m.toNat).length = xl at cv
          go_wp2
          go_ret
          exact ⟨rfl, HB7.out⟩
        · clear c3
          go_enter Tryd.func5, Tryd.ntmps5
          go_wp2_with fail
          refine HA.out.mono ?_
          rintro e w1 ⟨rfl, hb1⟩
          have HB1 := Lib.hid hb1
          clear hb1
          go_upto_region 7 with (fail)
          have HB4 := Lib.hid (HB1.out.alloc HB1.out.size (.cells #[.string ⟨#[48, 49, 50, 51, 52, 53, 54, 55, 56, 57, 97, 98, 99, 100, 101, 102]⟩] 9))
          have hcell := (blk_cell (heap_alloc_new w1 (.cells #[.string ⟨#[48, 49, 50, 51, 52, 53, 54, 55, 56, 57, 97, 98, 99, 100, 101, 102]⟩] 9)) 0).trans rfl
          have hlt4 : w1.heap.size < (w1.alloc (.cells #[.string ⟨#[48, 49, 50, 51, 52, 53, 54, 55, 56, 57, 97, 98, 99, 100, 101, 102]⟩] 9)).heap.size := by simp
          generalize w1.alloc (.cells #[.string ⟨#[48, 49, 50, 51, 52, 53, 54, 55, 56, 57, 97, 98, 99, 100, 101, 102]⟩] 9) = W4 at *
          generalize w1.heap.size = bx at hcell hlt4 ⊢
          go_wp2_with fail
          refine (U1.out bx _ hcell).mono ?_
          rintro e w5 ⟨rfl, hb1⟩
          have HB5 := Lib.hid (HB4.out.trans (hb1.mono HB4.out.size))
          clear hb1 hcell
          go_wp2_with fail
          refine (str_open R2 _ w5 hRs (grownCap_ge ..)).mono ?_
          rintro e w6 ⟨rfl, h6, hb6⟩
          have H6 := Lib.hid h6
          have HB6 := Lib.hid hb6
          clear h6 hb6
          go_wp2_with fail
          refine (str_text R2 _ w5 w6 (HT.out.below (Nat.le_refl _) HB5.out) H6.out HB6.out).mono ?_
          rintro e w7 ⟨h7, h8, hb7⟩
          have HB7 := Lib.hid (HB5.out.trans (hb7.mono HB5.out.size))
          obtain ⟨q, c, rfl, hq⟩ := h7 _ _ HO.out
          have cv := conv_own hq rfl c
          have hen := encode_str m.toNat HRU.out
          rw [show ((m.toNat : Nat) : Int) = m by omega] at hen
          have cvr : ∀ W, (convert 21 9 (.int .i32 m)).run Tryd.prog W = .ok (.string (strOfNums (enc m.toNat))) W := fun W => by
            rw [run_convert_int_string W _ _ .i32 m (by rw [Tryd.underlying21]; rfl) Tryd.underlying9, hen]
          clear h7 h8 hb7 hen
          generalize strOfNums (enc m.toNat) = X at cv cvr
          generalize (enc m.toNat).length = xl at cv
          go_wp2
          go_ret
          exact ⟨rfl, HB7.out⟩
    · have a10 : bits BinOp.and .i32 (m - 65536) 1023 = (m - 65536) % 1024 := bits_mask .i32 31 (by decide) wraps_i32 10 (by decide) _ (by omega) (by omega)
      obtain ⟨P, hP⟩ : ∃ P, (m - 65536) / 1024 = P := ⟨_, rfl⟩
      obtain ⟨Q, hQ⟩ : ∃ Q, (m - 65536) % 1024 = Q := ⟨_, rfl⟩
      have p0 : 0 ≤ P := by omega
      have p1 : P < 1024 := by omega
      have z0 : 0 ≤ Q := by omega
      have z1 : Q < 1024 := by omega
      have U2 := Lib.hid (fun (B : Nat) (W : World) h => units1_any B ⟨#[48, 49, 50, 51, 52, 53, 54, 55, 56, 57, 97, 98, 99, 100, 101, 102]⟩ rfl (55296 + P) (by omega) (by omega) W h)
      have U3 := Lib.hid (fun (B : Nat) (W : World) h => units1_any B ⟨#[48, 49, 50, 51, 52, 53, 54, 55, 56, 57, 97, 98, 99, 100, 101, 102]⟩ rfl (56320 + Q) (by omega) (by omega) W h)
      have hTb : ∀ z ∈ uD (dgOf ⟨#[48, 49, 50, 51, 52, 53, 54, 55, 56, 57, 97, 98, 99, 100, 101, 102]⟩) (55296 + P) ++ uD (dgOf ⟨#[48, 49, 50, 51, 52, 53, 54, 55, 56, 57, 97, 98, 99, 100, 101, 102]⟩) (56320 + Q), 0 ≤ z ∧ z ≤ 255 := fun z hz => by
        rcases List.mem_append.1 hz with h | h
        · exact uD_bd ⟨#[48, 49, 50, 51, 52, 53, 54, 55, 56, 57, 97, 98, 99, 100, 101, 102]⟩ _ z h
        · exact uD_bd ⟨#[48, 49, 50, 51, 52, 53, 54, 55, 56, 57, 97, 98, 99, 100, 101, 102]⟩ _ z h
      obtain ⟨R1, R2, q1, q2, hR, hRs⟩ := made_quote hTb (by show 12 ≤ 900; decide)
      have HTX := Lib.hid (two_units digs_false m (by omega) (by omega) (by rw [hP, hQ]; exact bd_le (quote_bts hTb).2))
      rw [hP, hQ, ← hR] at HTX
      have kc := fun W => Lib.run_convert_string_bytes (P := Tryd.prog) W 9 22 5 R2 Tryd.underlying9 Tryd.underlying22 Tryd.underlying5
      rw [strOf_app] at q1
      rw [uTxt_is] at U1 U2 U3
      have q0 : ∀ W, (Op.stringOp .add (strOfNums (uD (dgOf ⟨#[48, 49, 50, 51, 52, 53, 54, 55, 56, 57, 97, 98, 99, 100, 101, 102]⟩) (55296 + P))) (strOfNums (uD (dgOf ⟨#[48, 49, 50, 51, 52, 53, 54, 55, 56, 57, 97, 98, 99, 100, 101, 102]⟩) (56320 + Q)))).run Tryd.prog W = .ok (.string (strOfNums (uD (dgOf ⟨#[48, 49, 50, 51, 52, 53, 54, 55, 56, 57, 97, 98, 99, 100, 101, 102]⟩) (55296 + P)) ++ strOfNums (uD (dgOf ⟨#[48, 49, 50, 51, 52, 53, 54, 55, 56, 57, 97, 98, 99, 100, 101, 102]⟩) (56320 + Q)))) W := fun W => run_string_add_sum W _ _ (by
        rw [← bts_length, ← bts_length, bts_strOf _ (uD_bd ⟨#[48, 49, 50, 51, 52, 53, 54, 55, 56, 57, 97, 98, 99, 100, 101, 102]⟩ _), bts_strOf _ (uD_bd ⟨#[48, 49, 50, 51, 52, 53, 54, 55, 56, 57, 97, 98, 99, 100, 101, 102]⟩ _)]
        show 12 ≤ _
        decide)
      generalize strOfNums (uD (dgOf ⟨#[48, 49, 50, 51, 52, 53, 54, 55, 56, 57, 97, 98, 99, 100, 101, 102]⟩) m) = S1 at U1
      generalize strOfNums (uD (dgOf ⟨#[48, 49, 50, 51, 52, 53, 54, 55, 56, 57, 97, 98, 99, 100, 101, 102]⟩) (55296 + P)) ++ strOfNums (uD (dgOf ⟨#[48, 49, 50, 51, 52, 53, 54, 55, 56, 57, 97, 98, 99, 100, 101, 102]⟩) (56320 + Q)) = S4 at q0 q1
      generalize strOfNums (uD (dgOf ⟨#[48, 49, 50, 51, 52, 53, 54, 55, 56, 57, 97, 98, 99, 100, 101, 102]⟩) (55296 + P)) = S2 at U2 q0
      generalize strOfNums (uD (dgOf ⟨#[48, 49, 50, 51, 52, 53, 54, 55, 56, 57, 97, 98, 99, 100, 101, 102]⟩) (56320 + Q)) = S3 at U3 q0
      rw [hQ] at a10
      have HO := HTX
      have HRU : Hid (isRune m.toNat) := by unfold Hid isRune; omega
      have c5 : ¬ m < 57344 := by omega
      have c4 : 55296 ≤ m := by omega
      clear hR hTb hQ
      go_enter Tryd.func5, Tryd.ntmps5
      go_wp2_with fail
      refine HA.out.mono ?_
      rintro e w1 ⟨rfl, hb1⟩
      have HB1 := Lib.hid hb1
      clear hb1
      go_upto_region 7 with (fail)
      have HB4 := Lib.hid (HB1.out.alloc HB1.out.size (.cells #[.string ⟨#[48, 49, 50, 51, 52, 53, 54, 55, 56, 57, 97, 98, 99, 100, 101, 102]⟩] 9))
      have hcell := (blk_cell (heap_alloc_new w1 (.cells #[.string ⟨#[48, 49, 50, 51, 52, 53, 54, 55, 56, 57, 97, 98, 99, 100, 101, 102]⟩] 9)) 0).trans rfl
      have hlt4 : w1.heap.size < (w1.alloc (.cells #[.string ⟨#[48, 49, 50, 51, 52, 53, 54, 55, 56, 57, 97, 98, 99, 100, 101, 102]⟩] 9)).heap.size := by simp
      generalize w1.alloc (.cells #[.string ⟨#[48, 49, 50, 51, 52, 53, 54, 55, 56, 57, 97, 98, 99, 100, 101, 102]⟩] 9) = W4 at *
      generalize w1.heap.size = bx at hcell hlt4 ⊢
      go_wp2_with fail
      refine (U1.out bx _ hcell).mono ?_
      rintro e w5 ⟨rfl, hb1⟩
      have hcell2 := (hb1.cell (p := ⟨bx, 0, none⟩) hlt4).trans hcell
      have HB5 := Lib.hid (HB4.out.trans (hb1.mono HB4.out.size))
      have hlt5 := Nat.lt_of_lt_of_le hlt4 hb1.size
      clear hb1 hcell hlt4
      go_wp2_with fail
      refine (U2.out bx _ hcell2).mono ?_
      rintro e w8 ⟨rfl, hb2⟩
      have hcell3 := (hb2.cell (p := ⟨bx, 0, none⟩) hlt5).trans hcell2
      have HB8 := Lib.hid (HB5.out.trans (hb2.mono HB5.out.size))
      clear hb2 hcell2 hlt5
      go_wp2_with fail
      refine (U3.out bx _ hcell3).mono ?_
      rintro e w9 ⟨rfl, hb3⟩
      have HB9 := Lib.hid (HB8.out.trans (hb3.mono HB8.out.size))
      clear hb3 hcell3
      go_wp2_with fail
      refine (str_open R2 _ w9 hRs (grownCap_ge ..)).mono ?_
      rintro e w6 ⟨rfl, h6, hb6⟩
      have H6 := Lib.hid h6
      have HB6 := Lib.hid hb6
      clear h6 hb6
      go_wp2_with fail
      refine (str_text R2 _ w9 w6 (HT.out.below (Nat.le_refl _) HB9.out) H6.out HB6.out).mono ?_
      rintro e w7 ⟨h7, h8, hb7⟩
      have HB7 := Lib.hid (HB9.out.trans (hb7.mono HB9.out.size))
      obtain ⟨q, c, rfl, hq⟩ := h7 _ _ HO.out
      have cv := conv_own hq rfl c
      have hen := encode_str m.toNat HRU.out
      rw [show ((m.toNat : Nat) : Int) = m by omega] at hen
      have cvr : ∀ W, (convert 21 9 (.int .i32 m)).run Tryd.prog W = .ok (.string (strOfNums (enc m.toNat))) W := fun W => by
        rw [run_convert_int_string W _ _ .i32 m (by rw [Tryd.underlying21]; rfl) Tryd.underlying9, hen]
      clear h7 h8 hb7 hen
      generalize strOfNums (enc m.toNat) = X at cv cvr
      generalize (enc m.toNat).length = xl at cv
      go_wp2
      go_ret
      exact ⟨rfl, HB7.out⟩
  · skip
    by_cases c1 : 1114111 < m
    · skip
      go_enter Tryd.func5, Tryd.ntmps5
      go_wp2_with fail
      refine HA.out.mono ?_
      rintro e w1 ⟨rfl, hb1⟩
      have HB1 := Lib.hid hb1
      clear hb1
      go_upto_region 7 with (fail)
      have HB4 := Lib.hid (HB1.out.alloc HB1.out.size (.cells #[.string ⟨#[48, 49, 50, 51, 52, 53, 54, 55, 56, 57, 65, 66, 67, 68, 69, 70]⟩] 9))
      have hcell := (blk_cell (heap_alloc_new w1 (.cells #[.string ⟨#[48, 49, 50, 51, 52, 53, 54, 55, 56, 57, 65, 66, 67, 68, 69, 70]⟩] 9)) 0).trans rfl
      have hlt4 : w1.heap.size < (w1.alloc (.cells #[.string ⟨#[48, 49, 50, 51, 52, 53, 54, 55, 56, 57, 65, 66, 67, 68, 69, 70]⟩] 9)).heap.size := by simp
      generalize w1.alloc (.cells #[.string ⟨#[48, 49, 50, 51, 52, 53, 54, 55, 56, 57, 65, 66, 67, 68, 69, 70]⟩] 9) = W4 at *
      generalize w1.heap.size = bx at hcell hlt4 ⊢
      clear hcell
      go_wp2
      go_ret
      exact ⟨rfl, HB4.out⟩
    have U1 := Lib.hid (fun (B : Nat) (W : World) h => units1_any B ⟨#[48, 49, 50, 51, 52, 53, 54, 55, 56, 57, 65, 66, 67, 68, 69, 70]⟩ rfl m m0 (by omega) W h)
    by_cases c2 : m ≤ 65535
    · obtain ⟨R1, R2, q1, q2, hR, hRs⟩ := made_quote (uD_bd ⟨#[48, 49, 50, 51, 52, 53, 54, 55, 56, 57, 65, 66, 67, 68, 69, 70]⟩ m) (by show 6 ≤ 900; decide)
      have HTX := Lib.hid (one_unit digs_true m m0 c2 (bd_le (quote_bts (uD_bd ⟨#[48, 49, 50, 51, 52, 53, 54, 55, 56, 57, 65, 66, 67, 68, 69, 70]⟩ m)).2))
      rw [← hR] at HTX
      have kc := fun W => Lib.run_convert_string_bytes (P := Tryd.prog) W 9 22 5 R2 Tryd.underlying9 Tryd.underlying22 Tryd.underlying5
      rw [uTxt_is] at U1
      generalize strOfNums (uD (dgOf ⟨#[48, 49, 50, 51, 52, 53, 54, 55, 56, 57, 65, 66, 67, 68, 69, 70]⟩) m) = S1 at q1 U1
      clear hR
      by_cases c3 : 55296 ≤ m ∧ m < 57344
      · obtain ⟨c4, c5⟩ := c3
        have HO : Hid (txtAt (bts R2) 0 = none) := by unfold Hid; rw [HTX.out, if_neg (by omega)]
        go_enter Tryd.func5, Tryd.ntmps5
        go_wp2_with fail
        refine HA.out.mono ?_
        rintro e w1 ⟨rfl, hb1⟩
        have HB1 := Lib.hid hb1
        clear hb1
        go_upto_region 7 with (fail)
        have HB4 := Lib.hid (HB1.out.alloc HB1.out.size (.cells #[.string ⟨#[48, 49, 50, 51, 52, 53, 54, 55, 56, 57, 65, 66, 67, 68, 69, 70]⟩] 9))
        have hcell := (blk_cell (heap_alloc_new w1 (.cells #[.string ⟨#[48, 49, 50, 51, 52, 53, 54, 55, 56, 57, 65, 66, 67, 68, 69, 70]⟩] 9)) 0).trans rfl
        have hlt4 : w1.heap.size < (w1.alloc (.cells #[.string ⟨#[48, 49, 50, 51, 52, 53, 54, 55, 56, 57, 65, 66, 67, 68, 69, 70]⟩] 9)).heap.size := by simp
        generalize w1.alloc (.cells #[.string ⟨#[48, 49, 50, 51, 52, 53, 54, 55, 56, 57, 65, 66, 67, 68, 69, 70]⟩] 9) = W4 at *
        generalize w1.heap.size = bx at hcell hlt4 ⊢
        go_wp2_with fail
        refine (U1.out bx _ hcell).mono ?_
        rintro e w5 ⟨rfl, hb1⟩
        have HB5 := Lib.hid (HB4.out.trans (hb1.mono HB4.out.size))
        clear hb1 hcell
        go_wp2_with fail
        refine (str_open R2 _ w5 hRs (grownCap_ge ..)).mono ?_
        rintro e w6 ⟨rfl, h6, hb6⟩
        have H6 := Lib.hid h6
        have HB6 := Lib.hid hb6
        clear h6 hb6
        go_wp2_with fail
        refine (str_text R2 _ w5 w6 (HT.out.below (Nat.le_refl _) HB5.out) H6.out HB6.out).mono ?_
        rintro e w7 ⟨h7, h8, hb7⟩
        have HB7 := Lib.hid (HB5.out.trans (hb7.mono HB5.out.size))
        obtain rfl := h8 HO.out
        clear h7 h8 hb7
        go_wp2
        go_ret
        exact ⟨rfl, HB7.out⟩
      · have HO : Hid (txtAt (bts R2) 0 = some (enc m.toNat, 8)) := by unfold Hid; rw [HTX.out, if_pos (by omega)]
        have HRU : Hid (isRune m.toNat) := by unfold Hid isRune; omega
        by_cases c4 : 55296 ≤ m
        · have c5 : ¬ m < 57344 := fun h => c3 ⟨c4, h⟩
          clear c3
          go_enter Tryd.func5, Tryd.ntmps5
          go_wp2_with fail
          refine HA.out.mono ?_
          rintro e w1 ⟨rfl, hb1⟩
          have HB1 := Lib.hid hb1
          clear hb1
          go_upto_region 7 with (fail)
          have HB4 := Lib.hid (HB1.out.alloc HB1.out.size (.cells #[.string ⟨#[48, 49, 50, 51, 52, 53, 54, 55, 56, 57, 65, 66, 67, 68, 69, 70]⟩] 9))
          have hcell := (blk_cell (heap_alloc_new w1 (.cells #[.string ⟨#[48, 49, 50, 51, 52, 53, 54, 55, 56, 57, 65, 66, 67, 68, 69, 70]⟩] 9)) 0).trans rfl
          have hlt4 : w1.heap.size < (w1.alloc (.cells #[.string ⟨#[48, 49, 50, 51, 52, 53, 54, 55, 56, 57, 65, 66, 67, 68, 69, 70]⟩] 9)).heap.size := by simp
          generalize w1.alloc (.cells #[.string ⟨#[48, 49, 50, 51, 52, 53, 54, 55, 56, 57, 65, 66, 67, 68, 69, 70]⟩] 9) = W4 at *
          generalize w1.heap.size = bx at hcell hlt4 ⊢
          go_wp2_with fail
          refine (U1.out bx _ hcell).mono ?_
          rintro e w5 ⟨rfl, hb1⟩
          have HB5 := Lib.hid (HB4.out.trans (hb1.mono HB4.out.size))
          clear hb1 hcell
          go_wp2_with fail
          refine (str_open R2 _ w5 hRs (grownCap_ge ..)).mono ?_
          rintro e w6 ⟨rfl, h6, hb6⟩
          have H6 := Lib.hid h6
          have HB6 := Lib.hid hb6
          clear h6 hb6
          go_wp2_with fail
          refine (str_text R2 _ w5 w6 (HT.out.below (Nat.le_refl _) HB5.out) H6.out HB6.out).mono ?_
          rintro e w7 ⟨h7, h8, hb7⟩
          have HB7 := Lib.hid (HB5.out.trans (hb7.mono HB5.out.size))
          obtain ⟨q, c, rfl, hq⟩ := h7 _ _ HO.out
          have cv := conv_own hq rfl c
          have hen := encode_str m.toNat HRU.out
          rw [show ((m.toNat : Nat) : Int) = m by omega] at hen
          have cvr : ∀ W, (convert 21 9 (.int .i32 m)).run Tryd.prog W = .ok (.string (strOfNums (enc m.toNat))) W := fun W => by
            rw [run_convert_int_string W _ _ .i32 m (by rw [Tryd.underlying21]; rfl) Tryd.underlying9, hen]
          clear h7 h8 hb7 hen
          generalize strOfNums (enc m.toNat) = X at cv cvr
          generalize (enc m.toNat).length = xl at cv
          go_wp2
          go_ret
          exact ⟨rfl, HB7.out⟩
        · clear c3
          go_enter Tryd.func5, Tryd.ntmps5
          go_wp2_with fail
          refine HA.out.mono ?_
          rintro e w1 ⟨rfl, hb1⟩
          have HB1 := Lib.hid hb1
          clear hb1
          go_upto_region 7 with (fail)
          have HB4 := Lib.hid (HB1.out.alloc HB1.out.size (.cells #[.string ⟨#[48, 49, 50, 51, 52, 53, 54, 55, 56, 57, 65, 66, 67, 68, 69, 70]⟩] 9))
          have hcell := (blk_cell (heap_alloc_new w1 (.cells #[.string ⟨#[48, 49, 50, 51, 52, 53, 54, 55, 56, 57, 65, 66, 67, 68, 69, 70]⟩] 9)) 0).trans rfl
          have hlt4 : w1.heap.size < (w1.alloc (.cells #[.string ⟨#[48, 49, 50, 51, 52, 53, 54, 55, 56, 57, 65, 66, 67, 68, 69, 70]⟩] 9)).heap.size := by simp
          generalize w1.alloc (.cells #[.string ⟨#[48, 49, 50, 51, 52, 53, 54, 55, 56, 57, 65, 66, 67, 68, 69, 70]⟩] 9) = W4 at *
          generalize w1.heap.size = bx at hcell hlt4 ⊢
          go_wp2_with fail
          refine (U1.out bx _ hcell).mono ?_
          rintro e w5 ⟨rfl, hb1⟩
          have HB5 := Lib.hid (HB4.out.trans (hb1.mono HB4.out.size))
          clear hb1 hcell
          go_wp2_with fail
          refine (str_open R2 _ w5 hRs (grownCap_ge ..)).mono ?_
          rintro e w6 ⟨rfl, h6, hb6⟩
          have H6 := Lib.hid h6
          have HB6 := Lib.hid hb6
          clear h6 hb6
          go_wp2_with fail
          refine (str_text R2 _ w5 w6 (HT.out.below (Nat.le_refl _) HB5.out) H6.out HB6.out).mono ?_
          rintro e w7 ⟨h7, h8, hb7⟩
          have HB7 := Lib.hid (HB5.out.trans (hb7.mono HB5.out.size))
          obtain ⟨q, c, rfl, hq⟩ := h7 _ _ HO.out
          have cv := conv_own hq rfl c
          have hen := encode_str m.toNat HRU.out
          rw [show ((m.toNat : Nat) : Int) = m by omega] at hen
          have cvr : ∀ W, (convert 21 9 (.int .i32 m)).run Tryd.prog W = .ok (.string (strOfNums (enc m.toNat))) W := fun W => by
            rw [run_convert_int_string W _ _ .i32 m (by rw [Tryd.underlying21]; rfl) Tryd.underlying9, hen]
          clear h7 h8 hb7 hen
          generalize strOfNums (enc m.toNat) = X at cv cvr
          generalize (enc m.toNat).length = xl at cv
          go_wp2
          go_ret
          exact ⟨rfl, HB7.out⟩
    · have a10 : bits BinOp.and .i32 (m - 65536) 1023 = (m - 65536) % 1024 := bits_mask .i32 31 (by decide) wraps_i32 10 (by decide) _ (by omega) (by omega)
      obtain ⟨P, hP⟩ : ∃ P, (m - 65536) / 1024 = P := ⟨_, rfl⟩
      obtain ⟨Q, hQ⟩ : ∃ Q, (m - 65536) % 1024 = Q := ⟨_, rfl⟩
      have p0 : 0 ≤ P := by omega
      have p1 : P < 1024 := by omega
      have z0 : 0 ≤ Q := by omega
      have z1 : Q < 1024 := by omega
      have U2 := Lib.hid (fun (B : Nat) (W : World) h => units1_any B ⟨#[48, 49, 50, 51, 52, 53, 54, 55, 56, 57, 65, 66, 67, 68, 69, 70]⟩ rfl (55296 + P) (by omega) (by omega) W h)
      have U3 := Lib.hid (fun (B : Nat) (W : World) h => units1_any B ⟨#[48, 49, 50, 51, 52, 53, 54, 55, 56, 57, 65, 66, 67, 68, 69, 70]⟩ rfl (56320 + Q) (by omega) (by omega) W h)
      have hTb : ∀ z ∈ uD (dgOf ⟨#[48, 49, 50, 51, 52, 53, 54, 55, 56, 57, 65, 66, 67, 68, 69, 70]⟩) (55296 + P) ++ uD (dgOf ⟨#[48, 49, 50, 51, 52, 53, 54, 55, 56, 57, 65, 66, 67, 68, 69, 70]⟩) (56320 + Q), 0 ≤ z ∧ z ≤ 255 := fun z hz => by
        rcases List.mem_append.1 hz with h | h
        · exact uD_bd ⟨#[48, 49, 50, 51, 52, 53, 54, 55, 56, 57, 65, 66, 67, 68, 69, 70]⟩ _ z h
        · exact uD_bd ⟨#[48, 49, 50, 51, 52, 53, 54, 55, 56, 57, 65, 66, 67, 68, 69, 70]⟩ _ z h
      obtain ⟨R1, R2, q1, q2, hR, hRs⟩ := made_quote hTb (by show 12 ≤ 900; decide)
      have HTX := Lib.hid (two_units digs_true m (by omega) (by omega) (by rw [hP, hQ]; exact bd_le (quote_bts hTb).2))
      rw [hP, hQ, ← hR] at HTX
      have kc := fun W => Lib.run_convert_string_bytes (P := Tryd.prog) W 9 22 5 R2 Tryd.underlying9 Tryd.underlying22 Tryd.underlying5
      rw [strOf_app] at q1
      rw [uTxt_is] at U1 U2 U3
      have q0 : ∀ W, (Op.stringOp .add (strOfNums (uD (dgOf ⟨#[48, 49, 50, 51, 52, 53, 54, 55, 56, 57, 65, 66, 67, 68, 69, 70]⟩) (55296 + P))) (strOfNums (uD (dgOf ⟨#[48, 49, 50, 51, 52, 53, 54, 55, 56, 57, 65, 66, 67, 68, 69, 70]⟩) (56320 + Q)))).run Tryd.prog W = .ok (.string (strOfNums (uD (dgOf ⟨#[48, 49, 50, 51, 52, 53, 54, 55, 56, 57, 65, 66, 67, 68, 69, 70]⟩) (55296 + P)) ++ strOfNums (uD (dgOf ⟨#[48, 49, 50, 51, 52, 53, 54, 55, 56, 57, 65, 66, 67, 68, 69, 70]⟩) (56320 + Q)))) W := fun W => run_string_add_sum W _ _ (by
        rw [← bts_length, ← bts_length, bts_strOf _ (uD_bd ⟨#[48, 49, 50, 51, 52, 53, 54, 55, 56, 57, 65, 66, 67, 68, 69, 70]⟩ _), bts_strOf _ (uD_bd ⟨#[48, 49, 50, 51, 52, 53, 54, 55, 56, 57, 65, 66, 67, 68, 69, 70]⟩ _)]
        show 12 ≤ _
        decide)
      generalize strOfNums (uD (dgOf ⟨#[48, 49, 50, 51, 52, 53, 54, 55, 56, 57, 65, 66, 67, 68, 69, 70]⟩) m) = S1 at U1
      generalize strOfNums (uD (dgOf ⟨#[48, 49, 50, 51, 52, 53, 54, 55, 56, 57, 65, 66, 67, 68, 69, 70]⟩) (55296 + P)) ++ strOfNums (uD (dgOf ⟨#[48, 49, 50, 51, 52, 53, 54, 55, 56, 57, 65, 66, 67, 68, 69, 70]⟩) (56320 + Q)) = S4 at q0 q1
      generalize strOfNums (uD (dgOf ⟨#[48, 49, 50, 51, 52, 53, 54, 55, 56, 57, 65, 66, 67, 68, 69, 70]⟩) (55296 + P)) = S2 at U2 q0
      generalize strOfNums (uD (dgOf ⟨#[48, 49, 50, 51, 52, 53, 54, 55, 56, 57, 65, 66, 67, 68, 69, 70]⟩) (56320 + Q)) = S3 at U3 q0
      rw [hQ] at a10
      have HO := HTX
      have HRU : Hid (isRune m.toNat) := by unfold Hid isRune; omega
      have c5 : ¬ m < 57344 := by omega
      have c4 : 55296 ≤ m := by omega
      clear hR hTb hQ
      go_enter Tryd.func5, Tryd.ntmps5
      go_wp2_with fail
      refine HA.out.mono ?_
      rintro e w1 ⟨rfl, hb1⟩
      have HB1 := Lib.hid hb1
      clear hb1
      go_upto_region 7 with (fail)
      have HB4 := Lib.hid (HB1.out.alloc HB1.out.size (.cells #[.string ⟨#[48, 49, 50, 51, 52, 53, 54, 55, 56, 57, 65, 66, 67, 68, 69, 70]⟩] 9))
      have hcell := (blk_cell (heap_alloc_new w1 (.cells #[.string ⟨#[48, 49, 50, 51, 52, 53, 54, 55, 56, 57, 65, 66, 67, 68, 69, 70]⟩] 9)) 0).trans rfl
      have hlt4 : w1.heap.size < (w1.alloc (.cells #[.string ⟨#[48, 49, 50, 51, 52, 53, 54, 55, 56, 57, 65, 66, 67, 68, 69, 70]⟩] 9)).heap.size := by simp
      generalize w1.alloc (.cells #[.string ⟨#[48, 49, 50, 51, 52, 53, 54, 55, 56, 57, 65, 66, 67, 68, 69, 70]⟩] 9) = W4 at *
      generalize w1.heap.size = bx at hcell hlt4 ⊢
      go_wp2_with fail
      refine (U1.out bx _ hcell).mono ?_
      rintro e w5 ⟨rfl, hb1⟩
      have hcell2 := (hb1.cell (p := ⟨bx, 0, none⟩) hlt4).trans hcell
      have HB5 := Lib.hid (HB4.out.trans (hb1.mono HB4.out.size))
      have hlt5 := Nat.lt_of_lt_of_le hlt4 hb1.size
      clear hb1 hcell hlt4
      go_wp2_with fail
      refine (U2.out bx _ hcell2).mono ?_
      rintro e w8 ⟨rfl, hb2⟩
      have hcell3 := (hb2.cell (p := ⟨bx, 0, none⟩) hlt5).trans hcell2
      have HB8 := Lib.hid (HB5.out.trans (hb2.mono HB5.out.size))
      clear hb2 hcell2 hlt5
      go_wp2_with fail
      refine (U3.out bx _ hcell3).mono ?_
      rintro e w9 ⟨rfl, hb3⟩
      have HB9 := Lib.hid (HB8.out.trans (hb3.mono HB8.out.size))
      clear hb3 hcell3
      go_wp2_with fail
      refine (str_open R2 _ w9 hRs (grownCap_ge ..)).mono ?_
      rintro e w6 ⟨rfl, h6, hb6⟩
      have H6 := Lib.hid h6
      have HB6 := Lib.hid hb6
      clear h6 hb6
      go_wp2_with fail
      refine (str_text R2 _ w9 w6 (HT.out.below (Nat.le_refl _) HB9.out) H6.out HB6.out).mono ?_
      rintro e w7 ⟨h7, h8, hb7⟩
      have HB7 := Lib.hid (HB9.out.trans (hb7.mono HB9.out.size))
      obtain ⟨q, c, rfl, hq⟩ := h7 _ _ HO.out
      have cv := conv_own hq rfl c
      have hen := encode_str m.toNat HRU.out
      rw [show ((m.toNat : Nat) : Int) = m by omega] at hen
      have cvr : ∀ W, (convert 21 9 (.int .i32 m)).run Tryd.prog W = .ok (.string (strOfNums (enc m.toNat))) W := fun W => by
        rw [run_convert_int_string W _ _ .i32 m (by rw [Tryd.underlying21]; rfl) Tryd.underlying9, hen]
      clear h7 h8 hb7 hen
      generalize strOfNums (enc m.toNat) = X at cv cvr
      generalize (enc m.toNat).length = xl at cv
      go_wp2
      go_ret
      exact ⟨rfl, HB7.out⟩
end Go.Proofs.YtneadcbadnicfaaDoor
