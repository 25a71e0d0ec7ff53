/-
  The law's Awake: fixed facts come out true, and nothing that was there is written. Condition: the library's tables and its variable ErrRange hold what the row lists.
-/
import Derived.Test.YtneadcbadnicfaaDoorSnK
import Derived.Lib.SlBytesConst
namespace Go.Proofs.YtneadcbadnicfaaDoor
open Go.ChangeShapes Go.WideShapes Go.ChangeAt Go.RowKit Go.Shelf

/-- A scanner of bytes that were just laid. -/
def LitPost (W : World) (zs : List Int) (e : Ending) (w' : World) : Prop :=
  e = .returned (.pointer (some ⟨W.heap.size + 1 + 1, 0, none⟩)) ∧ ScSt w' (W.heap.size + 1 + 1) (W.heap.size + 1) (some ⟨W.heap.size, 0, none⟩) zs.length zs.length (1099511627776 + 0) zs 0 ∧ Below W.heap.size W w'
theorem lit_open (zs : List Int) (f : Nat × Nat) (W : World) (hb : ∀ z ∈ zs, 0 ≤ z ∧ z ≤ 255) (hl : zs.length ≤ 1000) :
    Calls Tryd.prog 10 #[.slice (some ⟨W.heap.size, 0, none⟩) zs.length zs.length, .int .i64 0] (W.alloc (.cells (zs.map (Value.int .u8)).toArray 5 f)) fun e w' => LitPost W zs e w' := by
  have h0 := heap_alloc_new W (.cells (zs.map (Value.int .u8)).toArray 5 f)
  refine (open_any (some ⟨W.heap.size, 0, none⟩) zs.length zs.length zs 0 _ (bytes_row h0 hb) rfl (Nat.le_refl _) (by omega) (fun q hq => by cases hq; exact blk_lt h0)).mono ?_
  rintro e w' ⟨he, hs, hbel⟩
  have hc : clampZ 0 zs.length = 0 := by unfold clampZ; rw [if_neg (by decide), if_pos (by omega)]; rfl
  have hsz : (W.alloc (.cells (zs.map (Value.int .u8)).toArray 5 f)).heap.size = W.heap.size + 1 := by simp
  rw [hsz] at he hs hbel
  rw [hc] at hs
  exact ⟨he, hs, ((Below.refl _ _).alloc (Nat.le_refl _) _).trans (hbel.mono (by omega))⟩
/-- New blocks are none of the tables'. -/
theorem not_tabs {w : World} {s mb : Nat} (h : Tabs w) (hs : w.heap.size ≤ s) (hm : w.heap.size ≤ mb) : NotTabs s mb := by
  obtain ⟨h1, h2⟩ := h.sizes
  exact ⟨⟨by omega, by omega⟩, ⟨by omega, by omega⟩⟩
theorem not_err {w : World} {s mb : Nat} (h : ErrV w) (hs : w.heap.size ≤ s) (hm : w.heap.size ≤ mb) : NotErr s mb := by
  obtain ⟨t, v, h⟩ := h
  have := World.block_lt_of_cell? _ _ h
  simp only at this
  exact ⟨by omega, by omega⟩
/-- A scanner in new memory steps: what was there stays. -/
theorem ScTo.new {w0 w w' : World} {s mb : Nat} {p : Option Addr} {n cap K : Nat} {zs : List Int} {a : Nat} (h : Below w0.heap.size w0 w) (k : ScTo w s mb p n cap K zs a w') (hs : w0.heap.size ≤ s) (hm : w0.heap.size ≤ mb) : Below w0.heap.size w0 w' :=
  h.trans ((k.1.mono h.size).below hs hm)
/-- Text of a scanner in new memory. -/
theorem lit_text (zs : List Int) (W W1 : World) (hT : Tabs W) (hs : ScSt W1 (W.heap.size + 1 + 1) (W.heap.size + 1) (some ⟨W.heap.size, 0, none⟩) zs.length zs.length (1099511627776 + 0) zs 0) (hb : Below W.heap.size W W1) :
    Calls Tryd.prog 11 #[.pointer (some ⟨W.heap.size + 1 + 1, 0, none⟩)] W1 fun e w' => TxtPost W1 (W.heap.size + 1 + 1) (W.heap.size + 1) (some ⟨W.heap.size, 0, none⟩) zs.length zs.length (1099511627776 + 0) zs (txtAt zs 0) e w' :=
  text_any _ _ _ _ _ _ _ _ _ (hT.below (Nat.le_refl _) hb) (not_tabs hT (by omega) (by omega)) (fun q hq => by cases hq; have := blk_lt hs.met; show W.heap.size < _; omega) hs
/-! awake -/
theorem open_lit1 (W : World) : Calls Tryd.prog 10 #[.slice (some ⟨W.heap.size, 0, none⟩) 21 21, .int .i64 0] (W.alloc (.cells #[.int .u8 34, .int .u8 97, .int .u8 92, .int .u8 117, .int .u8 48, .int .u8 48, .int .u8 101, .int .u8 57, .int .u8 92, .int .u8 117, .int .u8 100, .int .u8 56, .int .u8 51, .int .u8 100, .int .u8 92, .int .u8 117, .int .u8 100, .int .u8 101, .int .u8 48, .int .u8 48, .int .u8 34] 5 (21, 22))) fun e w' =>
    e = .returned (.pointer (some ⟨W.heap.size + 1 + 1, 0, none⟩)) ∧ ScSt w' (W.heap.size + 1 + 1) (W.heap.size + 1) (some ⟨W.heap.size, 0, none⟩) 21 21 1099511627776 lit1 0 ∧ Below W.heap.size W w' :=
  lit_open lit1 (21, 22) W (by decide) (by decide)
theorem open_lit2 (W : World) : Calls Tryd.prog 10 #[.slice (some ⟨W.heap.size, 0, none⟩) 8 8, .int .i64 0] (W.alloc (.cells #[.int .u8 34, .int .u8 92, .int .u8 117, .int .u8 100, .int .u8 56, .int .u8 51, .int .u8 100, .int .u8 34] 5 (8, 9))) fun e w' =>
    e = .returned (.pointer (some ⟨W.heap.size + 1 + 1, 0, none⟩)) ∧ ScSt w' (W.heap.size + 1 + 1) (W.heap.size + 1) (some ⟨W.heap.size, 0, none⟩) 8 8 1099511627776 lit2 0 ∧ Below W.heap.size W w' :=
  lit_open lit2 (8, 9) W (by decide) (by decide)
theorem open_lit3 (W : World) : Calls Tryd.prog 10 #[.slice (some ⟨W.heap.size, 0, none⟩) 2 2, .int .i64 0] (W.alloc (.cells #[.int .u8 45, .int .u8 48] 5 (2, 3))) fun e w' =>
    e = .returned (.pointer (some ⟨W.heap.size + 1 + 1, 0, none⟩)) ∧ ScSt w' (W.heap.size + 1 + 1) (W.heap.size + 1) (some ⟨W.heap.size, 0, none⟩) 2 2 1099511627776 [45, 48] 0 ∧ Below W.heap.size W w' :=
  lit_open [45, 48] (2, 3) W (by decide) (by decide)
theorem text_lit1 (W W1 : World) (hT : Tabs W) (hs : ScSt W1 (W.heap.size + 1 + 1) (W.heap.size + 1) (some ⟨W.heap.size, 0, none⟩) 21 21 1099511627776 lit1 0) (hb : Below W.heap.size W W1) :
    Calls Tryd.prog 11 #[.pointer (some ⟨W.heap.size + 1 + 1, 0, none⟩)] W1 fun e w' => ∃ q c, e = .returned (.tuple #[.slice q 7 c, .bool true]) ∧ Bytes w' q [97, 195, 169, 240, 159, 152, 128] ∧ ScSt w' (W.heap.size + 1 + 1) (W.heap.size + 1) (some ⟨W.heap.size, 0, none⟩) 21 21 1099511627776 lit1 21 ∧ Below W.heap.size W w' := by
  refine (lit_text lit1 W W1 hT hs hb).mono ?_
  rintro e w' (⟨T, b, v, h1, rfl, h2, h3, h4, h5⟩ | ⟨h1, _⟩)
  · rw [lit1_txt] at h1
    injection h1 with h1
    injection h1 with e1 e2
    subst e1 e2
    obtain ⟨q, c, rfl, _, hq, _⟩ := own_bytes h2 h3
    exact ⟨q, c, rfl, hq, h5.2, ScTo.new hb h5 (by omega) (by omega)⟩
  · rw [lit1_txt] at h1
    cases h1
theorem text_lit2 (W W1 : World) (hT : Tabs W) (hs : ScSt W1 (W.heap.size + 1 + 1) (W.heap.size + 1) (some ⟨W.heap.size, 0, none⟩) 8 8 1099511627776 lit2 0) (hb : Below W.heap.size W W1) :
    Calls Tryd.prog 11 #[.pointer (some ⟨W.heap.size + 1 + 1, 0, none⟩)] W1 fun e w' => e = .returned (.tuple #[.slice none 0 0, .bool false]) ∧ Below W.heap.size W w' := by
  refine (lit_text lit2 W W1 hT hs hb).mono ?_
  rintro e w' (⟨T, b, v, h1, _⟩ | ⟨h1, a', rfl, h5⟩)
  · rw [lit2_txt] at h1
    cases h1
  · exact ⟨rfl, ScTo.new hb h5 (by omega) (by omega)⟩
theorem num_lit3 (W W1 : World) (hE : ErrV W) (hs : ScSt W1 (W.heap.size + 1 + 1) (W.heap.size + 1) (some ⟨W.heap.size, 0, none⟩) 2 2 1099511627776 [45, 48] 0) (hb : Below W.heap.size W W1) :
    Calls Tryd.prog 28 #[.pointer (some ⟨W.heap.size + 1 + 1, 0, none⟩)] W1 fun e w' => e = .returned (.tuple #[.string ⟨#[]⟩, .bool false]) ∧ Below W.heap.size W w' := by
  refine (snum_any _ _ _ _ _ _ _ _ _ (hE.later hb) (not_err hE (by omega) (by omega)) hs).mono ?_
  rintro e w' (⟨T, b, h1, _⟩ | ⟨h1, a', rfl, h5⟩)
  · rw [lit3_num] at h1
    cases h1
  · exact ⟨rfl, ScTo.new hb h5 (by omega) (by omega)⟩
theorem und_lit4 (W : World) : Calls Tryd.prog 23 #[.slice (some ⟨W.heap.size, 0, none⟩) 4 4] (W.alloc (.cells #[.int .u8 48, .int .u8 97, .int .u8 102, .int .u8 102] 5 (4, 5))) fun e w' => ∃ g, e = .returned (.tuple #[.slice (some ⟨g, 0, none⟩) 2 2, .int .i64 0]) ∧ Bytes w' (some ⟨g, 0, none⟩) [10, 255] ∧ W.heap.size ≤ g ∧ Below W.heap.size W w' := by
  refine (sundig_any (some ⟨W.heap.size, 0, none⟩) 4 4 [48, 97, 102, 102] _ (bytes_row (heap_alloc_new W (.cells #[.int .u8 48, .int .u8 97, .int .u8 102, .int .u8 102] 5 (4, 5))) (by decide)) rfl (Nat.le_refl _) (by decide)).mono ?_
  have hbw : Below W.heap.size W (W.alloc (.cells #[.int .u8 48, .int .u8 97, .int .u8 102, .int .u8 102] 5 (4, 5))) := (Below.refl _ _).alloc (Nat.le_refl _) _
  have hsz : W.heap.size ≤ (W.alloc (.cells #[.int .u8 48, .int .u8 97, .int .u8 102, .int .u8 102] 5 (4, 5))).heap.size := hbw.size
  rintro e w' ⟨(⟨T, g, h1, rfl, h2, h3⟩ | ⟨h1, rfl⟩), hb⟩
  · rw [lit4_und] at h1
    injection h1 with h1
    subst h1
    exact ⟨_, rfl, bytes_row h2 (by decide), Nat.le_trans hsz h3, hbw.trans (hb.mono hsz)⟩
  · rw [lit4_und] at h1
    cases h1
theorem und_lit5 (W : World) : Calls Tryd.prog 23 #[.slice (some ⟨W.heap.size, 0, none⟩) 2 2] (W.alloc (.cells #[.int .u8 48, .int .u8 65] 5 (2, 3))) fun e w' => e = .returned (.tuple #[.slice none 0 0, .int .i64 20]) ∧ Below W.heap.size W w' := by
  refine (sundig_any (some ⟨W.heap.size, 0, none⟩) 2 2 [48, 65] _ (bytes_row (heap_alloc_new W (.cells #[.int .u8 48, .int .u8 65] 5 (2, 3))) (by decide)) rfl (Nat.le_refl _) (by decide)).mono ?_
  have hbw : Below W.heap.size W (W.alloc (.cells #[.int .u8 48, .int .u8 65] 5 (2, 3))) := (Below.refl _ _).alloc (Nat.le_refl _) _
  have hsz : W.heap.size ≤ (W.alloc (.cells #[.int .u8 48, .int .u8 65] 5 (2, 3))).heap.size := hbw.size
  rintro e w' ⟨(⟨T, g, h1, rfl, h2, h3⟩ | ⟨h1, rfl⟩), hb⟩
  · rw [lit5_und] at h1
    cases h1
  · exact ⟨rfl, hbw.trans (hb.mono hsz)⟩
set_option maxRecDepth 20000 in
theorem awake13_any (w : World) (hT : Tabs w) (hE : ErrV w) : Calls Tryd.prog 9 #[] w fun e w' => e = .returned (.bool true) ∧ Below w.heap.size w w' := by
  have HT := Lib.hid hT
  have HE := Lib.hid hE
  have kc := fun (w : World) (C : Array Value) (n c : Nat) => Lib.run_convert_bytes_const (P := Tryd.prog) w 22 5 C n c Tryd.underlying22 Tryd.underlying5
  clear hT hE
  go_enter Tryd.func9, Tryd.ntmps9
  go_wp2_with fail
  refine (open_lit1 w).mono ?_
  rintro e w1 ⟨rfl, h1, hb1⟩
  have H1 := Lib.hid h1
  have HB1 := Lib.hid hb1
  have hs1 := blk_lt h1.blk
  clear h1 hb1
  go_wp2_with fail
  refine (text_lit1 w w1 HT.out H1.out HB1.out).mono ?_
  rintro e w2 ⟨q, c, rfl, h2, h3, hb2⟩
  have H2 := Lib.hid h2
  have H3 := Lib.hid h3
  have HB2 := Lib.hid hb2
  clear h2 h3 hb2
  go_wp2_with fail
  refine (open_lit2 w2).mono ?_
  rintro e w3 ⟨rfl, h3, hb3⟩
  have H4 := Lib.hid h3
  have HB3 := Lib.hid hb3
  clear h3 hb3
  go_wp2_with fail
  refine (text_lit2 w2 w3 (HT.out.below (Nat.le_refl _) HB2.out) H4.out HB3.out).mono ?_
  rintro e w4 ⟨rfl, hb4⟩
  have HB4 := Lib.hid hb4
  clear hb4
  go_wp2_with fail
  refine (open_lit3 w4).mono ?_
  rintro e w5 ⟨rfl, h5, hb5⟩
  have H5 := Lib.hid h5
  have HB5 := Lib.hid hb5
  clear h5 hb5
  go_wp2_with fail
  refine (num_lit3 w4 w5 ((HE.out.later HB2.out).later HB4.out) H5.out HB5.out).mono ?_
  rintro e w6 ⟨rfl, hb6⟩
  have HB6 := Lib.hid hb6
  clear hb6
  go_wp2_with fail
  refine (und_lit4 w6).mono ?_
  rintro e w7 ⟨g7, rfl, h7, hg7, hb7⟩
  have H7 := Lib.hid h7
  have HB7 := Lib.hid hb7
  clear h7 hb7
  go_wp2_with fail
  refine (und_lit5 w7).mono ?_
  rintro e w8 ⟨rfl, hb8⟩
  have B28 := Lib.hid (HB4.out.trans ((HB6.out.mono HB4.out.size).trans ((HB7.out.mono (Nat.le_trans HB4.out.size HB6.out.size)).trans (hb8.mono (Nat.le_trans HB4.out.size (Nat.le_trans HB6.out.size HB7.out.size))))))
  have Y2 := Lib.hid (H2.out.below (Nat.le_refl _) B28.out)
  have Y3 := Lib.hid (H3.out.below B28.out)
  have Y7 := Lib.hid (H7.out.below (Nat.le_refl _) hb8)
  have cv2 := conv_own Y2.out (show _ = 7 from rfl) c
  clear hb8
  obtain ⟨S1, hS1⟩ : ∃ S, strOfNums [97, 195, 169, 240, 159, 152, 128] = S := ⟨_, rfl⟩
  rw [hS1] at cv2
  have b1 : (S1.toList == [97, 195, 169, 240, 159, 152, 128]) = true := by rw [← hS1]; kernel_rfl
  have HS1 := Lib.hid hS1
  clear hS1
  go_wp2_with fail
  refine (sc_end _ _ _ _ _ _ _ _ _ Y3.out).mono ?_
  rintro e w9 ⟨rfl, h9⟩
  have HG7 := Lib.hid (show w.heap.size + 1 + 1 < g7 by have h1 := H3.out; have := blk_lt h1.blk; have := HB4.out.size; have := HB6.out.size; omega)
  have Y9 := Lib.hid (Y7.out.exw h9.1 (fun q hq => by cases hq; have := HG7.out; constructor <;> (show g7 ≠ _) <;> omega))
  have B9 := Lib.hid (ScTo.new (HB2.out.trans (B28.out.mono HB2.out.size)) h9 (by omega) (by omega))
  have cv7 := conv_own Y9.out (show _ = 2 from rfl) 2
  have e1 : decide (runTo lit1 isBlank 21 = lit1.length) = true := by kernel_rfl
  rw [e1]
  clear h9 e1
  obtain ⟨S2, hS2⟩ : ∃ S, strOfNums [10, 255] = S := ⟨_, rfl⟩
  rw [hS2] at cv7
  have b2 : (S2.toList == [10, 255]) = true := by rw [← hS2]; kernel_rfl
  clear hS2
  go_wp2
  go_ret
  exact ⟨rfl, B9.out⟩
end Go.Proofs.YtneadcbadnicfaaDoor
