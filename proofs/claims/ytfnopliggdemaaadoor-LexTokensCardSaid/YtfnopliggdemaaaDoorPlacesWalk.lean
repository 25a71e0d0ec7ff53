/-
  The law LexPlaces returns true at all texts: a walk over the callees' contracts. Condition: the library's tables and its variable ErrRange hold what the row lists.
-/
import Derived.Test.YtfnopliggdemaaaDoorLAwake
import Derived.Test.YtfnopliggdemaaaDoorBehind
import Derived.Test.YtfnopliggdemaaaDoorTokTwin
import Derived.Test.YtfnopliggdemaaaDoorQuiet
import Derived.Test.YtfnopliggdemaaaDoorDecimal
import Derived.Deep.Cut
import Derived.Test.YtfnopliggdemaaaDoorRefGood
namespace Go.Proofs.YtfnopliggdemaaaDoor
open Go.ChangeShapes Go.WideShapes Go.ChangeAt Go.RowKit Go.Shelf

/-- The law's signs. -/
def lawSigns : ByteArray := ⟨#[123, 125, 58, 59, 61, 44, 60, 62, 46, 91, 93, 42, 33, 38, 124, 40, 41, 35, 63, 45]⟩
set_option maxRecDepth 100000 in
set_option maxHeartbeats 1000000 in
theorem lexPlaces_fault (s : ByteArray) (w : World) (hs : s.size ≤ 9223372036854775807) (hT : Tabs w) (hE : ErrV w) (l : List Tok) (code : Int) (p : Nat) (hr : toks okU (amg lawSigns) (bts s) = (l, code, p)) (hc : code ≠ 0) :
    Calls Tryd.prog 7 #[.string s] w fun e w' => e = .returned (.bool true) ∧ Below w.heap.size w w' := by
  have HA := Lib.hid (awake_any w hT hE)
  have hp : (p : Int) ≤ max (s.size : Int) 8192 := by
    have := toks_place okU (amg lawSigns) (bts s)
    rw [hr, bts_length] at this
    simp only at this
    omega
  have HL := Lib.hid (fun W hb => lexTokens_any s lawSigns W (Tabs.below hT (Nat.le_refl _) hb) hs)
  rw [hr] at HL
  have hcz : (code != 0) = true := bne_iff_ne.2 hc
  clear hr hT hE hc
  go_enter Tryd.func7, Tryd.ntmps7
  go_wp2_with fail
  refine HA.out.mono ?_
  rintro e W1 ⟨rfl, hb1⟩
  have HB1 := Lib.hid hb1
  clear hb1
  go_wp2_with fail
  refine (HL.out W1 HB1.out).mono ?_
  rintro e W2 ⟨v, rfl, _, hb2⟩
  have HB2 := Lib.hid (HB1.out.trans (hb2.mono HB1.out.size))
  clear hb2
  simp only
  go_wp2
  go_ret
  exact ⟨rfl, HB2.out.alloc HB2.out.size _⟩
/-- A slice of tokens, cell by cell. -/
theorem tok_cell {w W : World} {g : Nat} {l : List Tok} (h : ∀ j, j < l.length * 3 → w.cell? ⟨g, j, none⟩ = (toksCells l)[j]?) (hg : g < w.heap.size) (hb : Below w.heap.size w W) (k : Nat) (t : Tok) (r : List Tok) (hk : l.drop k = t :: r) :
    k < l.length ∧ W.cell? ⟨g, k * 3, none⟩ = some (.int .i64 t.kind) ∧ W.cell? ⟨g, k * 3 + 1, none⟩ = some (.string (strOfNums t.text)) ∧ W.cell? ⟨g, k * 3 + 2, none⟩ = some (.int .i64 t.place) := by
  have hlt : k < l.length := by
    rcases Nat.lt_or_ge k l.length with h | h
    · exact h
    · rw [List.drop_eq_nil_of_le h] at hk; cases hk
  have hc : ∀ j, j < 3 → (toksCells l)[k * 3 + j]? = (tokCells t)[j]? := by
    intro j hj
    have e : toksCells l = toksCells (l.take k) ++ (tokCells t ++ toksCells r) := by
      conv => lhs; rw [← List.take_append_drop k l, hk]
      simp [toksCells]
    have hl1 : (toksCells (l.take k)).length = k * 3 := by
      rw [toksCells_length, List.length_take]
      omega
    rw [e, List.getElem?_append_right (by omega), hl1, show k * 3 + j - k * 3 = j by omega, List.getElem?_append_left (by simp [tokCells]; omega)]
  refine ⟨hlt, ?_, ?_, ?_⟩
  · rw [hb.cell (p := ⟨g, k * 3, none⟩) hg, h _ (by omega)]
    exact hc 0 (by omega)
  · rw [hb.cell (p := ⟨g, k * 3 + 1, none⟩) hg, h _ (by omega)]
    exact hc 1 (by omega)
  · rw [hb.cell (p := ⟨g, k * 3 + 2, none⟩) hg, h _ (by omega)]
    exact hc 2 (by omega)
theorem wrap64_in (n : Int) (h1 : -9223372036854775808 ≤ n) (h2 : n ≤ 9223372036854775807) : wrap64 n = n := by
  unfold wrap64
  omega
theorem full_length (t : Tok) : t.text.length + (if t.kind = 3 then 2 else 0) = (full t).length := by
  unfold full
  split <;> simp
theorem text_bd {ok : List Int → Bool} {sg : Int → Bool} {s : ByteArray} {i e : Nat} {t : Tok} (_ : Fine ok sg t) (h : sub (bts s) i e = full t) : ∀ z ∈ t.text, 0 ≤ z ∧ z ≤ 255 := by
  intro z hz
  have h1 : z ∈ full t := by
    unfold full
    split
    · exact List.mem_cons_of_mem _ (List.mem_append_left _ hz)
    · exact hz
  rw [← h] at h1
  have h2 : z ∈ bts s := List.mem_of_mem_drop (List.mem_of_mem_take h1)
  obtain ⟨j, hj, rfl⟩ := List.mem_iff_getElem.1 h2
  have := bts_bd s j
  rw [List.getD, List.getElem?_eq_getElem hj] at this
  exact this
theorem bts_inj {a b : ByteArray} (h : bts a = bts b) : a = b := by
  have h1 := bts_toList a b.data.toList
  have h2 : a.toList = b.data.toList := by
    have : (a.toList == b.data.toList) = true := by rw [h1]; exact decide_eq_true h
    exact beq_iff_eq.1 this
  rw [ByteArray.toList_eq] at h2
  exact bytes_inj h2
theorem bts_part (s : ByteArray) (i j : Nat) : bts (s.extract i j) = sub (bts s) i j := by
  unfold bts sub
  rw [Lib.extract_data]
  simp
theorem part_eq {s S : ByteArray} {G : Nat} (_ : G + S.size ≤ s.size) (h : sub (bts s) G (G + S.size) = bts S) : ((s.extract G (G + S.size)).toList == S.toList) = true := by
  have e : s.extract G (G + S.size) = S := bts_inj (by rw [bts_part]; exact h)
  rw [e]
  simp
set_option maxRecDepth 100000 in
set_option maxHeartbeats 2000000 in
theorem lexPlaces_good (s : ByteArray) (w : World) (hs : s.size ≤ 8192) (hT : Tabs w) (hE : ErrV w) (l : List Tok) (p : Nat) (hr : toks okU (amg lawSigns) (bts s) = (l, 0, p)) :
    Calls Tryd.prog 7 #[.string s] w fun e w' => e = .returned (.bool true) ∧ Below w.heap.size w w' := by
  have HA := Lib.hid (awake_any w hT hE)
  have HL := Lib.hid (fun W hb => lexTokens_any s lawSigns W (Tabs.below hT (Nat.le_refl _) hb) (by omega))
  rw [hr] at HL
  obtain ⟨hch, hll⟩ := toks_chain hr
  have hne : l ≠ [] := by rintro rfl; exact hch
  have HCH := Lib.hid (show Left okU (amg lawSigns) (bts s) 0 (l.drop 0) from .inr hch)
  have HNE := Lib.hid hne
  clear hr hT hE hch hne
  go_enter Tryd.func7, Tryd.ntmps7
  go_wp2_with fail
  refine HA.out.mono ?_
  rintro e W1 ⟨rfl, hb1⟩
  have HB1 := Lib.hid hb1
  clear hb1
  go_wp2_with fail
  refine (HL.out W1 HB1.out).mono ?_
  rintro e W2 ⟨v, rfl, ho, hb2⟩
  have HB2 := Lib.hid (HB1.out.trans (hb2.mono HB1.out.size))
  obtain ⟨g, c, rfl, hc, _, hg, hcell⟩ := ho.cells HNE.out
  have HC := Lib.hid hcell
  clear hb2 hcell ho
  simp only
  go_wp2
  go_loopw [5, 32] (fun at' i wr => Below (W2.heap.size + 1) (W2.alloc (.cells #[.int .i64 0, .int .i64 p] 27)) wr ∧ ∃ k a : Nat, k ≤ l.length ∧ i = .int .i64 k ∧ at' = .int .i64 a ∧ a ≤ s.size ∧ Left okU (amg lawSigns) (bts s) a (l.drop k)) (fun _ i _ => l.length - (intOf i).toNat)
  case atStart => exact ⟨Below.refl _ _, 0, 0, Nat.zero_le _, rfl, rfl, Nat.zero_le _, HCH.out⟩
  case round =>
    obtain ⟨hb, k, a, hk, rfl, rfl, ha, hleft⟩ := hrel
    have hbw : Below W2.heap.size W2 wr := ((Below.refl _ _).alloc (Nat.le_refl _) _).trans (hb.mono (by omega))
    have HB := Lib.hid hb
    have HBW := Lib.hid (HB2.out.trans (hbw.mono HB2.out.size))
    cases hd : l.drop k with
    | nil =>
      have hkl : k = l.length := by have := List.drop_eq_nil_iff.1 hd; omega
      have hae : a = s.size := by
        rw [hd] at hleft
        rcases hleft with ⟨_, h⟩ | h
        · rw [h, bts_length]
        · exact h.elim
      subst hkl
      subst hae
      clear hleft hd hbw hb
      go_wp2
      go_ret
      exact ⟨rfl, HBW.out⟩
    | cons t r =>
      obtain ⟨hkl, c0, c1, c2⟩ := tok_cell HC.out hg hbw k t r hd
      have hgr : g < wr.heap.size := Nat.lt_of_lt_of_le hg hbw.size
      rw [hd] at hleft
      obtain ⟨f1, f2, f3, f4, f5, f6⟩ := left_step (by rw [bts_length]; exact ha) hleft
      have HF2 := Lib.hid f2
      have HF4 := Lib.hid f4
      have HF5 := Lib.hid f5
      have HF6 := Lib.hid f6
      have HD := Lib.hid hd
      clear hb hbw hleft f2 f4 f5 f6 hd
      have HTB := Lib.hid (text_bd (s := s) f1 HF4.out)
      have hfl : t.text.length + (if t.kind = 3 then 2 else 0) = (full t).length := full_length t
      rw [bts_length] at f3
      have HBEH := Lib.hid (fun W => behind_any s a a W rfl (by omega) ha)
      have HSZ : Hid (W2.heap.size + 1 ≤ wr.heap.size) := Lib.hid (by have h1 : (W2.alloc (.cells #[.int .i64 0, .int .i64 p] 27)).heap.size = W2.heap.size + 1 := Array.size_push ..; have := HB.out.size; omega)
      have HDR : Hid (l.drop (k + 1) = r) := Lib.hid (by rw [← List.drop_drop, HD.out]; rfl)
      by_cases hk3 : t.kind = 3
      · have t3 : (t.kind == 3) = true := beq_iff_eq.2 hk3
        rw [if_pos hk3] at hfl
        have q1 : ¬ 9223372036854775807 < 1 + (strOfNums t.text).size := by rw [strOfNums_size]; omega
        have q2 : ¬ 9223372036854775807 < 1 + (strOfNums t.text).size + 1 := by rw [strOfNums_size]; omega
        have HK3 := Lib.hid hk3
        clear hk3
        go_upto_region 13 with (fail)
        obtain ⟨S, hS⟩ : ∃ S, S = (ByteArray.mk #[34]) ++ strOfNums t.text ++ (ByteArray.mk #[34]) := ⟨_, rfl⟩
        rw [← hS]
        have hSf : bts S = full t := by
          rw [hS, bts_append, bts_append, bts_strOf _ HTB.out]
          unfold full
          rw [if_pos HK3.out]
          rfl
        have hSl : S.size = (full t).length := by rw [← hSf, bts_length]
        have HEX := Lib.hid (part_eq (s := s) (S := S) (G := gap (bts s) a) (by omega) (by rw [hSf, hSl]; exact HF4.out))
        have hGL : gap (bts s) a + S.size ≤ s.size := by omega
        rw [← hSl] at HF6
        clear hS hSf q1 q2 t3 hfl f3 hSl
        rw [HF2.out]
        generalize gap (bts s) a = G at HF2 HF6 HEX hGL HBEH ⊢
        have d1 : ((G : Int) != (G : Int)) = false := by simp
        have d2 : decide ((s.size : Int) < (G : Int) + (S.size : Int)) = false := by simp; omega
        have i1 : (0 : Int) ≤ (G : Int) := by omega
        have i2 : (G : Int) ≤ (G : Int) + (S.size : Int) := by omega
        have i3 : (G : Int) + (S.size : Int) ≤ (s.size : Int) := by omega
        have d3 := HEX.out
        have d6 : ((G : Int) + (S.size : Int)).toNat = G + S.size := by omega
        have hlen := congrArg List.length HD.out
        rw [List.length_drop, List.length_cons] at hlen
        by_cases hr : r = []
        · have d7 : (t.kind == 0) = true := beq_iff_eq.2 (HF5.out.2 hr)
          have d8 : ((k : Int) == (l.length : Int) - 1) = true := by rw [hr] at hlen; simp at hlen; simp only [beq_iff_eq]; omega
          clear hr hlen
          go_quiet ((go_at_call 15; exact quiet_same (HBEH.out _)))
          have hk' : k + 1 ≤ l.length := by omega
          go_wp2
          go_roundw
          case rel => exact ⟨bel_drewN (HB.out.alloc HSZ.out _) nq, k + 1, G + S.size, hk', by go_num, by go_num, hGL, HDR.out.symm ▸ HF6.out⟩
          case measure => simp [intOf]; omega
        · have d7 : (t.kind == 0) = false := beq_eq_false_iff_ne.2 (fun h => hr (HF5.out.1 h))
          have d8 : ((k : Int) == (l.length : Int) - 1) = false := by
            have := List.length_pos_iff.2 hr
            rw [beq_eq_false_iff_ne]
            omega
          clear hr hlen
          go_quiet ((go_at_call 15; exact quiet_same (HBEH.out _)))
          have hk' : k + 1 ≤ l.length := by omega
          go_wp2
          go_roundw
          case rel => exact ⟨bel_drewN (HB.out.alloc HSZ.out _) nq, k + 1, G + S.size, hk', by go_num, by go_num, hGL, HDR.out.symm ▸ HF6.out⟩
          case measure => simp [intOf]; omega
      · have t3 : (t.kind == 3) = false := beq_eq_false_iff_ne.2 hk3
        have HK3 := Lib.hid hk3
        clear hk3
        go_upto_region 13 with (fail)
        obtain ⟨S, hS⟩ : ∃ S, S = strOfNums t.text := ⟨_, rfl⟩
        rw [← hS]
        have hSf : bts S = full t := by
          rw [hS, bts_strOf _ HTB.out]
          unfold full
          rw [if_neg HK3.out]
        have hSl : S.size = (full t).length := by rw [← hSf, bts_length]
        have HEX := Lib.hid (part_eq (s := s) (S := S) (G := gap (bts s) a) (by omega) (by rw [hSf, hSl]; exact HF4.out))
        have hGL : gap (bts s) a + S.size ≤ s.size := by omega
        rw [← hSl] at HF6
        clear hS hSf t3 hfl f3 hSl
        rw [HF2.out]
        generalize gap (bts s) a = G at HF2 HF6 HEX hGL HBEH ⊢
        have d1 : ((G : Int) != (G : Int)) = false := by simp
        have d2 : decide ((s.size : Int) < (G : Int) + (S.size : Int)) = false := by simp; omega
        have i1 : (0 : Int) ≤ (G : Int) := by omega
        have i2 : (G : Int) ≤ (G : Int) + (S.size : Int) := by omega
        have i3 : (G : Int) + (S.size : Int) ≤ (s.size : Int) := by omega
        have d3 := HEX.out
        have d6 : ((G : Int) + (S.size : Int)).toNat = G + S.size := by omega
        have hlen := congrArg List.length HD.out
        rw [List.length_drop, List.length_cons] at hlen
        by_cases hr : r = []
        · have d7 : (t.kind == 0) = true := beq_iff_eq.2 (HF5.out.2 hr)
          have d8 : ((k : Int) == (l.length : Int) - 1) = true := by rw [hr] at hlen; simp at hlen; simp only [beq_iff_eq]; omega
          clear hr hlen
          go_quiet ((go_at_call 15; exact quiet_same (HBEH.out _)))
          have hk' : k + 1 ≤ l.length := by omega
          go_wp2
          go_roundw
          case rel => exact ⟨bel_drewN (HB.out.alloc HSZ.out _) nq, k + 1, G + S.size, hk', by go_num, by go_num, hGL, HDR.out.symm ▸ HF6.out⟩
          case measure => simp [intOf]; omega
        · have d7 : (t.kind == 0) = false := beq_eq_false_iff_ne.2 (fun h => hr (HF5.out.1 h))
          have d8 : ((k : Int) == (l.length : Int) - 1) = false := by
            have := List.length_pos_iff.2 hr
            rw [beq_eq_false_iff_ne]
            omega
          clear hr hlen
          go_quiet ((go_at_call 15; exact quiet_same (HBEH.out _)))
          have hk' : k + 1 ≤ l.length := by omega
          go_wp2
          go_roundw
          case rel => exact ⟨bel_drewN (HB.out.alloc HSZ.out _) nq, k + 1, G + S.size, hk', by go_num, by go_num, hGL, HDR.out.symm ▸ HF6.out⟩
          case measure => simp [intOf]; omega
theorem lexPlaces_walk (s : ByteArray) (w : World) (hs : s.size ≤ 9223372036854775807) (hT : Tabs w) (hE : ErrV w) :
    Calls Tryd.prog 7 #[.string s] w fun e w' => e = .returned (.bool true) ∧ Below w.heap.size w w' := by
  obtain ⟨r, hr⟩ : ∃ r, toks okU (amg lawSigns) (bts s) = r := ⟨_, rfl⟩
  obtain ⟨l, code, p⟩ := r
  by_cases hc : code = 0
  · subst hc
    refine lexPlaces_good s w ?_ hT hE l p hr
    unfold toks at hr
    rw [bts_length] at hr
    split at hr
    · simp at hr
    · omega
  · exact lexPlaces_fault s w hs hT hE l code p hr hc
end Go.Proofs.YtfnopliggdemaaaDoor
