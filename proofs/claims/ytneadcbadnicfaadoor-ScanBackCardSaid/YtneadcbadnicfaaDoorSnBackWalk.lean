/-
  The law ScanBack by a walk of its text: at every input it returns true. In order: a text in quotes, plain; the document's Digits and Quoted; runes and back; bytes appended to those just made of a text; the walk. (Some small facts stand here once more, so that a claim's texts are few.) Condition: the library's tables and its variable ErrRange hold what the row lists.
-/
import Derived.Test.YtneadcbadnicfaaDoorSuQ
import Derived.Test.YtneadcbadnicfaaDoorSnDg
import Derived.Test.YtneadcbadnicfaaDoorRuneEnc
import Derived.BigQuiet
import Derived.Deep.AppendSrc
import Derived.Laws.IdiomCopy
import Derived.Laws.IdiomStrings
import Derived.Laws.Cover4
namespace Go.Proofs.YtneadcbadnicfaaDoor
open Go.ChangeShapes Go.WideShapes Go.ChangeAt Go.RowKit Go.Shelf
section
open Go.Lib

theorem bk_hexsU_four {a b c e : Int} {x y z u : Nat} (h1 : hexU a = some x) (h2 : hexU b = some y) (h3 : hexU c = some z) (h4 : hexU e = some u) : hexsU [a, b, c, e] 0 = some (((x * 16 + y) * 16 + z) * 16 + u) := by
  simp only [hexsU, h1, h2, h3, h4]
  congr 1
  omega
theorem bk_st_at {zs : List Int} {c : Int} {i : Nat} (hi : i < zs.length) (h : zs.getD i 0 = c) : stA zs (isC c) i = true := by
  rw [stA_of hi]
  unfold isC
  exact decide_eq_true h
theorem bk_st_no {zs : List Int} {c : Int} {i : Nat} (h : zs.getD i 0 ≠ c ∨ zs.length ≤ i) : stA zs (isC c) i = false := by
  by_cases hi : i < zs.length
  · rw [stA_of hi]
    unfold isC
    rcases h with h | h
    · exact decide_eq_false h
    · omega
  · exact stA_ge (by omega)
theorem bk_strOf_bts' (s : ByteArray) : strOfNums (bts s) = s := by
  apply ByteArray.ext
  apply Array.ext'
  rw [strOfNums_data]
  unfold bts
  rw [List.map_map]
  conv => rhs; rw [← List.map_id s.data.toList]
  refine List.map_congr_left fun z _ => ?_
  show UInt8.ofNat ((z.toNat : Int)).toNat = z
  rw [Int.toNat_natCast]
  exact UInt8.ofNat_toNat
theorem bk_bts_of {s : ByteArray} {l : List Int} (h1 : s.size = l.length) (h2 : ∀ j, j < l.length → ((s.data.toList.getD j 0).toNat : Int) = l.getD j 0) : s = strOfNums l := by
  refine (bk_strOf_bts' s).symm.trans (congrArg strOfNums ?_)
  refine List.ext_getElem (by rw [bts_length]; exact h1) (fun j ha hb => ?_)
  have h3 : j < s.data.toList.length := by rw [bts_length] at ha; exact ha
  have := h2 j hb
  rw [List.getD_eq_getElem?_getD, List.getElem?_eq_getElem h3, Option.getD_some, List.getD_eq_getElem?_getD, List.getElem?_eq_getElem hb, Option.getD_some] at this
  rw [← this]
  simp [bts]
theorem bk_encode_str (c : Nat) (hc : isRune c) : Utf8.encode (c : Int) = strOfNums (enc c) := by
  obtain ⟨h1, h2⟩ := encode_enc c hc
  exact bk_bts_of h1 h2
theorem bk_strOf_app (a b : List Int) : strOfNums (a ++ b) = strOfNums a ++ strOfNums b := by
  apply ByteArray.ext
  apply Array.ext'
  rw [strOfNums_data, ByteArray.data_append, Array.toList_append, strOfNums_data, strOfNums_data, List.map_append]

/-- A byte as it stands between quotes. -/
def qB (z : Int) : List Int :=
  if z = 34 then [92, 34] else if z = 92 then [92, 92] else if z = 8 then [92, 98] else if z = 9 then [92, 116] else if z = 10 then [92, 110] else if z = 12 then [92, 102] else if z = 13 then [92, 114]
  else if z < 32 then [92, 117, 48, 48, hexC (z / 16), hexC (z % 16)] else [z]
def quot (T : List Int) : List Int := 34 :: (T.flatMap qB ++ [34])
theorem here_drop {zs t : List Int} {a : Nat} {h : Int} (e : zs.drop a = h :: t) : hereZ zs a = h ∧ a < zs.length ∧ zs.getD a 0 = h ∧ zs.drop (a + 1) = t := by
  have hl : a < zs.length := by
    have := congrArg List.length e
    simp at this
    omega
  have hg : zs.getD a 0 = h := by
    have := congrArg (fun l => l.getD 0 0) e
    simpa [List.getD] using this
  refine ⟨by unfold hereZ; rw [if_pos hl, hg], hl, hg, ?_⟩
  have := congrArg List.tail e
  rwa [List.tail_drop] at this
theorem hexU_hexC {k : Int} (h0 : 0 ≤ k) (h1 : k < 16) : hexU (hexC k) = some k.toNat := by
  have : smallC (hexC k) = hexC k := by unfold smallC hexC; split <;> rw [if_neg (by omega)]
  unfold hexU
  rw [this]
  exact hexD_hexC h0 h1
theorem esc_one {zs t : List Int} {a : Nat} {m : Int} {v : Nat} (e : zs.drop a = 92 :: m :: t) (hm : m ≠ 117) (hv : meantC m = some v) : escAt zs (a + 1) = some (v, a + 2) := by
  obtain ⟨_, _, _, e2⟩ := here_drop e
  obtain ⟨_, hl, hg, _⟩ := here_drop e2
  unfold escAt
  rw [bk_st_no (.inl (by rw [hg]; exact hm)), if_neg (by decide), if_pos hl, hg, hv]
theorem esc_low {zs t : List Int} {a : Nat} {z : Int} (h0 : 0 ≤ z) (h1 : z < 32) (e : zs.drop a = 92 :: 117 :: 48 :: 48 :: hexC (z / 16) :: hexC (z % 16) :: t) : escAt zs (a + 1) = some (z.toNat, a + 6) := by
  obtain ⟨_, _, _, e2⟩ := here_drop e
  obtain ⟨_, hl, hg, e3⟩ := here_drop e2
  have hlen : a + 1 + 1 + 4 ≤ zs.length := by
    have := congrArg List.length e3
    simp at this
    omega
  have hu : unitAt zs (a + 1 + 1) = some z.toNat := by
    unfold unitAt
    rw [if_pos hlen, e3]
    show hexsU [48, 48, hexC (z / 16), hexC (z % 16)] 0 = _
    rw [bk_hexsU_four (x := 0) (y := 0) (z := (z / 16).toNat) (u := (z % 16).toNat) rfl rfl (hexU_hexC (by omega) (by omega)) (hexU_hexC (by omega) (by omega))]
    congr 1
    omega
  unfold escAt unitsAt
  rw [if_pos (bk_st_at hl hg), hu]
  simp only
  rw [if_pos (by omega)]
theorem rtx_quot {zs R T : List Int} (hw : Wf T) : ∀ (X D : List Int) (a : Nat), (∀ z ∈ X, 0 ≤ z ∧ z ≤ 255) → D ++ X = T → zs.drop a = X.flatMap qB ++ 34 :: R → rtxGo zs a D = some (T, a + (X.flatMap qB).length + 1)
  | [], D, a, _, hD, e => by
    rw [List.append_nil] at hD
    subst hD
    obtain ⟨h1, _⟩ := here_drop e
    rw [rtxGo_end h1, if_pos ((okT_iff hw.bd).2 hw)]
    rfl
  | z :: X, D, a, hb, hD, e => by
    have hz := hb z (List.mem_cons_self ..)
    have ih := rtx_quot (zs := zs) (R := R) hw X (D ++ [z])
    have hX : ∀ y ∈ X, 0 ≤ y ∧ y ≤ 255 := fun y hy => hb y (List.mem_cons_of_mem _ hy)
    have hD2 : (D ++ [z]) ++ X = T := by rw [List.append_assoc]; exact hD
    have fin : ∀ (n : Nat), (qB z).length = n → rtxGo zs a D = rtxGo zs (a + n) (D ++ [z]) → rtxGo zs a D = some (T, a + ((z :: X).flatMap qB).length + 1) := by
      intro n hn hstep
      rw [hstep, ih (a + n) hX hD2 (by
        rw [← List.drop_drop, e, List.flatMap_cons, List.append_assoc, ← hn, List.drop_left]), List.flatMap_cons, List.length_append, hn, Nat.add_assoc a n]
    have one : ∀ (m : Int) (v : Nat), qB z = [92, m] → m ≠ 117 → meantC m = some v → enc v = [z] → rtxGo zs a D = some (T, a + ((z :: X).flatMap qB).length + 1) := by
      intro m v hq hm hv he
      refine fin 2 (by rw [hq]; rfl) ?_
      rw [List.flatMap_cons, hq] at e
      have e' : zs.drop a = 92 :: m :: (X.flatMap qB ++ 34 :: R) := e
      rw [rtxGo_esc (here_drop e').1 (esc_one e' hm hv), he]
    by_cases c1 : z = 34
    · subst c1; exact one 34 34 rfl (by decide) rfl rfl
    by_cases c2 : z = 92
    · subst c2; exact one 92 92 rfl (by decide) rfl rfl
    by_cases c3 : z = 8
    · subst c3; exact one 98 8 rfl (by decide) rfl rfl
    by_cases c4 : z = 9
    · subst c4; exact one 116 9 rfl (by decide) rfl rfl
    by_cases c5 : z = 10
    · subst c5; exact one 110 10 rfl (by decide) rfl rfl
    by_cases c6 : z = 12
    · subst c6; exact one 102 12 rfl (by decide) rfl rfl
    by_cases c7 : z = 13
    · subst c7; exact one 114 13 rfl (by decide) rfl rfl
    by_cases c8 : z < 32
    · have hq : qB z = [92, 117, 48, 48, hexC (z / 16), hexC (z % 16)] := by
        unfold qB
        rw [if_neg c1, if_neg c2, if_neg c3, if_neg c4, if_neg c5, if_neg c6, if_neg c7, if_pos c8]
      refine fin 6 (by rw [hq]; rfl) ?_
      rw [List.flatMap_cons, hq] at e
      have e' : zs.drop a = 92 :: 117 :: 48 :: 48 :: hexC (z / 16) :: hexC (z % 16) :: (X.flatMap qB ++ 34 :: R) := e
      have he : enc z.toNat = [z] := by
        rw [enc_low (by omega)]
        congr 1
        omega
      rw [rtxGo_esc (here_drop e').1 (esc_low hz.1 c8 e'), he]
    · have hq : qB z = [z] := by
        unfold qB
        rw [if_neg c1, if_neg c2, if_neg c3, if_neg c4, if_neg c5, if_neg c6, if_neg c7, if_neg c8]
      refine fin 1 (by rw [hq]; rfl) ?_
      rw [List.flatMap_cons, hq] at e
      have e' : zs.drop a = z :: (X.flatMap qB ++ 34 :: R) := e
      have hh := (here_drop e').1
      rw [rtxGo_raw (by omega) (by omega) (by omega), hh]
/-- What ScanBack reads. -/
theorem txt_back {T R : List Int} (hw : Wf T) (hR : ∀ z ∈ R, 0 ≤ z ∧ z ≤ 255) (hq : ∀ z ∈ quot T, 0 ≤ z ∧ z ≤ 255) : txtAt ([32, 9] ++ quot T ++ R) 0 = some (T, (quot T).length + 2) := by
  have hb : ∀ z ∈ [32, 9] ++ quot T ++ R, (0 : Int) ≤ z ∧ z ≤ 255 := by
    intro z hz
    rcases List.mem_append.1 hz with h | h
    · rcases List.mem_append.1 h with h | h
      · simp at h; omega
      · exact hq z h
    · exact hR z h
  have e : [32, 9] ++ quot T ++ R = 32 :: 9 :: 34 :: (T.flatMap qB ++ 34 :: R) := by unfold quot; simp
  rw [← rtx_is (bd_le hb) 0, e]
  have hr : runTo (32 :: 9 :: 34 :: (T.flatMap qB ++ 34 :: R)) isBlank 0 = 2 := by
    rw [runTo_step (by rw [stA_of (by simp)]; rfl), runTo_step (by rw [stA_of (by simp)]; rfl)]
    exact runTo_stop (by rw [stA_of (by simp)]; rfl)
  have h34 : stA (32 :: 9 :: 34 :: (T.flatMap qB ++ 34 :: R)) (isC 34) 2 = true := bk_st_at (by simp) rfl
  have hgo := rtx_quot (zs := 32 :: 9 :: 34 :: (T.flatMap qB ++ 34 :: R)) (R := R) hw T [] 3 hw.bd rfl rfl
  unfold rtxAt
  rw [hr, if_pos h34]
  refine hgo.trans ?_
  unfold quot
  rw [List.length_cons, List.length_append]
  congr 2
  show 3 + _ + 1 = _ + 1 + 1 + 2
  omega
theorem qB_bd {z : Int} (h0 : 0 ≤ z) (h1 : z ≤ 255) : ∀ y ∈ qB z, 0 ≤ y ∧ y ≤ 255 := by
  intro y hy
  unfold qB at hy
  repeat' split at hy
  all_goals (simp at hy)
  all_goals first | omega | skip
  rcases hy with rfl | rfl | rfl | rfl | rfl
  · decide
  · decide
  · decide
  · exact hexC_bd (by omega) (by omega)
  · exact hexC_bd (by omega) (by omega)
theorem quot_bd {T : List Int} (h : ∀ z ∈ T, 0 ≤ z ∧ z ≤ 255) : ∀ z ∈ quot T, 0 ≤ z ∧ z ≤ 255 := by
  intro z hz
  unfold quot at hz
  rcases List.mem_cons.1 hz with rfl | hz
  · decide
  rcases List.mem_append.1 hz with hz | hz
  · obtain ⟨x, hx, hz⟩ := List.mem_flatMap.1 hz
    exact qB_bd (h x hx).1 (h x hx).2 z hz
  · rw [List.mem_singleton.1 hz]; decide
theorem qB_len (z : Int) : (qB z).length ≤ 6 := by unfold qB; repeat' split
                                                   all_goals (simp only [List.length_cons, List.length_nil]; omega)
theorem qBs_len (T : List Int) : (T.flatMap qB).length ≤ 6 * T.length := by
  induction T with
  | nil => simp
  | cons z T ih => rw [List.flatMap_cons, List.length_append]; have := qB_len z; simp only [List.length_cons]; omega
theorem qB_take {zs : List Int} {k : Nat} (h : k < zs.length) : (zs.take (k + 1)).flatMap qB = (zs.take k).flatMap qB ++ qB (zs.getD k 0) := by
  rw [List.take_succ_eq_append_getElem h, List.flatMap_append]
  simp [List.getD, h]
/-- The seven that stand behind a backslash. -/
def qF : List Int := [34, 92, 8, 9, 10, 12, 13]
def qG : List Int := [34, 92, 98, 116, 110, 102, 114]
theorem qB_hit {k : Nat} (h : k < 7) : qB (qF.getD k 0) = [92, qG.getD k 0] := by
  have : k = 0 ∨ k = 1 ∨ k = 2 ∨ k = 3 ∨ k = 4 ∨ k = 5 ∨ k = 6 := by omega
  rcases this with rfl | rfl | rfl | rfl | rfl | rfl | rfl <;> rfl
theorem qB_miss {z : Int} (h : ∀ k, k < 7 → qF.getD k 0 ≠ z) : qB z = if z < 32 then [92, 117, 48, 48, hexC (z / 16), hexC (z % 16)] else [z] := by
  have h0 := h 0 (by decide)
  have h1 := h 1 (by decide)
  have h2 := h 2 (by decide)
  have h3 := h 3 (by decide)
  have h4 := h 4 (by decide)
  have h5 := h 5 (by decide)
  have h6 := h 6 (by decide)
  simp [qF] at h0 h1 h2 h3 h4 h5 h6
  unfold qB
  rw [if_neg (by omega), if_neg (by omega), if_neg (by omega), if_neg (by omega), if_neg (by omega), if_neg (by omega), if_neg (by omega)]
end
theorem bk_hex_cut {k : Int} (h0 : 0 ≤ k) (h1 : k < 16) : (⟨#[48, 49, 50, 51, 52, 53, 54, 55, 56, 57, 97, 98, 99, 100, 101, 102]⟩ : ByteArray).extract k.toNat (k + 1).toNat = strOfNums [hexC k] := by
  have h : k = 0 ∨ k = 1 ∨ k = 2 ∨ k = 3 ∨ k = 4 ∨ k = 5 ∨ k = 6 ∨ k = 7 ∨ k = 8 ∨ k = 9 ∨ k = 10 ∨ k = 11 ∨ k = 12 ∨ k = 13 ∨ k = 14 ∨ k = 15 := by omega
  rcases h with rfl | rfl | rfl | rfl | rfl | rfl | rfl | rfl | rfl | rfl | rfl | rfl | rfl | rfl | rfl | rfl <;> rfl
theorem bk_strOf_size (zs : List Int) : (strOfNums zs).size = zs.length := by
  show (strOfNums zs).data.size = _
  rw [← Array.length_toList, strOfNums_data, List.length_map]
set_option maxHeartbeats 800000 in
theorem bk_rdigits_any (p : Option Addr) (n cap : Nat) (zs : List Int) (w : World) (hz : Bytes w p zs) (hn : zs.length = n) (hl : n ≤ 100000) :
    Calls Tryd.prog 26 #[.slice p n cap] w fun e w' => e = .returned (.string (strOfNums (digL zs))) ∧ Below w.heap.size w w' := by
  have HZ := Lib.hid hz
  have HN := Lib.hid hn
  obtain ⟨S, hS⟩ : ∃ S, strOfNums (digL zs) = S := ⟨_, rfl⟩
  rw [hS]
  have HSS := Lib.hid hS
  clear hS hz hn
  go_enter Tryd.func26, Tryd.ntmps26
  go_wp2
  go_loopw [4, 5] (fun v i wr => ∃ k : Nat, k ≤ n ∧ i = .int .i64 k ∧ v = .string (strOfNums (digL (zs.take k))) ∧ Below w.heap.size w wr) (fun _ i _ => n - (intOf i).toNat)
  case atStart => exact ⟨0, Nat.zero_le _, rfl, rfl, Below.refl _ _⟩
  case round =>
    obtain ⟨k, hk, rfl, rfl, hb⟩ := hrel
    have HB := Lib.hid hb
    clear hb
    by_cases hkn : k < n
    · obtain ⟨b, off, rfl, hlt, hc⟩ := HZ.out.2 (by intro e; have := HN.out; rw [e] at this; simp at this; omega)
      have hci := (HB.out.cell (p := ⟨b, off + k, none⟩) hlt).trans (hc k (by rw [HN.out]; exact hkn))
      have ht := digL_take (zs := zs) (k := k) (by rw [HN.out]; exact hkn)
      have hsz : (digL (zs.take k)).length ≤ 200000 := by rw [digL_len, List.length_take]; omega
      obtain ⟨c0, c1⟩ := HZ.out.1 k
      generalize zs.getD k 0 = c at hci ht c0 c1
      clear hc
      obtain ⟨H, hH⟩ : ∃ H, c / 16 = H := ⟨_, rfl⟩
      obtain ⟨L, hL⟩ : ∃ L, c % 16 = L := ⟨_, rfl⟩
      have h0 : 0 ≤ H := by omega
      have h1 : H < 16 := by omega
      have l0 : 0 ≤ L := by omega
      have l1 : L < 16 := by omega
      rw [hH, hL] at ht
      have td : c.tdiv 16 = H := (Int.tdiv_eq_ediv_of_nonneg c0).trans hH
      have tm : c.tmod 16 = L := (Int.tmod_eq_emod_of_nonneg c0).trans hL
      clear hH hL
      have wH := wraps_u8 H (by omega) (by omega)
      have wH1 := wraps_u8 (H + 1) (by omega) (by omega)
      have wL := wraps_u8 L (by omega) (by omega)
      have wL1 := wraps_u8 (L + 1) (by omega) (by omega)
      have sH : ∀ W, (Instr.slice 9 (.string ⟨#[48, 49, 50, 51, 52, 53, 54, 55, 56, 57, 97, 98, 99, 100, 101, 102]⟩) (some (.int .u8 H)) (some (.int .u8 (H + 1))) none).run Tryd.prog W = .ok (.string (strOfNums [hexC H])) W := fun W => by
        rw [run_slice_string W _ _ _ _ _ _ Tryd.underlying9 h0 (by omega) (by show H + 1 ≤ 16; omega), bk_hex_cut h0 h1]
      have sL : ∀ W, (Instr.slice 9 (.string ⟨#[48, 49, 50, 51, 52, 53, 54, 55, 56, 57, 97, 98, 99, 100, 101, 102]⟩) (some (.int .u8 L)) (some (.int .u8 (L + 1))) none).run Tryd.prog W = .ok (.string (strOfNums [hexC L])) W := fun W => by
        rw [run_slice_string W _ _ _ _ _ _ Tryd.underlying9 l0 (by omega) (by show L + 1 ≤ 16; omega), bk_hex_cut l0 l1]
      have q1 : ∀ W, (Op.stringOp .add (strOfNums (digL (zs.take k))) (strOfNums [hexC H])).run Tryd.prog W = .ok (.string (strOfNums (digL (zs.take k)) ++ strOfNums [hexC H])) W := fun W => run_string_add_sum W _ _ (by simp only [bk_strOf_size, List.length_cons, List.length_nil]; omega)
      have q2 : ∀ W, (Op.stringOp .add (strOfNums (digL (zs.take k)) ++ strOfNums [hexC H]) (strOfNums [hexC L])).run Tryd.prog W = .ok (.string (strOfNums (digL (zs.take k)) ++ strOfNums [hexC H] ++ strOfNums [hexC L])) W := fun W => run_string_add_sum W _ _ (by simp only [ByteArray.size_append, bk_strOf_size, List.length_cons, List.length_nil]; omega)
      have HT : Hid (strOfNums (digL (zs.take k)) ++ strOfNums [hexC H] ++ strOfNums [hexC L] = strOfNums (digL (zs.take (k + 1)))) := by
        unfold Hid
        rw [ht, ← bk_strOf_app, ← bk_strOf_app, List.append_assoc]
        rfl
      clear ht hsz
      generalize strOfNums (digL (zs.take k)) ++ strOfNums [hexC H] ++ strOfNums [hexC L] = S2 at q2 HT
      generalize strOfNums (digL (zs.take k)) ++ strOfNums [hexC H] = S1 at q1 q2
      generalize strOfNums (digL (zs.take k)) = S0 at q1
      generalize strOfNums [hexC H] = SH at sH q1
      generalize strOfNums [hexC L] = SL at sL q2
      go_wp2
      go_quiet (fail)
      go_wp2
      go_roundw
      case rel => exact ⟨k + 1, by omega, by go_num, congrArg Value.string HT.out, bel_drewN HB.out _⟩
      case measure => simp [intOf]; omega
    · obtain rfl : n = k := by omega
      have HT : Hid (strOfNums (digL (zs.take n)) = S) := by
        unfold Hid
        rw [List.take_of_length_le (by rw [HN.out]; exact Nat.le_refl _), HSS.out]
      go_wp2
      go_ret
      exact ⟨congrArg (fun s => Ending.returned (.string s)) HT.out, HB.out⟩

theorem src_str {W : World} (s : ByteArray) : Go.Src Tryd.prog 1 9 (.string s) s.size ((bts s).map (Value.int .u8)) W := by
  have h := Src.ofString (P := Tryd.prog) W Tryd.underlying9 s
  have e : byteCells s = (bts s).map (Value.int .u8) := by simp [byteCells, bts]
  rw [e] at h
  exact h
theorem qf_get {j : Int} (h0 : 0 ≤ j) (h1 : j < 7) : ((((⟨#[34, 92, 8, 9, 10, 12, 13]⟩ : ByteArray)[j.toNat]'(by show j.toNat < 7; omega)).toNat : Nat) : Int) = qF.getD j.toNat 0 := by
  have h : j = 0 ∨ j = 1 ∨ j = 2 ∨ j = 3 ∨ j = 4 ∨ j = 5 ∨ j = 6 := by omega
  rcases h with rfl | rfl | rfl | rfl | rfl | rfl | rfl <;> rfl
theorem qg_get {j : Int} (h0 : 0 ≤ j) (h1 : j < 7) : ((((⟨#[34, 92, 98, 116, 110, 102, 114]⟩ : ByteArray)[j.toNat]'(by show j.toNat < 7; omega)).toNat : Nat) : Int) = qG.getD j.toNat 0 := by
  have h : j = 0 ∨ j = 1 ∨ j = 2 ∨ j = 3 ∨ j = 4 ∨ j = 5 ∨ j = 6 := by omega
  rcases h with rfl | rfl | rfl | rfl | rfl | rfl | rfl <;> rfl
theorem own_first (w : World) (z : Int) : (w.alloc (.cells #[.int .u8 z] 5)).ownsRow w.heap.size 5 1 (.slice (some ⟨w.heap.size, 0, none⟩) 1 1) [z].length ([z].map (Value.int .u8)) :=
  ⟨rfl, .inr ⟨w.heap.size, 1, #[.int .u8 z], rfl, Nat.le_refl _, heap_alloc_new w _, Nat.le_refl _, by unfold maxLen; omega, rfl, rfl⟩⟩
theorem bytes_at {W : World} {b off : Nat} {z : Int} (h0 : 0 ≤ z) (h1 : z ≤ 255) (hb : b < W.heap.size) (h : W.cell? ⟨b, off, none⟩ = some (.int .u8 z)) : Bytes W (some ⟨b, off, none⟩) [z] :=
  ⟨bd_le (fun y hy => by rw [List.mem_singleton.1 hy]; exact ⟨h0, h1⟩), fun _ => ⟨b, off, rfl, hb, fun i hi => by
    have : i = 0 := by simpa using hi
    subst this
    exact h⟩⟩
theorem qrow_keep {w w' : World} (h : Below w.heap.size w w') {base : Nat} {e : TypeId} {size : Nat} {v : Value} {n : Nat} {xs : List Value} (ho : w.ownsRow base e size v n xs) : w'.ownsRow base e size v n xs := by
  obtain ⟨hl, h'⟩ := ho
  refine ⟨hl, ?_⟩
  rcases h' with h1 | ⟨g', cap', cur, hv, h1, hg', h2⟩
  · exact .inl h1
  · exact .inr ⟨g', cap', cur, hv, h1, (h.block g' (blk_lt hg')).trans hg', h2⟩
set_option maxRecDepth 20000 in
set_option maxHeartbeats 1600000 in
theorem quoted_any (p : Option Addr) (n cap : Nat) (T : List Int) (w : World) (hz : Bytes w p T) (hn : T.length = n) (hcap : n ≤ cap) (hl : n ≤ 20000) :
    Calls Tryd.prog 14 #[.slice p n cap] w fun e w' => e = .returned (.string (strOfNums (quot T))) ∧ Below w.heap.size w w' := by
  obtain ⟨S, hS⟩ : ∃ S, strOfNums (quot T) = S := ⟨_, rfl⟩
  rw [hS]
  have HSS := Lib.hid hS
  have HZ := Lib.hid hz
  have HN := Lib.hid hn
  have HM := Lib.hid (own_first w 34)
  clear hS
  obtain ⟨i0, hi0, hzz0, hzz1, hzz2⟩ := info_parts u8_info
  have I1 := Lib.hid hi0
  have I2 := Lib.hid hzz0
  have I3 := Lib.hid hzz1
  have I4 := Lib.hid hzz2
  clear hz hn hi0 hzz0 hzz1 hzz2
  go_enter Tryd.func14, Tryd.ntmps14
  go_wp2
  go_loopw [3, 6, 7] (fun v i _ wr => ∃ (k : Nat) (X : List Int), k ≤ n ∧ i = .int .i64 k ∧ Hid (X = 34 :: (T.take k).flatMap qB) ∧ wr.ownsRow w.heap.size 5 1 v X.length (X.map (Value.int .u8)) ∧ Below w.heap.size w wr) (fun _ i _ _ => n - (intOf i).toNat)
  case atStart => exact ⟨0, [34], Nat.zero_le _, rfl, rfl, HM.out, (Below.refl _ _).alloc (Nat.le_refl _) _⟩
  case round =>
    obtain ⟨k, X, hk, rfl, HX, ho, hb⟩ := hrel
    obtain ⟨va, vc, rfl⟩ := ownsRow_form ho
    have HO := Lib.hid ho
    have HB := Lib.hid hb
    have hXl : X.length ≤ 120001 := by
      have := qBs_len (T.take k)
      rw [HX, List.length_cons]
      rw [List.length_take] at this
      omega
    clear ho hb HM
    by_cases hkn : k < n
    · obtain ⟨b, off, rfl, hlt, hc⟩ := HZ.out.2 (by intro e; have := HN.out; rw [e] at this; simp at this; omega)
      have HCI := Lib.hid (hc k (by rw [HN.out]; exact hkn))
      have HT := Lib.hid (qB_take (zs := T) (k := k) (by rw [HN.out]; exact hkn))
      obtain ⟨z0, z1⟩ := HZ.out.1 k
      generalize T.getD k 0 = z at HCI HT z0 z1
      clear hc
      go_wp2
      go_loopw [7] (fun q wr => ∃ j : Int, 0 ≤ j ∧ j ≤ 7 ∧ q = .int .i64 j ∧ Hid (∀ m : Nat, (m : Int) < j → qF.getD m 0 ≠ z) ∧ wr.ownsRow w.heap.size 5 1 (.slice va X.length vc) X.length (X.map (Value.int .u8)) ∧ Below w.heap.size w wr) (fun q _ => 7 - (intOf q).toNat)
      case atStart => exact ⟨0, by decide, by decide, rfl, fun m hm => by omega, HO.out, HB.out⟩
      case round =>
        obtain ⟨j, j0, j7, rfl, HF, ho, hb⟩ := hrel
        clear HO HB
        have HO := Lib.hid ho
        have HB := Lib.hid hb
        have hci := (HB.out.cell (p := ⟨b, off + k, none⟩) hlt).trans HCI.out
        clear ho hb
        by_cases hj : j < 7
        · obtain ⟨A, hA⟩ : ∃ A, (⟨#[34, 92, 8, 9, 10, 12, 13]⟩ : ByteArray)[j.toNat]'(by show j.toNat < 7; omega) = A := ⟨_, rfl⟩
          have hAk : (A.toNat : Int) = qF.getD j.toNat 0 := by rw [← hA]; exact qf_get j0 hj
          by_cases hz : qF.getD j.toNat 0 = z
          · have hAz := hAk.trans hz
            have HQ : Hid (qB z = [92, qG.getD j.toNat 0]) := by unfold Hid; rw [← hz]; exact qB_hit (by omega)
            obtain ⟨G, hG⟩ : ∃ G, (⟨#[34, 92, 98, 116, 110, 102, 114]⟩ : ByteArray)[j.toNat]'(by show j.toNat < 7; omega) = G := ⟨_, rfl⟩
            have HGk : Hid ((G.toNat : Int) = qG.getD j.toNat 0) := by unfold Hid; rw [← hG]; exact qg_get j0 hj
            have HZB : Hid (∀ y ∈ [92, (G.toNat : Int)], 0 ≤ y ∧ y ≤ 255) := fun y hy => by
              have := G.toNat_lt
              simp at hy
              omega
            clear hz hAk
            go_wp2
            go_quiet (fail)
            go_upto_region 10 with (fail)
            generalize hW3 : wr.drewN _ = W3
            have HB3 : Hid (Below w.heap.size w W3) := by unfold Hid; rw [← hW3]; exact bel_drewN HB.out _
            have HO3 : Hid (W3.ownsRow w.heap.size 5 1 (.slice va X.length vc) X.length (X.map (Value.int .u8))) := by unfold Hid; rw [← hW3]; exact HO.out
            have hs3 : w.heap.size ≤ W3.heap.size := HB3.out.size
            clear hW3 hci
            go_wp2_with (at_builtin; refine wpList_append_any _ rfl (.tmp 35) (.tmp 39) 22 22 rfl w.heap.size 5 i0 _ 1 Tryd.underlying22 I1.out I2.out I3.out rfl _ X.length (X.map (Value.int .u8)) rfl (HO3.out.alloc _) _ 2 ([92, (G.toNat : Int)].map (Value.int .u8)) rfl (src_u8 (bytes_row (heap_alloc_new _ _) HZB.out) rfl (Below.refl _ _) 2) (by unfold maxLen; omega) (by rw [I4.out]; omega) (by simp; omega) ?_; intro v4 W4 hown4 hg4 hat4; clear hat4)
            have HB4 := Lib.hid (HB3.out.trans (grown_below HO3.out hg4 hs3))
            have HO4 := Lib.hid hown4
            clear hown4 hg4
            go_wp2
            go_roundw
            case rel =>
              refine ⟨k + 1, X ++ [92, (G.toNat : Int)], by omega, by go_num, ?_, ?_, HB4.out⟩
              · unfold Hid; rw [HT.out, HX, HQ.out, HGk.out]; rfl
              · have := HO4.out
                rw [List.length_append, List.map_append]
                exact this
            case measure => simp [intOf]; omega
          · have hAz : ¬ (A.toNat : Int) = z := fun e => hz (hAk.symm.trans e)
            have HF2 : Hid (∀ m : Nat, (m : Int) < j + 1 → qF.getD m 0 ≠ z) := fun m hm => by
              by_cases h : (m : Int) < j
              · exact HF m h
              · have : m = j.toNat := by omega
                rw [this]; exact hz
            clear hz hAk
            go_wp2
            go_quiet (fail)
            go_wp2
            go_roundw
            case rel => exact ⟨j + 1, by omega, by omega, rfl, HF2, HO.out, bel_drewN HB.out _⟩
            case measure => simp [intOf]; omega
        · obtain rfl : j = 7 := by omega
          have HQ := Lib.hid (qB_miss (z := z) (fun m hm => HF m (by omega)))
          have HXE : Hid (34 :: (T.take (k + 1)).flatMap qB = X ++ qB z) := by unfold Hid; rw [HT.out, HX]; rfl
          by_cases hz : z < 32
          · rw [if_pos hz] at HQ
            have hsd : (strOfNums (digL [z])).size = 2 := by rw [bk_strOf_size, digL_len]; rfl
            have hbd : bts (strOfNums (digL [z])) = [hexC (z / 16), hexC (z % 16)] := bts_strOf _ (digL_bd (fun y hy => by rw [List.mem_singleton.1 hy]; exact ⟨z0, z1⟩))
            have HSR : Hid (∀ W, Go.Src Tryd.prog 1 9 (.string (strOfNums (digL [z]))) 2 ([hexC (z / 16), hexC (z % 16)].map (Value.int .u8)) W) := fun W => by
              have := src_str (W := W) (strOfNums (digL [z]))
              rw [hsd, hbd] at this
              exact this
            have HRD := Lib.hid (fun (c : Nat) W (hb : b < W.heap.size) (h : W.cell? ⟨b, off + k, none⟩ = some (.int .u8 z)) => bk_rdigits_any (some ⟨b, off + k, none⟩) 1 c [z] W (bytes_at z0 z1 hb h) rfl (by decide))
            generalize strOfNums (digL [z]) = DS at HSR HRD
            have HSU : Hid (∀ W, Go.Src Tryd.prog 1 9 (.string ⟨#[92, 117, 48, 48]⟩) 4 ([(92 : Int), 117, 48, 48].map (Value.int .u8)) W) := fun W => src_str (W := W) ⟨#[92, 117, 48, 48]⟩
            clear hsd hbd
            go_wp2
            go_quiet (fail)
            go_upto_region 12 with (fail)
            generalize hW3 : wr.drewN _ = W3
            have HB3 : Hid (Below w.heap.size w W3) := by unfold Hid; rw [← hW3]; exact bel_drewN HB.out _
            have HO3 : Hid (W3.ownsRow w.heap.size 5 1 (.slice va X.length vc) X.length (X.map (Value.int .u8))) := by unfold Hid; rw [← hW3]; exact HO.out
            have hs3 : w.heap.size ≤ W3.heap.size := HB3.out.size
            have HCK : Hid (W3.cell? ⟨b, off + k, none⟩ = some (.int .u8 z)) := by unfold Hid; exact (HB3.out.cell (p := ⟨b, off + k, none⟩) hlt).trans HCI.out
            clear hW3 hci
            go_wp2_with (at_builtin; refine wpList_append_any _ rfl (.tmp 46) (.const (.string ⟨#[92, 117, 48, 48]⟩)) 22 9 rfl w.heap.size 5 i0 _ 1 Tryd.underlying22 I1.out I2.out I3.out rfl _ X.length (X.map (Value.int .u8)) rfl HO3.out _ 4 ([(92 : Int), 117, 48, 48].map (Value.int .u8)) rfl (HSU.out _) (by unfold maxLen; omega) (by rw [I4.out]; omega) hs3 ?_; intro v4 W4 hown4 hg4 hat4; clear hat4)
            have hb4 : Below w.heap.size w W4 := HB3.out.grown hg4 hs3 (fun k hk => (ownsRow_lt HO3.out k hk).1)
            obtain ⟨a4, m4, rfl⟩ := ownsRow_form hown4
            have HB4 := Lib.hid hb4
            have HO4 := Lib.hid hown4
            have hc4 := (hb4.cell (p := ⟨b, off + k, none⟩) hlt).trans HCI.out
            have hl4 := Nat.lt_of_lt_of_le hlt hb4.size
            clear hown4 hg4 hb4
            go_wp2_with fail
            refine (HRD.out _ _ hl4 hc4).mono ?_
            rintro e W5 ⟨rfl, hb5⟩
            have HB5 := Lib.hid (HB4.out.trans (hb5.mono HB4.out.size))
            have HO5 := Lib.hid (qrow_keep hb5 HO4.out)
            have hs5 := HB5.out.size
            clear hb5 hc4 hl4
            go_wp2_with (at_builtin; refine wpList_append_any _ rfl (.tmp 48) (.tmp 54) 22 9 rfl w.heap.size 5 i0 _ 1 Tryd.underlying22 I1.out I2.out I3.out rfl _ (X.length + 4) (X.map (Value.int .u8) ++ [(92 : Int), 117, 48, 48].map (Value.int .u8)) rfl HO5.out _ 2 ([hexC (z / 16), hexC (z % 16)].map (Value.int .u8)) rfl (HSR.out _) (by unfold maxLen; omega) (by rw [I4.out]; omega) hs5 ?_; intro v6 W6 hown6 hg6 hat6; clear hat6)
            have HB6 := Lib.hid (HB5.out.grown hg6 hs5 (fun k hk => (ownsRow_lt HO5.out k hk).1))
            have HO6 := Lib.hid hown6
            clear hown6 hg6
            go_wp2
            go_roundw
            case rel =>
              refine ⟨k + 1, X ++ qB z, by omega, by go_num, HXE.symm, ?_, HB6.out⟩
              have := HO6.out
              rw [HQ.out, List.length_append, List.map_append]
              rw [List.append_assoc, ← List.map_append] at this
              exact this
            case measure => simp [intOf]; omega
          · rw [if_neg hz] at HQ
            have HZB : Hid (∀ y ∈ [z], 0 ≤ y ∧ y ≤ 255) := fun y hy => by rw [List.mem_singleton.1 hy]; exact ⟨z0, z1⟩
            go_wp2
            go_quiet (fail)
            go_upto_region 14 with (fail)
            generalize hW3 : wr.drewN _ = W3
            have HB3 : Hid (Below w.heap.size w W3) := by unfold Hid; rw [← hW3]; exact bel_drewN HB.out _
            have HO3 : Hid (W3.ownsRow w.heap.size 5 1 (.slice va X.length vc) X.length (X.map (Value.int .u8))) := by unfold Hid; rw [← hW3]; exact HO.out
            have hs3 : w.heap.size ≤ W3.heap.size := HB3.out.size
            have hck := (HB3.out.cell (p := ⟨b, off + k, none⟩) hlt).trans HCI.out
            clear hW3 hci
            go_wp2_with (at_builtin; refine wpList_append_any _ rfl (.tmp 56) (.tmp 61) 22 22 rfl w.heap.size 5 i0 _ 1 Tryd.underlying22 I1.out I2.out I3.out rfl _ X.length (X.map (Value.int .u8)) rfl (HO3.out.alloc _) _ 1 ([z].map (Value.int .u8)) rfl (src_u8 (bytes_row (heap_alloc_new _ _) HZB.out) rfl (Below.refl _ _) 1) (by unfold maxLen; omega) (by rw [I4.out]; omega) (by simp; omega) ?_; intro v4 W4 hown4 hg4 hat4; clear hat4)
            have HB4 := Lib.hid (HB3.out.trans (grown_below HO3.out hg4 hs3))
            have HO4 := Lib.hid hown4
            clear hown4 hg4
            go_wp2
            go_roundw
            case rel =>
              refine ⟨k + 1, X ++ qB z, by omega, by go_num, HXE.symm, ?_, HB4.out⟩
              have := HO4.out
              rw [HQ.out, List.length_append, List.map_append]
              exact this
            case measure => simp [intOf]; omega
    · obtain rfl : n = k := by omega
      have HZB : Hid (∀ y ∈ [(34 : Int)], 0 ≤ y ∧ y ≤ 255) := fun y hy => by rw [List.mem_singleton.1 hy]; decide
      have HXE : Hid (X ++ [34] = quot T) := by
        unfold Hid
        rw [HX, List.take_of_length_le (by rw [HN.out]; exact Nat.le_refl _)]
        rfl
      have HQB := Lib.hid (quot_bd (bytes_mem HZ.out))
      have hsw := HB.out.size
      go_wp2_with (at_builtin; refine wpList_append_any _ rfl (.tmp 63) (.tmp 64) 22 22 rfl w.heap.size 5 i0 _ 1 Tryd.underlying22 I1.out I2.out I3.out rfl _ X.length (X.map (Value.int .u8)) rfl (HO.out.alloc _) _ 1 ([(34 : Int)].map (Value.int .u8)) rfl (src_u8 (bytes_row (heap_alloc_new _ _) HZB.out) rfl (Below.refl _ _) 1) (by unfold maxLen; omega) (by rw [I4.out]; omega) (by simp; omega) ?_; intro v4 W4 hown4 hg4 hat4; clear hat4)
      have HB4 := Lib.hid (HB.out.trans (grown_below HO.out hg4 hsw))
      have hq : W4.ownsRow w.heap.size 5 1 v4 (quot T).length ((quot T).map (Value.int .u8)) := by
        rw [← HXE.out, List.length_append, List.map_append]
        exact hown4
      obtain ⟨p', c', rfl, _, h2, _⟩ := own_bytes hq HQB.out
      have cv := conv_own h2 rfl c'
      have hql : (quot T).length = X.length + 1 := by rw [← HXE.out, List.length_append]; rfl
      rw [hql] at cv
      clear hq h2 hown4 hg4 HXE HQB
      rw [HSS.out] at cv
      rw [hql]
      clear hql
      generalize X.length + 1 = xl at cv ⊢
      go_wp2
      rw [cv]
      go_wp2
      go_ret
      exact ⟨rfl, HB4.out⟩

theorem decode_rune (s : ByteArray) (i : Nat) : isRune (Utf8.decode s i).1 := by
  rw [Lib.decode_at]
  unfold Lib.decodeN isRune
  repeat' split
  all_goals (simp only; omega)
theorem runes_are (s : ByteArray) : ∀ (b i : Nat) (acc : Array Value), ∃ rs : List Nat, (∀ r ∈ rs, isRune r) ∧ rs.length ≤ b ∧ Conv.runesFrom s b i acc = acc ++ ((rs.map fun r : Nat => (r : Int)).map (Value.int .i32)).toArray
  | 0, _, acc => ⟨[], (fun r h => by cases h), Nat.le_refl _, by simp [Conv.runesFrom]⟩
  | b + 1, i, acc => by
    unfold Conv.runesFrom
    split
    · obtain ⟨rs, h1, h2, h3⟩ := runes_are s b (i + (Utf8.decode s i).2) (acc.push (.int .i32 (Utf8.decode s i).1))
      refine ⟨(Utf8.decode s i).1 :: rs, fun r hr => ?_, by rw [List.length_cons]; omega, ?_⟩
      · rcases List.mem_cons.1 hr with rfl | hr
        · exact decode_rune s i
        · exact h1 r hr
      · refine h3.trans ?_
        apply Array.ext'
        simp
    · exact ⟨[], (fun r h => by cases h), Nat.zero_le _, by simp⟩
theorem fold_enc (rs : List Nat) (h : ∀ r ∈ rs, isRune r) : ∀ L : List Int, (rs.map fun r : Nat => (r : Int)).foldl (fun r n => r ++ Utf8.encode n) (strOfNums L) = strOfNums (L ++ rs.flatMap enc) := by
  induction rs with
  | nil => intro L; simp
  | cons r rs ih =>
    intro L
    rw [List.map_cons, List.foldl_cons, bk_encode_str r (h r (List.mem_cons_self ..)), ← bk_strOf_app, ih (fun q hq => h q (List.mem_cons_of_mem _ hq)), List.flatMap_cons, List.append_assoc]
theorem flat_len (rs : List Nat) : (rs.flatMap enc).length ≤ 4 * rs.length := by
  induction rs with
  | nil => simp
  | cons r rs ih => rw [List.flatMap_cons, List.length_append, List.length_cons]; have := (enc_len r).2; omega
theorem conv_runes (s : ByteArray) (W : World) (hs : s.size ≤ 3000) :
    ∃ n cap W' T, (convert 9 37 (.string s)).run Tryd.prog W = .ok (.slice (some ⟨W.heap.size, 0, none⟩) n cap) W' ∧ (convert 37 9 (.slice (some ⟨W.heap.size, 0, none⟩) n cap)).run Tryd.prog W' = .ok (.string (strOfNums T)) W' ∧ Below W.heap.size W W' ∧ Wf T ∧ T.length ≤ 12000 := by
  obtain ⟨rs, hr, hrl, e⟩ := runes_are s s.size 0 #[]
  have hz : (Conv.runesFrom s s.size 0 #[]).size = (rs.map fun r : Nat => (r : Int)).length := by rw [e]; simp
  have hml : (rs.map fun r : Nat => (r : Int)).length = rs.length := List.length_map ..
  have h1 := run_runes_of_string (P := Tryd.prog) W 9 37 21 s Tryd.underlying9 Tryd.underlying37 Tryd.underlying21 (by rw [hz, hml]; omega)
  have h2 := run_convert_runes (P := Tryd.prog) (W.drew.alloc (.cells (Conv.runesFrom s s.size 0 #[] ++ Array.replicate (grownCap W (Conv.runesFrom s s.size 0 #[]).size 0 21 - (Conv.runesFrom s s.size 0 #[]).size) (.int .i32 0)) 21)) 37 9 21 ⟨W.heap.size, 0, none⟩ (Conv.runesFrom s s.size 0 #[]).size (grownCap W (Conv.runesFrom s s.size 0 #[]).size 0 21) (rs.map fun r : Nat => (r : Int)) (by rw [hz]; exact Nat.le_refl _) Tryd.underlying37 Tryd.underlying21 Tryd.underlying9 (fun j hj => by
    have hq : ∀ o, (W.drew.alloc o).heap[W.heap.size]? = some o := fun o => heap_alloc_new W.drew o
    rw [Addr.add_lit, Nat.zero_add, cell_of_row _ W.heap.size _ _ _ (0, 0) (hq _), e]
    rw [Array.getElem?_append_left (by simpa using hj)]
    have hj' : j < rs.length := by rw [hml] at hj; exact hj
    simp [List.getD, hj'])
  refine ⟨_, _, _, rs.flatMap enc, h1, ?_, (Below.refl _ W).drew.alloc (Nat.le_refl _) _, ⟨rs, hr, rfl⟩, by have := flat_len rs; omega⟩
  refine h2.trans ?_
  rw [hz, List.take_length]
  have := fold_enc rs hr []
  rw [List.nil_append] at this
  unfold runesBytes
  rw [show (ByteArray.empty : ByteArray) = strOfNums [] from rfl, this]

theorem bel_setCells {B b : Nat} (hb : B ≤ b) : ∀ (vs : List Value) (o : Nat) (W0 w : World), Below B W0 w → Below B W0 (w.setCells b o vs)
  | [], _, _, _, h => h
  | v :: r, o, W0, w, h => by
    rw [World.setCells]
    exact bel_setCells hb r (o + 1) W0 _ (h.setCell (p := ⟨b, o, none⟩) hb v)
theorem bytesCells_size (w : World) (e : TypeId) (s : ByteArray) : (Lib.bytesCells w e s).size = grownCap w s.size 0 e := by
  have := grownCap_ge w s.size 0 e
  unfold Lib.bytesCells
  rw [Array.size_append, Array.size_map, Array.size_replicate]
  show s.size + _ = _
  omega
theorem bytes_app {W : World} {g : Nat} {xs ys : List Int} (hx : ∀ z ∈ xs, 0 ≤ z ∧ z ≤ 255) (hy : ∀ z ∈ ys, 0 ≤ z ∧ z ≤ 255) (hg : g < W.heap.size) (h1 : ∀ i, i < xs.length → W.cell? ⟨g, i, none⟩ = some (.int .u8 (xs.getD i 0))) (h2 : ∀ i, i < ys.length → W.cell? ⟨g, xs.length + i, none⟩ = some (.int .u8 (ys.getD i 0))) : Bytes W (some ⟨g, 0, none⟩) (xs ++ ys) := by
  refine ⟨bd_le fun z hz => ?_, fun _ => ⟨g, 0, rfl, hg, fun i hi => ?_⟩⟩
  · rcases List.mem_append.1 hz with h | h
    · exact hx z h
    · exact hy z h
  · rw [Nat.zero_add]
    by_cases hi1 : i < xs.length
    · rw [h1 i hi1]
      simp [List.getD, List.getElem?_append_left hi1]
    · have h3 : i - xs.length < ys.length := by rw [List.length_append] at hi; omega
      have h4 := h2 (i - xs.length) h3
      rw [show xs.length + (i - xs.length) = i by omega] at h4
      rw [h4]
      simp [List.getD, List.getElem?_append_right (Nat.le_of_not_lt hi1)]
theorem run_append_bytes (R : ByteArray) (W : World) (ty : TypeId) (y : Value) (m : Nat) (nb : List Int) (hnb : ∀ z ∈ nb, 0 ≤ z ∧ z ≤ 255) (hm : nb.length = m) (hr : Go.Src Tryd.prog 1 22 y m (nb.map (Value.int .u8)) (Lib.bytesWorld W 5 R)) (hsz : R.size + m ≤ 1000000) :
    ∃ b4 c4 W4, (Builtin.append_ #[22, 22] ty #[.slice (some ⟨W.heap.size, 0, none⟩) R.size (grownCap W R.size 0 5), y]).run Tryd.prog (Lib.bytesWorld W 5 R) = .ok (.slice (some ⟨b4, 0, none⟩) (R.size + m) c4) W4 ∧ R.size + m ≤ c4 ∧ Bytes W4 (some ⟨b4, 0, none⟩) (bts R ++ nb) ∧ Below W.heap.size W W4 ∧ b4 < W4.heap.size := by
  obtain ⟨i0, hi, hz, hs, hby⟩ := info_parts u8_info
  have hB := Lib.bytesWorld_below W 5 R
  have hws : (Lib.bytesWorld W 5 R).heap.size = W.heap.size + 1 := Lib.bytesWorld_size ..
  have hsr : Go.Src Tryd.prog i0.size 22 y m (nb.map (Value.int .u8)) (Lib.bytesWorld W 5 R) := by rw [hs]; exact hr
  have hge := grownCap_ge W R.size 0 5
  have hcs := bytesCells_size W 5 R
  have hnew := Lib.bytesWorld_at_new W 5 R
  have hold : ∀ i, i < R.size → (Lib.bytesWorld W 5 R).cell? ⟨W.heap.size, i, none⟩ = some (.int .u8 ((bts R).getD i 0)) := fun i hi => by
    rw [Lib.bytesWorld_cell W _ R i hi]
    simp [bts, List.getD, hi]
  by_cases hroom : R.size + m ≤ grownCap W R.size 0 5
  · have hc : ∀ j, j < (nb.map (Value.int .u8)).length → ((Lib.bytesWorld W 5 R).cell? ⟨W.heap.size, 0 + R.size * i0.size + j, none⟩).isSome = true := fun j hj => by
      rw [List.length_map] at hj
      rw [hs, Nat.mul_one, Nat.zero_add, World.cell?]
      simp only [hnew]
      rw [Array.getElem?_eq_getElem (by rw [hcs]; omega)]
      rfl
    have hf : ∀ j, j < (nb.map (Value.int .u8)).length → (Lib.bytesWorld W 5 R).frozen? ⟨W.heap.size, 0 + R.size * i0.size + j, none⟩ = false := fun j hj => by
      rw [List.length_map] at hj
      rw [hs, Nat.mul_one, Nat.zero_add]
      simp only [World.frozen?, hnew]
      rw [hcs]
      simp
      omega
    have hrun := run_append_room_src (P := Tryd.prog) (Lib.bytesWorld W 5 R) 22 22 ty 5 i0 Tryd.underlying22 hi W.heap.size 0 R.size (grownCap W R.size 0 5) y m (nb.map (Value.int .u8)) hsr hroom hc hf
    rw [hs, Nat.mul_one, Nat.zero_add] at hrun
    rw [hs, Nat.mul_one, Nat.zero_add] at hc
    have hb4 := bel_setCells (Nat.le_refl W.heap.size) (nb.map (Value.int .u8)) R.size W _ hB
    have hb1 : W.heap.size < ((Lib.bytesWorld W 5 R).setCells W.heap.size R.size (nb.map (Value.int .u8))).heap.size := by
      have := (bel_setCells (Nat.zero_le W.heap.size) (nb.map (Value.int .u8)) R.size _ _ (Below.refl 0 (Lib.bytesWorld W 5 R))).size
      omega
    refine ⟨_, _, _, hrun, hroom, bytes_app (bd_mem (bts_bd R)) hnb hb1 (fun i hi => ?_) (fun i hi => ?_), hb4, hb1⟩
    · rw [bts_length] at hi
      rw [World.cell?_setCells_out W.heap.size _ _ _ _ (fun _ _ => .inl hi)]
      exact hold i hi
    · rw [bts_length, World.cell?_setCells_in W.heap.size _ _ _ hc i (by rw [List.length_map]; exact hi)]
      simp [List.getD, hi]
  · have hfc := run_firstCells_some (P := Tryd.prog) (Lib.bytesWorld W 5 R).drew i0.size R.size ⟨W.heap.size, 0, none⟩ R.size (grownCap W R.size 0 5) ((bts R).map (Value.int .u8)) (by rw [hs, List.length_map, bts_length, Nat.mul_one]) (fun j u hj => by
      have hj' : j < R.size := by
        have := (List.getElem?_eq_some_iff.1 hj).1
        rwa [List.length_map, bts_length] at this
      have hlb : j < (bts R).length := by rw [bts_length]; exact hj'
      rw [Addr.add_lit, Nat.zero_add]
      refine (hold j hj').trans ?_
      rw [← hj]
      simp [List.getD, hlb])
    have hrun := run_append_grow_src (P := Tryd.prog) (Lib.bytesWorld W 5 R) 22 22 ty 5 i0 (.int .u8 0) Tryd.underlying22 hi hz (some ⟨W.heap.size, 0, none⟩) R.size (grownCap W R.size 0 5) _ hfc y m (nb.map (Value.int .u8)) hsr (by omega) (by omega) (growslice_fits (by omega) (by rw [hby]; omega))
    have hn2 : ∀ o, ((Lib.bytesWorld W 5 R).drew.alloc o).heap[(Lib.bytesWorld W 5 R).heap.size]? = some o := fun o => heap_alloc_new (Lib.bytesWorld W 5 R).drew o
    refine ⟨_, _, _, hrun, grownCap_ge .., bytes_app (bd_mem (bts_bd R)) hnb (blk_lt (hn2 _)) (fun i hi => ?_) (fun i hi => ?_), (hB.drew.alloc (by show W.heap.size ≤ (Lib.bytesWorld W 5 R).heap.size; omega) _), blk_lt (hn2 _)⟩
    · rw [blk_cell (hn2 _) i]
      rw [Array.getElem?_append_left (by simp; omega)]
      simp [List.getElem?_append_left, hi, List.getD]
    · rw [blk_cell (hn2 _)]
      rw [Array.getElem?_append_left (by simp; omega)]
      simp [List.getD, hi]
theorem wpList_append_bytes {ops : Array Oper} {rest : List Oper} {o : Oper} {a : Act} {Q : Exit → Act → World → Prop} (hgd : o.guard = none) (s x : Operand)
    (ho : o.op = .call { callee := .builtin .append, args := #[s, x], argTypes := #[22, 22] })
    (R : ByteArray) (W : World) (hs : a.eval s = .slice (some ⟨W.heap.size, 0, none⟩) R.size (grownCap W R.size 0 5)) (y : Value) (m : Nat) (nb : List Int) (hnb : ∀ z ∈ nb, 0 ≤ z ∧ z ≤ 255) (hm : nb.length = m) (hx : a.eval x = y) (hr : Go.Src Tryd.prog 1 22 y m (nb.map (Value.int .u8)) (Lib.bytesWorld W 5 R)) (hsz : R.size + m ≤ 1000000)
    (h : ∀ b4 c4 W4, R.size + m ≤ c4 → Bytes W4 (some ⟨b4, 0, none⟩) (bts R ++ nb) → Below W.heap.size W W4 → b4 < W4.heap.size → wpList Tryd.prog ops Q rest (a.put o.dst (.slice (some ⟨b4, 0, none⟩) (R.size + m) c4)) W4) : wpList Tryd.prog ops Q (o :: rest) a (Lib.bytesWorld W 5 R) := by
  refine wpList_plain hgd fun K hK => ?_
  obtain ⟨b4, c4, W4, hrun, h2, h3, h4, h5⟩ := run_append_bytes R W o.type y m nb hnb hm hr hsz
  unfold Oper.wp execOp
  simp only [ho, resolve, invoke, builtin, Sem.run_bind, Sem.run_pure, Result.andThen_ok, List.map_toArray, List.map_cons, List.map_nil, hs, hx, hrun]
  exact hK _ _ (h b4 c4 W4 h2 h3 h4 h5)

theorem str_quoted (T : List Int) (hT : ∀ z ∈ T, 0 ≤ z ∧ z ≤ 255) (hl : T.length ≤ 12000) (K : Nat) (w : World) (hK : (strOfNums T).size ≤ K) :
    Calls Tryd.prog 14 #[.slice (some ⟨w.heap.size, 0, none⟩) (strOfNums T).size K] (Lib.bytesWorld w 5 (strOfNums T)) fun e w' => e = .returned (.string (strOfNums (quot T))) ∧ Below w.heap.size w w' := by
  have hb : bts (strOfNums T) = T := bts_strOf _ hT
  have hws : (Lib.bytesWorld w 5 (strOfNums T)).heap.size = w.heap.size + 1 := Lib.bytesWorld_size ..
  refine (quoted_any (some ⟨w.heap.size, 0, none⟩) _ K (bts (strOfNums T)) _ (bytes_new w _) (bts_length _) hK (by rw [bk_strOf_size]; omega)).mono ?_
  rintro e w' ⟨h1, h2⟩
  rw [hb] at h1
  exact ⟨h1, (Lib.bytesWorld_below w 5 _).trans (h2.mono (by omega))⟩
theorem led_quote (T : List Int) (hT : ∀ z ∈ T, 0 ≤ z ∧ z ≤ 255) (hl : T.length ≤ 12000) : ∃ R : ByteArray, (∀ W, (Op.stringOp .add ⟨#[32, 9]⟩ (strOfNums (quot T))).run Tryd.prog W = .ok (.string R) W) ∧ bts R = [32, 9] ++ quot T ∧ R.size = (strOfNums (quot T)).size + 2 ∧ (strOfNums (quot T)).size ≤ 100000 := by
  have hq : (quot T).length ≤ 72002 := by
    have := qBs_len T
    unfold quot
    rw [List.length_cons, List.length_append]
    simp only [List.length_cons, List.length_nil]
    omega
  have hsz : (⟨#[32, 9]⟩ ++ strOfNums (quot T) : ByteArray).size = 2 + (quot T).length := by rw [ByteArray.size_append, bk_strOf_size]; rfl
  refine ⟨_, fun W => run_string_add_sum W _ _ (by rw [bk_strOf_size]; show 2 + _ ≤ _; omega), ?_, by rw [hsz, bk_strOf_size]; omega, by rw [bk_strOf_size]; omega⟩
  rw [show (⟨#[32, 9]⟩ : ByteArray) = strOfNums [32, 9] from rfl, ← bk_strOf_app]
  refine bts_strOf _ fun z hz => ?_
  rcases List.mem_append.1 hz with h | h
  · simp at h; omega
  · exact quot_bd hT z h
set_option maxHeartbeats 1600000 in
set_option maxRecDepth 20000 in
theorem scanBack_walk (s : ByteArray) (a2 : Option Addr) (l2 c2 : Nat) (z2 : List Int) (w : World) (_hs : s.size ≤ 9223372036854775807) (h2 : IsRow .u8 w a2 l2 c2 z2) (hT : Tabs w) (hE : ErrV w) :
    Calls Tryd.prog 4 #[.string s, .slice a2 l2 c2] w fun e w' => e = .returned (.bool true) ∧ Below w.heap.size w w' := by
  have HA := Lib.hid (awake13_any w hT hE)
  have HY := Lib.hid (row_bytes h2)
  have HT := Lib.hid hT
  clear hT hE h2
  by_cases hbig : (2000 : Int) < (s.size : Int)
  · go_enter Tryd.func4, Tryd.ntmps4
    go_wp2_with fail
    refine HA.out.mono ?_
    rintro e w1 ⟨rfl, hb1⟩
    go_wp2
    go_ret
    exact ⟨rfl, hb1⟩
  · by_cases hbig2 : (1000 : Int) < (l2 : Int)
    · go_enter Tryd.func4, Tryd.ntmps4
      go_wp2_with fail
      refine HA.out.mono ?_
      rintro e w1 ⟨rfl, hb1⟩
      go_wp2
      go_ret
      exact ⟨rfl, hb1⟩
    · go_enter Tryd.func4, Tryd.ntmps4
      go_wp2_with fail
      refine HA.out.mono ?_
      rintro e w1 ⟨rfl, hb1⟩
      have HB1 := Lib.hid hb1
      clear hb1
      obtain ⟨n, cap, W2, T, hr1, hr2, hb2, hW, hTl⟩ := conv_runes s w1 (by omega)
      have HB2 := Lib.hid (HB1.out.trans (hb2.mono HB1.out.size))
      have HWF := Lib.hid hW
      obtain ⟨R, q1, hR, hRs, hQs⟩ := led_quote T hW.bd hTl
      have HRB := Lib.hid hR
      have SQ := Lib.hid (str_quoted T hW.bd hTl)
      have HTX : Hid (txtAt (bts R ++ z2.take l2) 0 = some (T, (strOfNums (quot T)).size + 2)) := by
        unfold Hid
        rw [hR, bk_strOf_size]
        exact txt_back hW (bytes_mem HY.out.1) (quot_bd hW.bd)
      have kc := fun W => Lib.run_convert_string_bytes (P := Tryd.prog) W 9 22 5 (strOfNums T) Tryd.underlying9 Tryd.underlying22 Tryd.underlying5
      have kc2 := fun W => Lib.run_convert_string_bytes (P := Tryd.prog) W 9 22 5 R Tryd.underlying9 Tryd.underlying22 Tryd.underlying5
      have HCV := Lib.hid (fun (W : World) (p : Option Addr) (c : Nat) (h : Bytes W p T) => conv_own h rfl c)
      generalize strOfNums (quot T) = Q at q1 SQ HTX hRs hQs
      generalize strOfNums T = S at hr2 SQ kc HCV
      have HRS := Lib.hid hRs
      clear hb2 hW hR hRs
      go_wp2_with fail
      refine (SQ.out _ W2 (grownCap_ge ..)).mono ?_
      rintro e w3 ⟨rfl, hb3⟩
      have HB3 := Lib.hid (HB2.out.trans (hb3.mono HB2.out.size))
      have HS := Lib.hid (src_u8 (HY.out.1.below (Nat.le_refl _) HB3.out) HY.out.2 (Lib.bytesWorld_below w3 5 R) c2)
      clear hb3 hr1 hr2 kc SQ
      go_wp2_with (at_builtin; refine wpList_append_bytes rfl (.tmp 27) (.tmp 28) rfl R w3 rfl _ l2 (z2.take l2) (bytes_mem HY.out.1) HY.out.2 rfl HS.out (by have := HRS.out; omega) ?_; intro b4 c4 W4 hc4 hby4 hb4 hlt4)
      have HBY := Lib.hid hby4
      have HB4 := Lib.hid (HB3.out.trans (hb4.mono HB3.out.size))
      clear hb4 hby4 kc2 q1
      refine (open_any (some ⟨b4, 0, none⟩) (R.size + l2) c4 (bts R ++ z2.take l2) 0 W4 HBY.out (by rw [List.length_append, bts_length, HY.out.2]) hc4 (by have := HRS.out; omega) (fun q hq => by cases hq; exact hlt4)).mono ?_
      rintro e w5 ⟨rfl, h5, hb5⟩
      have hcz : clampZ 0 (R.size + l2) = 0 := by unfold clampZ; rw [if_neg (by decide), if_pos (by omega)]; rfl
      rw [hcz] at h5
      have H5 := Lib.hid h5
      have HB5 := Lib.hid (HB4.out.trans (hb5.mono HB4.out.size))
      have hs5 := hb5.size
      have hs4 := HB4.out.size
      clear h5 hb5 hcz
      go_wp2_with fail
      refine (text_any _ _ _ _ _ _ _ _ _ (HT.out.below (Nat.le_refl _) HB5.out) (not_tabs HT.out (by omega) (by omega)) (fun q hq => by cases hq; show b4 < _; omega) H5.out).mono ?_
      rintro e w6 (⟨T', b, v, h1, rfl, ho, hTb, _, h6⟩ | ⟨h1, _⟩)
      · rw [HTX.out] at h1
        injection h1 with h1
        injection h1 with e1 e2
        subst e1 e2
        obtain ⟨px, cx, rfl, _, hyx, _⟩ := own_bytes ho hTb
        have cv := HCV.out w6 px cx hyx
        have HB6 := Lib.hid (HB5.out.trans ((h6.1.mono HB5.out.size).below (by omega) (by omega)))
        have HAT := Lib.hid (sc_at _ _ _ _ _ _ _ _ _ h6.2)
        rw [show ((Q.size + 2 : Nat) : Int) = (Q.size : Int) + 2 by omega] at HAT
        generalize T.length = tl at cv ⊢
        clear ho hTb h6 hyx H5
        go_wp2_with fail
        refine HAT.out.mono ?_
        rintro e w7 ⟨rfl, rfl⟩
        go_wp2
        go_ret
        exact ⟨rfl, HB6.out⟩
      · rw [HTX.out] at h1
        cases h1
end Go.Proofs.YtneadcbadnicfaaDoor
