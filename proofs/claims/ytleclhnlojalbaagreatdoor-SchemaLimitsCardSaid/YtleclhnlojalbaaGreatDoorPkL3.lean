/-
  Plain facts on blanks and remarks, step by step. No run of the program stands in this text. Conditions: those that each theorem names.
-/
import Derived.Test.YtleclhnlojalbaaGreatDoorPkL1
import Derived.Test.YtleclhnlojalbaaGreatDoorPkL2
import Derived.Test.YtleclhnlojalbaaGreatDoorRows
import Derived.Shelf.Spec.DecodeRune
import Derived.Lib.LaidU8T
import Derived.KernelRfl
namespace Go.Proofs.YtleclhnlojalbaaGreatDoor
open Go.ChangeShapes Go.WideShapes Go.ChangeAt Go.RowKit Go.Shelf

def bts (s : ByteArray) : List Int := s.data.toList.map fun b => (b.toNat : Int)
def amg (s : ByteArray) (c : Int) : Bool := decide (c ∈ bts s)
theorem bts_length (s : ByteArray) : (bts s).length = s.size := by simp [bts]
theorem bts_bd (s : ByteArray) : ∀ i, 0 ≤ (bts s).getD i 0 ∧ (bts s).getD i 0 ≤ 255 := by
  intro i
  by_cases hi : i < s.size
  · have hi' : i < s.data.toList.length := by simpa using hi
    have h : (bts s).getD i 0 = (s.data.toList[i].toNat : Int) := by
      simp [bts, List.getD, List.getElem?_map, List.getElem?_eq_getElem hi']
    have := s.data.toList[i].toNat_lt
    rw [h]
    omega
  · have : (bts s).getD i 0 = 0 := by
      rw [List.getD, List.getElem?_eq_none (by rw [bts_length]; omega)]
      rfl
    rw [this]
    omega
theorem indexByte_mem (l : List UInt8) (c : UInt8) : (0 ≤ Lib.indexByte l c) = (c ∈ l) := by
  induction l with
  | nil => simp [Lib.indexByte]
  | cons a r ih =>
    simp only [Lib.indexByte]
    by_cases h : a = c
    · subst h
      simp
    · have hb : (a == c) = false := by simpa using h
      rw [hb]
      simp only [Bool.false_eq_true, if_false, List.mem_cons, show (c = a) = False from by simp; exact fun e => h e.symm, false_or]
      rw [← ih]
      by_cases h1 : Lib.indexByte r c = -1
      · simp [h1]
      · have hb1 : (Lib.indexByte r c == -1) = false := by simpa using h1
        have := Lib.indexByte_ge r c
        rw [hb1]
        simp only [Bool.false_eq_true, if_false, eq_iff_iff]
        omega
theorem amg_index (s : ByteArray) (c : Int) (h0 : 0 ≤ c) (h1 : c ≤ 255) : decide (0 ≤ Lib.indexByte s.data.toList c.toNat.toUInt8) = amg s c := by
  unfold amg
  rw [decide_eq_decide, indexByte_mem]
  unfold bts
  rw [List.mem_map]
  constructor
  · intro h
    refine ⟨_, h, ?_⟩
    simp
    omega
  · rintro ⟨b, hb, rfl⟩
    simpa using hb
theorem among1 (W : World) (B : Nat) (s : ByteArray) (c : Int) (hc0 : 0 ≤ c) (hc1 : c ≤ 255) (hB : W.cell? ⟨B, 0, none⟩ = some (.string s)) :
    Calls Tryz.prog 122 #[.int .u8 c, .pointer (some ⟨B, 0, none⟩)] W fun e w' => e = .returned (.bool (amg s c)) ∧ Below W.heap.size W w' := by
  have H := Lib.hid (Tryz.strings_IndexByte s c)
  have E := Lib.hid (amg_index s c hc0 hc1)
  generalize amg s c = x at E ⊢
  generalize Lib.indexByte s.data.toList c.toNat.toUInt8 = y at E H
  go_enter Tryz.func122, Tryz.ntmps122
  go_wp2_with fail
  refine (H.out _).mono ?_
  rintro e W1 ⟨rfl, rfl⟩
  go_wp2
  go_ret
  exact ⟨ret_bool E.out, Below.refl _ _⟩
theorem among_any (s : ByteArray) (w : World) :
    Calls Tryz.prog 93 #[.string s] w fun e w' => ∃ v, e = .returned v ∧ Below w.heap.size w w' ∧ KindV w' v (amg s) := by
  go_enter Tryz.func93, Tryz.ntmps93
  go_wp2
  go_ret
  refine ⟨_, rfl, (Below.refl _ _).alloc (Nat.le_refl _) _, _, _, rfl, enters_of Tryz.func122 (by kernel_rfl) rfl, fun W c h0 h1 hb => ?_⟩
  have hk : W.cell? ⟨w.heap.size, 0, none⟩ = _ := hb.cell (p := ⟨w.heap.size, 0, none⟩) (by simp)
  refine among1 W _ s c h0 h1 (hk.trans ?_)
  simp [go_sem]
theorem KindV.congr {w : World} {v : Value} {p q : Int → Bool} (h : KindV w v p) (hpq : ∀ c, 0 ≤ c → c ≤ 255 → p c = q c) : KindV w v q := by
  obtain ⟨g, lb, rfl, h⟩ := h
  exact ⟨g, lb, rfl, h.congr hpq⟩
theorem KindV.later {w W : World} {v : Value} {p : Int → Bool} (h : KindV w v p) (hb : Below w.heap.size w W) : KindV W v p := by
  obtain ⟨g, lb, rfl, h⟩ := h
  exact ⟨g, lb, rfl, h.later hb⟩
theorem blank_any (w : World) : Calls Tryz.prog 111 #[] w fun e w' => ∃ v, e = .returned v ∧ Below w.heap.size w w' ∧ KindV w' v isBlank := by
  have H := Lib.hid (among_any ⟨#[32, 9, 10, 13]⟩)
  go_enter Tryz.func111, Tryz.ntmps111
  go_wp2_with fail
  refine (H.out _).mono ?_
  rintro e W1 ⟨v, rfl, hb, hk⟩
  have HK := Lib.hid hk
  have HB := Lib.hid hb
  clear hk hb
  go_wp2
  go_ret
  exact ⟨_, rfl, HB.out, HK.out.congr fun c _ _ => by simp [amg, bts, isBlank]⟩
theorem minus_any (w : World) : Calls Tryz.prog 142 #[] w fun e w' => ∃ v, e = .returned v ∧ Below w.heap.size w w' ∧ KindV w' v (isC 45) := by
  have H := Lib.hid (among_any ⟨#[45]⟩)
  go_enter Tryz.func142, Tryz.ntmps142
  go_wp2_with fail
  refine (H.out _).mono ?_
  rintro e W1 ⟨v, rfl, hb, hk⟩
  have HK := Lib.hid hk
  have HB := Lib.hid hb
  clear hk hb
  go_wp2
  go_ret
  exact ⟨_, rfl, HB.out, HK.out.congr fun c _ _ => by simp [amg, bts, isC]⟩
theorem quote_any (w : World) : Calls Tryz.prog 120 #[] w fun e w' => ∃ v, e = .returned v ∧ Below w.heap.size w w' ∧ KindV w' v (isC 34) := by
  have H := Lib.hid (among_any ⟨#[34]⟩)
  go_enter Tryz.func120, Tryz.ntmps120
  go_wp2_with fail
  refine (H.out _).mono ?_
  rintro e W1 ⟨v, rfl, hb, hk⟩
  have HK := Lib.hid hk
  have HB := Lib.hid hb
  clear hk hb
  go_wp2
  go_ret
  exact ⟨_, rfl, HB.out, HK.out.congr fun c _ _ => by simp [amg, bts, isC]⟩
theorem digit_any (w : World) : Calls Tryz.prog 117 #[] w fun e w' => ∃ v, e = .returned v ∧ Below w.heap.size w w' ∧ KindV w' v isDig := by
  have H := Lib.hid (between_any 48 57)
  go_enter Tryz.func117, Tryz.ntmps117
  go_wp2_with fail
  refine (H.out _).mono ?_
  rintro e W1 ⟨v, rfl, hb, hk⟩
  have HK := Lib.hid hk
  have HB := Lib.hid hb
  clear hk hb
  go_wp2
  go_ret
  exact ⟨_, rfl, HB.out, HK.out.congr fun c _ _ => rfl⟩
theorem letter_any (w : World) : Calls Tryz.prog 115 #[] w fun e w' => ∃ v, e = .returned v ∧ Below w.heap.size w w' ∧ KindV w' v isLet := by
  go_enter Tryz.func115, Tryz.ntmps115
  go_wp2_with fail
  refine (among_any ⟨#[95]⟩ _).mono ?_
  rintro e W1 ⟨v1, rfl, hb1, hk1⟩
  have HK1 := Lib.hid hk1
  have HB1 := Lib.hid hb1
  clear hk1 hb1
  go_wp2_with fail
  refine (between_any 97 122 _).mono ?_
  rintro e W2 ⟨v2, rfl, hb2, hk2⟩
  have HK2 := Lib.hid hk2
  have HB2 := Lib.hid hb2
  clear hk2 hb2
  go_wp2_with fail
  refine (between_any 65 90 _).mono ?_
  rintro e W3 ⟨v3, rfl, hb3, hk3⟩
  have HK3 := Lib.hid hk3
  have HB3 := Lib.hid hb3
  clear hk3 hb3
  go_wp2_with fail
  refine (either_any v2 v3 _ _ _ (HK2.out.later HB3.out) HK3.out).mono ?_
  rintro e W4 ⟨v4, rfl, hb4, hk4⟩
  have HK4 := Lib.hid hk4
  have HB4 := Lib.hid hb4
  clear hk4 hb4
  go_wp2_with fail
  refine (either_any v1 v4 _ _ _ ((HK1.out.later HB2.out).later (HB3.out.trans (HB4.out.mono HB3.out.size))) HK4.out).mono ?_
  rintro e W5 ⟨v5, rfl, hb5, hk5⟩
  have HK5 := Lib.hid hk5
  have HB5 := Lib.hid hb5
  clear hk5 hb5
  go_wp2
  go_ret
  refine ⟨_, rfl, ?_, HK5.out.congr fun c _ _ => ?_⟩
  · have h4 := HB4.out.trans (HB5.out.mono HB4.out.size)
    have h3 := HB3.out.trans (h4.mono HB3.out.size)
    have h2 := HB2.out.trans (h3.mono HB2.out.size)
    exact HB1.out.trans (h2.mono HB1.out.size)
  · simp [amg, bts, isLet, betw]
theorem plain_any (w : World) : Calls Tryz.prog 143 #[] w fun e w' => ∃ v, e = .returned v ∧ Below w.heap.size w w' ∧ KindV w' v isPlain := by
  go_enter Tryz.func143, Tryz.ntmps143
  go_wp2_with fail
  refine (among_any ⟨#[34, 92, 127]⟩ _).mono ?_
  rintro e W1 ⟨v1, rfl, hb1, hk1⟩
  have HK1 := Lib.hid hk1
  have HB1 := Lib.hid hb1
  clear hk1 hb1
  go_wp2_with fail
  refine (between_any 0 31 _).mono ?_
  rintro e W2 ⟨v2, rfl, hb2, hk2⟩
  have HK2 := Lib.hid hk2
  have HB2 := Lib.hid hb2
  clear hk2 hb2
  go_wp2_with fail
  refine (either_any v1 v2 _ _ _ (HK1.out.later HB2.out) HK2.out).mono ?_
  rintro e W4 ⟨v4, rfl, hb4, hk4⟩
  have HK4 := Lib.hid hk4
  have HB4 := Lib.hid hb4
  clear hk4 hb4
  go_wp2_with fail
  refine (but_any v4 _ _ HK4.out).mono ?_
  rintro e W5 ⟨v5, rfl, hb5, hk5⟩
  have HK5 := Lib.hid hk5
  have HB5 := Lib.hid hb5
  clear hk5 hb5
  go_wp2
  go_ret
  refine ⟨_, rfl, ?_, HK5.out.congr fun c _ _ => ?_⟩
  · have h4 := HB4.out.trans (HB5.out.mono HB4.out.size)
    have h2 := HB2.out.trans (h4.mono HB2.out.size)
    exact HB1.out.trans (h2.mono HB1.out.size)
  · unfold isPlain
    rw [Bool.eq_iff_iff]
    simp [amg, bts, betw]
    omega
end Go.Proofs.YtleclhnlojalbaaGreatDoor
namespace Go.Proofs.YtleclhnlojalbaaGreatDoor
open Go.ChangeShapes Go.WideShapes Go.ChangeAt Go.RowKit Go.Shelf

theorem bts_get {s : ByteArray} {i : Nat} (h : i < s.size) : (bts s).getD i 0 = (s[i].toNat : Int) := by
  simp [bts, List.getD, h]
  rfl
theorem bts_end {s : ByteArray} {i : Nat} (h : s.size ≤ i) : (bts s).getD i 0 = 0 := by
  rw [List.getD, List.getElem?_eq_none (by rw [bts_length]; exact h)]
  rfl
theorem at_any (s : ByteArray) (x : Int) (i : Nat) (w : World) (hx : x = i) :
    Calls Tryz.prog 101 #[.string s, .int .i64 x] w fun e w' => e = .returned (.int .u8 ((bts s).getD i 0)) ∧ w = w' := by
  subst hx
  by_cases hi : i < s.size
  · rw [bts_get hi]
    go_enter Tryz.func101, Tryz.ntmps101
    go_wp2
    go_ret
    exact ⟨rfl, rfl⟩
  · rw [bts_end (by omega)]
    go_enter Tryz.func101, Tryz.ntmps101
    go_wp2
    go_ret
    exact ⟨rfl, rfl⟩
theorem rdigit_any (c : Int) (w : World) : Calls Tryz.prog 103 #[.int .u8 c] w fun e w' => e = .returned (.bool (isDig c)) ∧ w = w' := by
  by_cases h1 : 48 ≤ c
  · by_cases h2 : c ≤ 57
    · have e : isDig c = true := decide_eq_true ⟨h1, h2⟩
      rw [e]
      clear e
      go_enter Tryz.func103, Tryz.ntmps103
      go_wp2
      go_ret
      exact ⟨rfl, rfl⟩
    · have e : isDig c = false := decide_eq_false (fun h => h2 h.2)
      rw [e]
      clear e
      go_enter Tryz.func103, Tryz.ntmps103
      go_wp2
      go_ret
      exact ⟨rfl, rfl⟩
  · have e : isDig c = false := decide_eq_false (fun h => h1 h.1)
    rw [e]
    clear e
    go_enter Tryz.func103, Tryz.ntmps103
    go_wp2
    go_ret
    exact ⟨rfl, rfl⟩
theorem rletter_any (c : Int) (w : World) : Calls Tryz.prog 102 #[.int .u8 c] w fun e w' => e = .returned (.bool (isLet c)) ∧ w = w' := by
  by_cases h0 : c = 95
  · subst h0
    go_enter Tryz.func102, Tryz.ntmps102
    go_wp2
    go_ret
    exact ⟨rfl, rfl⟩
  have t0 : (c == 95) = false := by simp [h0]
  by_cases h1 : 65 ≤ c
  · by_cases h2 : c ≤ 90
    · have e : isLet c = true := by unfold isLet; exact decide_eq_true (by omega)
      rw [e]
      clear e
      clear h0
      go_enter Tryz.func102, Tryz.ntmps102
      go_wp2
      go_ret
      exact ⟨rfl, rfl⟩
    · by_cases h3 : 97 ≤ c
      · by_cases h4 : c ≤ 122
        · have e : isLet c = true := by unfold isLet; exact decide_eq_true (by omega)
          rw [e]
          clear e
          clear h0
          go_enter Tryz.func102, Tryz.ntmps102
          go_wp2
          go_ret
          exact ⟨rfl, rfl⟩
        · have e : isLet c = false := by unfold isLet; exact decide_eq_false (by omega)
          rw [e]
          clear e
          clear h0
          go_enter Tryz.func102, Tryz.ntmps102
          go_wp2
          go_ret
          exact ⟨rfl, rfl⟩
      · have e : isLet c = false := by unfold isLet; exact decide_eq_false (by omega)
        rw [e]
        clear e
        clear h0
        go_enter Tryz.func102, Tryz.ntmps102
        go_wp2
        go_ret
        exact ⟨rfl, rfl⟩
  · have h3 : ¬ 97 ≤ c := by omega
    have e : isLet c = false := by unfold isLet; exact decide_eq_false (by omega)
    rw [e]
    clear e
    clear h0
    go_enter Tryz.func102, Tryz.ntmps102
    go_wp2
    go_ret
    exact ⟨rfl, rfl⟩
end Go.Proofs.YtleclhnlojalbaaGreatDoor
namespace Go.Proofs.YtleclhnlojalbaaGreatDoor
open Go.RowKit Go.Lib

def dec7_ren : Go.Shelf.Ren := ⟨fun | 32 => 153 | 49 => 167 | n => n, fun | 30 => 24 | 21 => 21 | 3 => 3 | 0 => 0 | 5 => 5 | 4 => 4 | 33 => 209 | 66 => 225 | 25 => 37 | 69 => 228 | 68 => 227 | n => n, fun | 2 => 1 | 3 => 2 | n => n⟩
theorem dec7 : Go.Proofs.Lays7.n32 Tryz.prog dec7_ren := {
  mixed := by kernel_rfl
  f32 := Tryz.func153.trans (congrArg some (by kernel_rfl))
  f49 := Tryz.func167.trans (congrArg some (by kernel_rfl))
  t0 := Tryz.underlying0
  a0 := Tryz.isAgg0
  z0 := Tryz.sizeOf0
  v0 := Tryz.zeroValue0
  i0 := by kernel_rfl
  t3 := Tryz.underlying3
  a3 := Tryz.isAgg3
  z3 := Tryz.sizeOf3
  v3 := Tryz.zeroValue3
  i3 := by kernel_rfl
  t4 := Tryz.underlying4
  a4 := Tryz.isAgg4
  z4 := Tryz.sizeOf4
  v4 := Tryz.zeroValue4
  i4 := by kernel_rfl
  t5 := Tryz.underlying5
  a5 := Tryz.isAgg5
  z5 := Tryz.sizeOf5
  v5 := Tryz.zeroValue5
  i5 := by kernel_rfl
  t21 := Tryz.underlying21
  a21 := Tryz.isAgg21
  z21 := Tryz.sizeOf21
  v21 := Tryz.zeroValue21
  i21 := by kernel_rfl
  t25 := Tryz.underlying37
  a25 := Tryz.isAgg37
  z25 := Tryz.sizeOf37
  v25 := Tryz.zeroValue37
  i25 := by kernel_rfl
  t30 := Tryz.underlying24
  a30 := Tryz.isAgg24
  z30 := Tryz.sizeOf24
  v30 := Tryz.zeroValue24
  i30 := by kernel_rfl
  t33 := Tryz.underlying209
  a33 := Tryz.isAgg209
  z33 := Tryz.sizeOf209
  v33 := Tryz.zeroValue209
  i33 := by kernel_rfl
  t66 := Tryz.underlying225
  a66 := Tryz.isAgg225
  z66 := Tryz.sizeOf225
  t68 := Tryz.underlying227
  a68 := Tryz.isAgg227
  z68 := Tryz.sizeOf227
  v68 := Tryz.zeroValue227
  i68 := by kernel_rfl
  t69 := Tryz.underlying228
  a69 := Tryz.isAgg228
  z69 := Tryz.sizeOf228
  v69 := Tryz.zeroValue228
  i69 := by kernel_rfl
  g2 := by kernel_rfl
  g3 := by kernel_rfl }

def Tabs (w : World) : Prop := Lib.Utf8Tabs 1 2 w
def tabs_ren : Go.Shelf.Ren := ⟨fun n => n, fun | 5 => 5 | 119 => 225 | 138 => 227 | 139 => 228 | n => n, fun | 3 => 1 | 4 => 2 | n => n⟩
theorem u8types : U8Types Tryz.prog tabs_ren := { t5 := Tryz.underlying5, t119 := Tryz.underlying225, t138 := Tryz.underlying227, t139 := Tryz.underlying228 }
theorem u8extra : U8Extra Tryz.prog tabs_ren := { n3 := by kernel_rfl, n4 := by kernel_rfl, y3 := by kernel_rfl, y4 := by kernel_rfl, c5 := by kernel_rfl, c119 := by kernel_rfl, c138 := by kernel_rfl }
theorem first_is : Rows.laid_unicode_utf8_first = Lib.firstData := by kernel_rfl
theorem accept_is : Rows.laid_unicode_utf8_acceptRanges (H := Unit) = Lib.acceptData := by kernel_rfl
theorem Tabs.sizes {w : World} (h : Tabs w) : 1 < w.heap.size ∧ 2 < w.heap.size := by
  constructor
  · exact World.block_lt_of_cell? _ _ (h.1 0 (by decide))
  · exact World.block_lt_of_cell? _ _ (h.2 0 (by decide)).1
theorem Tabs.below {w w' : World} {B : Nat} (h : Tabs w) (hB : w.heap.size ≤ B) (hb : Below B w w') : Tabs w' := by
  obtain ⟨s0, s1⟩ := h.sizes
  refine ⟨fun c hc => ?_, fun i hi => ⟨?_, ?_⟩⟩
  · exact (hb.cell (p := ⟨_, c, none⟩) (Nat.lt_of_lt_of_le s0 hB)).trans (h.1 c hc)
  · exact (hb.cell (p := ⟨_, 2 * i, none⟩) (Nat.lt_of_lt_of_le s1 hB)).trans (h.2 i hi).1
  · exact (hb.cell (p := ⟨_, 2 * i + 1, none⟩) (Nat.lt_of_lt_of_le s1 hB)).trans (h.2 i hi).2

/-! ### the bytes of a list of numbers -/
def bytesOf (zs : List Int) : ByteArray := ⟨(zs.map fun z => UInt8.ofNat z.toNat).toArray⟩
theorem bytesOf_size (zs : List Int) : (bytesOf zs).size = zs.length := by simp [bytesOf, ByteArray.size]
theorem bytesOf_get (zs : List Int) (hb : ∀ i, 0 ≤ zs.getD i 0 ∧ zs.getD i 0 ≤ 255) (j : Nat) (hj : j < zs.length) : (((bytesOf zs).get! j).toNat : Int) = zs.getD j 0 := by
  have h := hb j
  have e : zs.getD j 0 = zs[j] := by simp [List.getD, hj]
  rw [e] at h ⊢
  have : (bytesOf zs).get! j = UInt8.ofNat zs[j].toNat := by
    simp [bytesOf, ByteArray.get!, hj]
  rw [this]
  simp only [UInt8.toNat_ofNat']
  omega
def dec (zs : List Int) : Int × Int := (((Lib.decodeGo (bytesOf zs)).1 : Int), ((Lib.decodeGo (bytesOf zs)).2 : Int))
theorem dec_any (zs : List Int) (b off cap : Nat) (w : World) (hT : Tabs w) (hc : ∀ i, i < zs.length → w.cell? ⟨b, off + i, none⟩ = some (.int .u8 (zs.getD i 0))) (hb : ∀ i, 0 ≤ zs.getD i 0 ∧ zs.getD i 0 ≤ 255) :
    Calls Tryz.prog 153 #[.slice (some ⟨b, off, none⟩) zs.length cap] w fun e w' => e = .returned (.tuple #[.int .i32 (dec zs).1, .int .i64 (dec zs).2]) ∧ Below w.heap.size w w' := by
  have h := Any7.utf8_DecodeRune dec7 (bytesOf zs) b off cap w hT (fun j hj => by
    have hj' : j < zs.length := by rw [bytesOf_size] at hj; exact hj
    rw [hc j hj', bytesOf_get zs hb j hj'])
  rw [bytesOf_size] at h
  exact h
theorem decodeN_width (n b0 b1 b2 b3 : Nat) (hn : 0 < n) : 1 ≤ (Lib.decodeN n b0 b1 b2 b3).2 ∧ (Lib.decodeN n b0 b1 b2 b3).2 ≤ 4 ∧ (Lib.decodeN n b0 b1 b2 b3).2 ≤ n := by
  unfold Lib.decodeN
  repeat' split
  all_goals (simp only; omega)
theorem dec_width (zs : List Int) (h : 0 < zs.length) : 1 ≤ (dec zs).2 ∧ (dec zs).2 ≤ 4 ∧ (dec zs).2 ≤ zs.length := by
  have e : Lib.decodeGo (bytesOf zs) = Utf8.decode (bytesOf zs) 0 := by
    unfold Lib.decodeGo
    rw [if_neg (by rw [bytesOf_size]; omega)]
  unfold dec
  rw [e, Lib.decode_at, bytesOf_size]
  have := decodeN_width (zs.length - 0) ((bytesOf zs).get! 0).toNat ((bytesOf zs).get! (0 + 1)).toNat ((bytesOf zs).get! (0 + 2)).toNat ((bytesOf zs).get! (0 + 3)).toNat (by omega)
  simp only
  omega
end Go.Proofs.YtleclhnlojalbaaGreatDoor
namespace Go.Proofs.YtleclhnlojalbaaGreatDoor
open Go.RowKit

theorem gap_blank {zs : List Int} {i : Nat} (h : stA zs isBlank i = true) : gap zs i = gap zs (i + 1) := by
  unfold gap
  rw [runTo_step h]
theorem slash_not_blank {zs : List Int} {i : Nat} (h : slash2 zs i = true) : stA zs isBlank i = false := by
  unfold slash2 at h
  rw [Bool.and_eq_true] at h
  have e := of_decide_eq_true (show decide (zs.getD i 0 = 47) = true from stA_p h.1)
  rw [stA_of (stA_lt h.1)]
  unfold isBlank
  exact decide_eq_false (by omega)
theorem gap_remark {zs : List Int} {i : Nat} (h : slash2 zs i = true) : gap zs i = gap zs (runTo zs notLf i) := by
  unfold gap
  rw [runTo_stop (slash_not_blank h), gapF_step h]
theorem gap_stop {zs : List Int} {i : Nat} (h1 : stA zs isBlank i = false) (h2 : slash2 zs i = false) : gap zs i = i := by
  unfold gap
  rw [runTo_stop h1, gapF_stop _ h2]
theorem gap_end {zs : List Int} {i : Nat} (h : zs.length ≤ i) : gap zs i = i :=
  gap_stop (stA_ge h) (by unfold slash2; rw [stA_ge h, Bool.false_and])
end Go.Proofs.YtleclhnlojalbaaGreatDoor
