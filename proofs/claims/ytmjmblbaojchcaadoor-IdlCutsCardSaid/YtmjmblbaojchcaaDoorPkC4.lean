/-
  Kinds of bytes as function values: what each constructor of the package lex hands back (among, between, either, but), and what is asked of such a value. Conditions: those that each theorem names.
  Contracts of Go's library, laid at this translation: no walk, one application each. Conditions: those that each theorem names.
  The kinds of bytes of the package lex that its own functions name: those that a text has, blanks, digits, letters, a minus, a quote, what may stand between quotes. Conditions: those that each theorem names.
-/
import Derived.Test.YtmjmblbaojchcaaDoorPkC1
import Derived.Laws.EntriesVeiled
import Derived.Shelf.Abstract
import Derived.Test.YtmjmblbaojchcaaDoorRows
import Derived.Shelf.Small.Strs
namespace Go.Proofs.YtmjmblbaojchcaaDoor
open Go.ChangeShapes Go.WideShapes Go.ChangeAt Go.RowKit Go.Shelf

/-- A function value that tells of bytes: at every byte, in every world in which all that lay in w lies, it hands back p of it, and nothing that was there turns. -/
structure IsKind (w : World) (g : Nat) (lb : Array Value) (p : Int → Bool) : Prop where
  enters : ∀ args w, (callFunc g args).run Tryd.prog w = .ok (.enter g args) w
  gives : ∀ (W : World) (c : Int), 0 ≤ c → c ≤ 255 → Below w.heap.size w W → Calls Tryd.prog g (#[.int .u8 c] ++ lb) W fun e w' => e = .returned (.bool (p c)) ∧ Below W.heap.size W w'
theorem IsKind.later {w W : World} {g : Nat} {lb : Array Value} {p : Int → Bool} (h : IsKind w g lb p) (hb : Below w.heap.size w W) : IsKind W g lb p :=
  ⟨h.enters, fun W' c h0 h1 hb' => h.gives W' c h0 h1 (hb.trans (hb'.mono hb.size))⟩
theorem IsKind.congr {w : World} {g : Nat} {lb : Array Value} {p q : Int → Bool} (h : IsKind w g lb p) (hpq : ∀ c, 0 ≤ c → c ≤ 255 → p c = q c) : IsKind w g lb q :=
  ⟨h.enters, fun W c h0 h1 hb => by rw [← hpq c h0 h1]; exact h.gives W c h0 h1 hb⟩
/-- A value that is such a function. -/
def KindV (w : World) (v : Value) (p : Int → Bool) : Prop := ∃ g lb, v = .func (.func g) #[] lb ∧ IsKind w g lb p

/-- The kind of bytes between two. -/
def betw (a b : Int) (c : Int) : Bool := decide (a ≤ c ∧ c ≤ b)
theorem between1 (W : World) (B C : Nat) (a b c : Int) (hB : W.cell? ⟨B, 0, none⟩ = some (.int .u8 a)) (hC : W.cell? ⟨C, 0, none⟩ = some (.int .u8 b)) :
    Calls Tryd.prog 86 #[.int .u8 c, .pointer (some ⟨B, 0, none⟩), .pointer (some ⟨C, 0, none⟩)] W fun e w' => e = .returned (.bool (betw a b c)) ∧ Below W.heap.size W w' := by
  by_cases h1 : a ≤ c
  · have h1' : decide (a ≤ c) = true := by simpa using h1
    by_cases h2 : c ≤ b
    · have e : betw a b c = true := by simp [betw, h1, h2]
      rw [e]
      clear e
      go_enter Tryd.func86, Tryd.ntmps86
      go_wp2
      go_ret
      exact ⟨rfl, Below.refl _ _⟩
    · have e : betw a b c = false := by simp [betw, h1, h2]
      rw [e]
      clear e
      go_enter Tryd.func86, Tryd.ntmps86
      go_wp2
      go_ret
      exact ⟨rfl, Below.refl _ _⟩
  · have e : betw a b c = false := by simp [betw, h1]
    rw [e]
    clear e
    go_enter Tryd.func86, Tryd.ntmps86
    go_wp2
    go_ret
    exact ⟨rfl, Below.refl _ _⟩
theorem between_any (a b : Int) (w : World) :
    Calls Tryd.prog 72 #[.int .u8 a, .int .u8 b] w fun e w' => ∃ v, e = .returned v ∧ Below w.heap.size w w' ∧ KindV w' v (betw a b) := by
  go_enter Tryd.func72, Tryd.ntmps72
  go_wp2
  go_ret
  refine ⟨_, rfl, ((Below.refl _ _).alloc (Nat.le_refl _) _).alloc (by simp) _, _, _, rfl, enters_of Tryd.func86 (by kernel_rfl) rfl, fun W c _ _ hb => ?_⟩
  have h1 : ∀ i, i < 2 → W.cell? ⟨w.heap.size + i, 0, none⟩ = _ := fun i hi => hb.cell (p := ⟨w.heap.size + i, 0, none⟩) (by simp; omega)
  refine between1 W _ _ a b c ((h1 0 (by omega)).trans ?_) ((h1 1 (by omega)).trans ?_)
  · simp [go_sem]
  · simp [go_sem]
theorem either1 (W w1 w2 : World) (B C g1 g2 : Nat) (l1 l2 : Array Value) (p1 p2 : Int → Bool) (c : Int) (hc0 : 0 ≤ c) (hc1 : c ≤ 255) (hB : W.cell? ⟨B, 0, none⟩ = some (.func (.func g1) #[] l1)) (hC : W.cell? ⟨C, 0, none⟩ = some (.func (.func g2) #[] l2)) (hCs : C < W.heap.size)
    (h1 : IsKind w1 g1 l1 p1) (hb1 : Below w1.heap.size w1 W) (h2 : IsKind w2 g2 l2 p2) (hb2 : Below w2.heap.size w2 W) :
    Calls Tryd.prog 73 #[.int .u8 c, .pointer (some ⟨B, 0, none⟩), .pointer (some ⟨C, 0, none⟩)] W fun e w' => e = .returned (.bool (p1 c || p2 c)) ∧ Below W.heap.size W w' := by
  have e1 := h1.enters
  have e2 := h2.enters
  have H1 := Lib.hid (h1.gives W c hc0 hc1 hb1)
  have H2 := Lib.hid (fun W' hb => h2.gives W' c hc0 hc1 hb)
  have HB := Lib.hid hb2
  have HC := Lib.hid hC
  clear h1 h2 hb1 hb2 hC
  cases hp : p1 c
  · rw [hp] at H1
    rw [Bool.false_or]
    clear hp
    go_enter Tryd.func73, Tryd.ntmps73
    go_wp2_with fail
    refine H1.out.mono ?_
    rintro e W1 ⟨rfl, hb⟩
    have hC' : W1.cell? ⟨C, 0, none⟩ = some (.func (.func g2) #[] l2) := (hb.cell (p := ⟨C, 0, none⟩) hCs).trans HC.out
    have H := Lib.hid hb
    clear hb
    go_wp2_with fail
    refine (H2.out _ (HB.out.trans (H.out.mono HB.out.size))).mono ?_
    rintro e W2 ⟨rfl, hb⟩
    clear hC'
    go_wp2
    go_ret
    exact ⟨rfl, H.out.trans (hb.mono H.out.size)⟩
  · rw [hp] at H1
    rw [Bool.true_or]
    clear hp
    go_enter Tryd.func73, Tryd.ntmps73
    go_wp2_with fail
    refine H1.out.mono ?_
    rintro e W1 ⟨rfl, hb⟩
    go_wp2
    go_ret
    exact ⟨rfl, hb⟩
theorem either_any (v1 v2 : Value) (p1 p2 : Int → Bool) (w : World) (h1 : KindV w v1 p1) (h2 : KindV w v2 p2) :
    Calls Tryd.prog 49 #[v1, v2] w fun e w' => ∃ v, e = .returned v ∧ Below w.heap.size w w' ∧ KindV w' v (fun c => p1 c || p2 c) := by
  obtain ⟨g1, l1, rfl, h1⟩ := h1
  obtain ⟨g2, l2, rfl, h2⟩ := h2
  go_enter Tryd.func49, Tryd.ntmps49
  go_wp2
  go_ret
  refine ⟨_, rfl, ((Below.refl _ _).alloc (Nat.le_refl _) _).alloc (by simp) _, _, _, rfl, enters_of Tryd.func73 (by kernel_rfl) rfl, fun W c h0 h1' hb => ?_⟩
  have hk : ∀ i, i < 2 → W.cell? ⟨w.heap.size + i, 0, none⟩ = _ := fun i hi => hb.cell (p := ⟨w.heap.size + i, 0, none⟩) (by simp; omega)
  have hs := hb.size
  simp at hs
  have hbw : Below w.heap.size w W := (((Below.refl _ _).alloc (Nat.le_refl _) _).alloc (by simp) _).trans (hb.mono (by simp; omega))
  refine either1 W w w _ _ g1 g2 l1 l2 p1 p2 c h0 h1' ((hk 0 (by omega)).trans ?_) ((hk 1 (by omega)).trans ?_) (by omega) h1 hbw h2 hbw
  · simp [go_sem]
  · simp [go_sem]
theorem but1 (W w1 : World) (B g1 : Nat) (l1 : Array Value) (p1 : Int → Bool) (c : Int) (hc0 : 0 ≤ c) (hc1 : c ≤ 255) (hB : W.cell? ⟨B, 0, none⟩ = some (.func (.func g1) #[] l1))
    (h1 : IsKind w1 g1 l1 p1) (hb1 : Below w1.heap.size w1 W) :
    Calls Tryd.prog 71 #[.int .u8 c, .pointer (some ⟨B, 0, none⟩)] W fun e w' => e = .returned (.bool (!p1 c)) ∧ Below W.heap.size W w' := by
  have e1 := h1.enters
  have H1 := Lib.hid (h1.gives W c hc0 hc1 hb1)
  clear h1 hb1
  generalize p1 c = x at H1 ⊢
  go_enter Tryd.func71, Tryd.ntmps71
  go_wp2_with fail
  refine H1.out.mono ?_
  rintro e W1 ⟨rfl, hb⟩
  go_wp2
  go_ret
  exact ⟨rfl, hb⟩
theorem but_any (v1 : Value) (p1 : Int → Bool) (w : World) (h1 : KindV w v1 p1) :
    Calls Tryd.prog 46 #[v1] w fun e w' => ∃ v, e = .returned v ∧ Below w.heap.size w w' ∧ KindV w' v (fun c => !p1 c) := by
  obtain ⟨g1, l1, rfl, h1⟩ := h1
  go_enter Tryd.func46, Tryd.ntmps46
  go_wp2
  go_ret
  refine ⟨_, rfl, (Below.refl _ _).alloc (Nat.le_refl _) _, _, _, rfl, enters_of Tryd.func71 (by kernel_rfl) rfl, fun W c h0 h1' hb => ?_⟩
  have hk : W.cell? ⟨w.heap.size, 0, none⟩ = _ := hb.cell (p := ⟨w.heap.size, 0, none⟩) (by simp)
  have hbw : Below w.heap.size w W := ((Below.refl _ _).alloc (Nat.le_refl _) _).trans (hb.mono (by simp))
  refine but1 W w _ g1 l1 p1 c h0 h1' (hk.trans ?_) h1 hbw
  simp [go_sem]
end Go.Proofs.YtmjmblbaojchcaaDoor
namespace Go.Proofs.YtmjmblbaojchcaaDoor
open Go.Proofs Go.Shelf
def Tryd.lays137_ren : Go.Shelf.Ren := ⟨fun | 137 => 56 | 217 => 77 | 266 => 88 | n => n, fun | 9 => 9 | 5 => 5 | 3 => 3 | n => n, fun | n => n⟩
theorem Tryd.lays137 : Go.Proofs.Lays.n137 Tryd.prog Tryd.lays137_ren := {
  mixed := by kernel_rfl
  f137 := Tryd.func56.trans (congrArg some (by kernel_rfl))
  f217 := Tryd.func77.trans (congrArg some (by kernel_rfl))
  f266 := Tryd.func88.trans (congrArg some (by kernel_rfl))
  t3 := Tryd.underlying3
  a3 := Tryd.isAgg3
  z3 := Tryd.sizeOf3
  v3 := Tryd.zeroValue3
  t5 := Tryd.underlying5
  a5 := Tryd.isAgg5
  z5 := Tryd.sizeOf5
  v5 := Tryd.zeroValue5
  t9 := Tryd.underlying9
  a9 := Tryd.isAgg9
  z9 := Tryd.sizeOf9
  v9 := Tryd.zeroValue9 }
open Go.RowKit in
theorem Tryd.strings_IndexByte (s : ByteArray) (c : Int) (w : World) :
    Calls Tryd.prog 56 #[.string s, .int .u8 c] w fun e w' => e = .returned (.int .i64 (Lib.indexByte s.data.toList c.toNat.toUInt8)) ∧ w' = w := Any.strings_IndexByte Tryd.lays137 s c w
end Go.Proofs.YtmjmblbaojchcaaDoor
namespace Go.Proofs.YtmjmblbaojchcaaDoor
open Go.ChangeShapes Go.WideShapes Go.ChangeAt Go.RowKit Go.Shelf

/-- A string's bytes. -/
def bts (s : ByteArray) : List Int := s.data.toList.map fun b => (b.toNat : Int)
/-- Is a byte among those of a string? -/
def amg (s : ByteArray) (c : Int) : Bool := decide (c ∈ bts s)
theorem bts_length (s : ByteArray) : (bts s).length = s.size := by simp [bts]
theorem bts_bd (s : ByteArray) : ∀ i, 0 ≤ (bts s).getD i 0 ∧ (bts s).getD i 0 ≤ 255 := by
  intro i
  by_cases hi : i < s.size
  · have hi' : i < s.data.toList.length := by simpa using hi
    have h : (bts s).getD i 0 = (s.data.toList[i].toNat : Int) := by
      simp [bts, List.getD, List.getElem?_map, List.getElem?_eq_getElem hi']
    have := s.data.toList[i].toNat_lt
    rw [h]
    omega
  · have : (bts s).getD i 0 = 0 := by
      rw [List.getD, List.getElem?_eq_none (by rw [bts_length]; omega)]
      rfl
    rw [this]
    omega
theorem indexByte_mem (l : List UInt8) (c : UInt8) : (0 ≤ Lib.indexByte l c) = (c ∈ l) := by
  induction l with
  | nil => simp [Lib.indexByte]
  | cons a r ih =>
    simp only [Lib.indexByte]
    by_cases h : a = c
    · subst h
      simp
    · have hb : (a == c) = false := by simpa using h
      rw [hb]
      simp only [Bool.false_eq_true, if_false, List.mem_cons, show (c = a) = False from by simp; exact fun e => h e.symm, false_or]
      rw [← ih]
      by_cases h1 : Lib.indexByte r c = -1
      · simp [h1]
      · have hb1 : (Lib.indexByte r c == -1) = false := by simpa using h1
        have := Lib.indexByte_ge r c
        rw [hb1]
        simp only [Bool.false_eq_true, if_false, eq_iff_iff]
        omega
theorem amg_index (s : ByteArray) (c : Int) (h0 : 0 ≤ c) (h1 : c ≤ 255) : decide (0 ≤ Lib.indexByte s.data.toList c.toNat.toUInt8) = amg s c := by
  unfold amg
  rw [decide_eq_decide, indexByte_mem]
  unfold bts
  rw [List.mem_map]
  constructor
  · intro h
    refine ⟨_, h, ?_⟩
    simp
    omega
  · rintro ⟨b, hb, rfl⟩
    simpa using hb
theorem among1 (W : World) (B : Nat) (s : ByteArray) (c : Int) (hc0 : 0 ≤ c) (hc1 : c ≤ 255) (hB : W.cell? ⟨B, 0, none⟩ = some (.string s)) :
    Calls Tryd.prog 55 #[.int .u8 c, .pointer (some ⟨B, 0, none⟩)] W fun e w' => e = .returned (.bool (amg s c)) ∧ Below W.heap.size W w' := by
  have H := Lib.hid (Tryd.strings_IndexByte s c)
  have E := Lib.hid (amg_index s c hc0 hc1)
  generalize amg s c = x at E ⊢
  generalize Lib.indexByte s.data.toList c.toNat.toUInt8 = y at E H
  go_enter Tryd.func55, Tryd.ntmps55
  go_wp2_with fail
  refine (H.out _).mono ?_
  rintro e W1 ⟨rfl, rfl⟩
  go_wp2
  go_ret
  exact ⟨ret_bool E.out, Below.refl _ _⟩
theorem among_any (s : ByteArray) (w : World) :
    Calls Tryd.prog 36 #[.string s] w fun e w' => ∃ v, e = .returned v ∧ Below w.heap.size w w' ∧ KindV w' v (amg s) := by
  go_enter Tryd.func36, Tryd.ntmps36
  go_wp2
  go_ret
  refine ⟨_, rfl, (Below.refl _ _).alloc (Nat.le_refl _) _, _, _, rfl, enters_of Tryd.func55 (by kernel_rfl) rfl, fun W c h0 h1 hb => ?_⟩
  have hk : W.cell? ⟨w.heap.size, 0, none⟩ = _ := hb.cell (p := ⟨w.heap.size, 0, none⟩) (by simp)
  refine among1 W _ s c h0 h1 (hk.trans ?_)
  simp [go_sem]
theorem KindV.congr {w : World} {v : Value} {p q : Int → Bool} (h : KindV w v p) (hpq : ∀ c, 0 ≤ c → c ≤ 255 → p c = q c) : KindV w v q := by
  obtain ⟨g, lb, rfl, h⟩ := h
  exact ⟨g, lb, rfl, h.congr hpq⟩
theorem KindV.later {w W : World} {v : Value} {p : Int → Bool} (h : KindV w v p) (hb : Below w.heap.size w W) : KindV W v p := by
  obtain ⟨g, lb, rfl, h⟩ := h
  exact ⟨g, lb, rfl, h.later hb⟩
theorem blank_any (w : World) : Calls Tryd.prog 44 #[] w fun e w' => ∃ v, e = .returned v ∧ Below w.heap.size w w' ∧ KindV w' v isBlank := by
  have H := Lib.hid (among_any ⟨#[32, 9, 10, 13]⟩)
  go_enter Tryd.func44, Tryd.ntmps44
  go_wp2_with fail
  refine (H.out _).mono ?_
  rintro e W1 ⟨v, rfl, hb, hk⟩
  have HK := Lib.hid hk
  have HB := Lib.hid hb
  clear hk hb
  go_wp2
  go_ret
  exact ⟨_, rfl, HB.out, HK.out.congr fun c _ _ => by simp [amg, bts, isBlank]⟩
theorem minus_any (w : World) : Calls Tryd.prog 74 #[] w fun e w' => ∃ v, e = .returned v ∧ Below w.heap.size w w' ∧ KindV w' v (isC 45) := by
  have H := Lib.hid (among_any ⟨#[45]⟩)
  go_enter Tryd.func74, Tryd.ntmps74
  go_wp2_with fail
  refine (H.out _).mono ?_
  rintro e W1 ⟨v, rfl, hb, hk⟩
  have HK := Lib.hid hk
  have HB := Lib.hid hb
  clear hk hb
  go_wp2
  go_ret
  exact ⟨_, rfl, HB.out, HK.out.congr fun c _ _ => by simp [amg, bts, isC]⟩
theorem quote_any (w : World) : Calls Tryd.prog 53 #[] w fun e w' => ∃ v, e = .returned v ∧ Below w.heap.size w w' ∧ KindV w' v (isC 34) := by
  have H := Lib.hid (among_any ⟨#[34]⟩)
  go_enter Tryd.func53, Tryd.ntmps53
  go_wp2_with fail
  refine (H.out _).mono ?_
  rintro e W1 ⟨v, rfl, hb, hk⟩
  have HK := Lib.hid hk
  have HB := Lib.hid hb
  clear hk hb
  go_wp2
  go_ret
  exact ⟨_, rfl, HB.out, HK.out.congr fun c _ _ => by simp [amg, bts, isC]⟩
theorem digit_any (w : World) : Calls Tryd.prog 50 #[] w fun e w' => ∃ v, e = .returned v ∧ Below w.heap.size w w' ∧ KindV w' v isDig := by
  have H := Lib.hid (between_any 48 57)
  go_enter Tryd.func50, Tryd.ntmps50
  go_wp2_with fail
  refine (H.out _).mono ?_
  rintro e W1 ⟨v, rfl, hb, hk⟩
  have HK := Lib.hid hk
  have HB := Lib.hid hb
  clear hk hb
  go_wp2
  go_ret
  exact ⟨_, rfl, HB.out, HK.out.congr fun c _ _ => rfl⟩
theorem letter_any (w : World) : Calls Tryd.prog 48 #[] w fun e w' => ∃ v, e = .returned v ∧ Below w.heap.size w w' ∧ KindV w' v isLet := by
  go_enter Tryd.func48, Tryd.ntmps48
  go_wp2_with fail
  refine (among_any ⟨#[95]⟩ _).mono ?_
  rintro e W1 ⟨v1, rfl, hb1, hk1⟩
  have HK1 := Lib.hid hk1
  have HB1 := Lib.hid hb1
  clear hk1 hb1
  go_wp2_with fail
  refine (between_any 97 122 _).mono ?_
  rintro e W2 ⟨v2, rfl, hb2, hk2⟩
  have HK2 := Lib.hid hk2
  have HB2 := Lib.hid hb2
  clear hk2 hb2
  go_wp2_with fail
  refine (between_any 65 90 _).mono ?_
  rintro e W3 ⟨v3, rfl, hb3, hk3⟩
  have HK3 := Lib.hid hk3
  have HB3 := Lib.hid hb3
  clear hk3 hb3
  go_wp2_with fail
  refine (either_any v2 v3 _ _ _ (HK2.out.later HB3.out) HK3.out).mono ?_
  rintro e W4 ⟨v4, rfl, hb4, hk4⟩
  have HK4 := Lib.hid hk4
  have HB4 := Lib.hid hb4
  clear hk4 hb4
  go_wp2_with fail
  refine (either_any v1 v4 _ _ _ ((HK1.out.later HB2.out).later (HB3.out.trans (HB4.out.mono HB3.out.size))) HK4.out).mono ?_
  rintro e W5 ⟨v5, rfl, hb5, hk5⟩
  have HK5 := Lib.hid hk5
  have HB5 := Lib.hid hb5
  clear hk5 hb5
  go_wp2
  go_ret
  refine ⟨_, rfl, ?_, HK5.out.congr fun c _ _ => ?_⟩
  · have h4 := HB4.out.trans (HB5.out.mono HB4.out.size)
    have h3 := HB3.out.trans (h4.mono HB3.out.size)
    have h2 := HB2.out.trans (h3.mono HB2.out.size)
    exact HB1.out.trans (h2.mono HB1.out.size)
  · simp [amg, bts, isLet, betw]
theorem plain_any (w : World) : Calls Tryd.prog 75 #[] w fun e w' => ∃ v, e = .returned v ∧ Below w.heap.size w w' ∧ KindV w' v isPlain := by
  go_enter Tryd.func75, Tryd.ntmps75
  go_wp2_with fail
  refine (among_any ⟨#[34, 92, 127]⟩ _).mono ?_
  rintro e W1 ⟨v1, rfl, hb1, hk1⟩
  have HK1 := Lib.hid hk1
  have HB1 := Lib.hid hb1
  clear hk1 hb1
  go_wp2_with fail
  refine (between_any 0 31 _).mono ?_
  rintro e W2 ⟨v2, rfl, hb2, hk2⟩
  have HK2 := Lib.hid hk2
  have HB2 := Lib.hid hb2
  clear hk2 hb2
  go_wp2_with fail
  refine (either_any v1 v2 _ _ _ (HK1.out.later HB2.out) HK2.out).mono ?_
  rintro e W4 ⟨v4, rfl, hb4, hk4⟩
  have HK4 := Lib.hid hk4
  have HB4 := Lib.hid hb4
  clear hk4 hb4
  go_wp2_with fail
  refine (but_any v4 _ _ HK4.out).mono ?_
  rintro e W5 ⟨v5, rfl, hb5, hk5⟩
  have HK5 := Lib.hid hk5
  have HB5 := Lib.hid hb5
  clear hk5 hb5
  go_wp2
  go_ret
  refine ⟨_, rfl, ?_, HK5.out.congr fun c _ _ => ?_⟩
  · have h4 := HB4.out.trans (HB5.out.mono HB4.out.size)
    have h2 := HB2.out.trans (h4.mono HB2.out.size)
    exact HB1.out.trans (h2.mono HB1.out.size)
  · unfold isPlain
    rw [Bool.eq_iff_iff]
    simp [amg, bts, betw]
    omega
end Go.Proofs.YtmjmblbaojchcaaDoor
