/-
  Kinds of bytes as function values: what each constructor of the package lex hands back (among, between, either, but), and what is asked of such a value. Conditions: those that each theorem names.
-/
import Derived.Test.YtneadcbadnicfaaDoorHead
import Derived.Laws.EntriesVeiled
import Derived.Shelf.Abstract
namespace Go.Proofs.YtneadcbadnicfaaDoor
open Go.ChangeShapes Go.WideShapes Go.ChangeAt Go.RowKit Go.Shelf

/-- A function value that tells of bytes: at every byte, in every world in which all that lay in w lies, it hands back p of it, and nothing that was there turns. -/
structure IsKind (w : World) (g : Nat) (lb : Array Value) (p : Int → Bool) : Prop where
  enters : ∀ args w, (callFunc g args).run Tryd.prog w = .ok (.enter g args) w
  gives : ∀ (W : World) (c : Int), 0 ≤ c → c ≤ 255 → Below w.heap.size w W → Calls Tryd.prog g (#[.int .u8 c] ++ lb) W fun e w' => e = .returned (.bool (p c)) ∧ Below W.heap.size W w'
theorem IsKind.later {w W : World} {g : Nat} {lb : Array Value} {p : Int → Bool} (h : IsKind w g lb p) (hb : Below w.heap.size w W) : IsKind W g lb p :=
  ⟨h.enters, fun W' c h0 h1 hb' => h.gives W' c h0 h1 (hb.trans (hb'.mono hb.size))⟩
theorem IsKind.congr {w : World} {g : Nat} {lb : Array Value} {p q : Int → Bool} (h : IsKind w g lb p) (hpq : ∀ c, 0 ≤ c → c ≤ 255 → p c = q c) : IsKind w g lb q :=
  ⟨h.enters, fun W c h0 h1 hb => by rw [← hpq c h0 h1]; exact h.gives W c h0 h1 hb⟩
/-- A value that is such a function. -/
def KindV (w : World) (v : Value) (p : Int → Bool) : Prop := ∃ g lb, v = .func (.func g) #[] lb ∧ IsKind w g lb p

/-- The kind of bytes between two. -/
def betw (a b : Int) (c : Int) : Bool := decide (a ≤ c ∧ c ≤ b)
theorem between1 (W : World) (B C : Nat) (a b c : Int) (hB : W.cell? ⟨B, 0, none⟩ = some (.int .u8 a)) (hC : W.cell? ⟨C, 0, none⟩ = some (.int .u8 b)) :
    Calls Tryd.prog 92 #[.int .u8 c, .pointer (some ⟨B, 0, none⟩), .pointer (some ⟨C, 0, none⟩)] W fun e w' => e = .returned (.bool (betw a b c)) ∧ Below W.heap.size W w' := by
  by_cases h1 : a ≤ c
  · have h1' : decide (a ≤ c) = true := by simpa using h1
    by_cases h2 : c ≤ b
    · have e : betw a b c = true := by simp [betw, h1, h2]
      rw [e]
      clear e
      go_enter Tryd.func92, Tryd.ntmps92
      go_wp2
      go_ret
      exact ⟨rfl, Below.refl _ _⟩
    · have e : betw a b c = false := by simp [betw, h1, h2]
      rw [e]
      clear e
      go_enter Tryd.func92, Tryd.ntmps92
      go_wp2
      go_ret
      exact ⟨rfl, Below.refl _ _⟩
  · have e : betw a b c = false := by simp [betw, h1]
    rw [e]
    clear e
    go_enter Tryd.func92, Tryd.ntmps92
    go_wp2
    go_ret
    exact ⟨rfl, Below.refl _ _⟩
theorem between_any (a b : Int) (w : World) :
    Calls Tryd.prog 81 #[.int .u8 a, .int .u8 b] w fun e w' => ∃ v, e = .returned v ∧ Below w.heap.size w w' ∧ KindV w' v (betw a b) := by
  go_enter Tryd.func81, Tryd.ntmps81
  go_wp2
  go_ret
  refine ⟨_, rfl, ((Below.refl _ _).alloc (Nat.le_refl _) _).alloc (by simp) _, _, _, rfl, enters_of Tryd.func92 (by kernel_rfl) rfl, fun W c _ _ hb => ?_⟩
  have h1 : ∀ i, i < 2 → W.cell? ⟨w.heap.size + i, 0, none⟩ = _ := fun i hi => hb.cell (p := ⟨w.heap.size + i, 0, none⟩) (by simp; omega)
  refine between1 W _ _ a b c ((h1 0 (by omega)).trans ?_) ((h1 1 (by omega)).trans ?_)
  · simp [go_sem]
  · simp [go_sem]
theorem either1 (W w1 w2 : World) (B C g1 g2 : Nat) (l1 l2 : Array Value) (p1 p2 : Int → Bool) (c : Int) (hc0 : 0 ≤ c) (hc1 : c ≤ 255) (hB : W.cell? ⟨B, 0, none⟩ = some (.func (.func g1) #[] l1)) (hC : W.cell? ⟨C, 0, none⟩ = some (.func (.func g2) #[] l2)) (hCs : C < W.heap.size)
    (h1 : IsKind w1 g1 l1 p1) (hb1 : Below w1.heap.size w1 W) (h2 : IsKind w2 g2 l2 p2) (hb2 : Below w2.heap.size w2 W) :
    Calls Tryd.prog 93 #[.int .u8 c, .pointer (some ⟨B, 0, none⟩), .pointer (some ⟨C, 0, none⟩)] W fun e w' => e = .returned (.bool (p1 c || p2 c)) ∧ Below W.heap.size W w' := by
  have e1 := h1.enters
  have e2 := h2.enters
  have H1 := Lib.hid (h1.gives W c hc0 hc1 hb1)
  have H2 := Lib.hid (fun W' hb => h2.gives W' c hc0 hc1 hb)
  have HB := Lib.hid hb2
  have HC := Lib.hid hC
  clear h1 h2 hb1 hb2 hC
  cases hp : p1 c
  · rw [hp] at H1
    rw [Bool.false_or]
    clear hp
    go_enter Tryd.func93, Tryd.ntmps93
    go_wp2_with fail
    refine H1.out.mono ?_
    rintro e W1 ⟨rfl, hb⟩
    have hC' : W1.cell? ⟨C, 0, none⟩ = some (.func (.func g2) #[] l2) := (hb.cell (p := ⟨C, 0, none⟩) hCs).trans HC.out
    have H := Lib.hid hb
    clear hb
    go_wp2_with fail
    refine (H2.out _ (HB.out.trans (H.out.mono HB.out.size))).mono ?_
    rintro e W2 ⟨rfl, hb⟩
    clear hC'
    go_wp2
    go_ret
    exact ⟨rfl, H.out.trans (hb.mono H.out.size)⟩
  · rw [hp] at H1
    rw [Bool.true_or]
    clear hp
    go_enter Tryd.func93, Tryd.ntmps93
    go_wp2_with fail
    refine H1.out.mono ?_
    rintro e W1 ⟨rfl, hb⟩
    go_wp2
    go_ret
    exact ⟨rfl, hb⟩
theorem either_any (v1 v2 : Value) (p1 p2 : Int → Bool) (w : World) (h1 : KindV w v1 p1) (h2 : KindV w v2 p2) :
    Calls Tryd.prog 82 #[v1, v2] w fun e w' => ∃ v, e = .returned v ∧ Below w.heap.size w w' ∧ KindV w' v (fun c => p1 c || p2 c) := by
  obtain ⟨g1, l1, rfl, h1⟩ := h1
  obtain ⟨g2, l2, rfl, h2⟩ := h2
  go_enter Tryd.func82, Tryd.ntmps82
  go_wp2
  go_ret
  refine ⟨_, rfl, ((Below.refl _ _).alloc (Nat.le_refl _) _).alloc (by simp) _, _, _, rfl, enters_of Tryd.func93 (by kernel_rfl) rfl, fun W c h0 h1' hb => ?_⟩
  have hk : ∀ i, i < 2 → W.cell? ⟨w.heap.size + i, 0, none⟩ = _ := fun i hi => hb.cell (p := ⟨w.heap.size + i, 0, none⟩) (by simp; omega)
  have hs := hb.size
  simp at hs
  have hbw : Below w.heap.size w W := (((Below.refl _ _).alloc (Nat.le_refl _) _).alloc (by simp) _).trans (hb.mono (by simp; omega))
  refine either1 W w w _ _ g1 g2 l1 l2 p1 p2 c h0 h1' ((hk 0 (by omega)).trans ?_) ((hk 1 (by omega)).trans ?_) (by omega) h1 hbw h2 hbw
  · simp [go_sem]
  · simp [go_sem]
end Go.Proofs.YtneadcbadnicfaaDoor
