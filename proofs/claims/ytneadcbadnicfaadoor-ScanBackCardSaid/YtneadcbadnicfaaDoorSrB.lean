/-
  The document's reader of JSON in memory; its here, Blank, Sign. Conditions: those that each theorem names.
  The document's reader of JSON: Blank, Sign, digit, unit. Conditions: those that each theorem names.
-/
import Derived.Test.YtneadcbadnicfaaDoorExc
import Derived.Test.YtneadcbadnicfaaDoorByt
import Derived.Test.YtneadcbadnicfaaDoorQuiet
import Derived.Deep.QuietTactic
import Derived.Test.YtneadcbadnicfaaDoorSnP
namespace Go.Proofs.YtneadcbadnicfaaDoor
open Go.ChangeShapes Go.WideShapes Go.ChangeAt Go.RowKit

/-- The reader at place a of the bytes zs. -/
structure RdSc (W : World) (r : Nat) (x0 x1 x2 : Value) (p : Option Addr) (n cap : Nat) (zs : List Int) (bad : Value) (a : Nat) : Prop where
  blk : W.heap[r]? = some (.cells #[x0, x1, x2, .slice p n cap, .int .i64 (a : Nat), bad] 32 (0, 0))
  by_ : Bytes W p zs
  len : zs.length = n
  cap_ : n ≤ cap
  np : zs ≠ [] → ∀ q, p = some q → q.block ≠ r
  le : a ≤ n + 1
  high : n ≤ 1099511627776
section
variable {w : World} {r : Nat} {x0 x1 x2 : Value} {p : Option Addr} {n cap : Nat} {zs : List Int} {bad : Value} {a : Nat}
theorem Bytes.excR {W W' : World} {R : Nat} {p : Option Addr} {zs : List Int} (h : Bytes W p zs) (hb : Exc R W.heap.size W W') (hp : zs ≠ [] → ∀ q, p = some q → q.block ≠ R) : Bytes W' p zs := by
  refine ⟨h.1, fun hne => ?_⟩
  obtain ⟨b, off, rfl, hlt, hc⟩ := h.2 hne
  exact ⟨b, off, rfl, Nat.lt_of_lt_of_le hlt hb.size, fun i hi => (hb.cell (p := ⟨b, off + i, none⟩) hlt (hp hne ⟨b, off, none⟩ rfl)).trans (hc i hi)⟩
theorem RdSc.below {w' : World} (h : RdSc w r x0 x1 x2 p n cap zs bad a) (hb : Below w.heap.size w w') : RdSc w' r x0 x1 x2 p n cap zs bad a :=
  ⟨blk_below h.blk hb (blk_lt h.blk), h.by_.below (Nat.le_refl _) hb, h.len, h.cap_, h.np, h.le, h.high⟩
/-- A step of the reader. -/
def RdTo (w : World) (r : Nat) (x0 x1 x2 : Value) (p : Option Addr) (n cap : Nat) (zs : List Int) (bad : Value) (a : Nat) (w' : World) : Prop := Exc r w.heap.size w w' ∧ RdSc w' r x0 x1 x2 p n cap zs bad a
theorem RdTo.then {w1 w2 : World} {b c : Nat} (h : RdTo w r x0 x1 x2 p n cap zs bad b w1) (k : RdTo w1 r x0 x1 x2 p n cap zs bad c w2) : RdTo w r x0 x1 x2 p n cap zs bad c w2 := ⟨h.1.then k.1, k.2⟩
theorem RdTo.after {w1 w2 : World} {c : Nat} (h : Below w.heap.size w w1) (k : RdTo w1 r x0 x1 x2 p n cap zs bad c w2) : RdTo w r x0 x1 x2 p n cap zs bad c w2 := ⟨(Exc.of_below h).then k.1, k.2⟩
theorem RdTo.bel {w1 w2 : World} {c : Nat} (h : RdTo w r x0 x1 x2 p n cap zs bad c w1) (k : Below w1.heap.size w1 w2) : RdTo w r x0 x1 x2 p n cap zs bad c w2 := ⟨h.1.then (.of_below k), h.2.below k⟩
theorem RdTo.refl (h : RdSc w r x0 x1 x2 p n cap zs bad a) : RdTo w r x0 x1 x2 p n cap zs bad a w := ⟨.refl _ _ _, h⟩
theorem rd6 (h : RdSc w r x0 x1 x2 p n cap zs bad a) : r < w.heap.size ∧ w.cell? ⟨r, 3, none⟩ = some (.slice p n cap) ∧ w.cell? ⟨r, 4, none⟩ = some (.int .i64 (a : Nat)) ∧ w.frozen? ⟨r, 3, none⟩ = false ∧ w.frozen? ⟨r, 4, none⟩ = false :=
  ⟨blk_lt h.blk, (blk_cell h.blk 3).trans rfl, (blk_cell h.blk 4).trans rfl, blk_frozen h.blk 3, blk_frozen h.blk 4⟩
theorem RdSc.moved (h : RdSc w r x0 x1 x2 p n cap zs bad a) (b : Nat) (hb : b ≤ n + 1) (x : Int) (hx : x = (b : Nat)) : RdTo w r x0 x1 x2 p n cap zs bad b (w.setCell ⟨r, 4, none⟩ (.int .i64 x)) := by
  subst hx
  have he := exc_set w r 4 (.int .i64 ((b : Nat) : Int))
  exact ⟨he, blk_set h.blk 4 _, h.by_.excR he h.np, h.len, h.cap_, h.np, hb, h.high⟩
end
/-- The byte that is next; -1: none. -/
def hereZ (zs : List Int) (a : Nat) : Int := if a < zs.length then zs.getD a 0 else -1
theorem here_any (r : Nat) (x0 x1 x2 : Value) (p : Option Addr) (n cap : Nat) (zs : List Int) (bad : Value) (a : Nat) (w : World) (h : RdSc w r x0 x1 x2 p n cap zs bad a) :
    Calls Tryd.prog 35 #[.pointer (some ⟨r, 0, none⟩)] w fun e w' => e = .returned (.int .i64 (hereZ zs a)) ∧ Below w.heap.size w w' := by
  obtain ⟨hr, c3, c4, f3, f4⟩ := rd6 h
  have hcap := h.cap_
  have hhigh := h.high
  unfold hereZ
  by_cases hi : a < n
  · rw [if_pos (by rw [h.len]; exact hi)]
    obtain ⟨hbd, hp⟩ := h.by_
    have hlen := h.len
    obtain ⟨b, off, rfl, hlt, hc⟩ := hp (by rintro rfl; simp at hlen; omega)
    have hci := hc a (by omega)
    obtain ⟨z0, z1⟩ := hbd a
    generalize zs.getD a 0 = z at hci z0 z1 ⊢
    clear hc hp hbd hlen h
    go_enter Tryd.func35, Tryd.ntmps35
    go_wp2
    go_quiet (fail)
    go_wp2
    go_quiet (fail)
    go_wp2
    go_ret
    exact ⟨rfl, by first | exact bel_drewN (bel_drewN (Below.refl _ _) _) _ | exact bel_drewN (Below.refl _ _) _⟩
  · rw [if_neg (by rw [h.len]; exact hi)]
    clear h
    go_enter Tryd.func35, Tryd.ntmps35
    go_wp2
    go_quiet (fail)
    go_wp2
    go_ret
    exact ⟨rfl, bel_drewN (Below.refl _ _) _⟩
theorem step1_any (r : Nat) (x0 x1 x2 : Value) (p : Option Addr) (n cap : Nat) (zs : List Int) (bad : Value) (a : Nat) (w : World) (h : RdSc w r x0 x1 x2 p n cap zs bad a) (ha : a ≤ n) (x : Int) (hx : x = (a : Nat) + 1) :
    RdTo w r x0 x1 x2 p n cap zs bad (a + 1) (w.setCell ⟨r, 4, none⟩ (.int .i64 x)) := h.moved (a + 1) (by omega) x (by omega)
theorem here_st {zs : List Int} {c : Int} (hc : 0 ≤ c) (a : Nat) : decide (hereZ zs a = c) = stA zs (isC c) a := by
  unfold hereZ stA isC
  split
  · rename_i h
    rw [decide_eq_true h, Bool.true_and]
  · rename_i h
    rw [decide_eq_false h, Bool.false_and, decide_eq_false_iff_not]
    omega
theorem here_ne {zs : List Int} {a : Nat} (h : 0 ≤ hereZ zs a) : a < zs.length ∧ hereZ zs a = zs.getD a 0 := by
  unfold hereZ at h ⊢
  split at h
  · rename_i h1; exact ⟨h1, if_pos h1⟩
  · omega
theorem here_blank {zs : List Int} {a : Nat} : stA zs isBlank a = decide (hereZ zs a = 32 ∨ hereZ zs a = 9 ∨ hereZ zs a = 10 ∨ hereZ zs a = 13) := by
  unfold hereZ
  split
  · rename_i h
    rw [stA_of h]
    rfl
  · rename_i h
    rw [stA_ge (by omega)]
    rfl
/-- The place at which a reader is, out of its block. -/
def atR (w : World) (r : Nat) : Nat := match w.cell? ⟨r, 4, none⟩ with | some (.int _ x) => x.toNat | _ => 0
theorem atR_st {w : World} {r : Nat} {x0 x1 x2 : Value} {p : Option Addr} {n cap : Nat} {zs : List Int} {bad : Value} {a : Nat} (h : RdSc w r x0 x1 x2 p n cap zs bad a) : atR w r = a := by
  unfold atR
  rw [(rd6 h).2.2.1]
  simp
set_option maxHeartbeats 800000 in
theorem rblank_any (r : Nat) (x0 x1 x2 : Value) (p : Option Addr) (n cap : Nat) (zs : List Int) (bad : Value) (a : Nat) (w : World) (h : RdSc w r x0 x1 x2 p n cap zs bad a) :
    Calls Tryd.prog 20 #[.pointer (some ⟨r, 0, none⟩)] w fun e w' => e = .returned (.tuple #[]) ∧ RdTo w r x0 x1 x2 p n cap zs bad (runTo zs isBlank a) w' := by
  have H := Lib.hid h
  have hle := h.le
  have hlen := h.len
  have hhigh := h.high
  clear h
  go_enter Tryd.func20, Tryd.ntmps20
  go_wp2
  go_loopw [2] (fun _ wr => ∃ b, runTo zs isBlank a = runTo zs isBlank b ∧ RdTo w r x0 x1 x2 p n cap zs bad b wr) (fun _ wr => n + 1 - atR wr r)
  case atStart => exact ⟨a, rfl, RdTo.refl H.out⟩
  case round =>
    obtain ⟨b, hb, hx⟩ := hrel
    have HB := Lib.hid hb
    have HX := Lib.hid hx
    have HH := Lib.hid (fun W h => here_any r x0 x1 x2 p n cap zs bad b W h)
    have HBL := Lib.hid (@here_blank zs b)
    have HNE := Lib.hid (@here_ne zs b)
    clear hb hx
    generalize hereZ zs b = z at HH HBL HNE
    by_cases h32 : z = 32
    · subst h32
      have HS : Hid (stA zs isBlank b = true) := by unfold Hid; rw [HBL.out]; decide
      have HL : Hid (b < n) := by unfold Hid; have := (HNE.out (by decide)).1; omega
      go_wp2_with fail
      refine (HH.out _ HX.out.2).mono ?_
      rintro e w1 ⟨rfl, hb1⟩
      have HX1 := Lib.hid (HX.out.bel hb1)
      clear hb1
      obtain ⟨hr, c3, c4, f3, f4⟩ := rd6 HX1.out.2
      have hl := HL.out
      go_wp2
      go_roundw
      case rel => exact ⟨b + 1, by rw [HB.out, runTo_step HS.out], HX1.out.then (step1_any _ _ _ _ _ _ _ _ _ _ _ HX1.out.2 (by have := HL.out; omega) _ rfl)⟩
      case measure =>
        rw [atR_st HX.out.2, atR_st (HX1.out.then (step1_any _ _ _ _ _ _ _ _ _ _ _ HX1.out.2 (by have := HL.out; omega) _ rfl)).2]
        have := HL.out
        omega
    by_cases h9 : z = 9
    · subst h9
      have HS : Hid (stA zs isBlank b = true) := by unfold Hid; rw [HBL.out]; decide
      have HL : Hid (b < n) := by unfold Hid; have := (HNE.out (by decide)).1; omega
      have t1 : ((9 : Int) == 32) = false := by decide
      go_wp2_with fail
      refine (HH.out _ HX.out.2).mono ?_
      rintro e w1 ⟨rfl, hb1⟩
      have HX1 := Lib.hid (HX.out.bel hb1)
      clear hb1
      go_wp2_with fail
      refine (HH.out _ HX1.out.2).mono ?_
      rintro e w2 ⟨rfl, hb2⟩
      have HX2 := Lib.hid (HX1.out.bel hb2)
      clear hb2
      obtain ⟨hr, c3, c4, f3, f4⟩ := rd6 HX2.out.2
      have hl := HL.out
      go_wp2
      go_roundw
      case rel => exact ⟨b + 1, by rw [HB.out, runTo_step HS.out], HX2.out.then (step1_any _ _ _ _ _ _ _ _ _ _ _ HX2.out.2 (by have := HL.out; omega) _ rfl)⟩
      case measure =>
        rw [atR_st HX.out.2, atR_st (HX2.out.then (step1_any _ _ _ _ _ _ _ _ _ _ _ HX2.out.2 (by have := HL.out; omega) _ rfl)).2]
        have := HL.out
        omega
    by_cases h10 : z = 10
    · subst h10
      have HS : Hid (stA zs isBlank b = true) := by unfold Hid; rw [HBL.out]; decide
      have HL : Hid (b < n) := by unfold Hid; have := (HNE.out (by decide)).1; omega
      have t1 : ((10 : Int) == 32) = false := by decide
      have t2 : ((10 : Int) == 9) = false := by decide
      go_wp2_with fail
      refine (HH.out _ HX.out.2).mono ?_
      rintro e w1 ⟨rfl, hb1⟩
      have HX1 := Lib.hid (HX.out.bel hb1)
      clear hb1
      go_wp2_with fail
      refine (HH.out _ HX1.out.2).mono ?_
      rintro e w2 ⟨rfl, hb2⟩
      have HX2 := Lib.hid (HX1.out.bel hb2)
      clear hb2
      go_wp2_with fail
      refine (HH.out _ HX2.out.2).mono ?_
      rintro e w3 ⟨rfl, hb3⟩
      have HX3 := Lib.hid (HX2.out.bel hb3)
      clear hb3
      obtain ⟨hr, c3, c4, f3, f4⟩ := rd6 HX3.out.2
      have hl := HL.out
      go_wp2
      go_roundw
      case rel => exact ⟨b + 1, by rw [HB.out, runTo_step HS.out], HX3.out.then (step1_any _ _ _ _ _ _ _ _ _ _ _ HX3.out.2 (by have := HL.out; omega) _ rfl)⟩
      case measure =>
        rw [atR_st HX.out.2, atR_st (HX3.out.then (step1_any _ _ _ _ _ _ _ _ _ _ _ HX3.out.2 (by have := HL.out; omega) _ rfl)).2]
        have := HL.out
        omega
    by_cases h13 : z = 13
    · subst h13
      have HS : Hid (stA zs isBlank b = true) := by unfold Hid; rw [HBL.out]; decide
      have HL : Hid (b < n) := by unfold Hid; have := (HNE.out (by decide)).1; omega
      have t1 : ((13 : Int) == 32) = false := by decide
      have t2 : ((13 : Int) == 9) = false := by decide
      have t3 : ((13 : Int) == 10) = false := by decide
      go_wp2_with fail
      refine (HH.out _ HX.out.2).mono ?_
      rintro e w1 ⟨rfl, hb1⟩
      have HX1 := Lib.hid (HX.out.bel hb1)
      clear hb1
      go_wp2_with fail
      refine (HH.out _ HX1.out.2).mono ?_
      rintro e w2 ⟨rfl, hb2⟩
      have HX2 := Lib.hid (HX1.out.bel hb2)
      clear hb2
      go_wp2_with fail
      refine (HH.out _ HX2.out.2).mono ?_
      rintro e w3 ⟨rfl, hb3⟩
      have HX3 := Lib.hid (HX2.out.bel hb3)
      clear hb3
      go_wp2_with fail
      refine (HH.out _ HX3.out.2).mono ?_
      rintro e w4 ⟨rfl, hb4⟩
      have HX4 := Lib.hid (HX3.out.bel hb4)
      clear hb4
      obtain ⟨hr, c3, c4, f3, f4⟩ := rd6 HX4.out.2
      have hl := HL.out
      go_wp2
      go_roundw
      case rel => exact ⟨b + 1, by rw [HB.out, runTo_step HS.out], HX4.out.then (step1_any _ _ _ _ _ _ _ _ _ _ _ HX4.out.2 (by have := HL.out; omega) _ rfl)⟩
      case measure =>
        rw [atR_st HX.out.2, atR_st (HX4.out.then (step1_any _ _ _ _ _ _ _ _ _ _ _ HX4.out.2 (by have := HL.out; omega) _ rfl)).2]
        have := HL.out
        omega
    have HS : Hid (stA zs isBlank b = false) := by unfold Hid; rw [HBL.out, decide_eq_false_iff_not]; omega
    have t32 : (z == 32) = false := by simpa using h32
    have t9 : (z == 9) = false := by simpa using h9
    have t10 : (z == 10) = false := by simpa using h10
    have t13 : (z == 13) = false := by simpa using h13
    clear h32 h9 h10 h13
    go_wp2_with fail
    refine (HH.out _ HX.out.2).mono ?_
    rintro e w1 ⟨rfl, hb1⟩
    have HX1 := Lib.hid (HX.out.bel hb1)
    clear hb1
    go_wp2_with fail
    refine (HH.out _ HX1.out.2).mono ?_
    rintro e w2 ⟨rfl, hb2⟩
    have HX2 := Lib.hid (HX1.out.bel hb2)
    clear hb2
    go_wp2_with fail
    refine (HH.out _ HX2.out.2).mono ?_
    rintro e w3 ⟨rfl, hb3⟩
    have HX3 := Lib.hid (HX2.out.bel hb3)
    clear hb3
    go_wp2_with fail
    refine (HH.out _ HX3.out.2).mono ?_
    rintro e w4 ⟨rfl, hb4⟩
    have HX4 := Lib.hid (HX3.out.bel hb4)
    clear hb4
    go_wp2
    first | refine bodyPost_end (v := .tuple #[]) (by simp [results, Tryd.results20, go_sem]) rfl ?_ | refine bodyPost_ret (v := .tuple #[]) (by simp [results, Tryd.results20, go_sem]) rfl ?_
    refine ⟨rfl, ?_⟩
    rw [HB.out, runTo_stop HS.out]
    exact HX4.out
theorem rsign_any (r : Nat) (x0 x1 x2 : Value) (p : Option Addr) (n cap : Nat) (zs : List Int) (bad : Value) (a : Nat) (c : Int) (hc : 0 ≤ c) (w : World) (h : RdSc w r x0 x1 x2 p n cap zs bad a) :
    Calls Tryd.prog 17 #[.pointer (some ⟨r, 0, none⟩), .int .i64 c] w fun e w' => e = .returned (.bool (stA zs (isC c) (runTo zs isBlank a))) ∧
      RdTo w r x0 x1 x2 p n cap zs bad (if stA zs (isC c) (runTo zs isBlank a) = true then runTo zs isBlank a + 1 else runTo zs isBlank a) w' := by
  have B1 := Lib.hid (rblank_any r x0 x1 x2 p n cap zs bad a w h)
  have hlen := h.len
  have hhigh := h.high
  clear h
  generalize runTo zs isBlank a = b at B1 ⊢
  have HH := Lib.hid (fun W h => here_any r x0 x1 x2 p n cap zs bad b W h)
  have HNE := Lib.hid (@here_ne zs b)
  rw [← here_st hc b]
  generalize hereZ zs b = z at HH HNE ⊢
  by_cases hz : z = c
  · subst hz
    have HL : Hid (b < n) := by unfold Hid; have := (HNE.out hc).1; omega
    rw [decide_eq_true rfl, if_pos rfl]
    go_enter Tryd.func17, Tryd.ntmps17
    go_wp2_with fail
    refine B1.out.mono ?_
    rintro e w1 ⟨rfl, h1⟩
    have H1 := Lib.hid h1
    clear h1
    go_wp2_with fail
    refine (HH.out _ H1.out.2).mono ?_
    rintro e w2 ⟨rfl, hb2⟩
    have H2 := Lib.hid (H1.out.bel hb2)
    obtain ⟨hr, c3, c4, f3, f4⟩ := rd6 H2.out.2
    have hl := HL.out
    clear hb2
    go_wp2
    go_ret
    exact ⟨rfl, H2.out.then (step1_any _ _ _ _ _ _ _ _ _ _ _ H2.out.2 (by have := HL.out; omega) _ rfl)⟩
  · rw [decide_eq_false hz, if_neg (by decide)]
    have t : (z == c) = false := by simpa using hz
    clear hz
    go_enter Tryd.func17, Tryd.ntmps17
    go_wp2_with fail
    refine B1.out.mono ?_
    rintro e w1 ⟨rfl, h1⟩
    have H1 := Lib.hid h1
    clear h1
    go_wp2_with fail
    refine (HH.out _ H1.out.2).mono ?_
    rintro e w2 ⟨rfl, hb2⟩
    have H2 := Lib.hid (H1.out.bel hb2)
    clear hb2
    go_wp2
    go_ret
    exact ⟨rfl, H2.out⟩
end Go.Proofs.YtneadcbadnicfaaDoor
