/-
  The program's writer of JSON (package jsonwrite): goes, fail, pay. Conditions: those that each theorem names.
-/
import Derived.Test.YtiknhkkeifemcaaGreatDoorPkM29
import Derived.BigQuiet
namespace Go.Proofs.YtiknhkkeifemcaaGreatDoor
open Go.ChangeShapes Go.WideShapes Go.ChangeAt Go.RowKit

theorem blk5q {w : World} {b : Nat} {u0 u1 u2 u3 u4 : Value} {t : TypeId} (h : w.heap[b]? = some (.cells #[u0, u1, u2, u3, u4] t (0, 0))) : w.cell? ⟨b, 0, none⟩ = some u0 ∧ w.cell? ⟨b, 1, none⟩ = some u1 ∧ w.cell? ⟨b, 2, none⟩ = some u2 ∧ w.cell? ⟨b, 3, none⟩ = some u3 ∧ w.cell? ⟨b, 4, none⟩ = some u4 :=
  ⟨blk_cell h 0, blk_cell h 1, blk_cell h 2, blk_cell h 3, blk_cell h 4⟩
section
variable {w : World} {base wk ak mk : Nat} {rv cv : Value} {A : Option Addr} {cap : Nat} {zs : List Int} {over : Bool} {left : Int} {mo : Bool} {fault : Int}
theorem jgoes_yes (h : JwSt w base wk ak mk rv cv A cap zs over left mo 0) :
    Calls Tryz.prog 60 #[.pointer (some ⟨wk, 0, none⟩)] w fun e w' => e = .returned (.bool (!over)) ∧ w = w' := by
  have H := Lib.hid (over_any h.arena)
  obtain ⟨c0, c1, c2, c3, c4⟩ := blk5q h.blk
  clear h
  go_enter Tryz.func60, Tryz.ntmps60
  go_wp2_with fail
  refine H.out.mono ?_
  rintro e W1 ⟨rfl, rfl⟩
  cases over
  · go_wp2
    go_ret
    exact ⟨rfl, rfl⟩
  · go_wp2
    go_ret
    exact ⟨rfl, rfl⟩
theorem jgoes_no (h : JwSt w base wk ak mk rv cv A cap zs over left mo 3) :
    Calls Tryz.prog 60 #[.pointer (some ⟨wk, 0, none⟩)] w fun e w' => e = .returned (.bool false) ∧ w = w' := by
  obtain ⟨c0, c1, c2, c3, c4⟩ := blk5q h.blk
  clear h
  go_enter Tryz.func60, Tryz.ntmps60
  go_wp2
  go_ret
  exact ⟨rfl, rfl⟩
theorem jfail_any (h : JwSt w base wk ak mk rv cv A cap zs false left mo 0) (f : Int) :
    Calls Tryz.prog 73 #[.pointer (some ⟨wk, 0, none⟩), .int .i64 f] w fun e w' => e = .returned (.tuple #[]) ∧ JwSt w' base wk ak mk rv cv A cap zs false left mo f ∧ Fx wk ak mk A A w w' := by
  have H := Lib.hid (h.failed f)
  have HG := Lib.hid (jgoes_yes h)
  obtain ⟨c0, c1, c2, c3, c4⟩ := blk5q h.blk
  have hfz := blk_frozen h.blk 4
  clear h
  go_enter Tryz.func73, Tryz.ntmps73
  go_wp2_with fail
  refine HG.out.mono ?_
  rintro e W1 ⟨rfl, rfl⟩
  go_wp2
  exact bodyPost_end (v := .tuple #[]) (by simp [results, Tryz.results73, go_sem]) rfl ⟨rfl, H.out⟩
end
section
variable {w : World} {base wk ak mk : Nat} {rv cv : Value} {A : Option Addr} {L pay : Int} {enc : List Int}
def JwPaid (base wk ak mk : Nat) (rv cv : Value) (A : Option Addr) (L : Int) (enc : List Int) (pay : Int) (w : World) (e : Ending) (w' : World) : Prop :=
  ((e = .returned (.bool true) ∧ JwGo base wk ak mk rv cv A L enc pay w') ∨ (e = .returned (.bool false) ∧ JwOff base wk ak mk rv cv A L enc pay w')) ∧ Fx wk ak mk A A w w'
theorem jpay_off (h : JwOff base wk ak mk rv cv A L enc pay w) (n : Int) (h0 : 0 ≤ n) :
    Calls Tryz.prog 69 #[.pointer (some ⟨wk, 0, none⟩), .int .i64 n] w (JwPaid base wk ak mk rv cv A L enc (pay + n) w) := by
  have HE := Lib.hid (show JwPaid base wk ak mk rv cv A L enc (pay + n) w (.returned (.bool false)) w from ⟨.inr ⟨rfl, h.more (Nat.le_refl _) (by omega)⟩, Fx.refl wk ak mk A w⟩)
  have HG : Hid (Calls Tryz.prog 60 #[.pointer (some ⟨wk, 0, none⟩)] w fun e w' => e = .returned (.bool false) ∧ w = w') := Lib.hid (by
    obtain ⟨cap, zs, ov, left, mo, f, h1, h2⟩ := h
    rcases h2 with ⟨rfl, rfl, _⟩ | ⟨rfl, _⟩
    · exact jgoes_yes h1
    · exact jgoes_no h1)
  clear h
  go_enter Tryz.func69, Tryz.ntmps69
  go_wp2_with fail
  refine HG.out.mono ?_
  rintro e W1 ⟨rfl, rfl⟩
  go_wp2_with fail
  refine HG.out.mono ?_
  rintro e W2 ⟨rfl, rfl⟩
  go_wp2
  go_ret
  exact HE.out
theorem jpay_go (h : JwGo base wk ak mk rv cv A L enc pay w) (n : Int) (h0 : 0 ≤ n) :
    Calls Tryz.prog 69 #[.pointer (some ⟨wk, 0, none⟩), .int .i64 n] w (JwPaid base wk ak mk rv cv A L enc (pay + n) w) := by
  obtain ⟨cap, left, h1, h2, h3, h4⟩ := h
  obtain ⟨c0, c1, c2, c3, c4⟩ := blk5q h1.blk
  have HG := Lib.hid (jgoes_yes h1)
  rcases Int.lt_or_le 0 n with hn | hn
  · rcases Int.lt_or_le left n with hl | hl
    · have H := Lib.hid (h1.out 0)
      have HT := Lib.hid (take_over mk left n w h1.meter h0 hl)
      have HL : Hid (L < pay + n) := Lib.hid (by omega)
      clear h1 h2
      go_enter Tryz.func69, Tryz.ntmps69
      go_wp2_with fail
      refine HG.out.mono ?_
      rintro e W1 ⟨rfl, rfl⟩
      go_wp2_with fail
      refine HT.out.mono ?_
      rintro e W1 ⟨rfl, rfl⟩
      clear c0 c1 c2 c3 c4
      go_wp2_with fail
      refine (jfail_any H.out.1 3).mono ?_
      rintro e W2 ⟨rfl, h5, h6⟩
      have HG2 := Lib.hid (jgoes_no h5)
      have HE := Lib.hid (show JwPaid base wk ak mk rv cv A L enc (pay + n) w (.returned (.bool false)) W2 from ⟨.inr ⟨rfl, cap, enc, false, 0, true, 3, h5, .inr ⟨rfl, HL.out⟩⟩, H.out.2.trans h6⟩)
      clear h5 h6
      go_wp2_with fail
      refine HG2.out.mono ?_
      rintro e W3 ⟨rfl, rfl⟩
      go_wp2
      go_ret
      exact HE.out
    · have H := Lib.hid (h1.took (left - n))
      have HT := Lib.hid (take_yes mk left n w h1.meter h0 hl h4)
      have HE := Lib.hid (show JwPaid base wk ak mk rv cv A L enc (pay + n) w (.returned (.bool true)) (w.setCell ⟨mk, 0, none⟩ (.int .i64 (left - n))) from ⟨.inl ⟨rfl, cap, left - n, H.out.1, by omega, by omega, by omega⟩, H.out.2⟩)
      have HG2 := Lib.hid (jgoes_yes H.out.1)
      clear h1 h2
      go_enter Tryz.func69, Tryz.ntmps69
      go_wp2_with fail
      refine HG.out.mono ?_
      rintro e W1 ⟨rfl, rfl⟩
      go_wp2_with fail
      refine HT.out.mono ?_
      rintro e W1 ⟨rfl, rfl⟩
      go_wp2_with fail
      refine HG2.out.mono ?_
      rintro e W3 ⟨rfl, rfl⟩
      go_wp2
      go_ret
      exact HE.out
  · obtain rfl : n = 0 := by omega
    have HE := Lib.hid (show JwPaid base wk ak mk rv cv A L enc (pay + 0) w (.returned (.bool true)) w from ⟨.inl ⟨rfl, cap, left, h1, by omega, h3, h4⟩, Fx.refl wk ak mk A w⟩)
    clear h1 h2
    go_enter Tryz.func69, Tryz.ntmps69
    go_wp2_with fail
    refine HG.out.mono ?_
    rintro e W1 ⟨rfl, rfl⟩
    go_wp2_with fail
    refine HG.out.mono ?_
    rintro e W3 ⟨rfl, rfl⟩
    go_wp2
    go_ret
    exact HE.out
theorem jpay_any (h : JwAt base wk ak mk rv cv A L enc pay w) (n : Int) (h0 : 0 ≤ n) :
    Calls Tryz.prog 69 #[.pointer (some ⟨wk, 0, none⟩), .int .i64 n] w (JwPaid base wk ak mk rv cv A L enc (pay + n) w) := by
  rcases h with h | h
  · exact jpay_go h n h0
  · exact jpay_off h n h0
theorem JwPaid.bool {e : Ending} {w' : World} (h : JwPaid base wk ak mk rv cv A L enc pay w e w') : ∃ b : Bool, e = .returned (.bool b) ∧ (b = true → JwGo base wk ak mk rv cv A L enc pay w') ∧ (b = false → JwOff base wk ak mk rv cv A L enc pay w') ∧ Fx wk ak mk A A w w' := by
  obtain ⟨⟨rfl, h1⟩ | ⟨rfl, h1⟩, h2⟩ := h
  · exact ⟨true, rfl, fun _ => h1, fun h => (by cases h), h2⟩
  · exact ⟨false, rfl, fun h => (by cases h), fun _ => h1, h2⟩
end
end Go.Proofs.YtiknhkkeifemcaaGreatDoor
