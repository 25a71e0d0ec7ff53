/-
  The hand's source of bytes: next. Conditions: those that each theorem names.
-/
import Derived.Test.YtjeoekggdohhiaaDoorPkB1
import Derived.Test.YtjeoekggdohhiaaDoorPkB4
import Derived.Test.YtjeoekggdohhiaaDoorPkB5
import Derived.BigQuiet
import Derived.Test.YtjeoekggdohhiaaDoorRows
import Derived.WalkKit
import Derived.ProofKit
import Derived.OpenShut
import Derived.ShutString
import Derived.ChangeOld
import Derived.Below
import Derived.WalkLawsBesides
import Derived.WalkSpells
import Derived.Lib.Hide
import Derived.Outline
import Derived.Handy
namespace Go.Proofs.YtjeoekggdohhiaaDoor
open Go.ChangeShapes Go.WideShapes Go.ChangeAt Go.RowKit Go.Shelf

structure Src (g : Nat) (a : Option Addr) (bs : List Int) (bc : Nat) (W : World) (i : Nat) : Prop where
  blk : W.heap[g]? = some (.cells #[.slice a bs.length bc, .int .i64 i] 74 (0, 0))
  le : i ≤ bs.length
  byt : Bytes W a bs
  low : bs ≠ [] → ∀ b off, a = some ⟨b, off, none⟩ → b ≠ g
  len : (bs.length : Int) ≤ 9223372036854775807
  cap : bs.length ≤ bc
theorem Src.below {g : Nat} {a : Option Addr} {bs : List Int} {bc : Nat} {W W' : World} {i : Nat} (h : Src g a bs bc W i) (hb : Below W.heap.size W W') : Src g a bs bc W' i :=
  ⟨blk_below h.blk hb (blk_lt h.blk), h.le, h.byt.below (Nat.le_refl _) hb, h.low, h.len, h.cap⟩
theorem Bytes.exc {w w' : World} {R B : Nat} {a : Option Addr} {bs : List Int} (h : Bytes w a bs) (hb : Exc R B w w') (hB : w.heap.size ≤ B) (hR : bs ≠ [] → ∀ b off, a = some ⟨b, off, none⟩ → b ≠ R) : Bytes w' a bs := by
  refine ⟨h.1, fun hne => ?_⟩
  obtain ⟨b, off, rfl, hlt, hc⟩ := h.2 hne
  exact ⟨b, off, rfl, Nat.lt_of_lt_of_le hlt hb.size, fun i hi => (hb.cell (p := ⟨b, off + i, none⟩) (Nat.lt_of_lt_of_le hlt hB) (hR hne b off rfl)).trans (hc i hi)⟩
theorem exc_dN {R B : Nat} {a w : World} (h : Exc R B a w) (n : Nat) : Exc R B a (w.drewN n) := ⟨h.os, h.tape, h.output, h.size, h.block⟩
theorem bel_dN (w : World) (n : Nat) : Below w.heap.size w (w.drewN n) := ⟨rfl, rfl, rfl, Nat.le_refl _, fun _ _ => rfl⟩
theorem Src.dN {g : Nat} {a : Option Addr} {bs : List Int} {bc : Nat} {W : World} {i : Nat} (h : Src g a bs bc W i) (n : Nat) : Src g a bs bc (W.drewN n) i := h.below (bel_dN W n)
theorem Src.put {g : Nat} {a : Option Addr} {bs : List Int} {bc : Nat} {W : World} {i : Nat} (h : Src g a bs bc W i) (hi : i < bs.length) : Src g a bs bc (W.setCell ⟨g, 1, none⟩ (.int .i64 ((i : Int) + 1))) (i + 1) :=
  ⟨blk_set h.blk 1 _, hi, h.byt.exc (exc_set W g 1 _) (Nat.le_refl _) h.low, h.low, h.len, h.cap⟩
theorem next_any (g : Nat) (a : Option Addr) (bs : List Int) (bc i : Nat) (w : World) (h : Src g a bs bc w i) :
    Calls Tryd.prog 35 #[.pointer (some ⟨g, 0, none⟩)] w fun e w' => ∃ c i' : Nat, e = .returned (.int .i64 c) ∧ c ≤ 255 ∧ i ≤ i' ∧ Src g a bs bc w' i' ∧ Exc g w.heap.size w w' := by
  obtain ⟨_, s0, s1, sf0, sf1⟩ := blk2 h.blk
  have HS := Lib.hid h
  have hle := h.le
  have hlen := h.len
  have hcap := h.cap
  have hbyt := h.byt
  clear h
  by_cases hi : bs.length ≤ i
  · go_enter Tryd.func35, Tryd.ntmps35
    go_wp2
    go_quiet (fail)
    go_wp2
    go_ret
    exact ⟨0, i, rfl, by decide, Nat.le_refl _, HS.out.dN _, exc_dN (Exc.refl _ _ _) _⟩
  · have hne : bs ≠ [] := fun e => by rw [e] at hi; exact hi (Nat.zero_le _)
    obtain ⟨b, off, rfl, hlt, hc⟩ := hbyt.2 hne
    have hci := hc i (by omega)
    obtain ⟨c, hcc⟩ : ∃ c : Nat, bs.getD i 0 = c := ⟨(bs.getD i 0).toNat, by have := (hbyt.1 i).1; omega⟩
    have hc255 : c ≤ 255 := by have := (hbyt.1 i).2; omega
    rw [hcc] at hci
    have hbg : b ≠ g := HS.out.low hne b off rfl
    clear hc hbyt hcc hne
    go_enter Tryd.func35, Tryd.ntmps35
    go_wp2
    go_quiet (fail)
    go_wp2
    go_quiet (fail)
    go_wp2
    go_ret
    exact ⟨c, i + 1, rfl, hc255, Nat.le_succ _, ((HS.out.dN _).put (by omega)).dN _, exc_dN ((exc_dN (Exc.refl _ _ _) _).setCell (p := ⟨g, 1, none⟩) (.inl rfl) _) _⟩
end Go.Proofs.YtjeoekggdohhiaaDoor
