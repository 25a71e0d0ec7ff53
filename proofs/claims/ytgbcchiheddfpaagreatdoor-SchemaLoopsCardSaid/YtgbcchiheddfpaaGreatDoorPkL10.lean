/-
  A plan that came in lies in every later world. Conditions: those that each theorem names.
-/
import Derived.Test.YtgbcchiheddfpaaGreatDoorPkL6
import Derived.Test.YtgbcchiheddfpaaGreatDoorPkL7
namespace Go.Proofs.YtgbcchiheddfpaaGreatDoor
open Go.ChangeShapes Go.WideShapes Go.ChangeAt Go.RowKit

structure Exw (R S B : Nat) (w w' : World) : Prop where
  os : w'.os = w.os
  tape : w'.tape = w.tape
  output : w'.output = w.output
  size : w.heap.size ≤ w'.heap.size
  block : ∀ k, k < B → k ≠ R → k ≠ S → w'.heap[k]? = w.heap[k]?
theorem Exw.refl (R S B : Nat) (w : World) : Exw R S B w w := ⟨rfl, rfl, rfl, Nat.le_refl _, fun _ _ _ _ => rfl⟩
theorem Exw.trans {R S B : Nat} {a b c : World} (h : Exw R S B a b) (k : Exw R S B b c) : Exw R S B a c :=
  ⟨k.os.trans h.os, k.tape.trans h.tape, k.output.trans h.output, Nat.le_trans h.size k.size, fun i hi h1 h2 => (k.block i hi h1 h2).trans (h.block i hi h1 h2)⟩
theorem Exw.mono {R S B B' : Nat} {w w' : World} (h : Exw R S B w w') (hB : B' ≤ B) : Exw R S B' w w' := ⟨h.os, h.tape, h.output, h.size, fun k hk h1 h2 => h.block k (Nat.lt_of_lt_of_le hk hB) h1 h2⟩
theorem Exw.of_below {R S B : Nat} {w w' : World} (h : Below B w w') : Exw R S B w w' := ⟨h.os, h.tape, h.output, h.size, fun k hk _ _ => h.block k hk⟩
theorem Exw.then {R S : Nat} {a b c : World} (h : Exw R S a.heap.size a b) (k : Exw R S b.heap.size b c) : Exw R S a.heap.size a c := h.trans (k.mono h.size)
theorem Exw.bel {R S : Nat} {a b c : World} (h : Exw R S a.heap.size a b) (k : Below b.heap.size b c) : Exw R S a.heap.size a c := h.then (.of_below k)
theorem Exw.setCell {R S B : Nat} {a w : World} (h : Exw R S B a w) {p : Addr} (hp : p.block = R ∨ p.block = S ∨ B ≤ p.block) (u : Value) : Exw R S B a (w.setCell p u) :=
  ⟨h.os, h.tape, h.output, by rw [show (w.setCell p u).heap.size = w.heap.size by simp [World.setCell]]; exact h.size, fun k hk h1 h2 => (Below.heap_setCell _ _ _ _ (by omega)).trans (h.block k hk h1 h2)⟩
theorem Exw.drew {R S B : Nat} {a w : World} (h : Exw R S B a w) : Exw R S B a w.drew := ⟨h.os, h.tape, h.output, h.size, h.block⟩
theorem Exw.cell {R S B : Nat} {w w' : World} (h : Exw R S B w w') {p : Addr} (hp : p.block < B) (h1 : p.block ≠ R) (h2 : p.block ≠ S) : w'.cell? p = w.cell? p := World.cell?_of_block (w := w) (h.block p.block hp h1 h2)
theorem Exw.below {R S B : Nat} {w w' : World} (h : Exw R S B w w') (hR : B ≤ R) (hS : B ≤ S) : Below B w w' := ⟨h.os, h.tape, h.output, h.size, fun k hk => h.block k hk (by omega) (by omega)⟩
theorem blk_exw {R S B g : Nat} {w W : World} {o : Obj} (h : w.heap[g]? = some o) (hb : Exw R S B w W) (hg : g < B) (h1 : g ≠ R) (h2 : g ≠ S) : W.heap[g]? = some o := (hb.block g hg h1 h2).trans h
theorem Exw.ownsRow {R S : Nat} {w w' : World} (h : Exw R S w.heap.size w w') {base : Nat} {e : TypeId} {size : Nat} {v : Value} {n : Nat} {xs : List Value} (ho : w.ownsRow base e size v n xs) (hR : v.ownBlock ≠ some R) (hS : v.ownBlock ≠ some S) : w'.ownsRow base e size v n xs := by
  obtain ⟨hl, h'⟩ := ho
  refine ⟨hl, ?_⟩
  rcases h' with h1 | ⟨g, cap, cur, hv, hb, hg, hrest⟩
  · exact .inl h1
  · subst hv
    exact .inr ⟨g, cap, cur, rfl, hb, blk_exw hg h (blk_lt hg) (fun e => hR (by rw [e]; rfl)) (fun e => hS (by rw [e]; rfl)), hrest⟩
end Go.Proofs.YtgbcchiheddfpaaGreatDoor
namespace Go.Proofs.YtgbcchiheddfpaaGreatDoor
open Go.ChangeShapes Go.WideShapes Go.ChangeAt Go.RowKit

theorem wsize_any (n : Int) (w : World) :
    Calls Tryz.prog 113 #[.int .u8 n] w fun e w' => e = .returned (.int .i64 (kSize n)) ∧ w = w' := by
  by_cases h : n < 1 ∨ 10 < n
  · have H := Lib.hid (kSize_else n h)
    have b1 : (n == 1) = false := by simp; omega
    have b2 : (n == 2) = false := by simp; omega
    have b3 : (n == 3) = false := by simp; omega
    have b4 : (n == 4) = false := by simp; omega
    have b5 : (n == 5) = false := by simp; omega
    have b6 : (n == 6) = false := by simp; omega
    have b7 : (n == 7) = false := by simp; omega
    have b8 : (n == 8) = false := by simp; omega
    have b9 : (n == 9) = false := by simp; omega
    have b10 : (n == 10) = false := by simp; omega
    clear h
    rw [H.out]
    go_enter Tryz.func113, Tryz.ntmps113
    go_wp2
    go_ret
    exact ⟨rfl, rfl⟩
  · have h' : n = 1 ∨ n = 2 ∨ n = 3 ∨ n = 4 ∨ n = 5 ∨ n = 6 ∨ n = 7 ∨ n = 8 ∨ n = 9 ∨ n = 10 := by omega
    clear h
    rcases h' with rfl | rfl | rfl | rfl | rfl | rfl | rfl | rfl | rfl | rfl
    all_goals
      go_enter Tryz.func113, Tryz.ntmps113
      go_wp2
      go_ret
      exact ⟨ret_int (by decide), rfl⟩
end Go.Proofs.YtgbcchiheddfpaaGreatDoor
namespace Go.Proofs.YtgbcchiheddfpaaGreatDoor
open Go.ChangeShapes Go.WideShapes Go.ChangeAt Go.RowKit

theorem wsign_any (n : Int) (w : World) :
    Calls Tryz.prog 115 #[.int .u8 n] w fun e w' => e = .returned (.bool (kSign n)) ∧ w = w' := by
  by_cases h1 : 2 ≤ n
  · by_cases h2 : n ≤ 5
    · rw [show kSign n = true from decide_eq_true ⟨h1, h2⟩]
      go_enter Tryz.func115, Tryz.ntmps115
      go_wp2
      go_ret
      exact ⟨rfl, rfl⟩
    · rw [show kSign n = false from decide_eq_false (fun h => h2 h.2)]
      go_enter Tryz.func115, Tryz.ntmps115
      go_wp2
      go_ret
      exact ⟨rfl, rfl⟩
  · rw [show kSign n = false from decide_eq_false (fun h => h1 h.1)]
    go_enter Tryz.func115, Tryz.ntmps115
    go_wp2
    go_ret
    exact ⟨rfl, rfl⟩
end Go.Proofs.YtgbcchiheddfpaaGreatDoor
namespace Go.Proofs.YtgbcchiheddfpaaGreatDoor
open Go.ChangeShapes Go.WideShapes Go.ChangeAt Go.RowKit Go.Shelf

theorem IsPlan.below {w W : World} {p : Plan} {a0 a1 : Option Addr} {n0 e0 n1 c1 : Nat} (h : IsPlan w p a0 n0 e0 a1 n1 c1) (hb : Below w.heap.size w W) : IsPlan W p a0 n0 e0 a1 n1 c1 := by
  refine ⟨h.e_len, h.s_len, h.e_cap, h.s_cap, h.rt, fun j hj => ?_, fun r hr => ?_⟩
  · obtain ⟨h1, b, off, h2, h3, h4⟩ := h.e_at j hj
    exact ⟨h1, b, off, h2, Nat.lt_of_lt_of_le h3 hb.size, (hb.cell (p := ⟨b, off + j, none⟩) h3).trans h4⟩
  · obtain ⟨b, off, a, n, c, h2, h3, h4, h5, h6, h7, h8⟩ := h.s_at r hr
    refine ⟨b, off, a, n, c, h2, Nat.lt_of_lt_of_le h3 hb.size, (hb.cell (p := ⟨b, off + r, none⟩) h3).trans h4, h5, h6, h7, fun k hk => ?_⟩
    obtain ⟨b', off', f, g1, g2, g3, x0, x1, x2, x3, x4, q⟩ := h8 k hk
    exact ⟨b', off', f, g1, g2, Nat.lt_of_lt_of_le g3 hb.size, (hb.cell (p := ⟨b', off' + k * 5, none⟩) g3).trans x0, (hb.cell (p := ⟨b', off' + k * 5 + 1, none⟩) g3).trans x1, (hb.cell (p := ⟨b', off' + k * 5 + 2, none⟩) g3).trans x2, (hb.cell (p := ⟨b', off' + k * 5 + 3, none⟩) g3).trans x3, (hb.cell (p := ⟨b', off' + k * 5 + 4, none⟩) g3).trans x4, q⟩
theorem blk4p {w : World} {g : Nat} {x y z u : Value} {t : TypeId} (h : w.heap[g]? = some (.cells #[x, y, z, u] t (0, 0))) :
    g < w.heap.size ∧ w.cell? ⟨g, 0, none⟩ = some x ∧ w.cell? ⟨g, 1, none⟩ = some y ∧ w.cell? ⟨g, 2, none⟩ = some z ∧ w.cell? ⟨g, 3, none⟩ = some u :=
  ⟨blk_lt h, (blk_cell h 0).trans rfl, (blk_cell h 1).trans rfl, (blk_cell h 2).trans rfl, (blk_cell h 3).trans rfl⟩
end Go.Proofs.YtgbcchiheddfpaaGreatDoor
