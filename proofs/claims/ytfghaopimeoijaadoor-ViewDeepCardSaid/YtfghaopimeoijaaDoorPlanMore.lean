/-
  A plan that came in lies in every later world. Conditions: those that each theorem names.
-/
import Derived.Test.YtfghaopimeoijaaDoorSch
namespace Go.Proofs.YtfghaopimeoijaaDoor
open Go.ChangeShapes Go.WideShapes Go.ChangeAt Go.RowKit Go.Shelf

theorem IsPlan.below {w W : World} {p : Plan} {a0 a1 : Option Addr} {n0 e0 n1 c1 : Nat} (h : IsPlan w p a0 n0 e0 a1 n1 c1) (hb : Below w.heap.size w W) : IsPlan W p a0 n0 e0 a1 n1 c1 := by
  refine ⟨h.e_len, h.s_len, h.e_cap, h.s_cap, h.rt, fun j hj => ?_, fun r hr => ?_⟩
  · obtain ⟨h1, b, off, h2, h3, h4⟩ := h.e_at j hj
    exact ⟨h1, b, off, h2, Nat.lt_of_lt_of_le h3 hb.size, (hb.cell (p := ⟨b, off + j, none⟩) h3).trans h4⟩
  · obtain ⟨b, off, a, n, c, h2, h3, h4, h5, h6, h7, h8⟩ := h.s_at r hr
    refine ⟨b, off, a, n, c, h2, Nat.lt_of_lt_of_le h3 hb.size, (hb.cell (p := ⟨b, off + r, none⟩) h3).trans h4, h5, h6, h7, fun k hk => ?_⟩
    obtain ⟨b', off', f, g1, g2, g3, x0, x1, x2, x3, x4, q⟩ := h8 k hk
    exact ⟨b', off', f, g1, g2, Nat.lt_of_lt_of_le g3 hb.size, (hb.cell (p := ⟨b', off' + k * 5, none⟩) g3).trans x0, (hb.cell (p := ⟨b', off' + k * 5 + 1, none⟩) g3).trans x1, (hb.cell (p := ⟨b', off' + k * 5 + 2, none⟩) g3).trans x2, (hb.cell (p := ⟨b', off' + k * 5 + 3, none⟩) g3).trans x3, (hb.cell (p := ⟨b', off' + k * 5 + 4, none⟩) g3).trans x4, q⟩
theorem blk4p {w : World} {g : Nat} {x y z u : Value} {t : TypeId} (h : w.heap[g]? = some (.cells #[x, y, z, u] t (0, 0))) :
    g < w.heap.size ∧ w.cell? ⟨g, 0, none⟩ = some x ∧ w.cell? ⟨g, 1, none⟩ = some y ∧ w.cell? ⟨g, 2, none⟩ = some z ∧ w.cell? ⟨g, 3, none⟩ = some u :=
  ⟨blk_lt h, (blk_cell h 0).trans rfl, (blk_cell h 1).trans rfl, (blk_cell h 2).trans rfl, (blk_cell h 3).trans rfl⟩
end Go.Proofs.YtfghaopimeoijaaDoor
