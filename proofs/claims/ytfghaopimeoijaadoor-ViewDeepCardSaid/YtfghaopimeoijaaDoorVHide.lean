/-
  Values in memory of which some blocks are no part: 'VH S w v val': no cell of it lies in a block that S names. Conditions: those that each theorem names.
-/
import Derived.Test.YtfghaopimeoijaaDoorVKid
namespace Go.Proofs.YtfghaopimeoijaaDoor
open Go.ChangeShapes Go.WideShapes Go.ChangeAt Go.RowKit Go.Shelf

/-- A world without the cells of some blocks. -/
def hideW (S : Nat → Bool) (w : World) : World := { w with heap := w.heap.mapIdx fun i o => if S i = true then .cells #[] 36 (0, 0) else o }
theorem hide_size (S : Nat → Bool) (w : World) : (hideW S w).heap.size = w.heap.size := by simp [hideW]
theorem hide_block (S : Nat → Bool) (w : World) (k : Nat) (h : S k = false) : (hideW S w).heap[k]? = w.heap[k]? := by
  simp [hideW, Array.getElem?_mapIdx, h]
theorem hide_cell (S : Nat → Bool) (w : World) (p : Addr) (h : S p.block = false) : (hideW S w).cell? p = w.cell? p := World.cell?_of_block (hide_block S w _ h)
theorem hide_none (S : Nat → Bool) (w : World) (p : Addr) (h : S p.block = true) : (hideW S w).cell? p = none := by
  unfold World.cell? hideW
  simp only [Array.getElem?_mapIdx]
  cases w.heap[p.block]? with
  | none => rfl
  | some o => simp [h]
theorem hide_some {S : Nat → Bool} {w : World} {p : Addr} {x : Value} (h : (hideW S w).cell? p = some x) : S p.block = false ∧ w.cell? p = some x := by
  cases hs : S p.block with
  | false => exact ⟨rfl, (hide_cell S w p hs) ▸ h⟩
  | true => rw [hide_none S w p hs] at h; cases h
theorem Bytes.mono {w W : World} {p : Option Addr} {zs : List Int} (hs : w.heap.size ≤ W.heap.size) (hc : ∀ p x, w.cell? p = some x → W.cell? p = some x) (h : Bytes w p zs) : Bytes W p zs := by
  refine ⟨h.1, fun hne => ?_⟩
  obtain ⟨b, off, rfl, hlt, hcell⟩ := h.2 hne
  exact ⟨b, off, rfl, Nat.lt_of_lt_of_le hlt hs, fun i hi => hc _ _ (hcell i hi)⟩
/-- It lies in every world that has its cells. -/
theorem IsV.mono {w W : World} {v : PV} {val : Value} (h : IsV w v val) (hs : w.heap.size ≤ W.heap.size) (hc : ∀ p x, w.cell? p = some x → W.cell? p = some x) : IsV W v val := by
  induction h with
  | mk n bs ks h ba ka bc kc kb ko c0 c1 c2 c3 hn hbb hbl hbm hkl hkm hka hcc _ ih =>
    exact .mk n bs ks h ba ka bc kc kb ko c0 c1 c2 c3 hn (hbb.mono hs hc) hbl hbm hkl hkm hka (fun i hi => by obtain ⟨h0, h1, h2, h3⟩ := hcc i hi; exact ⟨hc _ _ h0, hc _ _ h1, hc _ _ h2, hc _ _ h3⟩) ih
def VH (S : Nat → Bool) (w : World) (v : PV) (val : Value) : Prop := IsV (hideW S w) v val
theorem VH.out {S : Nat → Bool} {w : World} {v : PV} {val : Value} (h : VH S w v val) : IsV w v val :=
  IsV.mono h (by rw [hide_size]; exact Nat.le_refl _) (fun _ _ h => (hide_some h).2)
/-- It stays, where its blocks stay. -/
theorem VH.step {S S' : Nat → Bool} {w W : World} {v : PV} {val : Value} (h : VH S w v val) (hs : w.heap.size ≤ W.heap.size) (hb : ∀ k, k < w.heap.size → S k = false → S' k = false ∧ W.heap[k]? = w.heap[k]?) : VH S' W v val :=
  IsV.mono h (by rw [hide_size, hide_size]; exact hs) (fun p x hx => by
    obtain ⟨h1, h2⟩ := hide_some hx
    obtain ⟨h3, h4⟩ := hb p.block (World.block_lt_of_cell? _ _ h2) h1
    rw [hide_cell S' W p h3, World.cell?_of_block h4]
    exact h2)
theorem IsV.vh {S : Nat → Bool} {w W : World} {v : PV} {val : Value} (h : IsV w v val) (hs : w.heap.size ≤ W.heap.size) (hb : ∀ k, k < w.heap.size → S k = false ∧ W.heap[k]? = w.heap[k]?) : VH S W v val :=
  IsV.mono h (by rw [hide_size]; exact hs) (fun p x hx => by
    obtain ⟨h3, h4⟩ := hb p.block (World.block_lt_of_cell? _ _ hx)
    rw [hide_cell S W p h3, World.cell?_of_block h4]
    exact hx)
theorem VH.alloc {S : Nat → Bool} {w : World} {v : PV} {val : Value} (h : VH S w v val) (o : Obj) : VH S (w.alloc o) v val :=
  h.step (by simp) (fun k hk hs => ⟨hs, by rw [World.alloc]; simp [Array.getElem?_push, Nat.ne_of_lt hk]⟩)
theorem VH.below {S : Nat → Bool} {w W : World} {v : PV} {val : Value} (h : VH S w v val) (hb : Below w.heap.size w W) : VH S W v val := h.step hb.size (fun k hk hs => ⟨hs, hb.block k hk⟩)
/-- Something is written in a block that is no part of it. -/
theorem VH.exc {S : Nat → Bool} {w W : World} {v : PV} {val : Value} {R : Nat} (h : VH S w v val) (hb : Exc R w.heap.size w W) (hR : S R = true) : VH S W v val :=
  h.step hb.size (fun k hk hs => ⟨hs, hb.block k hk (fun e => by subst e; rw [hR] at hs; cases hs)⟩)
theorem vh_nil (S : Nat → Bool) (w : World) : VH S w nilV (.agg #[.int .u64 0, .slice none 0 0, .slice none 0 0, .bool false]) := isV_nil _
/-- A value of one kid, which lies in a block of its own. -/
theorem vh_box {S : Nat → Bool} {w : World} {v : PV} {a b c d : Value} {M : Nat} {t : TypeId} (h : VH S w v (.agg #[a, b, c, d])) (hM : w.heap[M]? = some (.cells #[a, b, c, d] t (0, 0))) (hS : S M = false) (has : Bool) :
    VH S w (.mk 0 [] [v] has) (.agg #[.int .u64 0, .slice none 0 0, .slice (some ⟨M, 0, none⟩) 1 1, .bool has]) := by
  obtain ⟨_, h0, h1, h2, h3⟩ := blk4p hM
  refine .mk 0 [] [v] has none (some ⟨M, 0, none⟩) 0 1 M 0 (fun _ => a) (fun _ => b) (fun _ => c) (fun _ => d) (by decide) (bytes_nil _) (Nat.le_refl _) (by decide) (Nat.le_refl _) (by simp) (fun _ => rfl) (fun i hi => ?_) (fun i hi => ?_)
  · obtain rfl : i = 0 := Nat.lt_one_iff.1 hi
    exact ⟨(hide_cell S w _ hS).trans h0, (hide_cell S w _ hS).trans h1, (hide_cell S w _ hS).trans h2, (hide_cell S w _ hS).trans h3⟩
  · obtain rfl : i = 0 := Nat.lt_one_iff.1 hi
    exact h
end Go.Proofs.YtfghaopimeoijaaDoor
