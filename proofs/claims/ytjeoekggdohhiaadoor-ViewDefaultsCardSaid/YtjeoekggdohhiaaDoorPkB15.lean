/-
  An append to a row without room behind it (a slice cut at its length): the answer is a new row. Conditions: those that each theorem names.
-/
import Derived.Test.YtjeoekggdohhiaaDoorPkB14
import Derived.Deep.RegionHeld3
namespace Go.Proofs.YtjeoekggdohhiaaDoor
open Go.ChangeShapes Go.WideShapes Go.ChangeAt Go.RowKit Go.Shelf

section
variable {P : Program} {ops : Array Oper} {Q : Exit → Act → World → Prop} {md : Region.Mode} {s : Nat} {U V : World → Prop}
def Till (s : Nat) (U V : World → Prop) (listed : Array Bool) (w : World) : Prop := U w ∧ (listed.getD s true = false → V w)
def wpTill (P : Program) (md : Region.Mode) (ops : Array Oper) (Q : Exit → Act → World → Prop) (s : Nat) (U V : World → Prop) (fuel : Nat) : Array Bool → Act → World → Prop :=
  Nat.rec (fun l a w => Region.ready md ops l = [] ∧ Q .normal a w) (fun _ next l a w => (Region.ready md ops l = [] → Q .normal a w) ∧ ∀ i, i ∈ Region.ready md ops l → wpOp P ops Q i (fun b v => Till s U V (l.setIfInBounds i true) v ∧ next (l.setIfInBounds i true) b v) a w) fuel
theorem till_any (n : Nat) : ∀ (l : Array Bool) (a : Act) (w : World), wpTill P md ops Q s U V n l a w → wpAny P md ops Q n l a w := by
  induction n with
  | zero => exact fun _ _ _ h => h
  | succ n ih => exact fun l a w h => ⟨h.1, fun i hi => wpOp_mono (fun b v k => ih _ b v k.2) (h.2 i hi)⟩
def waitsFor (md : Region.Mode) (ops : Array Oper) (s i : Nat) : Bool :=
  match ops[s]? with
  | some o => o.after.any (fun e => Region.binds md e && e.on == i) && !(i == s)
  | none => false
theorem waits_spec {i : Nat} (h : waitsFor md ops s i = true) : i ≠ s ∧ ∃ o, ops[s]? = some o ∧ ∃ e ∈ o.after, Region.binds md e = true ∧ e.on = i := by
  unfold waitsFor at h
  split at h
  · rename_i o ho
    simp only [Bool.and_eq_true, Array.any_eq_true', Bool.not_eq_true', beq_eq_false_iff_ne, beq_iff_eq] at h
    obtain ⟨⟨e, he, hb, hi⟩, hne⟩ := h
    exact ⟨hne, o, ho, e, he, hb, hi⟩
  · cases h
theorem till_first {i : Nat} {oi : Oper} {v : Value} (hi : ops[i]? = some oi) (hw : waitsFor md ops s i = true) (hsel : ∀ (j : Nat) (o : Oper) c b, ops[j]? = some o → o.op ≠ .select c b) (hQ : ∀ p b u, Q (.panic p) (b.put oi.dst v) u → Q (.panic p) b u) (n : Nat) :
    ∀ (l : Array Bool) (a : Act) (w : World), (∀ j oj, ops[j]? = some oj → j ≠ i → l.getD j true = false → (∀ e ∈ oj.after, Region.binds md e = true → e.on ≠ i) → oi.apart ops oj = true) → i ∈ Region.ready md ops l → l.getD s true = false →
      YieldsIf P ops (fun u => U u ∧ V u) oi v a → U w → V w → wpTill P md ops Q s U V n (l.setIfInBounds i true) (a.put oi.dst v) w → wpTill P md ops Q s U V (n + 1) l a w := by
  obtain ⟨his, os, hos, e0, he0, hb0, hi0⟩ := waits_spec hw
  have main : ∀ (l : Array Bool) (a : Act) (w : World), i ∈ Region.ready md ops l → YieldsIf P ops (fun u => U u ∧ V u) oi v a → U w → V w → (n' : Nat) → wpTill P md ops Q s U V n' (l.setIfInBounds i true) (a.put oi.dst v) w →
      wpOp P ops Q i (fun b u => Till s U V (l.setIfInBounds i true) u ∧ wpTill P md ops Q s U V n' (l.setIfInBounds i true) b u) a w := fun l a w _ hy hU hV _ H => hy.wpOp hi ⟨hU, hV⟩ ⟨⟨hU, fun _ => hV⟩, H⟩
  induction n with
  | zero =>
    intro l a w _ hr _ hy hU hV H
    refine ⟨fun h0 => (by rw [h0] at hr; cases hr), fun j hj => ?_⟩
    rcases Nat.decEq j i with hne | rfl
    · have h1 := ready_mono hj hne
      rw [H.1] at h1
      cases h1
    · exact main l a w hr hy hU hV 0 H
  | succ n ih =>
    intro l a w hfree hr hl hy hU hV H
    refine ⟨fun h0 => (by rw [h0] at hr; cases hr), fun j hj => ?_⟩
    rcases Nat.decEq j i with hne | rfl
    · obtain ⟨hun, oj, hoj, hdone⟩ := mem_ready.1 hj
      have hoff := (mem_ready.1 hr).1
      have hno : ∀ e ∈ oj.after, Region.binds md e = true → e.on ≠ i := by
        rintro e he hb rfl
        have h1 := hdone e he hb
        rcases Nat.lt_or_ge e.on l.size with hlt | hge
        · simp [hlt] at h1 hoff
          rw [hoff] at h1
          cases h1
        · simp [Array.getElem?_eq_none hge] at h1
      have hjs : j ≠ s := by
        rintro rfl
        rw [hos] at hoj
        injection hoj with hoj
        subst hoj
        exact hno e0 he0 hb0 hi0
      have hkept : ((l.setIfInBounds i true).setIfInBounds j true).getD s true = false := by rw [getD_set_ne true hjs, getD_set_ne true his]; exact hl
      refine wpOp_mono (fun b u k => ?_) (wpOp_putIf (S := fun u => U u ∧ V u) hoj (hfree j oj hoj hne hun hno) (fun c b => hsel i oi c b hi) (fun c b => hsel j oj c b hoj) hQ hy (H.2 j (ready_mono hj hne)))
      obtain ⟨hy', ⟨hU', hV'⟩, hrest⟩ := k
      refine ⟨⟨hU', fun _ => hV' hkept⟩, ih (l.setIfInBounds j true) b u (fun m om hm hmi hmun hmno => hfree m om hm hmi ?_ hmno) (ready_mono hr (Ne.symm hne)) (by rw [getD_set_ne true hjs]; exact hl) hy' hU' (hV' hkept) ?_⟩
      · rcases Nat.decEq j m with hjm | rfl
        · rwa [getD_set_ne true hjm] at hmun
        · exact hun
      · rw [Array.setIfInBounds_comm _ _ hne]
        exact hrest
    · exact main l a w hr hy hU hV (n + 1) H
theorem till_take {i : Nat} {oi : Oper} {v : Value} {n : Nat} {l : Array Bool} {a : Act} {w : World} (hi : ops[i]? = some oi) (hs : Region.noSelect ops = true) (hf : Region.free md ops l i = true) (hr : (Region.ready md ops l).contains i = true) (hw : waitsFor md ops s i = true) (hl : l.getD s true = false)
    (hQ : ∀ p b u, Q (.panic p) (b.put oi.dst v) u → Q (.panic p) b u) (hy : YieldsIf P ops (fun u => U u ∧ V u) oi v a) (hU : U w) (hV : V w) (h : wpTill P md ops Q s U V n (l.setIfInBounds i true) (a.put oi.dst v) w) : wpTill P md ops Q s U V (n + 1) l a w :=
  till_first hi hw (Region.noSelect_spec hs) hQ n l a w (Region.free_spec hi hf) (by simpa using hr) hl hy hU hV h
theorem till_one {i : Nat} {o : Oper} {n : Nat} {l : Array Bool} {a : Act} {w : World} (hr : Region.ready md ops l = [i]) (ho : ops[i]? = some o)
    (h : ∀ K : Act → World → Prop, Hid (∀ b u, U u → V u → wpTill P md ops Q s U V n (l.setIfInBounds i true) b u → K b u) → if Region.wanted o (yielded ops a.tmps) = true then Oper.wp P o a w K Q else K (a.put o.dst undef) w) : wpTill P md ops Q s U V (n + 1) l a w := by
  refine ⟨fun h0 => (by rw [hr] at h0; cases h0), fun j hj => ?_⟩
  rw [hr] at hj
  obtain rfl := List.mem_singleton.1 hj
  have k := h (fun b u => Till s U V (l.setIfInBounds j true) u ∧ wpTill P md ops Q s U V n (l.setIfInBounds j true) b u) (Lib.hid fun b u hU hV hh => ⟨⟨hU, fun _ => hV⟩, hh⟩)
  unfold wpOp
  simp only [ho]
  by_cases hw : Region.wanted o (yielded ops a.tmps) = true
  · rw [if_pos hw] at k ⊢
    exact .inl k
  · rw [if_neg hw] at k ⊢
    exact k
theorem till_last {o : Oper} {n : Nat} {l : Array Bool} {a : Act} {w : World} (hr : Region.ready md ops l = [s]) (ho : ops[s]? = some o)
    (h : ∀ K : Act → World → Prop, Hid (∀ b u, U u → wpTill P md ops Q s U V n (l.setIfInBounds s true) b u → K b u) → if Region.wanted o (yielded ops a.tmps) = true then Oper.wp P o a w K Q else K (a.put o.dst undef) w) : wpTill P md ops Q s U V (n + 1) l a w := by
  have hset : (l.setIfInBounds s true).getD s true = true := by
    rcases Nat.lt_or_ge s l.size with hlt | hge
    · simp [hlt]
    · simp [Array.getElem?_eq_none (show (l.setIfInBounds s true).size ≤ s by simpa using hge)]
  refine ⟨fun h0 => (by rw [hr] at h0; cases h0), fun j hj => ?_⟩
  rw [hr] at hj
  obtain rfl := List.mem_singleton.1 hj
  have k := h (fun b u => Till j U V (l.setIfInBounds j true) u ∧ wpTill P md ops Q j U V n (l.setIfInBounds j true) b u) (Lib.hid fun b u hU hh => ⟨⟨hU, fun h1 => by rw [hset] at h1; cases h1⟩, hh⟩)
  unfold wpOp
  simp only [ho]
  by_cases hw : Region.wanted o (yielded ops a.tmps) = true
  · rw [if_pos hw] at k ⊢
    exact .inl k
  · rw [if_neg hw] at k ⊢
    exact k
theorem till_done {l : Array Bool} {a : Act} {w : World} (hr : Region.ready md ops l = []) (h : Q .normal a w) (n : Nat) : wpTill P md ops Q s U V n l a w := by
  cases n with
  | zero => exact ⟨hr, h⟩
  | succ n => exact ⟨fun _ => h, fun i hi => by rw [hr] at hi; cases hi⟩
theorem till_start {id : Nat} {a : Act} {w : World} (s : Nat) (U V : World → Prop) (hm : P.follows .mixedOrders = true) (h : wpTill P .any ops Q s U V ops.size (Array.replicate ops.size false) a w.drew) : (Code.region id ops true).wp P Q a w :=
  wp_region_any hm (till_any _ _ _ _ h)
end
end Go.Proofs.YtjeoekggdohhiaaDoor
namespace Go.Proofs.YtjeoekggdohhiaaDoor
open Go.ChangeShapes Go.WideShapes Go.ChangeAt Go.RowKit Go.Shelf

section
variable {P : Program} (w : World)
theorem wp_append_run {o : Oper} {a : Act} {K : Act → World → Prop} {Q : Exit → Act → World → Prop} (s x : Operand) (t : TypeId)
    (ho : o.op = .call { callee := .builtin .append, args := #[s, x], argTypes := #[t, t] }) (v y v' : Value) (w' : World) (hs : a.eval s = v) (hx : a.eval x = y) (hr : (Builtin.append_ #[t, t] o.type #[v, y]).run P w = .ok v' w') (h : K (a.put o.dst v') w') : o.wp P a w K Q := by
  unfold Oper.wp execOp
  simp only [ho, resolve, invoke, builtin, Sem.run_bind, Sem.run_pure, Result.andThen_ok, List.map_toArray, List.map_cons, List.map_nil, hs, hx, hr]
  exact h
end
end Go.Proofs.YtjeoekggdohhiaaDoor
