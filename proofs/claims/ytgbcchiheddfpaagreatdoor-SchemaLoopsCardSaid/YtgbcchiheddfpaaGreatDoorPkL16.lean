/-
  Whether a byte of a kind stands at a place, and the place behind all that stand from there on: the package lex's stands and run. Conditions: those that each theorem names.
-/
import Derived.Test.YtgbcchiheddfpaaGreatDoorPkL2
import Derived.Test.YtgbcchiheddfpaaGreatDoorPkL5
import Derived.Test.YtgbcchiheddfpaaGreatDoorPkL7
import Derived.Test.YtgbcchiheddfpaaGreatDoorPkL11
import Derived.Test.YtgbcchiheddfpaaGreatDoorRows
import Derived.WalkKit
import Derived.ProofKit
import Derived.OpenShut
import Derived.ShutString
import Derived.ChangeOld
import Derived.Below
import Derived.WalkLawsBesides
import Derived.WalkSpells
import Derived.Lib.Hide
import Derived.Outline
import Derived.Handy
namespace Go.Proofs.YtgbcchiheddfpaaGreatDoor

def inn (outs : Nat → List Nat) (E : List Nat) (v : Nat) : Nat := (E.map fun x => (outs x).count v).sum
theorem inn_append (outs : Nat → List Nat) (E F : List Nat) (v : Nat) : inn outs (E ++ F) v = inn outs E v + inn outs F v := by simp [inn]
theorem inn_one (outs : Nat → List Nat) (u v : Nat) : inn outs [u] v = (outs u).count v := by simp [inn]
theorem inn_pos {outs : Nat → List Nat} {v : Nat} : ∀ {E : List Nat}, 0 < inn outs E v ↔ ∃ x ∈ E, v ∈ outs x
  | [] => by simp [inn]
  | a :: E => by
    have h : inn outs (a :: E) v = (outs a).count v + inn outs E v := by simp [inn]
    rw [h]
    constructor
    · intro hp
      by_cases h1 : 0 < (outs a).count v
      · exact ⟨a, List.mem_cons_self, List.count_pos_iff.1 h1⟩
      · obtain ⟨x, hx, hv⟩ := (inn_pos (outs := outs) (v := v) (E := E)).1 (by omega)
        exact ⟨x, List.mem_cons_of_mem _ hx, hv⟩
    · rintro ⟨x, hx, hv⟩
      rcases List.mem_cons.1 hx with rfl | hx
      · have := List.count_pos_iff.2 hv
        omega
      · have := (inn_pos (E := E)).2 ⟨x, hx, hv⟩
        omega
def wy (ways : List Int) (v : Nat) : Int := ways.getD v 0
theorem wy_set (ways : List Int) (v i : Nat) (x : Int) (h : v < ways.length) : wy (ways.set v x) i = if i = v then x else wy ways i := by
  unfold wy
  rw [List.getD, List.getD, List.getElem?_set]
  by_cases hv : v = i
  · subst hv
    simp [h]
  · rw [if_neg hv, if_neg (fun e => hv e.symm)]
def rootC (r v : Nat) : Nat := if v = r then 1 else 0

/-! ### the first walk -/
structure W1 (outs : Nat → List Nat) (n r : Nat) (E : List Nat) (rem : Nat → Nat) (ways : List Int) : Prop where
  len : ways.length = n
  nod : E.Nodup
  mem : ∀ x ∈ E, x < n ∧ (x = r ∨ Way (fun a b => b ∈ outs a) r x)
  sum : ∀ v, v < n → wy ways v + rem v = rootC r v + inn outs E v
def In1 (n : Nat) (E : List Nat) (ways : List Int) : Prop := ∀ v, v < n → (v ∈ E ↔ 1 ≤ wy ways v)
def In1' (n u : Nat) (E : List Nat) (ways : List Int) : Prop := u ∉ E ∧ wy ways u = 1 ∧ ∀ v, v < n → v ≠ u → (v ∈ E ↔ 1 ≤ wy ways v)
theorem w1_start (outs : Nat → List Nat) {n r : Nat} (hr : r < n) : W1 outs n r [] (fun _ => 0) ((List.replicate n (0 : Int)).set r 1) ∧ In1' n r [] ((List.replicate n (0 : Int)).set r 1) := by
  have hw : ∀ v, wy ((List.replicate n (0 : Int)).set r 1) v = if v = r then 1 else 0 := fun v => by
    rw [wy_set _ _ _ _ (by rw [List.length_replicate]; exact hr)]
    have : wy (List.replicate n (0 : Int)) v = 0 := by
      unfold wy
      rw [List.getD]
      by_cases h : v < n
      · rw [List.getElem?_replicate, if_pos h]; rfl
      · rw [List.getElem?_replicate, if_neg h]; rfl
    rw [this]
  refine ⟨⟨by rw [List.length_set, List.length_replicate], List.nodup_nil, fun x hx => (by cases hx), fun v _ => ?_⟩, ⟨List.not_mem_nil, by rw [hw, if_pos rfl], fun v _ hne => ?_⟩⟩
  · rw [hw]
    unfold rootC
    split <;> simp [inn]
  · rw [hw, if_neg hne]
    constructor
    · intro h; cases h
    · intro h; omega
theorem w1_enter {outs : Nat → List Nat} {n r u : Nat} {E : List Nat} {rem : Nat → Nat} {ways : List Int} (h : W1 outs n r E rem ways) (hu : u < n) (hw : u = r ∨ Way (fun a b => b ∈ outs a) r u) (hi : In1' n u E ways) :
    W1 outs n r (E ++ [u]) (fun v => rem v + (outs u).count v) ways ∧ In1 n (E ++ [u]) ways := by
  obtain ⟨h1, h2, h3⟩ := hi
  refine ⟨⟨h.len, ?_, fun x hx => ?_, fun v hv => ?_⟩, fun v hv => ?_⟩
  · rw [List.nodup_append]
    exact ⟨h.nod, by simp, fun a ha b hb e => h1 (by rw [List.mem_singleton] at hb; rw [← hb, ← e]; exact ha)⟩
  · rcases List.mem_append.1 hx with hx | hx
    · exact h.mem x hx
    · rw [List.mem_singleton.1 hx]
      exact ⟨hu, hw⟩
  · have := h.sum v hv
    rw [inn_append, inn_one]
    omega
  · rw [List.mem_append, List.mem_singleton]
    by_cases e : v = u
    · subst e
      exact ⟨fun _ => by omega, fun _ => .inr rfl⟩
    · rw [← h3 v hv e]
      exact ⟨fun hh => hh.resolve_right e, .inl⟩
theorem w1_edge {outs : Nat → List Nat} {n r v : Nat} {l : List Nat} {E : List Nat} {rem : Nat → Nat} {ways : List Int} (h : W1 outs n r E (fun x => rem x + (v :: l).count x) ways) (hi : In1 n E ways) (hv : v < n) :
    W1 outs n r E (fun x => rem x + l.count x) (ways.set v (wy ways v + 1)) ∧ (wy ways v + 1 = 1 → In1' n v E (ways.set v (wy ways v + 1))) ∧ (wy ways v + 1 ≠ 1 → In1 n E (ways.set v (wy ways v + 1))) := by
  have hl : v < ways.length := by rw [h.len]; exact hv
  refine ⟨⟨by rw [List.length_set]; exact h.len, h.nod, h.mem, fun x hx => ?_⟩, fun he => ⟨fun hm => ?_, by rw [wy_set _ _ _ _ hl, if_pos rfl]; exact he, fun x hx hne => by rw [wy_set _ _ _ _ hl, if_neg hne]; exact hi x hx⟩, fun he x hx => ?_⟩
  · have := h.sum x hx
    rw [List.count_cons] at this
    rw [wy_set _ _ _ _ hl]
    by_cases e : x = v
    · subst e
      rw [if_pos rfl]
      simp at this
      omega
    · rw [if_neg e]
      have e2 : (v == x) = false := beq_eq_false_iff_ne.2 (fun h => e h.symm)
      rw [e2] at this
      simpa using this
  · have := (hi v hv).1 hm
    omega
  · rw [wy_set _ _ _ _ hl]
    by_cases e : x = v
    · subst e
      rw [if_pos rfl]
      have h0 := h.sum x hx
      have hp : 0 ≤ wy ways x ∨ wy ways x < 0 := by omega
      constructor
      · intro hm
        have := (hi x hx).1 hm
        omega
      · intro hm
        exact (hi x hx).2 (by omega)
    · rw [if_neg e]
      exact hi x hx
theorem w1_end {outs : Nat → List Nat} {n r : Nat} {E : List Nat} {ways : List Int} (h : W1 outs n r E (fun _ => 0) ways) (hi : In1 n E ways) (hr : r < n) (ho : ∀ i, i < n → ∀ v ∈ outs i, v < n) :
    (∀ v, v ∈ E ↔ v = r ∨ Way (fun a b => b ∈ outs a) r v) ∧ (∀ x ∈ E, ∀ v ∈ outs x, v ∈ E) ∧ ∀ v, v < n → wy ways v = rootC r v + inn outs E v := by
  have hsum : ∀ v, v < n → wy ways v = rootC r v + inn outs E v := fun v hv => by have := h.sum v hv; simpa using this
  have hclo : ∀ x ∈ E, ∀ v ∈ outs x, v ∈ E := fun x hx v hv => by
    have hn := ho x (h.mem x hx).1 v hv
    refine (hi v hn).2 ?_
    have := (inn_pos (outs := outs) (E := E) (v := v)).2 ⟨x, hx, hv⟩
    rw [hsum v hn]
    omega
  have hroot : r ∈ E := (hi r hr).2 (by rw [hsum r hr]; unfold rootC; rw [if_pos rfl]; omega)
  refine ⟨fun v => ⟨fun hv => (h.mem v hv).2, ?_⟩, hclo, hsum⟩
  have key : ∀ a b, Way (fun a b => b ∈ outs a) a b → a ∈ E → b ∈ E := by
    intro a b hw
    induction hw with
    | one hab => exact fun ha => hclo _ ha _ hab
    | more hab _ ih => exact fun ha => ih (hclo _ ha _ hab)
  rintro (rfl | hw)
  · exact hroot
  · exact key _ _ hw hroot

/-! ### the second walk -/
def leftOf (R F : List Nat) : List Nat := R.filter fun x => decide (x ∉ F)
theorem left_mem {R F : List Nat} {x : Nat} : x ∈ leftOf R F ↔ x ∈ R ∧ x ∉ F := by
  unfold leftOf
  rw [List.mem_filter]
  constructor
  · exact fun h => ⟨h.1, of_decide_eq_true h.2⟩
  · exact fun h => ⟨h.1, decide_eq_true h.2⟩
theorem left_split (outs : Nat → List Nat) {F : List Nat} {u : Nat} (hF : u ∉ F) (v : Nat) : ∀ {R : List Nat}, R.Nodup → u ∈ R → inn outs (leftOf R F) v = (outs u).count v + inn outs (leftOf R (F ++ [u])) v
  | [], _, h => by cases h
  | a :: R, hn, hu => by
    rw [List.nodup_cons] at hn
    have e1 : leftOf (a :: R) F = if a ∉ F then a :: leftOf R F else leftOf R F := by
      unfold leftOf
      rw [List.filter_cons]
      by_cases h : a ∈ F <;> simp [h]
    have e2 : leftOf (a :: R) (F ++ [u]) = if a ∉ F ∧ a ≠ u then a :: leftOf R (F ++ [u]) else leftOf R (F ++ [u]) := by
      unfold leftOf
      rw [List.filter_cons]
      by_cases h : a ∈ F
      · simp [h]
      · by_cases h2 : a = u <;> simp [h, h2]
    have hc : ∀ (x : Nat) (l : List Nat), inn outs (x :: l) v = (outs x).count v + inn outs l v := fun x l => by simp [inn]
    by_cases hau : a = u
    · subst hau
      have e3 : leftOf R (F ++ [a]) = leftOf R F := by
        unfold leftOf
        refine List.filter_congr fun x hx => ?_
        have hne : x ≠ a := fun e => hn.1 (e ▸ hx)
        simp [hne]
      rw [e1, e2, if_pos hF, if_neg (fun h => h.2 rfl), e3, hc]
    · have hu' : u ∈ R := (List.mem_cons.1 hu).resolve_left (fun e => hau e.symm)
      have ih := left_split outs hF v hn.2 hu'
      rw [e1, e2]
      by_cases hf : a ∈ F
      · rw [if_neg (fun h => h hf), if_neg (fun h => h.1 hf), ih]
      · rw [if_pos hf, if_pos ⟨hf, hau⟩, hc, hc, ih]
        omega
def Knot (outs : Nat → List Nat) (R : List Nat) (C : Nat → Prop) : Prop := (∀ v, C v → v ∈ R) ∧ ∀ v, C v → ∃ x, C x ∧ v ∈ outs x
structure W2 (outs : Nat → List Nat) (n : Nat) (R F : List Nat) (rem : Nat → Nat) (ways : List Int) : Prop where
  len : ways.length = n
  nod : F.Nodup
  mem : ∀ x ∈ F, x ∈ R
  sum : ∀ v ∈ R, wy ways v = inn outs (leftOf R F) v + rem v
  knot : ∀ C, Knot outs R C → ∀ v ∈ F, ¬ C v
def In2 (R F : List Nat) (ways : List Int) : Prop := ∀ v ∈ R, (v ∈ F ↔ wy ways v = 0)
def In2' (u : Nat) (R F : List Nat) (ways : List Int) : Prop := u ∉ F ∧ wy ways u = 0 ∧ ∀ v ∈ R, v ≠ u → (v ∈ F ↔ wy ways v = 0)
theorem w2_enter {outs : Nat → List Nat} {n u : Nat} {R F : List Nat} {rem : Nat → Nat} {ways : List Int} (h : W2 outs n R F rem ways) (hR : R.Nodup) (hu : u ∈ R) (hi : In2' u R F ways) :
    W2 outs n R (F ++ [u]) (fun v => rem v + (outs u).count v) ways ∧ In2 R (F ++ [u]) ways := by
  obtain ⟨h1, h2, h3⟩ := hi
  refine ⟨⟨h.len, ?_, fun x hx => ?_, fun v hv => ?_, fun C hC v hv => ?_⟩, fun v hv => ?_⟩
  · rw [List.nodup_append]
    exact ⟨h.nod, by simp, fun a ha b hb e => h1 (by rw [List.mem_singleton] at hb; rw [← hb, ← e]; exact ha)⟩
  · rcases List.mem_append.1 hx with hx | hx
    · exact h.mem x hx
    · rw [List.mem_singleton.1 hx]
      exact hu
  · rw [h.sum v hv, left_split outs h1 v hR hu]
    omega
  · rcases List.mem_append.1 hv with hv | hv
    · exact h.knot C hC v hv
    · rw [List.mem_singleton.1 hv]
      intro hc
      obtain ⟨x, hx, hxu⟩ := hC.2 u hc
      have hxF : x ∉ F := fun hm => h.knot C hC x hm hx
      have hp := (inn_pos (outs := outs) (E := leftOf R F) (v := u)).2 ⟨x, left_mem.2 ⟨hC.1 x hx, hxF⟩, hxu⟩
      have := h.sum u hu
      omega
  · rw [List.mem_append, List.mem_singleton]
    by_cases e : v = u
    · subst e
      exact ⟨fun _ => h2, fun _ => .inr rfl⟩
    · rw [← h3 v hv e]
      exact ⟨fun hh => hh.resolve_right e, .inl⟩
theorem w2_edge {outs : Nat → List Nat} {n v : Nat} {l R F : List Nat} {rem : Nat → Nat} {ways : List Int} (h : W2 outs n R F (fun x => rem x + (v :: l).count x) ways) (hi : In2 R F ways) (hv : v ∈ R) (hn : v < n) :
    W2 outs n R F (fun x => rem x + l.count x) (ways.set v (wy ways v - 1)) ∧ (wy ways v - 1 = 0 → In2' v R F (ways.set v (wy ways v - 1))) ∧ (wy ways v - 1 ≠ 0 → In2 R F (ways.set v (wy ways v - 1))) := by
  have hl : v < ways.length := by rw [h.len]; exact hn
  have hpos : 1 ≤ wy ways v := by
    have := h.sum v hv
    rw [List.count_cons] at this
    simp at this
    omega
  refine ⟨⟨by rw [List.length_set]; exact h.len, h.nod, h.mem, fun x hx => ?_, h.knot⟩, fun he => ⟨fun hm => ?_, by rw [wy_set _ _ _ _ hl, if_pos rfl]; exact he, fun x hx hne => by rw [wy_set _ _ _ _ hl, if_neg hne]; exact hi x hx⟩, fun he x hx => ?_⟩
  · have := h.sum x hx
    rw [List.count_cons] at this
    rw [wy_set _ _ _ _ hl]
    by_cases e : x = v
    · subst e
      rw [if_pos rfl]
      simp at this
      omega
    · rw [if_neg e]
      have e2 : (v == x) = false := beq_eq_false_iff_ne.2 (fun h => e h.symm)
      rw [e2] at this
      simpa using this
  · have := (hi v hv).1 hm
    omega
  · rw [wy_set _ _ _ _ hl]
    by_cases e : x = v
    · subst e
      rw [if_pos rfl]
      constructor
      · intro hm
        have := (hi x hx).1 hm
        omega
      · intro hm
        exact absurd hm he
    · rw [if_neg e]
      exact hi x hx
theorem sub_len : ∀ (F R : List Nat), F.Nodup → (∀ x ∈ F, x ∈ R) → F.length ≤ R.length
  | [], _, _, _ => Nat.zero_le _
  | a :: F, R, hn, hs => by
    rw [List.nodup_cons] at hn
    have ha := hs a List.mem_cons_self
    have h := sub_len F (R.erase a) hn.2 (fun x hx => (List.mem_erase_of_ne (fun e => hn.1 (by rw [← e]; exact hx))).2 (hs x (List.mem_cons_of_mem _ hx)))
    rw [List.length_erase_of_mem ha] at h
    have := List.length_pos_of_mem ha
    rw [List.length_cons]
    omega
theorem nodup_lt {R F : List Nat} (hF : F.Nodup) (hsub : ∀ x ∈ F, x ∈ R) (hR : R.Nodup) : F.length < R.length ↔ ∃ v ∈ R, v ∉ F := by
  have hle : F.length ≤ R.length := sub_len _ _ hF hsub
  constructor
  · intro h
    refine Classical.byContradiction fun hno => ?_
    have hs : ∀ x ∈ R, x ∈ F := fun x hx => Classical.byContradiction fun hx2 => hno ⟨x, hx, hx2⟩
    have := sub_len _ _ hR hs
    omega
  · rintro ⟨v, hv, hvF⟩
    have h1 : (v :: F).Nodup := List.nodup_cons.2 ⟨hvF, hF⟩
    have h2 := sub_len _ _ h1 (fun x hx => by
      rcases List.mem_cons.1 hx with rfl | hx
      · exact hv
      · exact hsub x hx)
    rw [List.length_cons] at h2
    omega
theorem w2_end {outs : Nat → List Nat} {n r : Nat} {R F : List Nat} {ways : List Int} (h : W2 outs n R F (fun _ => 0) ways) (hi : In2 R F ways) (hr : r < n) (ho : ∀ i, i < n → ∀ v ∈ outs i, v < n) (hR : R.Nodup) (hRm : ∀ v, v ∈ R ↔ v = r ∨ Way (fun a b => b ∈ outs a) r v) :
    F.length < R.length ↔ Turns outs r := by
  rw [nodup_lt h.nod h.mem hR, turns_iff hr ho]
  constructor
  · rintro ⟨v, hv, hvF⟩
    refine ⟨fun x => x ∈ R ∧ x ∉ F, ⟨v, hv, hvF⟩, fun x hx => (hRm x).1 hx.1, fun x hx => ?_⟩
    have hne : wy ways x ≠ 0 := fun e => hx.2 ((hi x hx.1).2 e)
    have hs := h.sum x hx.1
    obtain ⟨y, hy, hxy⟩ := (inn_pos (outs := outs) (E := leftOf R F) (v := x)).1 (by
      simp at hs
      omega)
    exact ⟨y, left_mem.1 hy, hxy⟩
  · rintro ⟨C, ⟨v, hv⟩, hC, hp⟩
    have hk : Knot outs R C := ⟨fun x hx => (hRm x).2 (hC x hx), hp⟩
    exact ⟨v, hk.1 v hv, fun hm => h.knot C hk v hm hv⟩
end Go.Proofs.YtgbcchiheddfpaaGreatDoor
namespace Go.Proofs.YtgbcchiheddfpaaGreatDoor

structure LpInv (outs : Nat → List Nat) (n : Nat) (M d t : Int) (OK : Nat → Prop) (Inv : List Nat → (Nat → Nat) → List Int → Prop) (In : List Nat → List Int → Prop) (In' : Nat → List Nat → List Int → Prop) : Prop where
  enter : ∀ {u : Nat} {E : List Nat} {rem : Nat → Nat} {ways : List Int}, Inv E rem ways → OK u → In' u E ways → Inv (E ++ [u]) (fun v => rem v + (outs u).count v) ways ∧ In (E ++ [u]) ways
  edge : ∀ {v : Nat} {l E : List Nat} {rem : Nat → Nat} {ways : List Int}, Inv E (fun x => rem x + (v :: l).count x) ways → In E ways → OK v →
    Inv E (fun x => rem x + l.count x) (ways.set v (wy ways v + d)) ∧ (wy ways v + d = t → In' v E (ways.set v (wy ways v + d))) ∧ (wy ways v + d ≠ t → In E (ways.set v (wy ways v + d)))
  ok : ∀ {u v : Nat}, OK u → v ∈ outs u → OK v
  lt : ∀ {u : Nat}, OK u → u < n
  len : ∀ {E : List Nat} {rem : Nat → Nat} {ways : List Int}, Inv E rem ways → ways.length = n ∧ E.Nodup ∧ ∀ x ∈ E, x < n
  small : ∀ {E : List Nat} {rem : Nat → Nat} {ways : List Int} {v : Nat}, Inv E rem ways → OK v → 0 ≤ wy ways v ∧ wy ways v ≤ M
  out : ∀ {u : Nat} {E : List Nat} {ways : List Int}, In' u E ways → u ∉ E
theorem LpInv.room {outs : Nat → List Nat} {n : Nat} {M d t : Int} {OK : Nat → Prop} {Inv : List Nat → (Nat → Nat) → List Int → Prop} {In : List Nat → List Int → Prop} {In' : Nat → List Nat → List Int → Prop} (h : LpInv outs n M d t OK Inv In In') {u : Nat} {E : List Nat} {rem : Nat → Nat} {ways : List Int} (hi : Inv E rem ways) (hu : OK u) (h' : In' u E ways) : E.length < n := by
  obtain ⟨_, h2, h3⟩ := h.len hi
  have hs := sub_len (u :: E) (List.range n) (List.nodup_cons.2 ⟨h.out h', h2⟩) (fun x hx => List.mem_range.2 (by
    rcases List.mem_cons.1 hx with rfl | hx
    · exact h.lt hu
    · exact h3 x hx))
  rw [List.length_cons, List.length_range] at hs
  omega
theorem inn_le {outs : Nat → List Nat} {L : Nat} (hL : ∀ x, (outs x).length ≤ L) (v : Nat) : ∀ E : List Nat, inn outs E v ≤ E.length * L
  | [] => by simp [inn]
  | a :: E => by
    have h : inn outs (a :: E) v = (outs a).count v + inn outs E v := by simp [inn]
    have h1 := inn_le hL v E
    have h2 : (outs a).count v ≤ L := Nat.le_trans List.count_le_length (hL a)
    rw [h, List.length_cons, Nat.succ_mul]
    omega
theorem inn_few {outs : Nat → List Nat} {L n : Nat} (hL : ∀ x, (outs x).length ≤ L) (v : Nat) {E : List Nat} (hn : E.Nodup) (hE : ∀ x ∈ E, x < n) : inn outs E v ≤ n * L := by
  have hs := sub_len E (List.range n) hn (fun x hx => List.mem_range.2 (hE x hx))
  rw [List.length_range] at hs
  exact Nat.le_trans (inn_le hL v E) (Nat.mul_le_mul_right _ hs)
theorem lp_one {outs : Nat → List Nat} {n r L : Nat} (hr : r < n) (ho : ∀ i, i < n → ∀ v ∈ outs i, v < n) (hL : ∀ x, (outs x).length ≤ L) :
    LpInv outs n (1 + (n * L : Nat)) 1 1 (fun u => u < n ∧ (u = r ∨ Way (fun a b => b ∈ outs a) r u)) (fun E rem ways => W1 outs n r E rem ways ∧ ∀ v, v < n → 0 ≤ wy ways v) (In1 n) (In1' n) where
  enter := fun h hu hi => ⟨⟨(w1_enter h.1 hu.1 hu.2 hi).1, h.2⟩, (w1_enter h.1 hu.1 hu.2 hi).2⟩
  edge := fun {v l E rem ways} h hi hv => by
    obtain ⟨h1, h2, h3⟩ := w1_edge h.1 hi hv.1
    refine ⟨⟨h1, fun x hx => ?_⟩, h2, h3⟩
    rw [wy_set _ _ _ _ (by rw [h.1.len]; exact hv.1)]
    have h4 := h.2 v hv.1
    have h5 := h.2 x hx
    split <;> omega
  ok := fun {u v} hu hv => ⟨ho u hu.1 v hv, .inr (by
    rcases hu.2 with rfl | h
    · exact .one hv
    · exact h.snoc hv)⟩
  lt := fun h => h.1
  len := fun h => ⟨h.1.len, h.1.nod, fun x hx => (h.1.mem x hx).1⟩
  small := fun {E rem ways v} h hv => by
    have h1 := h.1.sum v hv.1
    have h2 := inn_few hL v h.1.nod (fun x hx => (h.1.mem x hx).1)
    have h3 : rootC r v ≤ 1 := by unfold rootC; split <;> omega
    have h4 := h.2 v hv.1
    constructor
    · exact h4
    · omega
  out := fun h => h.1
theorem lp_two {outs : Nat → List Nat} {n : Nat} {R : List Nat} {M : Int} (hR : R.Nodup) (hRn : ∀ x ∈ R, x < n) (hclo : ∀ x ∈ R, ∀ v ∈ outs x, v ∈ R) :
    LpInv outs n M (-1) 0 (fun u => u ∈ R) (fun F rem ways => W2 outs n R F rem ways ∧ ∀ v ∈ R, wy ways v ≤ M) (In2 R) (fun u => In2' u R) where
  enter := fun h hu hi => ⟨⟨(w2_enter h.1 hR hu hi).1, h.2⟩, (w2_enter h.1 hR hu hi).2⟩
  edge := fun {v l E rem ways} h hi hv => by
    obtain ⟨h1, h2, h3⟩ := w2_edge h.1 hi hv (hRn v hv)
    refine ⟨⟨h1, fun x hx => ?_⟩, h2, h3⟩
    show wy (ways.set v (wy ways v + -1)) x ≤ M
    rw [wy_set _ _ _ _ (by rw [h.1.len]; exact hRn v hv)]
    have h4 := h.2 v hv
    have h5 := h.2 x hx
    split <;> omega
  ok := fun hu hv => hclo _ hu _ hv
  lt := fun h => hRn _ h
  len := fun h => ⟨h.1.len, h.1.nod, fun x hx => hRn x (h.1.mem x hx)⟩
  small := fun {E rem ways v} h hv => ⟨by rw [h.1.sum v hv]; omega, h.2 v hv⟩
  out := fun h => h.1
theorem w2_start {outs : Nat → List Nat} {n r : Nat} {R : List Nat} {ways : List Int} (h : W1 outs n r R (fun _ => 0) ways) (hi : In1 n R ways) (hr : r < n) (ho : ∀ i, i < n → ∀ v ∈ outs i, v < n) :
    W2 outs n R [] (fun _ => 0) (ways.set r (wy ways r - 1)) ∧ (wy ways r - 1 = 0 → In2' r R [] (ways.set r (wy ways r - 1))) ∧ (wy ways r - 1 ≠ 0 → In2 R [] (ways.set r (wy ways r - 1))) := by
  obtain ⟨h1, h2, h3⟩ := w1_end h hi hr ho
  have hl : r < ways.length := by rw [h.len]; exact hr
  have hw : ∀ v, v < n → wy (ways.set r (wy ways r - 1)) v = inn outs R v := fun v hv => by
    have h4 := h3 v hv
    rw [wy_set _ _ _ _ hl]
    unfold rootC at h4
    split
    · rename_i e
      subst e
      rw [if_pos rfl] at h4
      omega
    · rename_i e
      rw [if_neg e] at h4
      omega
  have hlt : ∀ v ∈ R, v < n := fun v hv => (h.mem v hv).1
  have hleft : leftOf R [] = R := by
    unfold leftOf
    rw [List.filter_eq_self]
    simp
  refine ⟨⟨by rw [List.length_set]; exact h.len, List.nodup_nil, fun x hx => (by cases hx), fun v hv => ?_, fun C _ v hv => (by cases hv)⟩, fun he => ⟨List.not_mem_nil, ?_, fun v hv hne => ?_⟩, fun he v hv => ?_⟩
  · rw [hw v (hlt v hv), hleft]
    simp
  · rw [wy_set _ _ _ _ hl, if_pos rfl]
    exact he
  · rw [wy_set _ _ _ _ hl, if_neg hne]
    constructor
    · intro hx; cases hx
    · intro hx
      have := (hi v (hlt v hv)).1 hv
      omega
  · rw [wy_set _ _ _ _ hl]
    constructor
    · intro hx; cases hx
    · intro hx
      have := (hi v (hlt v hv)).1 hv
      split at hx
      · exact absurd hx he
      · omega
end Go.Proofs.YtgbcchiheddfpaaGreatDoor
namespace Go.Proofs.YtgbcchiheddfpaaGreatDoor
open Go.ChangeShapes Go.WideShapes Go.ChangeAt Go.RowKit

def u8From (zs : List Int) : Nat → Nat → Int
  | 0, _ => -1
  | fuel + 1, i => if i < zs.length then (if (dec (zs.drop i)).1 = 65533 ∧ (dec (zs.drop i)).2 = 1 then (i : Int) else u8From zs fuel (i + (dec (zs.drop i)).2.toNat)) else -1
def u8At (zs : List Int) (i : Nat) : Int := u8From zs (zs.length + 1) i
theorem u8From_fuel (zs : List Int) : ∀ (f g i : Nat), zs.length < f + i → zs.length < g + i → u8From zs f i = u8From zs g i
  | 0, 0, _, _, _ => rfl
  | 0, g + 1, i, hf, _ => by simp only [u8From]; rw [if_neg (by omega)]
  | f + 1, 0, i, _, hg => by simp only [u8From]; rw [if_neg (by omega)]
  | f + 1, g + 1, i, hf, hg => by
    simp only [u8From]
    by_cases h : i < zs.length
    · have hw := dec_width (zs.drop i) (by simp; omega)
      rw [if_pos h, if_pos h, u8From_fuel zs f g (i + (dec (zs.drop i)).2.toNat) (by omega) (by omega)]
    · rw [if_neg h, if_neg h]
theorem u8At_end (zs : List Int) (i : Nat) (h : zs.length ≤ i) : u8At zs i = -1 := by
  unfold u8At u8From
  rw [if_neg (by omega)]
theorem u8At_bad (zs : List Int) (i : Nat) (h : i < zs.length) (h1 : (dec (zs.drop i)).1 = 65533) (h2 : (dec (zs.drop i)).2 = 1) : u8At zs i = i := by
  unfold u8At u8From
  rw [if_pos h, if_pos ⟨h1, h2⟩]
theorem u8At_good (zs : List Int) (i : Nat) (h : i < zs.length) (h1 : ¬ ((dec (zs.drop i)).1 = 65533 ∧ (dec (zs.drop i)).2 = 1)) : u8At zs i = u8At zs (i + (dec (zs.drop i)).2.toNat) := by
  have hw := dec_width (zs.drop i) (by simp; omega)
  conv => lhs; unfold u8At u8From
  rw [if_pos h, if_neg h1]
  exact u8From_fuel zs _ _ _ (by omega) (by omega)

theorem dec_at (zs : List Int) (i : Nat) (b off cap : Nat) (w : World) (hT : Tabs w) (hc : ∀ i, i < zs.length → w.cell? ⟨b, off + i, none⟩ = some (.int .u8 (zs.getD i 0))) (hb : ∀ i, 0 ≤ zs.getD i 0 ∧ zs.getD i 0 ≤ 255) :
    Calls Tryz.prog 117 #[.slice (some ⟨b, off + i, none⟩) (zs.length - i) cap] w fun e w' => e = .returned (.tuple #[.int .i32 (dec (zs.drop i)).1, .int .i64 (dec (zs.drop i)).2]) ∧ Below w.heap.size w w' := by
  have h := dec_any (zs.drop i) b (off + i) cap w hT (fun j hj => by
    have := hc (i + j) (by simp at hj; omega)
    rw [Nat.add_assoc, this]
    simp [List.getD]) (fun j => by
    have := hb (i + j)
    simpa [List.getD] using this)
  simp only [List.length_drop] at h
  exact h

theorem wutf8_some (b off cap : Nat) (zs : List Int) (w : World) (hT : Tabs w) (hb : ∀ i, 0 ≤ zs.getD i 0 ∧ zs.getD i 0 ≤ 255) (hlt : zs ≠ [] → b < w.heap.size) (hc : ∀ i, i < zs.length → w.cell? ⟨b, off + i, none⟩ = some (.int .u8 (zs.getD i 0)))
    (hl : (zs.length : Int) ≤ 9223372036854775807) (hcap : zs.length ≤ cap) :
    Calls Tryz.prog 82 #[.slice (some ⟨b, off, none⟩) zs.length cap] w fun e w' => e = .returned (.int .i64 (u8At zs 0)) ∧ Below w.heap.size w w' := by
  obtain ⟨n, hn⟩ : ∃ n, n = zs.length := ⟨_, rfl⟩
  have HN := Lib.hid hn
  have HP := Lib.hid hc
  have HB := Lib.hid hb
  have HL := Lib.hid hlt
  have HT := Lib.hid hT
  rw [← hn] at hl hcap ⊢
  clear hc hb hn hlt hT
  go_enter Tryz.func82, Tryz.ntmps82
  go_wp2
  go_loopw [3, 9] (fun x i wr => Below w.heap.size w wr ∧ ∃ k j : Nat, k ≤ j ∧ j ≤ n ∧ i = .int .i64 k ∧ x = .int .i64 j ∧ u8At zs 0 = u8At zs j) (fun _ i _ => n - (intOf i).toNat)
  case atStart => exact ⟨Below.refl _ _, 0, 0, Nat.le_refl _, Nat.zero_le _, rfl, rfl, rfl⟩
  case round =>
    obtain ⟨hbel, k, j, hkj, hjn, rfl, rfl, hans⟩ := hrel
    have HA := Lib.hid hans
    clear hans
    by_cases hlt : k < n
    · by_cases hkj' : k < j
      · go_wp2
        go_roundw
        case rel => exact ⟨hbel, k + 1, j, by omega, hjn, by go_num, rfl, HA.out⟩
        case measure => simp [intOf]; omega
      · obtain rfl : k = j := by omega
        have hk : k < zs.length := by rw [← HN.out]; exact hlt
        have hw := dec_width (zs.drop k) (by simp; omega)
        have hbs : b < w.heap.size := HL.out (by intro h; rw [h] at hk; simp at hk)
        have D := dec_at zs k b off (cap - k) _ (HT.out.below (Nat.le_refl _) hbel) (fun i hi => (hbel.cell (p := ⟨b, off + i, none⟩) hbs).trans (HP.out i hi)) HB.out
        rw [← HN.out] at D
        have hbad := u8At_bad zs k hk
        have hgood := u8At_good zs k hk
        have hw3 : (dec (zs.drop k)).2 ≤ n - k := by have h2 := hw.2.2; have h3 := HN.out; simp at h2; omega
        clear hk hbs
        generalize (dec (zs.drop k)).1 = R at D hbad hgood hw hw3
        generalize (dec (zs.drop k)).2 = K at D hbad hgood hw hw3
        obtain ⟨hw1, hw2, _⟩ := hw
        by_cases hx : R = 65533 ∧ K = 1
        · have E := Lib.hid (hbad hx.1 hx.2)
          have t1 : (R == 65533) = true := by simp [hx.1]
          have t2 : (K == 1) = true := by simp [hx.2]
          have HD := Lib.hid D
          clear hbad hgood hx D
          go_wp2_with (go_at_call 117; refine HD.out.mono ?_; rintro e w1 ⟨rfl, hb1⟩)
          go_ret
          exact ⟨ret_int (by rw [HA.out, E.out]), hbel.trans (hb1.mono hbel.size)⟩
        · have E := Lib.hid (hgood hx)
          have HD := Lib.hid D
          have HA2 : Hid (u8At zs 0 = u8At zs (k + K.toNat)) := HA.out.trans E.out
          clear hbad hgood D E HA
          by_cases hr : R = 65533
          · have t1 : (R == 65533) = true := by simp [hr]
            have t2 : (K == 1) = false := by simp; exact fun h => hx ⟨hr, h⟩
            clear hx hr
            go_wp2_with (go_at_call 117; refine HD.out.mono ?_; rintro e w1 ⟨rfl, hb1⟩)
            go_roundw
            case rel => exact ⟨hbel.trans (hb1.mono hbel.size), k + 1, k + K.toNat, by omega, by omega, by go_num, by rw [show ((k + K.toNat : Nat) : Int) = k + K from by omega], HA2.out⟩
            case measure => simp [intOf]; omega
          · have t1 : (R == 65533) = false := by simp [hr]
            clear hx hr
            go_wp2_with (go_at_call 117; refine HD.out.mono ?_; rintro e w1 ⟨rfl, hb1⟩)
            go_roundw
            case rel => exact ⟨hbel.trans (hb1.mono hbel.size), k + 1, k + K.toNat, by omega, by omega, by go_num, by rw [show ((k + K.toNat : Nat) : Int) = k + K from by omega], HA2.out⟩
            case measure => simp [intOf]; omega
    · go_wp2
      go_ret
      have hj : j = n := by omega
      exact ⟨ret_int (by rw [HA.out, u8At_end _ _ (by rw [hj, HN.out]; exact Nat.le_refl _)]), hbel⟩
theorem wutf8_off (b off cap n : Nat) (zs : List Int) (w : World) (hT : Tabs w) (hb : ∀ i, 0 ≤ zs.getD i 0 ∧ zs.getD i 0 ≤ 255) (hlt : b < w.heap.size) (hc : ∀ i, i < zs.length → w.cell? ⟨b, off + i, none⟩ = some (.int .u8 (zs.getD i 0))) (hn : zs.length = n)
    (hl : (n : Int) ≤ 9223372036854775800) (hcap : n ≤ cap) :
    Calls Tryz.prog 82 #[.slice (some ⟨b, off, none⟩) n cap] w fun e w' => e = .returned (.int .i64 (u8At zs 0)) ∧ Below w.heap.size w w' := by
  subst hn
  exact wutf8_some b off cap zs w hT hb (fun _ => hlt) hc (by omega) hcap
end Go.Proofs.YtgbcchiheddfpaaGreatDoor
namespace Go.Proofs.YtgbcchiheddfpaaGreatDoor
open Go.ChangeShapes Go.WideShapes Go.ChangeAt Go.RowKit Go.Shelf

theorem stands_any (p : Option Addr) (n cap i : Nat) (x : Int) (zs : List Int) (v : Value) (k : Int → Bool) (w : World) (hx : x = i) (hz : Bytes w p zs) (hn : zs.length = n) (hk : KindV w v k) (_hl : n ≤ 281474976710656) :
    Calls Tryz.prog 193 #[.slice p n cap, .int .i64 x, v] w fun e w' => e = .returned (.bool (stA zs k i)) ∧ Below w.heap.size w w' := by
  subst hx
  by_cases hi : i < n
  · obtain ⟨g, lb, rfl, hk⟩ := hk
    obtain ⟨hbd, hp⟩ := hz
    obtain ⟨b, off, rfl, hlt, hc⟩ := hp (by rintro rfl; simp at hn; omega)
    have hci := hc i (by omega)
    have hb := hbd i
    have e1 := hk.enters
    have H := Lib.hid (hk.gives w (zs.getD i 0) hb.1 hb.2 (Below.refl _ _))
    rw [stA_of (by omega)]
    have hd : decide ((i : Int) < (n : Int)) = true := by simp; exact hi
    generalize zs.getD i 0 = z at hci H
    generalize k z = r at H ⊢
    clear hbd hp hb hk hc hn
    go_enter Tryz.func193, Tryz.ntmps193
    go_wp2_with fail
    refine H.out.mono ?_
    rintro e W1 ⟨rfl, hb⟩
    go_wp2
    go_ret
    exact ⟨rfl, hb⟩
  · have hd : decide ((i : Int) < (n : Int)) = false := by simp; omega
    rw [stA_ge (by omega)]
    clear hz hk hn
    go_enter Tryz.func193, Tryz.ntmps193
    go_wp2
    go_ret
    exact ⟨rfl, Below.refl _ _⟩
theorem run_any (p : Option Addr) (n cap i : Nat) (x : Int) (zs : List Int) (v : Value) (k : Int → Bool) (w : World) (hx : x = i) (hz : Bytes w p zs) (hn : zs.length = n) (hk : KindV w v k) (hl : n ≤ 281474976710656) (hi : i ≤ n) :
    Calls Tryz.prog 189 #[.slice p n cap, .int .i64 x, v] w fun e w' => e = .returned (.int .i64 (runTo zs k i : Nat)) ∧ Below w.heap.size w w' := by
  subst hx
  have HS := Lib.hid (fun j W hb => stands_any p n cap j j zs v k W rfl (Bytes.below hz (Nat.le_refl _) hb) hn (hk.later hb) hl)
  have HN := Lib.hid hn
  obtain ⟨g, lb, rfl, _⟩ := hk
  clear hz hn
  go_enter Tryz.func189, Tryz.ntmps189
  go_wp2
  go_loopw [1] (fun i' wr => Below w.heap.size w wr ∧ ∃ j : Nat, j ≤ n ∧ i' = .int .i64 j ∧ runTo zs k i = runTo zs k j) (fun i' _ => n - (intOf i').toNat)
  case atStart => exact ⟨Below.refl _ _, i, hi, rfl, rfl⟩
  case round =>
    obtain ⟨hb, j, hj, rfl, hr⟩ := hrel
    have HB := Lib.hid hb
    have HR := Lib.hid hr
    clear hb hr
    cases hs : stA zs k j
    · have S := HS.out j _ HB.out
      rw [hs] at S
      have HS1 := Lib.hid S
      have HE := Lib.hid (runTo_stop hs)
      clear S hs
      go_wp2_with fail
      refine HS1.out.mono ?_
      rintro e W1 ⟨rfl, hb1⟩
      go_wp2
      go_ret
      exact ⟨ret_int (by rw [HR.out, HE.out]), HB.out.trans (hb1.mono HB.out.size)⟩
    · have S := HS.out j _ HB.out
      rw [hs] at S
      have HS1 := Lib.hid S
      have HE := Lib.hid (runTo_step hs)
      have hlt := stA_lt hs
      rw [HN.out] at hlt
      clear S hs
      go_wp2_with fail
      refine HS1.out.mono ?_
      rintro e W1 ⟨rfl, hb1⟩
      go_wp2
      go_roundw
      case rel => exact ⟨HB.out.trans (hb1.mono HB.out.size), j + 1, by omega, by go_num, by rw [HR.out, HE.out]⟩
      case measure => simp [intOf]; omega
end Go.Proofs.YtgbcchiheddfpaaGreatDoor
