/-
  Plain facts for the document's own Make: names in the order in which they were declared, the first place of a name, values looked at two by two. No run of the program stands in this text. Conditions: those that each theorem names.
  The document's own Basic and taken: the number of a basic name's kind; whether a name may not be had. Conditions: those that each theorem names.
-/
import Derived.Test.YtleclhnlojalbaaGreatDoorPkS2
import Derived.Test.YtleclhnlojalbaaGreatDoorPkS3
import Derived.IntWalk
namespace Go.Proofs.YtleclhnlojalbaaGreatDoor
open Go.RowKit

theorem lookN_memS : ∀ (m : List NEnt) (s : ByteArray) (p : Nat × Nat), lookN m s = some p → ∃ q ∈ m, q.kind = p.1 ∧ q.name = s
  | [], _, _, h => by cases h
  | q :: r, s, p, h => by
    rw [lookN] at h
    split at h
    · rename_i e
      cases h
      exact ⟨q, List.mem_cons_self, rfl, e.symm⟩
    · obtain ⟨q', h1, h2⟩ := lookN_memS r s p h
      exact ⟨q', List.mem_cons_of_mem _ h1, h2⟩
theorem hasS_append (a b : List ByteArray) (s : ByteArray) : hasS (a ++ b) s = (hasS a s || hasS b s) := by
  induction a with
  | nil => simp [hasS]
  | cons x r ih => simp [hasS, ih, Bool.or_assoc]
theorem lookN_has (m : List NEnt) (s : ByteArray) : (lookN m s).isSome = hasS (m.map NEnt.name) s := by
  induction m with
  | nil => rfl
  | cons q r ih =>
    rw [lookN, List.map_cons, hasS]
    by_cases h : s = q.name
    · simp [h]
    · simp [h, ih]
theorem look_append (a b : List NEnt) (s : ByteArray) : lookN (a ++ b) s = (lookN a s).or (lookN b s) := by
  induction a with
  | nil => simp [lookN]
  | cons q r ih =>
    simp only [List.cons_append, lookN]
    split
    · rfl
    · exact ih
/-- The names that no struct and no enum may have, without what they stand for. -/
def basicS : List ByteArray := basicN.map NEnt.name
def takenB (used : List ByteArray) (s : ByteArray) : Bool := hasS basicS s || hasS used s
/-- The number of a basic name's kind; 0: it is none. -/
def basicK (s : ByteArray) : Nat := match lookN basicN s with
  | some q => q.1
  | none => 0
/-- Entries of a kind, of names one behind the other, from a place on. -/
def entsOf (kd : Nat) : Nat → List ByteArray → List NEnt
  | _, [] => []
  | i, s :: r => ⟨s, kd, i⟩ :: entsOf kd (i + 1) r
def choNm (x : RCho) : ByteArray := strOfNums x.name
def recNm (x : RRec) : ByteArray := strOfNums x.name
theorem look_ents_idx (kd : Nat) : ∀ (l : List ByteArray) (i : Nat) (s : ByteArray), lookN (entsOf kd i l) s = (idx l s).map fun k => (kd, i + k)
  | [], _, _ => rfl
  | a :: r, i, s => by
    rw [entsOf, lookN, idx]
    by_cases h : s = a
    · subst h
      simp
    · rw [if_neg h, if_neg (fun e => h e.symm), look_ents_idx kd r (i + 1) s]
      cases idx r s with
      | none => rfl
      | some k =>
        show some (kd, i + 1 + k) = some (kd, i + (k + 1))
        rw [Nat.add_assoc, Nat.add_comm 1 k]
theorem ents_append (kd : Nat) : ∀ (a b : List ByteArray) (i : Nat), entsOf kd i (a ++ b) = entsOf kd i a ++ entsOf kd (i + a.length) b
  | [], b, i => rfl
  | x :: r, b, i => by
    rw [List.cons_append, entsOf, entsOf, List.cons_append, ents_append kd r b (i + 1), List.length_cons, Nat.add_assoc, Nat.add_comm 1 r.length]
theorem ents_names (kd : Nat) : ∀ (l : List ByteArray) (i : Nat), (entsOf kd i l).map NEnt.name = l
  | [], _ => rfl
  | s :: r, i => by rw [entsOf, List.map_cons, ents_names kd r (i + 1)]
/-- What the names stand for behind all enums, and some structs. -/
theorem choM_ents {i : Nat} {m m' : List NEnt} {x : RCho} (h : choM i m x = .ok m') : m' = m ++ [⟨choNm x, 10, i⟩] ∧ lookN m (choNm x) = none := by
  unfold choM at h
  split at h
  · cases h
  · rename_i hn
    split at h
    · split at h
      · cases h
      · cases h
        exact ⟨rfl, by simpa [choNm] using hn⟩
    · cases h
theorem recM_ents {i : Nat} {m m' : List NEnt} {x : RRec} (h : recM i m x = .ok m') : m' = m ++ [⟨recNm x, 13, i⟩] ∧ lookN m (recNm x) = none := by
  unfold recM at h
  split at h
  · cases h
  · rename_i hn
    split at h
    · split at h
      · cases h
      · cases h
        exact ⟨rfl, by simpa [recNm] using hn⟩
    · cases h
theorem or_none {α : Type} {a b : Option α} (h : a.or b = none) : a = none := by
  cases a with
  | none => rfl
  | some x => simp at h
theorem chosM_ents : ∀ {i : Nat} {m m' : List NEnt} {l : List RCho}, chosM i m l = .ok m' → m' = m ++ entsOf 10 i (l.map choNm) ∧ ∀ x ∈ l, lookN m (choNm x) = none
  | _, _, _, [], h => by
    cases h
    exact ⟨by simp [entsOf], fun x hx => by cases hx⟩
  | i, m, m', x :: r, h => by
    rw [chosM] at h
    cases hx : choM i m x with
    | no c p =>
      rw [hx] at h
      cases h
    | ok m1 =>
      rw [hx, mbind_ok] at h
      obtain ⟨rfl, h1⟩ := choM_ents hx
      obtain ⟨h2, h3⟩ := chosM_ents h
      refine ⟨by rw [h2, List.map_cons, entsOf, List.append_assoc]; rfl, fun y hy => ?_⟩
      rcases List.mem_cons.1 hy with rfl | hy
      · exact h1
      · have := h3 y hy
        rw [look_append] at this
        exact or_none this
theorem recsM_ents : ∀ {i : Nat} {m m' : List NEnt} {l : List RRec}, recsM i m l = .ok m' → m' = m ++ entsOf 13 i (l.map recNm) ∧ ∀ x ∈ l, lookN m (recNm x) = none
  | _, _, _, [], h => by
    cases h
    exact ⟨by simp [entsOf], fun x hx => by cases hx⟩
  | i, m, m', x :: r, h => by
    rw [recsM] at h
    cases hx : recM i m x with
    | no c p =>
      rw [hx] at h
      cases h
    | ok m1 =>
      rw [hx, mbind_ok] at h
      obtain ⟨rfl, h1⟩ := recM_ents hx
      obtain ⟨h2, h3⟩ := recsM_ents h
      refine ⟨by rw [h2, List.map_cons, entsOf, List.append_assoc]; rfl, fun y hy => ?_⟩
      rcases List.mem_cons.1 hy with rfl | hy
      · exact h1
      · have := h3 y hy
        rw [look_append] at this
        exact or_none this
theorem idx_mem : ∀ {l : List ByteArray} {s : ByteArray} {k : Nat}, idx l s = some k → s ∈ l ∧ k < l.length
  | [], _, _, h => by cases h
  | a :: r, s, k, h => by
    rw [idx] at h
    split at h
    · rename_i e
      cases h
      exact ⟨e ▸ List.mem_cons_self, by simp⟩
    · cases hr : idx r s with
      | none => rw [hr] at h; cases h
      | some j =>
        rw [hr] at h
        cases h
        obtain ⟨h1, h2⟩ := idx_mem hr
        exact ⟨List.mem_cons_of_mem _ h1, by simp; omega⟩
/-- What a written type's name stands for, as the document looks it up: basic, an enum, a struct. -/
def kindD (es ss : List ByteArray) (s : ByteArray) : Option (Nat × Nat) :=
  if basicK s ≠ 0 then some (basicK s, 0) else match idx es s with
    | some k => some (10, k)
    | none => match idx ss s with
      | some k => some (13, k)
      | none => none
theorem basic_ref : ∀ s q, lookN basicN s = some q → q.2 = 0 ∧ q.1 ≠ 10 ∧ q.1 ≠ 13 := by
  intro s q h
  obtain ⟨p, hp, h1, h2⟩ := lookN_mem _ _ _ h
  simp [basicN] at hp
  rcases hp with rfl | rfl | rfl | rfl | rfl | rfl | rfl | rfl | rfl | rfl | rfl | rfl <;> (dsimp only at h1 h2; omega)
/-- Names as they stand behind all enums and structs. -/
structure Named (m : List NEnt) (es ss : List ByteArray) : Prop where
  all : m = basicN ++ entsOf 10 0 es ++ entsOf 13 0 ss
  en : ∀ s ∈ es, lookN basicN s = none
  st : ∀ s ∈ ss, lookN basicN s = none ∧ idx es s = none
theorem named_of {ec : List RCho} {sc : List RRec} {m1 m : List NEnt} (h1 : chosM 0 basicN ec = .ok m1) (h2 : recsM 0 m1 sc = .ok m) : Named m (ec.map choNm) (sc.map recNm) := by
  obtain ⟨rfl, h3⟩ := chosM_ents h1
  obtain ⟨rfl, h4⟩ := recsM_ents h2
  refine ⟨rfl, fun s hs => ?_, fun s hs => ?_⟩
  · obtain ⟨x, hx, rfl⟩ := List.mem_map.1 hs
    exact h3 x hx
  · obtain ⟨x, hx, rfl⟩ := List.mem_map.1 hs
    have := h4 x hx
    rw [look_append] at this
    have hb := or_none this
    rw [hb, Option.none_or, look_ents_idx] at this
    exact ⟨hb, by simpa using this⟩
theorem Named.look {m : List NEnt} {es ss : List ByteArray} (h : Named m es ss) (s : ByteArray) : lookN m s = (lookN basicN s).or (((idx es s).map fun k => (10, k)).or ((idx ss s).map fun k => (13, k))) := by
  rw [h.all, List.append_assoc, look_append, look_append, look_ents_idx, look_ents_idx]
  simp
theorem Named.kind {m : List NEnt} {es ss : List ByteArray} (h : Named m es ss) (s : ByteArray) : kindD es ss s = (lookN m s).bind fun q => if q.1 = 0 then none else some q := by
  rw [h.look, kindD, basicK]
  cases hb : lookN basicN s with
  | some q =>
    obtain ⟨h2, h10, h13⟩ := basic_ref _ _ hb
    obtain ⟨k, r⟩ := q
    simp only at h2 h10 h13
    subst h2
    by_cases hk : k = 0
    · subst hk
      have he : idx es s = none := by
        cases hi : idx es s with
        | none => rfl
        | some j =>
          have := h.en s (idx_mem hi).1
          rw [hb] at this
          cases this
      have hs : idx ss s = none := by
        cases hi : idx ss s with
        | none => rfl
        | some j =>
          have := (h.st s (idx_mem hi).1).1
          rw [hb] at this
          cases this
      simp [he, hs]
    · simp [hk]
  | none =>
    cases idx es s with
    | some k => simp
    | none =>
      cases idx ss s with
      | some k => simp
      | none => simp
/-- The root's place, as the document looks it up. -/
theorem Named.root {m : List NEnt} {es ss : List ByteArray} (h : Named m es ss) (s : ByteArray) :
    (match lookN m s with
      | none => (none : Option Nat)
      | some q => if q.1 = 13 then some q.2 else none) = idx ss s := by
  rw [h.look]
  cases hi : idx ss s with
  | some k =>
    obtain ⟨hb, he⟩ := h.st s (idx_mem hi).1
    simp [hb, he]
  | none =>
    cases hb : lookN basicN s with
    | some q =>
      obtain ⟨_, _, h13⟩ := basic_ref _ _ hb
      simp [h13]
    | none =>
      cases idx es s with
      | some k => simp
      | none => simp
/-! ### looked at one by one -/
theorem idx_cut : ∀ (l : List ByteArray) (s : ByteArray) (k : Nat), hasS (l.take k) s = false → idx l s = (idx (l.drop k) s).map (· + k)
  | l, s, 0, _ => by simp
  | [], s, k + 1, _ => by simp [idx]
  | a :: r, s, k + 1, h => by
    rw [List.take_succ_cons, hasS, Bool.or_eq_false_iff] at h
    rw [List.drop_succ_cons, idx, if_neg (fun e => by simp [e] at h), idx_cut r s k h.2]
    cases idx (r.drop k) s with
    | none => rfl
    | some j =>
      show some (j + k + 1) = some (j + (k + 1))
      rw [Nat.add_assoc]
theorem has_take_succ (l : List ByteArray) (s : ByteArray) (k : Nat) (hk : k < l.length) : hasS (l.take (k + 1)) s = (hasS (l.take k) s || decide (s = l[k])) := by
  rw [List.take_succ_eq_append_getElem hk, hasS_append]
  simp [hasS]
theorem has_take_true (l : List ByteArray) (s : ByteArray) (k : Nat) (hk : k < l.length) (h : l[k] = s) : hasS l s = true := by
  rw [← List.take_append_drop (k + 1) l, hasS_append, has_take_succ l s k hk]
  simp [h]
theorem idx_at (l : List ByteArray) (s : ByteArray) (k : Nat) (hk : k < l.length) (hn : hasS (l.take k) s = false) (h : l[k] = s) : idx l s = some k := by
  rw [idx_cut l s k hn, List.drop_eq_getElem_cons hk, idx, if_pos h]
  simp
theorem idx_no (l : List ByteArray) (s : ByteArray) (hn : hasS l s = false) : idx l s = none := by
  rw [idx_cut l s l.length (by rw [List.take_length]; exact hn)]
  simp [idx]
theorem dupD_step (l : List ByteArray) (k : Nat) (hk : k < l.length) : dupFrom (l.take k) (l.drop k) = if hasS (l.take k) l[k] = true then some k else dupFrom (l.take (k + 1)) (l.drop (k + 1)) := by
  rw [List.drop_eq_getElem_cons hk, dupFrom, List.take_succ_eq_append_getElem hk]
  simp only [List.length_take]
  rw [Nat.min_eq_left (Nat.le_of_lt hk)]
end Go.Proofs.YtleclhnlojalbaaGreatDoor
namespace Go.Proofs.YtleclhnlojalbaaGreatDoor
open Go.ChangeShapes Go.WideShapes Go.ChangeAt Go.RowKit Go.Shelf

/-- The basic names at their kinds' places. -/
def basicL : List ByteArray :=
  [⟨#[98, 111, 111, 108]⟩, ⟨#[105, 56]⟩, ⟨#[105, 49, 54]⟩, ⟨#[105, 51, 50]⟩, ⟨#[105, 54, 52]⟩, ⟨#[117, 56]⟩, ⟨#[117, 49, 54]⟩, ⟨#[117, 51, 50]⟩, ⟨#[117, 54, 52]⟩, ⟨#[]⟩, ⟨#[116, 101, 120, 116]⟩, ⟨#[100, 97, 116, 97]⟩]
theorem basicK_at (s : ByteArray) (k : Nat) (hk : k < 12) (h : basicL[k]'hk = s) (hne : s ≠ ⟨#[]⟩) : basicK s = k + 1 := by
  subst h
  have : ∀ k : Fin 12, basicL[k.val]'k.isLt ≠ ⟨#[]⟩ → basicK (basicL[k.val]'k.isLt) = k.val + 1 := by decide
  exact this ⟨k, hk⟩ hne
theorem basicK_no (s : ByteArray) (h : s = ⟨#[]⟩ ∨ hasS basicL s = false) : basicK s = 0 := by
  rcases h with rfl | h
  · decide
  · have hb : ∀ q, lookN basicN s = some q → q.1 = 0 := by
      intro q hq
      by_cases h0 : q.1 = 0
      · exact h0
      · exfalso
        obtain ⟨p, hp, h1, _⟩ := lookN_memS _ _ _ hq
        have : ∀ p ∈ basicN, p.kind ≠ 0 → hasS basicL p.name = true := by decide
        have h2 := this p hp (by omega)
        simp_all
    unfold basicK
    cases hl : lookN basicN s with
    | none => rfl
    | some q => exact hb q hl
theorem taken_eq (used : List ByteArray) (s : ByteArray) : takenB used s = (decide (basicK s ≠ 0) || decide (s = ⟨#[108, 105, 115, 116]⟩) || hasS used s) := by
  unfold takenB
  congr 1
  rw [basicS, ← lookN_has, basicK]
  cases hl : lookN basicN s with
  | none =>
    have : s ≠ ⟨#[108, 105, 115, 116]⟩ := by
      rintro rfl
      revert hl
      decide
    simp [this]
  | some q =>
    by_cases h0 : q.1 = 0
    · have : s = ⟨#[108, 105, 115, 116]⟩ := by
        obtain ⟨p, hp, h1, rfl⟩ := lookN_memS _ _ _ hl
        have : ∀ p ∈ basicN, p.kind = 0 → p.name = ⟨#[108, 105, 115, 116]⟩ := by decide
        exact this p hp (by omega)
      simp [this]
    · simp [h0]
theorem strL_beq (a b : ByteArray) : (a.toList == b.toList) = decide (a = b) := by
  rw [ByteArray.toList_eq, ByteArray.toList_eq, Bool.eq_iff_iff, beq_iff_eq, decide_eq_true_iff]
  refine ⟨fun h => ?_, fun h => by rw [h]⟩
  obtain ⟨⟨a⟩⟩ := a
  obtain ⟨⟨b⟩⟩ := b
  simp only at h
  rw [h]
theorem ba_yes {a b : ByteArray} (h : a = b) : (a.toList == b.toList) = true := by rw [strL_beq]; exact decide_eq_true h
theorem ba_no {a b : ByteArray} (h : a ≠ b) : (a.toList == b.toList) = false := by rw [strL_beq]; exact decide_eq_false h
theorem list_lit : (⟨#[108, 105, 115, 116]⟩ : ByteArray).toList = [108, 105, 115, 116] := by rw [ByteArray.toList_eq]
theorem ba_nil {a : ByteArray} (h : a = ⟨#[]⟩) : a.toList.isEmpty = true := by
  subst h
  rw [ByteArray.toList_eq]
  rfl
theorem ba_some {a : ByteArray} (h : a ≠ ⟨#[]⟩) : a.toList.isEmpty = false := by
  rw [ByteArray.toList_eq]
  cases hl : a.data.toList with
  | cons x r => rfl
  | nil =>
    exfalso
    obtain ⟨⟨l⟩⟩ := a
    simp only at hl
    subst hl
    exact h rfl
set_option maxRecDepth 100000 in
set_option maxHeartbeats 2000000 in
theorem rbasic_any (s : ByteArray) (w : World) : Calls Tryz.prog 77 #[.string s] w fun e w' => e = .returned (.int .u8 (basicK s : Nat)) ∧ Below w.heap.size w w' := by
  have HB := Lib.hid ((Below.refl w.heap.size w).alloc (Nat.le_refl _) (.cells #[Value.string ⟨#[98, 111, 111, 108]⟩, Value.string ⟨#[105, 56]⟩, Value.string ⟨#[105, 49, 54]⟩, Value.string ⟨#[105, 51, 50]⟩, Value.string ⟨#[105, 54, 52]⟩, Value.string ⟨#[117, 56]⟩, Value.string ⟨#[117, 49, 54]⟩, Value.string ⟨#[117, 51, 50]⟩, Value.string ⟨#[117, 54, 52]⟩, Value.string ⟨#[]⟩, Value.string ⟨#[116, 101, 120, 116]⟩, Value.string ⟨#[100, 97, 116, 97]⟩] 9))
  have HN := Lib.hid (heap_alloc_new w (.cells #[Value.string ⟨#[98, 111, 111, 108]⟩, Value.string ⟨#[105, 56]⟩, Value.string ⟨#[105, 49, 54]⟩, Value.string ⟨#[105, 51, 50]⟩, Value.string ⟨#[105, 54, 52]⟩, Value.string ⟨#[117, 56]⟩, Value.string ⟨#[117, 49, 54]⟩, Value.string ⟨#[117, 51, 50]⟩, Value.string ⟨#[117, 54, 52]⟩, Value.string ⟨#[]⟩, Value.string ⟨#[116, 101, 120, 116]⟩, Value.string ⟨#[100, 97, 116, 97]⟩] 9))
  have HK := Lib.hid (basicK_at s)
  have HO := Lib.hid (basicK_no s)
  have HC := Lib.hid (show ∀ k (hk : k < 12), (#[Value.string ⟨#[98, 111, 111, 108]⟩, Value.string ⟨#[105, 56]⟩, Value.string ⟨#[105, 49, 54]⟩, Value.string ⟨#[105, 51, 50]⟩, Value.string ⟨#[105, 54, 52]⟩, Value.string ⟨#[117, 56]⟩, Value.string ⟨#[117, 49, 54]⟩, Value.string ⟨#[117, 51, 50]⟩, Value.string ⟨#[117, 54, 52]⟩, Value.string ⟨#[]⟩, Value.string ⟨#[116, 101, 120, 116]⟩, Value.string ⟨#[100, 97, 116, 97]⟩] : Array Value)[k]? = some (.string (basicL[k]'hk)) from fun k hk => by
    show (basicL.map Value.string).toArray[k]? = _
    rw [List.getElem?_toArray, List.getElem?_map, List.getElem?_eq_getElem (show k < basicL.length from hk)]
    rfl)
  obtain ⟨kk, hkk⟩ : ∃ kk, basicK s = kk := ⟨_, rfl⟩
  rw [hkk] at HK HO ⊢
  clear hkk
  go_enter Tryz.func77, Tryz.ntmps77
  go_wp2
  generalize w.alloc (.cells #[Value.string ⟨#[98, 111, 111, 108]⟩, Value.string ⟨#[105, 56]⟩, Value.string ⟨#[105, 49, 54]⟩, Value.string ⟨#[105, 51, 50]⟩, Value.string ⟨#[105, 54, 52]⟩, Value.string ⟨#[117, 56]⟩, Value.string ⟨#[117, 49, 54]⟩, Value.string ⟨#[117, 51, 50]⟩, Value.string ⟨#[117, 54, 52]⟩, Value.string ⟨#[]⟩, Value.string ⟨#[116, 101, 120, 116]⟩, Value.string ⟨#[100, 97, 116, 97]⟩] 9) = W at *
  go_loop [4] (fun i => ∃ k : Nat, k ≤ 12 ∧ i = .int .i64 k ∧ (s = ⟨#[]⟩ ∨ hasS (basicL.take k) s = false)) (fun i => 12 - (intOf i).toNat)
  case atStart => exact ⟨0, Nat.zero_le _, rfl, .inr rfl⟩
  case round =>
    obtain ⟨k, hk, rfl, hi⟩ := hrel
    have hlt := blk_lt HN.out
    by_cases hkl : k < 12
    · have x0 : W.cell? ⟨w.heap.size, k, none⟩ = some (.string (basicL[k]'hkl)) := (blk_cell HN.out k).trans (HC.out k hkl)
      have hst := has_take_succ basicL s k hkl
      have HD := Lib.hid (HK.out k hkl)
      generalize basicL[k]'hkl = q at *
      by_cases hs : s = ⟨#[]⟩
      · have t1 : s.toList.isEmpty = true := ba_nil hs
        have t2 : (!s.toList.isEmpty) = false := by rw [t1]; rfl
        have HS := Lib.hid hs
        clear hs hi hst
        by_cases hq : q = s
        · have t3 : (q.toList == s.toList) = true := ba_yes hq
          clear hq
          go_wp2
          go_round
          case rel => exact ⟨k + 1, by omega, by go_num, .inl HS.out⟩
          case measure => simp [intOf]; omega
        · have t3 : (q.toList == s.toList) = false := ba_no hq
          clear hq
          go_wp2
          go_round
          case rel => exact ⟨k + 1, by omega, by go_num, .inl HS.out⟩
          case measure => simp [intOf]; omega
      · have t1 : s.toList.isEmpty = false := ba_some hs
        have t2 : (!s.toList.isEmpty) = true := by rw [t1]; rfl
        by_cases hq : q = s
        · have HE := Lib.hid (HD.out hq hs)
          have t3 : (q.toList == s.toList) = true := ba_yes hq
          have hw : IntKind.u8.wrap ((k : Int) + 1) = ((k + 1 : Nat) : Int) := IntWalk.u8_in _ ⟨by omega, by omega⟩
          clear hq hs hi hst
          go_wp2
          go_ret
          exact ⟨ret_int (show ((k : Int) + 1) = ((kk : Nat) : Int) by rw [HE.out]; omega), HB.out⟩
        · have HI := Lib.hid (show hasS (basicL.take (k + 1)) s = false by rw [hst, (hi.resolve_left hs)]; rw [Bool.false_or]; exact decide_eq_false fun e => hq e.symm)
          have t3 : (q.toList == s.toList) = false := ba_no hq
          clear hq hs hi hst
          go_wp2
          go_round
          case rel => exact ⟨k + 1, by omega, by go_num, .inr HI.out⟩
          case measure => simp [intOf]; omega
    · obtain rfl : k = 12 := by omega
      have HE := Lib.hid (HO.out hi)
      clear hi
      go_wp2
      go_ret
      exact ⟨by rw [HE.out]; rfl, HB.out⟩
/-- Whether a name may not be had: it is basic, or list, or among those that are used. -/
theorem rtaken_any (used : List ByteArray) (v : Value) (base : Nat) (w : World) (h : w.ownsRow base 9 1 v used.length (strsCells used)) (s : ByteArray) :
    Calls Tryz.prog 44 #[v, .string s] w fun e w' => e = .returned (.bool (takenB used s)) ∧ Below w.heap.size w w' := by
  obtain ⟨a, c, rfl⟩ := ownsRow_form h
  have hfew := row_few h
  have HR := Lib.hid h
  have HT := Lib.hid (taken_eq used s)
  obtain ⟨r, hr⟩ : ∃ r, takenB used s = r := ⟨_, rfl⟩
  rw [hr] at HT ⊢
  clear h hr
  go_enter Tryz.func44, Tryz.ntmps44
  go_wp2_with fail
  refine (rbasic_any s w).mono ?_
  rintro e W1 ⟨rfl, hb⟩
  have HB := Lib.hid hb
  have HR1 := Lib.hid (row_keep hb HR.out)
  clear hb HR
  by_cases hk : basicK s = 0
  · have HT2 := Lib.hid (show r = (decide (s = ⟨#[108, 105, 115, 116]⟩) || hasS used s) by rw [HT.out, hk]; rfl)
    rw [hk]
    clear hk HT
    by_cases hl : s = ⟨#[108, 105, 115, 116]⟩
    · have t1 : (s.toList == [108, 105, 115, 116]) = true := by rw [← list_lit]; exact ba_yes hl
      have HT3 := Lib.hid (show r = true by rw [HT2.out, decide_eq_true hl]; rfl)
      clear hl HT2
      go_wp2
      go_ret
      exact ⟨ret_bool HT3.out.symm, HB.out⟩
    · have t1 : (s.toList == [108, 105, 115, 116]) = false := by rw [← list_lit]; exact ba_no hl
      have HT3 := Lib.hid (show r = hasS used s by rw [HT2.out, decide_eq_false hl]; rfl)
      clear hl HT2
      go_wp2
      go_loop [5] (fun i => ∃ k : Nat, k ≤ used.length ∧ i = .int .i64 k ∧ hasS (used.take k) s = false) (fun i => used.length - (intOf i).toNat)
      case atStart => exact ⟨0, Nat.zero_le _, rfl, rfl⟩
      case round =>
        obtain ⟨k, hk, rfl, hi⟩ := hrel
        by_cases hkl : k < used.length
        · obtain ⟨g, cc, hv, hcc, hg, hcell⟩ := row_el strCells 1 (fun _ => rfl) HR1.out k hkl
          obtain ⟨rfl, rfl⟩ := slice_inj hv
          have x0 : W1.cell? ⟨g, k, none⟩ = some (.string used[k]) := by have := hcell 0 (by omega); rw [Nat.mul_one, Nat.add_zero] at this; exact this
          have hst := has_take_succ used s k hkl
          have HD := Lib.hid (has_take_true used s k hkl)
          generalize used[k] = q at *
          by_cases hq : q = s
          · have HE := Lib.hid (HT3.out.trans (HD.out hq))
            have t3 : (q.toList == s.toList) = true := ba_yes hq
            clear hq hi hst hcell hv
            go_wp2
            go_ret
            exact ⟨ret_bool HE.out.symm, HB.out⟩
          · have HI := Lib.hid (show hasS (used.take (k + 1)) s = false by rw [hst, hi, Bool.false_or]; exact decide_eq_false fun e => hq e.symm)
            have t3 : (q.toList == s.toList) = false := ba_no hq
            clear hq hi hst hcell hv
            go_wp2
            go_round
            case rel => exact ⟨k + 1, by omega, by go_num, HI.out⟩
            case measure => simp [intOf]; omega
        · obtain rfl : k = used.length := by omega
          have HE := Lib.hid (show r = false from HT3.out.trans (by rw [List.take_length] at hi; exact hi))
          clear hi
          go_wp2
          go_ret
          exact ⟨ret_bool HE.out.symm, HB.out⟩
  · have HT2 := Lib.hid (show r = true by rw [HT.out, decide_eq_true hk]; rfl)
    have t1 : ((basicK s : Int) == 0) = false := by simp; omega
    have t2 : ((basicK s : Int) != 0) = true := by simp; omega
    generalize basicK s = kk at *
    clear hk HT
    go_wp2
    go_ret
    exact ⟨ret_bool HT2.out.symm, HB.out⟩
end Go.Proofs.YtleclhnlojalbaaGreatDoor
