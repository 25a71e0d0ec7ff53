/-
  The document's own IsNum, Fits, typed over schemas of any numbers. Conditions: those that each theorem names.
-/
import Derived.Test.YtdlfndjgncdgfaaGreatDoorPkS4
import Derived.Test.YtdlfndjgncdgfaaGreatDoorPkS12
import Derived.Test.YtdlfndjgncdgfaaGreatDoorPkS34
import Derived.Test.YtdlfndjgncdgfaaGreatDoorPkS38
import Derived.Test.YtdlfndjgncdgfaaGreatDoorPkS40
namespace Go.Proofs.YtdlfndjgncdgfaaGreatDoor
open Go.ChangeShapes Go.WideShapes Go.ChangeAt Go.RowKit Go.Shelf

def modAt {α : Type} (φ : α → α) : List α → Nat → List α
  | [], _ => []
  | a :: r, 0 => φ a :: r
  | a :: r, j + 1 => a :: modAt φ r j
theorem modAt_length {α : Type} (φ : α → α) : ∀ (l : List α) (j : Nat), (modAt φ l j).length = l.length
  | [], _ => rfl
  | _ :: _, 0 => rfl
  | a :: r, j + 1 => by simp [modAt, modAt_length φ r j]
theorem modAt_mem {α : Type} (φ : α → α) : ∀ (l : List α) (j : Nat) (b : α), b ∈ modAt φ l j → b ∈ l ∨ ∃ a ∈ l, b = φ a
  | [], _, b, h => by cases h
  | a :: r, 0, b, h => by
    rcases List.mem_cons.1 h with rfl | h
    · exact .inr ⟨a, List.mem_cons_self, rfl⟩
    · exact .inl (List.mem_cons_of_mem _ h)
  | a :: r, j + 1, b, h => by
    rcases List.mem_cons.1 h with rfl | h
    · exact .inl List.mem_cons_self
    · rcases modAt_mem φ r j b h with h | ⟨c, hc, he⟩
      · exact .inl (List.mem_cons_of_mem _ h)
      · exact .inr ⟨c, List.mem_cons_of_mem _ hc, he⟩
theorem flat_mod {α : Type} (f : α → List Value) (m : Nat) (hm : ∀ a, (f a).length = m) (φ : α → α) (i : Nat) (hi : i < m) (u : Value) (hφ : ∀ a, f (φ a) = (f a).set i u) : ∀ (l : List α) (j : Nat), (modAt φ l j).flatMap f = (l.flatMap f).set (j * m + i) u
  | [], _ => rfl
  | a :: r, 0 => by
    simp only [modAt, List.flatMap_cons]
    rw [hφ, Nat.zero_mul, Nat.zero_add, List.set_append_left _ _ (by rw [hm]; exact hi)]
  | a :: r, j + 1 => by
    simp only [modAt, List.flatMap_cons]
    rw [flat_mod f m hm φ i hi u hφ r j, List.set_append_right _ _ (by rw [hm, Nat.succ_mul]; omega), hm, show (j + 1) * m + i - m = j * m + i from by rw [Nat.succ_mul]; omega]
theorem row_mod {α : Type} (f : α → List Value) (m : Nat) (hm : ∀ a, (f a).length = m) (φ : α → α) (i : Nat) (hi : i < m) (u : Value) (hφ : ∀ a, f (φ a) = (f a).set i u) {W : World} {base : Nat} {e : TypeId} {v : Value} {l : List α} {g : Nat} (j : Nat) (h : W.ownsRow base e m v l.length (l.flatMap f)) (hv : v.ownBlock = some g) :
    (W.setCell ⟨g, j * m + i, none⟩ u).ownsRow base e m v (modAt φ l j).length ((modAt φ l j).flatMap f) := by
  obtain ⟨hl, h'⟩ := h
  rw [modAt_length, flat_mod f m hm φ i hi u hφ]
  refine ⟨by rw [List.length_set]; exact hl, ?_⟩
  rcases h' with ⟨rfl, _⟩ | ⟨g', cap, cur, rfl, h1, hg, h2, h3, h4, h5⟩
  · simp [Value.ownBlock] at hv
  · simp [Value.ownBlock] at hv
    subst hv
    refine .inr ⟨g', cap, _, rfl, h1, blk_set hg _ u, h2, h3, by simpa using h4, ?_⟩
    rw [Array.toList_setIfInBounds, ← h5, List.take_set]
theorem row_else {W : World} {base : Nat} {e : TypeId} {s : Nat} {v : Value} {n : Nat} {xs : List Value} (h : W.ownsRow base e s v n xs) (p : Addr) (u : Value) (hne : v.ownBlock ≠ some p.block) : (W.setCell p u).ownsRow base e s v n xs := by
  obtain ⟨hl, h'⟩ := h
  refine ⟨hl, ?_⟩
  rcases h' with h1 | ⟨g', cap', cur, rfl, h1, hg', h2⟩
  · exact .inl h1
  · exact .inr ⟨g', cap', cur, rfl, h1, blk_set_ne hg' (fun e => hne (by simp [Value.ownBlock, e])) u, h2⟩
theorem row_typed {W : World} {g : Nat} {cs : Array Value} {t e : TypeId} (hg : W.heap[g]? = some (.cells cs t (0, 0))) {base s n : Nat} {v : Value} {xs : List Value} (h : W.ownsRow base e s v n xs) (hne : e ≠ t) : v.ownBlock ≠ some g := by
  intro hv
  rcases h.2 with ⟨rfl, _⟩ | ⟨g', cap, cur, rfl, _, hg', _⟩
  · simp [Value.ownBlock] at hv
  · simp [Value.ownBlock] at hv
    subst hv
    rw [hg] at hg'
    injection hg' with hg'
    injection hg' with _ ht
    exact hne ht.symm
structure CFit (ss : List (CRec × Value)) (es : List (SCho × Value)) : Prop where
  recs : ∀ q ∈ ss, q.1.name.size ≤ 281474976710656 ∧ ∀ f ∈ q.1.fields, FldFit f
  chos : ∀ q ∈ es, q.1.name.size ≤ 281474976710656 ∧ ∀ s ∈ q.1.names, s.size ≤ 281474976710656
def Ready (S : Nat) (W : World) : Prop :=
  ∃ (base : Nat) (ss : List (CRec × Value)) (es : List (SCho × Value)) (sa : Option Addr) (sc : Nat) (ea : Option Addr) (ec : Nat) (root : Int), W.heap[S]? = some (.cells #[.slice sa ss.length sc, .slice ea es.length ec, .int .i64 root] 30 (0, 0)) ∧ CRows base W ss es (.slice sa ss.length sc) (.slice ea es.length ec) ∧ CFit ss es
def seeF (G j : Nat) (φ : CFld → CFld) (q : CRec × Value) : CRec × Value := if q.2.ownBlock = some G then (⟨q.1.name, modAt φ q.1.fields j⟩, q.2) else q
theorem seeF_cells (G j : Nat) (φ : CFld → CFld) (ss : List (CRec × Value)) : crecsCells (ss.map (seeF G j φ)) = crecsCells ss := by
  unfold crecsCells
  rw [List.flatMap_map]
  congr 1
  funext q
  unfold seeF crecCells
  split <;> rfl
theorem cfld_len (f : CFld) : (cfldCells f).length = 5 := rfl
theorem types_ne : 54 ≠ 51 ∧ 57 ≠ 51 ∧ 9 ≠ 51 ∧ 51 ≠ 54 ∧ 57 ≠ 54 ∧ 9 ≠ 54 ∧ 51 ≠ 57 ∧ 54 ≠ 57 ∧ 9 ≠ 57 ∧
    54 ≠ 30 ∧ 57 ≠ 30 ∧ 51 ≠ 30 ∧ 9 ≠ 30 ∧ 30 ≠ 51 ∧ 30 ≠ 54 ∧ 30 ≠ 57 := by decide
theorem ready_field {S : Nat} {W : World} {base : Nat} {ss : List (CRec × Value)} {es : List (SCho × Value)} {sa ea : Option Addr} {sc ec : Nat} {root : Int} (hS : W.heap[S]? = some (.cells #[.slice sa ss.length sc, .slice ea es.length ec, .int .i64 root] 30 (0, 0))) (h : CRows base W ss es (.slice sa ss.length sc) (.slice ea es.length ec)) (hf : CFit ss es)
    {G : Nat} {cs : Array Value} (hG : W.heap[G]? = some (.cells cs 51 (0, 0))) (j i : Nat) (hi : i < 5) (u : Value) (φ : CFld → CFld) (hφ : ∀ f, cfldCells (φ f) = (cfldCells f).set i u) (hfit : ∀ f, FldFit f → FldFit (φ f)) : Ready S (W.setCell ⟨G, j * 5 + i, none⟩ u) := by
  obtain ⟨t1, t2, t3, _, _, _, _, _, _, _, _, _, _, t14, _⟩ := types_ne
  have hSG : S ≠ G := fun e => by
    subst e
    rw [hS] at hG
    injection hG with hG
    injection hG with _ ht
    exact t14 ht
  refine ⟨base, ss.map (seeF G j φ), es, sa, sc, ea, ec, root, ?_, ⟨?_, ?_, ?_, ?_⟩, ⟨?_, hf.chos⟩⟩
  · rw [List.length_map]
    exact blk_set_ne hS (fun e => hSG e.symm) _
  · rw [List.length_map, seeF_cells]
    exact row_else h.structs _ _ (row_typed hG h.structs t1)
  · exact row_else h.enums _ _ (row_typed hG h.enums t2)
  · intro q hq
    obtain ⟨p, hp, rfl⟩ := List.mem_map.1 hq
    unfold seeF
    split
    · rename_i hb
      exact row_mod cfldCells 5 cfld_len φ i hi u hφ j (h.fields p hp) hb
    · rename_i hb
      exact row_else (h.fields p hp) _ _ hb
  · intro q hq
    exact row_else (h.names q hq) _ _ (row_typed hG (h.names q hq) t3)
  · intro q hq
    obtain ⟨p, hp, rfl⟩ := List.mem_map.1 hq
    obtain ⟨h1, h2⟩ := hf.recs p hp
    unfold seeF
    split
    · refine ⟨h1, fun f hfm => ?_⟩
      rcases modAt_mem φ _ _ f hfm with hm | ⟨a, ha, rfl⟩
      · exact h2 f hm
      · exact hfit a (h2 a ha)
    · exact ⟨h1, h2⟩
theorem ready_struct {S : Nat} {W : World} {base : Nat} {ss : List (CRec × Value)} {es : List (SCho × Value)} {sa ea : Option Addr} {sc ec : Nat} {root : Int} (hS : W.heap[S]? = some (.cells #[.slice sa ss.length sc, .slice ea es.length ec, .int .i64 root] 30 (0, 0))) (h : CRows base W ss es (.slice sa ss.length sc) (.slice ea es.length ec)) (hf : CFit ss es)
    {G c : Nat} (hG : sa = some ⟨G, c, none⟩) (j i : Nat) (hi : i < 2) (u : Value) (φ : CRec × Value → CRec × Value) (hφ : ∀ q, crecCells (φ q) = (crecCells q).set i u) (hrow : ∀ q, W.ownsRow base 51 5 q.2 q.1.fields.length (cfldsCells q.1.fields) → W.ownsRow base 51 5 (φ q).2 (φ q).1.fields.length (cfldsCells (φ q).1.fields))
    (hfit : ∀ q ∈ ss, (φ q).1.name.size ≤ 281474976710656 ∧ ∀ f ∈ (φ q).1.fields, FldFit f) : Ready S (W.setCell ⟨G, j * 2 + i, none⟩ u) := by
  obtain ⟨_, _, _, t4, t5, t6, _, _, _, t10, _⟩ := types_ne
  subst hG
  have hb : (Value.slice (some ⟨G, c, none⟩) ss.length sc).ownBlock = some G := rfl
  have hSG : G ≠ S := fun e => (row_typed hS h.structs t10) (by rw [hb, e])
  refine ⟨base, modAt φ ss j, es, some ⟨G, c, none⟩, sc, ea, ec, root, ?_, ⟨?_, ?_, ?_, ?_⟩, ⟨?_, hf.chos⟩⟩
  · rw [modAt_length]
    exact blk_set_ne hS hSG _
  · have h' := row_mod crecCells 2 (fun _ => rfl) φ i hi u hφ j h.structs hb
    rw [modAt_length] at h' ⊢
    exact h'
  · exact row_else h.enums _ _ (fun e => (rws_ne h.enums h.structs t5) G e hb)
  · intro q hq
    have hr : W.ownsRow base 51 5 q.2 q.1.fields.length (cfldsCells q.1.fields) := by
      rcases modAt_mem φ _ _ q hq with hm | ⟨a, ha, rfl⟩
      · exact h.fields q hm
      · exact hrow a (h.fields a ha)
    exact row_else hr _ _ (fun e => (rws_ne hr h.structs t4) G e hb)
  · intro q hq
    exact row_else (h.names q hq) _ _ (fun e => (rws_ne (h.names q hq) h.structs t6) G e hb)
  · intro q hq
    rcases modAt_mem φ _ _ q hq with hm | ⟨a, ha, rfl⟩
    · exact hf.recs q hm
    · exact hfit a ha
theorem ready_enum {S : Nat} {W : World} {base : Nat} {ss : List (CRec × Value)} {es : List (SCho × Value)} {sa ea : Option Addr} {sc ec : Nat} {root : Int} (hS : W.heap[S]? = some (.cells #[.slice sa ss.length sc, .slice ea es.length ec, .int .i64 root] 30 (0, 0))) (h : CRows base W ss es (.slice sa ss.length sc) (.slice ea es.length ec)) (hf : CFit ss es)
    {G c : Nat} (hG : ea = some ⟨G, c, none⟩) (j i : Nat) (hi : i < 2) (u : Value) (φ : SCho × Value → SCho × Value) (hφ : ∀ q, schoCells (φ q) = (schoCells q).set i u) (hrow : ∀ q, W.ownsRow base 9 1 q.2 q.1.names.length (strsCells q.1.names) → W.ownsRow base 9 1 (φ q).2 (φ q).1.names.length (strsCells (φ q).1.names))
    (hfit : ∀ q ∈ es, (φ q).1.name.size ≤ 281474976710656 ∧ ∀ s ∈ (φ q).1.names, s.size ≤ 281474976710656) : Ready S (W.setCell ⟨G, j * 2 + i, none⟩ u) := by
  obtain ⟨_, _, _, _, _, _, t7, t8, t9, _, t11, _⟩ := types_ne
  subst hG
  have hb : (Value.slice (some ⟨G, c, none⟩) es.length ec).ownBlock = some G := rfl
  have hSG : G ≠ S := fun e => (row_typed hS h.enums t11) (by rw [hb, e])
  refine ⟨base, ss, modAt φ es j, sa, sc, some ⟨G, c, none⟩, ec, root, ?_, ⟨?_, ?_, ?_, ?_⟩, ⟨hf.recs, ?_⟩⟩
  · rw [modAt_length]
    exact blk_set_ne hS hSG _
  · exact row_else h.structs _ _ (fun e => (rws_ne h.structs h.enums t8) G e hb)
  · have h' := row_mod schoCells 2 (fun _ => rfl) φ i hi u hφ j h.enums hb
    rw [modAt_length] at h' ⊢
    exact h'
  · intro q hq
    exact row_else (h.fields q hq) _ _ (fun e => (rws_ne (h.fields q hq) h.enums t7) G e hb)
  · intro q hq
    have hr : W.ownsRow base 9 1 q.2 q.1.names.length (strsCells q.1.names) := by
      rcases modAt_mem φ _ _ q hq with hm | ⟨a, ha, rfl⟩
      · exact h.names q hm
      · exact hrow a (h.names a ha)
    exact row_else hr _ _ (fun e => (rws_ne hr h.enums t9) G e hb)
  · intro q hq
    rcases modAt_mem φ _ _ q hq with hm | ⟨a, ha, rfl⟩
    · exact hf.chos q hm
    · exact hfit a ha
theorem crows_own {S : Nat} {W : World} {base : Nat} {ss : List (CRec × Value)} {es : List (SCho × Value)} {sv ev : Value} {cs : Array Value} (hS : W.heap[S]? = some (.cells cs 30 (0, 0))) (h : CRows base W ss es sv ev) (i : Nat) (u : Value) : CRows base (W.setCell ⟨S, i, none⟩ u) ss es sv ev := by
  obtain ⟨_, _, _, _, _, _, _, _, _, t10, t11, t12, t13, _⟩ := types_ne
  exact ⟨row_else h.structs _ _ (row_typed hS h.structs t10), row_else h.enums _ _ (row_typed hS h.enums t11), fun q hq => row_else (h.fields q hq) _ _ (row_typed hS (h.fields q hq) t12), fun q hq => row_else (h.names q hq) _ _ (row_typed hS (h.names q hq) t13)⟩
theorem ready_root {S : Nat} {W : World} {base : Nat} {ss : List (CRec × Value)} {es : List (SCho × Value)} {sa ea : Option Addr} {sc ec : Nat} {root : Int} (hS : W.heap[S]? = some (.cells #[.slice sa ss.length sc, .slice ea es.length ec, .int .i64 root] 30 (0, 0))) (h : CRows base W ss es (.slice sa ss.length sc) (.slice ea es.length ec)) (hf : CFit ss es) (z : Int) : Ready S (W.setCell ⟨S, 2, none⟩ (.int .i64 z)) :=
  ⟨base, ss, es, sa, sc, ea, ec, z, (blk_set hS 2 _).trans rfl, crows_own hS h 2 _, hf⟩
end Go.Proofs.YtdlfndjgncdgfaaGreatDoor
namespace Go.Proofs.YtdlfndjgncdgfaaGreatDoor
open Go.ChangeShapes Go.WideShapes Go.ChangeAt Go.RowKit Go.Shelf

theorem rnumI_any (k : Nat) (hk : k ≤ 255) (ref lists : Int) (w : World) :
    Calls Tryz.prog 17 #[.agg #[.int .u8 k, .int .i64 ref, .int .i64 lists]] w fun e w' => e = .returned (.bool (numTB k lists)) ∧ Below w.heap.size w w' := by
  have h0 := heap_alloc_new w (.cells #[.int .u8 k, .int .i64 ref, .int .i64 lists] 49)
  have HB := Lib.hid ((Below.refl w.heap.size w).alloc (Nat.le_refl _) (.cells #[.int .u8 k, .int .i64 ref, .int .i64 lists] 49))
  obtain ⟨_, x0, x1, x2, _⟩ := blk3 h0
  have hb1 : (k : Int) ≤ 255 := by omega
  have HN : Hid (numTB k lists = (decide (lists = 0) && decide (0 < kSize k))) := Lib.hid rfl
  generalize numTB k lists = res at *
  clear h0
  by_cases hl : lists = 0
  · have HE := Lib.hid (show res = decide (0 < kSize k) by rw [HN.out, decide_eq_true hl, Bool.true_and])
    subst hl
    clear HN
    go_enter Tryz.func17, Tryz.ntmps17
    go_wp2_with fail
    refine (rsize_any _ _).mono ?_
    rintro e W1 ⟨rfl, rfl⟩
    generalize kSize (k : Int) = z at *
    by_cases hs : 0 < z
    · have HR := Lib.hid (show res = true by rw [HE.out]; exact decide_eq_true hs)
      clear HE
      go_wp2
      go_ret
      exact ⟨ret_bool HR.out.symm, HB.out⟩
    · have HR := Lib.hid (show decide (0 < z) = res from HE.out.symm)
      clear HE
      go_wp2
      go_ret
      exact ⟨ret_bool HR.out, HB.out⟩
  · have HE := Lib.hid (show res = false by rw [HN.out, decide_eq_false hl, Bool.false_and])
    have t1 : (lists == 0) = false := by simpa using hl
    clear HN hl
    go_enter Tryz.func17, Tryz.ntmps17
    go_wp2
    go_ret
    exact ⟨ret_bool HE.out.symm, HB.out⟩
set_option maxRecDepth 100000 in
set_option maxHeartbeats 4000000 in
theorem rfits_any (w : World) {base : Nat} {ss : List (CRec × Value)} {es : List (SCho × Value)} {sv ev : Value} (root : Int) (h : CRows base w ss es sv ev) (k : Nat) (ref lists : Int) (n : Nat) (hk : k ≤ 255) (hn : n ≤ 18446744073709551615) :
    Calls Tryz.prog 71 #[.agg #[sv, ev, .int .i64 root], .agg #[.int .u8 k, .int .i64 ref, .int .i64 lists], .int .u64 n] w fun e w' => e = .returned (.bool (fitsT (es.map Prod.fst) k ref lists n)) ∧ Below w.heap.size w w' := by
  obtain ⟨hb, hq1, hq2⟩ := two_blk w #[sv, ev, .int .i64 root] #[.int .u8 k, .int .i64 ref, .int .i64 lists] 30 49
  obtain ⟨sa, sc, ea, ec, rfl, rfl⟩ := h.forms
  have hf2 := row_few h.enums
  obtain ⟨res, hres⟩ : ∃ res, fitsT (es.map Prod.fst) k ref lists n = res := ⟨_, rfl⟩
  rw [hres]
  unfold fitsT at hres
  rw [List.length_map] at hres
  have HN := Lib.hid hres
  have HB := Lib.hid hb
  have HR := Lib.hid (h.below hb)
  have HQ1 := Lib.hid hq1
  have HQ2 := Lib.hid hq2
  obtain ⟨_, q0, q1, q2, _⟩ := blk3 hq2
  clear hq1 hq2 hb h hres
  go_enter Tryz.func71, Tryz.ntmps71
  go_upto_region 1 with (fail)
  generalize ((w.alloc (.cells #[.slice sa ss.length sc, .slice ea es.length ec, .int .i64 root] 30)).alloc (.cells #[.int .u8 k, .int .i64 ref, .int .i64 lists] 49)) = W0 at *
  go_wp2_with fail
  refine (rnumI_any k hk ref lists _).mono ?_
  rintro e W1 ⟨rfl, hb1⟩
  have HB1 := Lib.hid (HB.out.trans (hb1.mono HB.out.size))
  have HR1 := Lib.hid (HR.out.below hb1)
  obtain ⟨_, p0, p1, p2, _⟩ := blk3 (blk_below HQ1.out hb1 (blk_lt HQ1.out))
  obtain ⟨_, r0, r1, r2, _⟩ := blk3 (blk_below HQ2.out hb1 (blk_lt HQ2.out))
  clear hb1 q0 q1 q2 HB HR HQ1 HQ2
  cases hnt : numTB k lists
  · have HE := Lib.hid (show res = false by rw [← HN.out, if_pos hnt])
    clear HN hnt
    go_wp2
    go_ret
    exact ⟨ret_bool HE.out.symm, HB1.out⟩
  have HN2 := Lib.hid (HN.out.symm.trans (if_neg (by rw [hnt]; decide)))
  have HSZ := Lib.hid (show 0 < kSize k from by unfold numTB at hnt; rw [Bool.and_eq_true, decide_eq_true_iff, decide_eq_true_iff] at hnt; exact hnt.2)
  clear HN hnt
  have hb1 : (k : Int) ≤ 255 := by omega
  go_wp2_with fail
  refine (rsize_any _ _).mono ?_
  rintro e W2 ⟨rfl, rfl⟩
  by_cases h1 : k = 1
  · subst h1
    have HE := Lib.hid (HN2.out.trans (if_pos rfl))
    clear HN2
    by_cases hn1 : n ≤ 1
    · have HF := Lib.hid (show res = true by rw [HE.out]; exact decide_eq_true hn1)
      have g : (n : Int) < 2 := by omega
      clear HE
      go_wp2
      go_ret
      exact ⟨ret_bool HF.out.symm, HB1.out⟩
    · have g : ¬ (n : Int) < 2 := by omega
      have HF := Lib.hid (show res = false by rw [HE.out]; exact decide_eq_false hn1)
      clear HE
      go_wp2
      go_ret
      exact ⟨ret_bool ((decide_eq_false (Int.not_lt.2 g)).trans HF.out.symm), HB1.out⟩
  have t1 : ((k : Int) == 1) = false := by simp; omega
  have HN3 := Lib.hid (HN2.out.trans (if_neg h1))
  clear HN2
  by_cases h10 : k = 10
  · subst h10
    have HE := Lib.hid (HN3.out.trans (if_pos rfl))
    clear HN3
    by_cases hr : 0 ≤ ref ∧ ref < (es.length : Int)
    · obtain ⟨j, rfl⟩ : ∃ j : Nat, ref = j := ⟨ref.toNat, by omega⟩
      have hj : j < es.length := by omega
      have HF := Lib.hid (show res = decide (n < es[j].1.names.length) by
        rw [HE.out, decide_eq_true hr, Bool.true_and, Int.toNat_natCast, List.getD_eq_getElem?_getD, List.getElem?_map, List.getElem?_eq_getElem hj]; rfl)
      obtain ⟨g, cc, hv, hcc, hg, hcell⟩ := row_el schoCells 2 (fun _ => rfl) HR1.out.enums j hj
      obtain ⟨rfl, rfl⟩ := slice_inj hv
      have hnm := HR1.out.names _ (List.getElem_mem hj)
      obtain ⟨na, nc, hnv⟩ := ownsRow_form hnm
      have hfn := row_few hnm
      have x1 : W1.cell? ⟨g, j * 2 + 1, none⟩ = some (.slice na es[j].1.names.length nc) := by rw [← hnv]; exact hcell 1 (by omega)
      generalize es[j].1.names.length = cnt at *
      have hw : IntKind.u64.wrap (cnt : Int) = cnt := IntWalk.u64_in _ (by omega)
      have hji : (j : Int) < es.length := by omega
      have hj0 : (0 : Int) ≤ (j : Int) := by omega
      clear HE hv hcell hnm hnv hr
      by_cases hnc : n < cnt
      · have HG := Lib.hid (show res = true by rw [HF.out]; exact decide_eq_true hnc)
        have gc : (n : Int) < (cnt : Int) := by omega
        clear HF
        go_wp2
        go_ret
        exact ⟨ret_bool HG.out.symm, HB1.out⟩
      · have HG := Lib.hid (show res = false by rw [HF.out]; exact decide_eq_false hnc)
        have gc : ¬ (n : Int) < (cnt : Int) := by omega
        clear HF
        go_wp2
        go_ret
        exact ⟨ret_bool HG.out.symm, HB1.out⟩
    · have HF := Lib.hid (show res = false by rw [HE.out, decide_eq_false hr, Bool.false_and])
      clear HE
      by_cases hr0 : 0 ≤ ref
      · have hr1 : ¬ ref < (es.length : Int) := fun e => hr ⟨hr0, e⟩
        clear hr
        go_wp2
        go_ret
        exact ⟨ret_bool HF.out.symm, HB1.out⟩
      · clear hr
        go_wp2
        go_ret
        exact ⟨ret_bool HF.out.symm, HB1.out⟩
  have t10 : ((k : Int) == 10) = false := by simp; omega
  have HN4 := Lib.hid (HN3.out.trans (if_neg h10))
  clear HN3
  go_wp2_with fail
  refine (rsign_any _ _).mono ?_
  rintro e W2 ⟨rfl, rfl⟩
  cases hsg : kSign (k : Int)
  · have HE := Lib.hid (HN4.out.trans (if_neg (by rw [hsg]; decide)))
    have hk4 : k = 6 ∨ k = 7 ∨ k = 8 ∨ k = 9 := by
      have hz := HSZ.out
      unfold kSign at hsg
      have hs2 := of_decide_eq_false hsg
      unfold kSize at hz
      rcases Nat.lt_or_ge k 11 with h | h
      · have : k = 0 ∨ k = 1 ∨ k = 2 ∨ k = 3 ∨ k = 4 ∨ k = 5 ∨ k = 6 ∨ k = 7 ∨ k = 8 ∨ k = 9 ∨ k = 10 := by omega
        rcases this with rfl | rfl | rfl | rfl | rfl | rfl | rfl | rfl | rfl | rfl | rfl <;> simp_all
      · rw [if_neg (by omega), if_neg (by omega), if_neg (by omega), if_neg (by omega)] at hz
        exact absurd hz (by decide)
    clear HN4 hsg
    rcases hk4 with rfl | rfl | rfl | rfl
    · have HE2 := Lib.hid (show res = decide (n / 256 = 0) from HE.out)
      have hks : kSize ((6 : Nat) : Int) = 1 := by decide
      rw [hks]
      clear HE hks
      by_cases hlt : n < 256
      · have HF := Lib.hid (show res = true by rw [HE2.out]; exact decide_eq_true (by omega))
        have g : (n : Int) < 256 := by omega
        clear HE2
        go_wp2
        go_ret
        exact ⟨ret_bool HF.out.symm, HB1.out⟩
      · have HF := Lib.hid (show res = false by rw [HE2.out]; exact decide_eq_false (by omega))
        have g : ¬ (n : Int) < 256 := by omega
        clear HE2
        go_wp2
        go_ret
        exact ⟨ret_bool ((decide_eq_false (Int.not_lt.2 g)).trans HF.out.symm), HB1.out⟩
    · have HE2 := Lib.hid (show res = decide (n / 65536 = 0) from HE.out)
      have hks : kSize ((7 : Nat) : Int) = 2 := by decide
      rw [hks]
      clear HE hks
      by_cases hlt : n < 65536
      · have HF := Lib.hid (show res = true by rw [HE2.out]; exact decide_eq_true (by omega))
        have g : (n : Int) < 65536 := by omega
        clear HE2
        go_wp2
        go_ret
        exact ⟨ret_bool HF.out.symm, HB1.out⟩
      · have HF := Lib.hid (show res = false by rw [HE2.out]; exact decide_eq_false (by omega))
        have g : ¬ (n : Int) < 65536 := by omega
        clear HE2
        go_wp2
        go_ret
        exact ⟨ret_bool ((decide_eq_false (Int.not_lt.2 g)).trans HF.out.symm), HB1.out⟩
    · have HE2 := Lib.hid (show res = decide (n / 4294967296 = 0) from HE.out)
      have hks : kSize ((8 : Nat) : Int) = 4 := by decide
      rw [hks]
      clear HE hks
      by_cases hlt : n < 4294967296
      · have HF := Lib.hid (show res = true by rw [HE2.out]; exact decide_eq_true (by omega))
        have g : (n : Int) < 4294967296 := by omega
        clear HE2
        go_wp2
        go_ret
        exact ⟨ret_bool HF.out.symm, HB1.out⟩
      · have HF := Lib.hid (show res = false by rw [HE2.out]; exact decide_eq_false (by omega))
        have g : ¬ (n : Int) < 4294967296 := by omega
        clear HE2
        go_wp2
        go_ret
        exact ⟨ret_bool ((decide_eq_false (Int.not_lt.2 g)).trans HF.out.symm), HB1.out⟩
    · have HF := Lib.hid (show res = true by rw [show res = decide (n / 18446744073709551616 = 0) from HE.out]; exact decide_eq_true (by omega))
      have hks : kSize ((9 : Nat) : Int) = 8 := by decide
      rw [hks]
      clear HE hks
      go_wp2
      go_ret
      exact ⟨ret_bool HF.out.symm, HB1.out⟩
  · have HE := Lib.hid (HN4.out.trans (if_pos hsg))
    clear HN4 hsg
    go_wp2_with fail
    refine (rsigned_any n (kSize k) _ (by omega) (by omega)).mono ?_
    rintro e W2 ⟨rfl, rfl⟩
    by_cases hq : sgnOf n (kSize k) = n
    · have HF := Lib.hid (show res = true by rw [HE.out]; exact decide_eq_true hq)
      have t : (sgnOf n (kSize k) == (n : Int)) = true := beq_iff_eq.2 hq
      generalize sgnOf n (kSize k) = z at *
      clear HE hq
      go_wp2
      go_ret
      exact ⟨ret_bool HF.out.symm, HB1.out⟩
    · have HF := Lib.hid (show res = false by rw [HE.out]; exact decide_eq_false hq)
      have t : (sgnOf n (kSize k) == (n : Int)) = false := beq_eq_false_iff_ne.2 hq
      generalize sgnOf n (kSize k) = z at *
      clear HE hq
      go_wp2
      go_ret
      exact ⟨ret_bool HF.out.symm, HB1.out⟩
def tdB (ns : Nat) (es : List SCho) (k : Nat) (ref lists : Int) (d : Nat) : Bool := typedB ns es.length k ref lists && if numTB k lists = true then fitsT es k ref lists d else decide (d = 0)
set_option maxRecDepth 100000 in
set_option maxHeartbeats 4000000 in
theorem rtyped_any (w : World) {base : Nat} {ss : List (CRec × Value)} {es : List (SCho × Value)} {sv ev : Value} (root : Int) (h : CRows base w ss es sv ev) (name : ByteArray) (k : Nat) (ref lists : Int) (d : Nat) (hk : k ≤ 255) (hd : d ≤ 18446744073709551615) :
    Calls Tryz.prog 38 #[.agg #[sv, ev, .int .i64 root], .agg #[.string name, .int .u8 (k : Nat), .int .i64 ref, .int .i64 lists, .int .u64 (d : Nat)]] w fun e w' => e = .returned (.bool (tdB ss.length (es.map Prod.fst) k ref lists d)) ∧ Below w.heap.size w w' := by
  obtain ⟨hb, hq1, hq2⟩ := two_blk w #[sv, ev, .int .i64 root] #[.string name, .int .u8 (k : Nat), .int .i64 ref, .int .i64 lists, .int .u64 (d : Nat)] 30 51
  obtain ⟨sa, sc, ea, ec, rfl, rfl⟩ := h.forms
  obtain ⟨res, hres⟩ : ∃ res, tdB ss.length (es.map Prod.fst) k ref lists d = res := ⟨_, rfl⟩
  rw [hres]
  unfold tdB typedB at hres
  simp only [List.length_map] at hres
  have HN := Lib.hid hres
  have HB := Lib.hid hb
  have HR := Lib.hid (h.below hb)
  have HQ1 := Lib.hid hq1
  have HQ2 := Lib.hid hq2
  have hf1 := row_few h.structs
  have hf2 := row_few h.enums
  obtain ⟨_, y0, y1, y2, y3, y4, _⟩ := blk5c hq2
  clear hq1 hq2 hb h hres
  go_enter Tryz.func38, Tryz.ntmps38
  go_upto_region 1 with (fail)
  generalize ((w.alloc (.cells #[.slice sa ss.length sc, .slice ea es.length ec, .int .i64 root] 30)).alloc (.cells #[.string name, .int .u8 (k : Nat), .int .i64 ref, .int .i64 lists, .int .u64 (d : Nat)] 51)) = W0 at *
  have hba : Below W0.heap.size W0 (W0.alloc (.cells #[.int .u8 (k : Nat), .int .i64 ref, .int .i64 lists] 49)) := (Below.refl _ _).alloc (Nat.le_refl _) _
  have HB1 := Lib.hid (HB.out.trans (hba.mono HB.out.size))
  have HR1 := Lib.hid (HR.out.below hba)
  have HP1 := Lib.hid (blk_below HQ1.out hba (blk_lt HQ1.out))
  have HP2 := Lib.hid (blk_below HQ2.out hba (blk_lt HQ2.out))
  have HP3 := Lib.hid (heap_alloc_new W0 (.cells #[.int .u8 (k : Nat), .int .i64 ref, .int .i64 lists] 49))
  go_upto_region 2 with (fail)
  generalize W0.alloc (.cells #[.int .u8 (k : Nat), .int .i64 ref, .int .i64 lists] 49) = W1 at *
  clear hba y0 y1 y2 y3 y4 HB HR HQ1 HQ2
  generalize W0.heap.size = T at *
  obtain ⟨_, p0, p1, p2, _⟩ := blk3 HP1.out
  obtain ⟨_, y0, y1, y2, y3, y4, _⟩ := blk5c HP2.out
  obtain ⟨_, z0, z1, z2, _⟩ := blk3 HP3.out
  by_cases hl1 : lists < 0
  · have HE := Lib.hid (show res = false by rw [← HN.out, if_pos (.inl hl1), Bool.false_and])
    clear HN
    go_wp2
    go_ret
    exact ⟨ret_bool HE.out.symm, HB1.out⟩
  by_cases hl2 : 3 < lists
  · have HE := Lib.hid (show res = false by rw [← HN.out, if_pos (.inr hl2), Bool.false_and])
    clear HN
    go_wp2
    go_ret
    exact ⟨ret_bool HE.out.symm, HB1.out⟩
  have HN2 := Lib.hid (show res = _ from HN.out.symm.trans (by rw [if_neg (by omega)]))
  clear HN
  by_cases hk1 : k < 1
  · have HE := Lib.hid (show res = false by rw [HN2.out, if_neg (by omega), if_neg (by omega), decide_eq_false (by omega : ¬ 1 ≤ k), Bool.false_and, Bool.false_and])
    have g1 : (k : Int) < 1 := by omega
    clear HN2
    go_wp2
    go_ret
    exact ⟨ret_bool HE.out.symm, HB1.out⟩
  have g1 : ¬ (k : Int) < 1 := by omega
  by_cases hk2 : 13 < k
  · have HE := Lib.hid (show res = false by rw [HN2.out, if_neg (by omega), if_neg (by omega), decide_eq_false (by omega : ¬ k < 13), Bool.false_and, Bool.and_false, Bool.false_and])
    have g2 : (13 : Int) < (k : Int) := by omega
    clear HN2
    go_wp2
    go_ret
    exact ⟨ret_bool HE.out.symm, HB1.out⟩
  have g2 : ¬ (13 : Int) < (k : Int) := by omega
  by_cases h10 : k = 10
  · subst h10
    have HN3 := Lib.hid (show res = _ from HN2.out.trans (by rw [if_pos rfl]))
    clear HN2
    by_cases hr0 : ref < 0
    · have HE := Lib.hid (show res = false by rw [HN3.out, decide_eq_false (by omega), Bool.false_and])
      clear HN3
      go_wp2
      go_ret
      exact ⟨ret_bool HE.out.symm, HB1.out⟩
    by_cases hr1 : (es.length : Int) ≤ ref
    · have HE := Lib.hid (show res = false by rw [HN3.out, decide_eq_false (by omega), Bool.false_and])
      clear HN3
      go_wp2
      go_ret
      exact ⟨ret_bool HE.out.symm, HB1.out⟩
    have HN4 := Lib.hid (show res = _ from HN3.out.trans (by rw [decide_eq_true (show 0 ≤ ref ∧ ref < (es.length : Int) by omega), Bool.true_and]))
    clear HN3
    go_wp2_with fail
    refine (rnumI_any 10 hk ref lists _).mono ?_
    rintro e W2 ⟨rfl, hb2⟩
    have HB2 := Lib.hid (HB1.out.trans (hb2.mono HB1.out.size))
    have HR2 := Lib.hid (HR1.out.below hb2)
    obtain ⟨_, p0, p1, p2, _⟩ := blk3 (blk_below HP1.out hb2 (blk_lt HP1.out))
    obtain ⟨_, y0, y1, y2, y3, y4, _⟩ := blk5c (blk_below HP2.out hb2 (blk_lt HP2.out))
    obtain ⟨_, z0, z1, z2, _⟩ := blk3 (blk_below HP3.out hb2 (blk_lt HP3.out))
    clear hb2
    cases hn : numTB 10 lists
    · have HE := Lib.hid (show res = decide (d = 0) by rw [HN4.out, hn, if_neg (by decide)])
      clear HN4 hn
      go_wp2
      go_ret
      refine ⟨ret_bool ?_, HB2.out⟩
      rw [HE.out, Bool.eq_iff_iff, beq_iff_eq, decide_eq_true_iff]
      omega
    · have HE := Lib.hid (show res = fitsT (es.map Prod.fst) 10 ref lists d by rw [HN4.out, hn, if_pos rfl])
      clear HN4 hn
      go_wp2_with fail
      refine (rfits_any W2 root HR2.out 10 ref lists d hk hd).mono ?_
      rintro e W4 ⟨rfl, hb4⟩
      have HB4 := Lib.hid (HB2.out.trans (hb4.mono HB2.out.size))
      clear hb4
      go_wp2
      go_ret
      exact ⟨ret_bool HE.out.symm, HB4.out⟩
  have t10 : ((k : Int) == 10) = false := by simp; omega
  by_cases h13 : k = 13
  · subst h13
    have HN3 := Lib.hid (show res = _ from HN2.out.trans (by rw [if_neg h10, if_pos rfl]))
    clear HN2 h10
    by_cases hr0 : ref < 0
    · have HE := Lib.hid (show res = false by rw [HN3.out, decide_eq_false (by omega), Bool.false_and])
      clear HN3
      go_wp2
      go_ret
      exact ⟨ret_bool HE.out.symm, HB1.out⟩
    by_cases hr1 : (ss.length : Int) ≤ ref
    · have HE := Lib.hid (show res = false by rw [HN3.out, decide_eq_false (by omega), Bool.false_and])
      clear HN3
      go_wp2
      go_ret
      exact ⟨ret_bool HE.out.symm, HB1.out⟩
    have HN4 := Lib.hid (show res = _ from HN3.out.trans (by rw [decide_eq_true (show 0 ≤ ref ∧ ref < (ss.length : Int) by omega), Bool.true_and]))
    clear HN3
    go_wp2_with fail
    refine (rnumI_any 13 hk ref lists _).mono ?_
    rintro e W2 ⟨rfl, hb2⟩
    have HB2 := Lib.hid (HB1.out.trans (hb2.mono HB1.out.size))
    have HR2 := Lib.hid (HR1.out.below hb2)
    obtain ⟨_, p0, p1, p2, _⟩ := blk3 (blk_below HP1.out hb2 (blk_lt HP1.out))
    obtain ⟨_, y0, y1, y2, y3, y4, _⟩ := blk5c (blk_below HP2.out hb2 (blk_lt HP2.out))
    obtain ⟨_, z0, z1, z2, _⟩ := blk3 (blk_below HP3.out hb2 (blk_lt HP3.out))
    clear hb2
    cases hn : numTB 13 lists
    · have HE := Lib.hid (show res = decide (d = 0) by rw [HN4.out, hn, if_neg (by decide)])
      clear HN4 hn
      go_wp2
      go_ret
      refine ⟨ret_bool ?_, HB2.out⟩
      rw [HE.out, Bool.eq_iff_iff, beq_iff_eq, decide_eq_true_iff]
      omega
    · have HE := Lib.hid (show res = fitsT (es.map Prod.fst) 13 ref lists d by rw [HN4.out, hn, if_pos rfl])
      clear HN4 hn
      go_wp2_with fail
      refine (rfits_any W2 root HR2.out 13 ref lists d hk hd).mono ?_
      rintro e W4 ⟨rfl, hb4⟩
      have HB4 := Lib.hid (HB2.out.trans (hb4.mono HB2.out.size))
      clear hb4
      go_wp2
      go_ret
      exact ⟨ret_bool HE.out.symm, HB4.out⟩
  have t13 : ((k : Int) == 13) = false := by simp; omega
  have HN3 := Lib.hid (show res = (decide (0 ≤ ref ∧ ref < (1 : Int)) && if numTB k lists = true then fitsT (es.map Prod.fst) k ref lists d else decide (d = 0)) from HN2.out.trans (by
    rw [if_neg h10, if_neg h13, decide_eq_true (by omega : 1 ≤ k), decide_eq_true (by omega : k < 13), Bool.true_and, Bool.true_and, decide_eq_decide.2 (show ref = 0 ↔ 0 ≤ ref ∧ ref < (1 : Int) by omega)]))
  clear HN2
  by_cases hr0 : ref < 0
  · have HE := Lib.hid (show res = false by rw [HN3.out, decide_eq_false (by omega), Bool.false_and])
    clear HN3
    go_wp2
    go_ret
    exact ⟨ret_bool HE.out.symm, HB1.out⟩
  by_cases hr1 : (1 : Int) ≤ ref
  · have HE := Lib.hid (show res = false by rw [HN3.out, decide_eq_false (by omega), Bool.false_and])
    clear HN3
    go_wp2
    go_ret
    exact ⟨ret_bool HE.out.symm, HB1.out⟩
  have HN4 := Lib.hid (show res = _ from HN3.out.trans (by rw [decide_eq_true (show 0 ≤ ref ∧ ref < (1 : Int) by omega), Bool.true_and]))
  clear HN3
  go_wp2_with fail
  refine (rnumI_any k hk ref lists _).mono ?_
  rintro e W2 ⟨rfl, hb2⟩
  have HB2 := Lib.hid (HB1.out.trans (hb2.mono HB1.out.size))
  have HR2 := Lib.hid (HR1.out.below hb2)
  obtain ⟨_, p0, p1, p2, _⟩ := blk3 (blk_below HP1.out hb2 (blk_lt HP1.out))
  obtain ⟨_, y0, y1, y2, y3, y4, _⟩ := blk5c (blk_below HP2.out hb2 (blk_lt HP2.out))
  obtain ⟨_, z0, z1, z2, _⟩ := blk3 (blk_below HP3.out hb2 (blk_lt HP3.out))
  clear hb2
  cases hn : numTB k lists
  · have HE := Lib.hid (show res = decide (d = 0) by rw [HN4.out, hn, if_neg (by decide)])
    clear HN4 hn
    go_wp2
    go_ret
    refine ⟨ret_bool ?_, HB2.out⟩
    rw [HE.out, Bool.eq_iff_iff, beq_iff_eq, decide_eq_true_iff]
    omega
  · have HE := Lib.hid (show res = fitsT (es.map Prod.fst) k ref lists d by rw [HN4.out, hn, if_pos rfl])
    clear HN4 hn
    go_wp2_with fail
    refine (rfits_any W2 root HR2.out k ref lists d hk hd).mono ?_
    rintro e W4 ⟨rfl, hb4⟩
    have HB4 := Lib.hid (HB2.out.trans (hb4.mono HB2.out.size))
    clear hb4
    go_wp2
    go_ret
    exact ⟨ret_bool HE.out.symm, HB4.out⟩
end Go.Proofs.YtdlfndjgncdgfaaGreatDoor
