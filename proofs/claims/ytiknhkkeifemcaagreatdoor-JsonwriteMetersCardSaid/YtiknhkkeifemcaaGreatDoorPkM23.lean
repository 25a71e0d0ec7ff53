/-
  The hand's values, what they are told of: types of a made schema; what value hands back. Conditions: those that each theorem names.
-/
import Derived.Test.YtiknhkkeifemcaaGreatDoorPkM17
import Derived.Test.YtiknhkkeifemcaaGreatDoorPkM20
import Derived.Test.YtiknhkkeifemcaaGreatDoorPkM21
import Derived.Test.YtiknhkkeifemcaaGreatDoorPkM22
namespace Go.Proofs.YtiknhkkeifemcaaGreatDoor
open Go.ChangeShapes Go.WideShapes Go.ChangeAt Go.RowKit Go.Shelf

structure TyM (n : Nat) (es : List SCho) (k r l : Nat) : Prop where
  lo : 1 ≤ k
  hi : k ≤ 13
  li : l ≤ 3
  en : k = 10 → r < es.length ∧ 1 ≤ cntE es r
  st : k = 13 → r < n
def SchM (ss : List (SRec × Value)) (es : List SCho) : Prop := ss.length ≤ 16 ∧ ∀ q ∈ ss, q.1.fields.length ≤ 16 ∧ ∀ f ∈ q.1.fields, TyM ss.length es f.kind f.ref f.lists ∧ (f.dflt : Int) ≤ 18446744073709551615 ∧ (f.lists = 0 → f.kind ≤ 10 → fitsT es f.kind f.ref 0 f.dflt = true)
theorem num_zero (es : List SCho) (k r : Nat) (h : NumTy es k r) : fitsT es k r 0 0 = true := by
  have := num_fits h (n := 0) (by decide)
  have e : numP (cntE es r) k 0 = 0 := by
    unfold numP
    split
    · rfl
    split
    · exact Nat.zero_mod _
    · have hm : (if kSize k < 8 then 0 % 2 ^ (8 * (kSize k).toNat) else 0 : Nat) = 0 := by split <;> simp
      simp only [hm]
      have hs : sgnOf ((0 : Nat) : Int) (kSize k) = 0 := by
        unfold sgnOf sgn
        simp
      rw [hs]
      simp
  rwa [e] at this
def newS (B : Nat) : Nat → Bool := fun k => decide (k < B)
inductive SmallV : PV → Prop
  | mk (n : Nat) (bs : List Int) (ks : List PV) (h : Bool) (hb : bs.length ≤ 100) (hk : ks.length ≤ 100) (hs : ∀ q ∈ ks, SmallV q) : SmallV (.mk n bs ks h)
theorem smallV_nil : SmallV nilV := .mk 0 [] [] false (by decide) (by decide) (fun q hq => by cases hq)
theorem smallV_num (n : Nat) : SmallV (numV n) := .mk n [] [] false (by decide) (by decide) (fun q hq => by cases hq)
theorem smallV_bytes {zs : List Int} (h : zs.length ≤ 100) : SmallV (.mk 0 zs [] false) := .mk 0 zs [] false h (by decide) (fun q hq => by cases hq)
inductive Wt : PV → Nat → Prop
  | mk (n : Nat) (bs : List Int) (ks : List PV) (h : Bool) (ms : List Nat) (hl : ms.length = ks.length) (hs : ∀ j (hj : j < ks.length), Wt ks[j] (ms.getD j 0)) (m : Nat) (hm : 1 + bs.length + ms.sum ≤ m) : Wt (.mk n bs ks h) m
theorem Wt.mono {v : PV} {m m' : Nat} (h : Wt v m) (hm : m ≤ m') : Wt v m' := by
  cases h with
  | mk n bs ks h ms hl hs _ hb => exact .mk n bs ks h ms hl hs _ (by omega)
def WtL (ks : List PV) (m : Nat) : Prop := ∃ ms : List Nat, ms.length = ks.length ∧ (∀ j (hj : j < ks.length), Wt ks[j] (ms.getD j 0)) ∧ ms.sum ≤ m
theorem WtL.nil : WtL [] 0 := ⟨[], rfl, fun _ hj => absurd hj (Nat.not_lt_zero _), Nat.le_refl _⟩
theorem WtL.snoc {ks : List PV} {m m1 m2 : Nat} {v : PV} (h : WtL ks m) (hv : Wt v m1) (h2 : m + m1 ≤ m2) : WtL (ks ++ [v]) m2 := by
  obtain ⟨ms, hl, hs, hm⟩ := h
  refine ⟨ms ++ [m1], by simp [hl], fun j hj => ?_, by rw [List.sum_append]; simp; omega⟩
  rcases Nat.lt_or_ge j ks.length with h1 | h1
  · rw [List.getElem_append_left h1]
    have : (ms ++ [m1]).getD j 0 = ms.getD j 0 := by simp [List.getD, List.getElem?_append_left (show j < ms.length by omega)]
    rw [this]
    exact hs j h1
  · have hj' : j = ks.length := by simp at hj; omega
    subst hj'
    rw [List.getElem_append_right h1]
    have : (ms ++ [m1]).getD ks.length 0 = m1 := by rw [← hl]; simp
    rw [this]
    simpa using hv
theorem WtL.val {ks : List PV} {m : Nat} (h : WtL ks m) (n : Nat) (bs : List Int) (has : Bool) : Wt (.mk n bs ks has) (1 + bs.length + m) := by
  obtain ⟨ms, hl, hs, hm⟩ := h
  exact .mk n bs ks has ms hl hs _ (by omega)
def WtIn (sure : Bool) (n i i' : Nat) (v : PV) : Prop := ∃ m, Wt v m ∧ m ≤ 1700 + 1700 * (i' - i) ∧ (sure = false ∨ i < n → m ≤ 101 + 1700 * (i' - i))
theorem WtIn.bytes {sure : Bool} {n i i' k : Nat} {zs : List Int} {h : Bool} (hz : zs.length ≤ 100) : WtIn sure n i i' (.mk k zs [] h) := ⟨1 + zs.length + 0, WtL.nil.val k zs h, by omega, fun _ => by omega⟩
theorem sw_num {sure : Bool} {N i i' : Nat} (n : Nat) : SmallV (numV n) ∧ WtIn sure N i i' (numV n) := ⟨smallV_num n, WtIn.bytes (zs := []) (by decide)⟩
theorem sw_nil {sure : Bool} {N i i' : Nat} : SmallV nilV ∧ WtIn sure N i i' nilV := ⟨smallV_nil, WtIn.bytes (zs := []) (by decide)⟩
theorem sw_bytes {sure : Bool} {N i i' : Nat} {zs : List Int} (h : zs.length ≤ 100) : SmallV (.mk 0 zs [] false) ∧ WtIn sure N i i' (.mk 0 zs [] false) := ⟨smallV_bytes h, WtIn.bytes h⟩
def ValPost (g : Nat) (a : Option Addr) (bs : List Int) (bc i : Nat) (w : World) (ss : List CRec) (es : List SCho) (left k r l : Nat) (sure : Bool) (e : Ending) (w' : World) : Prop :=
  ∃ (v : PV) (val : Value) (i' : Nat), e = .returned val ∧ VH (newS w.heap.size) w' v val ∧ (fitsP ss es left k r l v = true ∧ SmallV v ∧ WtIn sure bs.length i i' v) ∧ (k = 13 → l = 0 → sure = true → 1 ≤ left → v.has = true) ∧ i ≤ i' ∧ Src g a bs bc w' i' ∧ Exc g w.heap.size w w'
def ValAt (left : Nat) : Prop := ∀ (k r l d fk : Nat) (fr fl : Int) (nm : ByteArray) (sure : Bool) (b g i bc : Nat) (a : Option Addr) (bs : List Int) (ss : List (SRec × Value)) (es : List (SCho × Value)) (sv ev : Value) (root : Int) (w : World),
  TyM ss.length (es.map Prod.fst) k r l → SchM ss (es.map Prod.fst) → Src g a bs bc w i → (∀ W, Exc g w.heap.size w W → SchRows b W ss es sv ev) → (d : Int) ≤ 18446744073709551615 → (l = 0 → k ≤ 10 → fitsT (es.map Prod.fst) k r 0 d = true) →
  Calls Tryz.prog 44 #[.agg #[sv, ev, .int .i64 root], .agg #[.int .u8 k, .int .i64 r, .int .i64 l], .pointer (some ⟨g, 0, none⟩), .int .i64 left, .agg #[.string nm, .int .u8 fk, .int .i64 fr, .int .i64 fl, .int .u64 d], .bool sure] w (ValPost g a bs bc i w ((crow ss).map Prod.fst) (es.map Prod.fst) left k r l sure)
theorem vh_num (S : Nat → Bool) (w : World) (n : Nat) (hn : (n : Int) ≤ 18446744073709551615) : VH S w (numV n) (.agg #[.int .u64 n, .slice none 0 0, .slice none 0 0, .bool false]) := isV_num _ n (by omega)
theorem fits_num {ss : List CRec} {es : List SCho} {left k r n : Nat} (hk : 0 < kSize k) (h : fitsT es k r 0 n = true) : fitsP ss es left k r 0 (numV n) = true := by
  have hs : sortP k 0 = 1 := by unfold sortP; rw [if_neg (by decide), if_neg (by decide), if_pos hk]
  rw [fitsP_eq, hs]
  show (bareP 1 (numV n) && fitsT es k r 0 n) = true
  rw [h]
  simp [bareP, numV, PV.num, PV.bytes, PV.kids, PV.has]
theorem k_size {k : Nat} (h1 : 1 ≤ k) (h2 : k ≤ 10) : 0 < kSize k := by
  have hk : k = 1 ∨ k = 2 ∨ k = 3 ∨ k = 4 ∨ k = 5 ∨ k = 6 ∨ k = 7 ∨ k = 8 ∨ k = 9 ∨ k = 10 := by omega
  rcases hk with rfl | rfl | rfl | rfl | rfl | rfl | rfl | rfl | rfl | rfl <;> decide
theorem exc_puts {g B O R : Nat} {a w : World} (h : Exc g B a w) (hR : B ≤ R) (hO : B ≤ O) (j : Nat) (v x y z u : Value) : Exc g B a (set4 (w.setCell ⟨O, j, none⟩ v) R x y z u) :=
  (((((h.setCell (p := ⟨O, j, none⟩) (.inr hO) v).setCell (p := ⟨R, 0, none⟩) (.inr hR) x).setCell (p := ⟨R, 1, none⟩) (.inr hR) y).setCell (p := ⟨R, 2, none⟩) (.inr hR) z).setCell (p := ⟨R, 3, none⟩) (.inr hR) u)
theorem exc_put4 {g B R : Nat} {a w : World} (h : Exc g B a w) (hR : B ≤ R) (x y z u : Value) : Exc g B a (set4 w R x y z u) :=
  ((((h.setCell (p := ⟨R, 0, none⟩) (.inr hR) x).setCell (p := ⟨R, 1, none⟩) (.inr hR) y).setCell (p := ⟨R, 2, none⟩) (.inr hR) z).setCell (p := ⟨R, 3, none⟩) (.inr hR) u)
theorem Src.at {g : Nat} {a : Option Addr} {bs : List Int} {bc : Nat} {w W Wf : World} {i j : Nat} (h : Src g a bs bc w i) (hx : Exc g w.heap.size w Wf) (h2 : Src g a bs bc W j) (hb : Wf.heap[g]? = W.heap[g]?) : Src g a bs bc Wf j :=
  ⟨hb.trans h2.blk, h2.le, h.byt.exc hx (Nat.le_refl _) h.low, h.low, h.len, h.cap⟩
theorem set4_blk {g R : Nat} (w : World) (hR : g ≠ R) (x y z u : Value) : (set4 w R x y z u).heap[g]? = w.heap[g]? :=
  (Below.heap_setCell _ _ _ _ hR).trans ((Below.heap_setCell _ _ _ _ hR).trans ((Below.heap_setCell _ _ _ _ hR).trans (Below.heap_setCell _ _ _ _ hR)))
theorem puts_blk {g O R : Nat} (w : World) (hO : g ≠ O) (hR : g ≠ R) (j : Nat) (v x y z u : Value) : (set4 (w.setCell ⟨O, j, none⟩ v) R x y z u).heap[g]? = w.heap[g]? :=
  (set4_blk _ hR x y z u).trans (Below.heap_setCell _ _ _ _ hO)
theorem stepV {g O B sz n m : Nat} {w0 wr W2 W8 : World} {cs : Array Value} {t e : TypeId} {v v4 : Value} {xs xs' : List Value} (j : Nat) (hx : Exc g B w0 wr) (hB : B ≤ O) (hO : wr.heap[O]? = some (.cells cs t (0, 0))) (hrow : wr.ownsRow (O + 1) e sz v n xs) (h2 : Below wr.heap.size wr W2)
    (hg : W2.grownBy W8 v.ownBlock) (ho : W8.ownsRow (O + 1) e sz v4 m xs') :
    Exc g B w0 (W8.setCell ⟨O, j, none⟩ v4) ∧ (W8.setCell ⟨O, j, none⟩ v4).heap[O]? = some (.cells (cs.setIfInBounds j v4) t (0, 0)) ∧ (W8.setCell ⟨O, j, none⟩ v4).ownsRow (O + 1) e sz v4 m xs' ∧ W8.heap[O]? = some (.cells cs t (0, 0)) ∧ ∀ k, k < O → (W8.setCell ⟨O, j, none⟩ v4).heap[k]? = wr.heap[k]? := by
  have hlt := blk_lt hO
  have hrest : ∀ k, k ≤ O → W8.heap[k]? = wr.heap[k]? := fun k hk => (hg.block k (Nat.lt_of_lt_of_le (by omega) h2.size) (fun e => by have := (ownsRow_lt hrow k e.symm).1; omega)).trans (h2.block k (by omega))
  have hO8 : W8.heap[O]? = some (.cells cs t (0, 0)) := (hrest O (Nat.le_refl _)).trans hO
  exact ⟨((hx.trans ((Exc.of_below h2).mono (by omega))).grown hg (by have := h2.size; omega) (fun k hk => by have := (ownsRow_lt hrow k hk).1; omega)).setCell (p := ⟨O, j, none⟩) (.inr hB) v4, blk_set hO8 j v4, ownsRow_setCell_below ho (Nat.lt_succ_self O) v4, hO8, fun k hk => (Below.heap_setCell _ _ _ _ (by show k ≠ O; omega)).trans (hrest k (by omega))⟩
def u8Cells (zs : List Int) : List Value := zs.map (.int .u8)
theorem bytes_own {S : Nat → Bool} {W : World} {base n : Nat} {A : Option Addr} {cap : Nat} {zs : List Int} (h : W.ownsRow base 5 1 (.slice A n cap) n (u8Cells zs)) (hz : ∀ z ∈ zs, 0 ≤ z ∧ z ≤ 255) (hS : ∀ k, base ≤ k → S k = false) : Bytes (hideW S W) A zs ∧ zs.length = n := by
  have hl : zs.length = n := by have := h.1; unfold u8Cells at this; rw [List.length_map] at this; omega
  refine ⟨⟨fun i => ?_, fun hne => ?_⟩, hl⟩
  · rcases Nat.lt_or_ge i zs.length with hi | hi
    · rw [List.getD, List.getElem?_eq_getElem hi, Option.getD_some]
      exact hz _ (List.getElem_mem hi)
    · rw [List.getD, List.getElem?_eq_none hi]
      exact ⟨by decide, by decide⟩
  · have h0 : 0 < n := by rw [← hl]; exact List.length_pos_iff.2 hne
    obtain ⟨g, c, hv, hnc, hb, hgl, hcell⟩ := row_at h h0
    injection hv with hA _ _
    subst hA
    refine ⟨g, 0, rfl, by rw [hide_size]; exact hgl, fun i hi => ?_⟩
    rw [hide_cell S W _ (hS g hb), Nat.zero_add, hcell i (by omega)]
    unfold u8Cells
    rw [List.getElem?_map, List.getElem?_eq_getElem hi, List.getD, List.getElem?_eq_getElem hi]
    rfl
theorem row_cap {W : World} {base n sz cap : Nat} {e : TypeId} {A : Option Addr} {xs : List Value} (h : W.ownsRow base e sz (.slice A n cap) n xs) : n ≤ cap := by
  rcases h.2 with ⟨h1, h0⟩ | ⟨g, cap', cur, h1, hb, hg, hnc, hm, hs, ht⟩
  · injection h1; omega
  · injection h1; omega
theorem vh_bytes {S : Nat → Bool} {W : World} {base n cap : Nat} {A : Option Addr} {zs : List Int} (h : W.ownsRow base 5 1 (.slice A n cap) n (u8Cells zs)) (hz : ∀ z ∈ zs, 0 ≤ z ∧ z ≤ 255) (hS : ∀ k, base ≤ k → S k = false) :
    VH S W (.mk 0 zs [] false) (.agg #[.int .u64 0, .slice A n cap, .slice none 0 0, .bool false]) := by
  obtain ⟨hb, hl⟩ := bytes_own h hz hS
  have hc := row_cap h
  have hf := row_few h
  subst hl
  exact .mk 0 zs [] false A none cap 0 0 0 (fun _ => .bool false) (fun _ => .bool false) (fun _ => .bool false) (fun _ => .bool false) (by decide) hb hc (by omega) (Nat.le_refl _) (by decide) (fun h => absurd rfl h) (fun i hi => absurd hi (Nat.not_lt_zero i)) (fun i hi => absurd hi (Nat.not_lt_zero i))
theorem fits_data {ss : List CRec} {es : List SCho} {left r : Nat} {zs : List Int} : fitsP ss es left 12 r 0 (.mk 0 zs [] false) = true := by
  rw [fitsP_eq, show sortP 12 0 = 2 from rfl]
  simp [bareP, PV.num, PV.bytes, PV.kids, PV.has]
theorem fits_text {ss : List CRec} {es : List SCho} {left r : Nat} {zs : List Int} (h : u8At zs 0 < 0) : fitsP ss es left 11 r 0 (.mk 0 zs [] false) = true := by
  rw [fitsP_eq, show sortP 11 0 = 2 from rfl]
  simp [bareP, PV.num, PV.bytes, PV.kids, PV.has, h]
theorem u8Cells_snoc (zs : List Int) (z : Int) : u8Cells (zs ++ [z]) = u8Cells zs ++ [.int .u8 z] := by simp [u8Cells]
theorem own_set4 {W : World} {base sz n R : Nat} {e : TypeId} {v : Value} {xs : List Value} (h : W.ownsRow base e sz v n xs) (hR : R < base) (x y z u : Value) : (set4 W R x y z u).ownsRow base e sz v n xs :=
  ownsRow_setCell_below (a := ⟨R, 3, none⟩) (ownsRow_setCell_below (a := ⟨R, 2, none⟩) (ownsRow_setCell_below (a := ⟨R, 1, none⟩) (ownsRow_setCell_below (a := ⟨R, 0, none⟩) h hR x) hR y) hR z) hR u
theorem row_other {W : World} {base P n sz : Nat} {e t : TypeId} {v : Value} {xs : List Value} {cs : Array Value} (h : W.ownsRow base e sz v n xs) (hP : W.heap[P]? = some (.cells cs t (0, 0))) (hne : t ≠ e) : v.ownBlock ≠ some P := by
  rcases h.2 with ⟨rfl, _⟩ | ⟨k, cap, cur, rfl, hb, hk, _⟩
  · exact fun h => by cases h
  · intro h
    injection h with h
    subst h
    rw [hk] at hP
    injection hP with hP
    injection hP with _ h2 _
    exact hne h2.symm
theorem keep4 {w : World} {g : Nat} {p : Addr} {v x0 x1 x2 x3 : Value} (h : w.cell? p = some v) (hp : p.block ≠ g) :
    ((((w.setCell ⟨g, 0, none⟩ x0).setCell ⟨g, 1, none⟩ x1).setCell ⟨g, 2, none⟩ x2).setCell ⟨g, 3, none⟩ x3).cell? p = some v := by
  have e : ∀ (w : World) (i : Nat) (x : Value), (w.setCell ⟨g, i, none⟩ x).cell? p = w.cell? p := fun w i x => World.cell?_of_block (Below.heap_setCell _ _ _ _ hp)
  rw [e, e, e, e, h]
theorem xfact {g : Nat} {W W3 : World} {o : Obj} (hb : Exc g (W.alloc o).heap.size (W.alloc o) W3) : Exc g W.heap.size W W3 := ((Exc.refl g _ W).alloc (Nat.le_refl _) o).trans (hb.mono (by simp))
theorem xfact_drew {g : Nat} {W W3 : World} (hb : Exc g W.drew.heap.size W.drew W3) : Exc g W.heap.size W W3 := (Exc.refl g _ W).drew.trans hb
theorem xfact_alloc_drew {g : Nat} {W W3 : World} {o : Obj} (hb : Exc g (W.alloc o).drew.heap.size (W.alloc o).drew W3) : Exc g W.heap.size W W3 := ((Exc.refl g _ W).alloc (Nat.le_refl _) o).drew.trans (hb.mono (by show _ ≤ (W.alloc _).heap.size; simp))
theorem xblk {g : Nat} {W W3 : World} {cs : Array Value} {t : TypeId} (hb : Exc g (W.alloc (.cells cs t)).heap.size (W.alloc (.cells cs t)) W3) (hg : W.heap.size ≠ g) : W3.heap[W.heap.size]? = some (.cells cs t (0, 0)) := (hb.block _ (by simp) hg).trans (heap_alloc_new W _)
theorem xblk_drew {g : Nat} {W W3 : World} {cs : Array Value} {t : TypeId} (hb : Exc g (W.alloc (.cells cs t)).drew.heap.size (W.alloc (.cells cs t)).drew W3) (hg : W.heap.size ≠ g) : W3.heap[W.heap.size]? = some (.cells cs t (0, 0)) := (hb.block _ (by show _ < (W.alloc _).heap.size; simp) hg).trans (heap_alloc_new W _)
theorem vh_new {w W : World} {v : PV} {val : Value} {B B' : Nat} (h : VH (newS B) w v val) (hB : B' ≤ B) (hs : w.heap.size ≤ W.heap.size) (hb : ∀ k, k < w.heap.size → B ≤ k → W.heap[k]? = w.heap[k]?) : VH (newS B') W v val :=
  h.step hs (fun k hk hS => by
    have h1 : B ≤ k := by unfold newS at hS; simpa using hS
    exact ⟨by unfold newS; simp; omega, hb k hk h1⟩)
end Go.Proofs.YtiknhkkeifemcaaGreatDoor
