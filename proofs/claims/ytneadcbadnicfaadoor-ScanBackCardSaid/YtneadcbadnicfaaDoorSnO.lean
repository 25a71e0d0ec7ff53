/-
  What the laws of scan begin with: bytes that came in, copied into a row of the call's own. Conditions: those that each theorem names.
-/
import Derived.Test.YtneadcbadnicfaaDoorSnL
import Derived.Test.YtneadcbadnicfaaDoorSrB
import Derived.Test.YtneadcbadnicfaaDoorAppVal
namespace Go.Proofs.YtneadcbadnicfaaDoor
open Go.ChangeShapes Go.WideShapes Go.ChangeAt Go.RowKit Go.Shelf

/-- Bytes as the source of an append. -/
theorem src_u8 {W W' : World} {a : Option Addr} {zs : List Int} {n : Nat} (h : Bytes W a zs) (hn : zs.length = n) (hw : Below W.heap.size W W') (c : Nat) : Go.Src Tryd.prog 1 22 (.slice a n c) n (zs.map (Value.int .u8)) W' := by
  subst hn
  have hl : (zs.map (Value.int .u8)).length = zs.length * 1 := by simp
  have h1 : ∀ u ∈ zs.map (Value.int .u8), u.oneCell' = true := fun u hu => by
    obtain ⟨z, _, rfl⟩ := List.mem_map.1 hu
    rfl
  cases a with
  | none =>
    have : zs = [] := by
      rcases h0 : zs with _ | ⟨z, t⟩
      · rfl
      · obtain ⟨b, off, e, _⟩ := h.2 (by rw [h0]; exact List.cons_ne_nil _ _)
        cases e
    subst this
    exact Go.Src.ofNil W' Tryd.underlying22 c
  | some p =>
    refine Go.Src.ofSlice W' Tryd.underlying22 p zs.length c _ hl (fun j u hu => ?_) h1
    have hj : j < zs.length := by
      have := (List.getElem?_eq_some_iff.1 hu).1
      simpa using this
    obtain ⟨b, off, e, hlt, hc⟩ := h.2 (fun h0 => by rw [h0] at hj; exact Nat.not_lt_zero _ hj)
    injection e with e
    subst e
    have hk := hc j hj
    rw [Addr.add_lit, hw.cell (p := ⟨b, off + j, none⟩) hlt, hk, ← hu]
    simp [List.getD, hj]
/-- A row of nothing, just laid. -/
theorem own_none (w : World) : (w.alloc (.cells #[] 5)).ownsRow w.heap.size 5 1 (.slice (some ⟨w.heap.size, 0, none⟩) 0 0) 0 [] :=
  ⟨rfl, .inr ⟨w.heap.size, 0, #[], rfl, Nat.le_refl _, heap_alloc_new w _, Nat.le_refl _, Nat.zero_le _, rfl, rfl⟩⟩
/-- Bytes of a row that came in. -/
theorem row_bytes {w : World} {a : Option Addr} {len cap : Nat} {zs : List Int} (h : IsRow .u8 w a len cap zs) : Bytes w a (zs.take len) ∧ (zs.take len).length = len := by
  obtain ⟨h1, h2, h3, h4, h5⟩ := h
  have hl : (zs.take len).length = len := by simp; omega
  refine ⟨⟨bd_le fun z hz => bounds_u8 (h4 z (List.mem_of_mem_take hz)), fun hne => ?_⟩, hl⟩
  obtain ⟨b, off, rfl, hlt, hc⟩ := h5 (by rintro rfl; simp at hne)
  refine ⟨b, off, rfl, hlt, fun i hi => ?_⟩
  rw [hl] at hi
  rw [hc i (by omega)]
  simp [List.getD, hi]
/-- Bytes that were copied into a row of the call's own. -/
theorem copied {w W : World} {T : List Int} {a : Option Addr} {n m : Nat} (hn : T.length = n) (hT : ∀ z ∈ T, 0 ≤ z ∧ z ≤ 255) (ho : W.ownsRow w.heap.size 5 1 (.slice a n m) n (T.map (Value.int .u8))) (hg : (w.alloc (.cells #[] 5)).grownBy W (some w.heap.size)) :
    n ≤ m ∧ Bytes W a T ∧ (∀ q, a = some q → w.heap.size ≤ q.block ∧ q.block < W.heap.size) ∧ Below w.heap.size w W := by
  subst hn
  obtain ⟨p, c, e, h1, h2, h3⟩ := own_bytes ho hT
  injection e with e1 e2 e3
  subst e1 e3
  refine ⟨h1, h2, h3, ⟨hg.os, hg.tape, hg.output, ?_, fun k hk => ?_⟩⟩
  · have := hg.size; simp at this; omega
  · refine (hg.block k (by simp; omega) ?_).trans (Below.heap_alloc w _ k (by omega))
    intro h
    injection h with h
    omega
theorem bytes_mem {w : World} {p : Option Addr} {zs : List Int} (h : Bytes w p zs) : ∀ z ∈ zs, 0 ≤ z ∧ z ≤ 255 := bd_mem h.1
/-- The program's scanner at place a and the document's reader at place b of the same bytes, both in memory that is new since w0. -/
structure Duo (w0 W : World) (s mb r : Nat) (p q : Option Addr) (n c1 c2 K : Nat) (zs : List Int) (a b : Nat) : Prop where
  sc : ScSt W s mb p n c1 K zs a
  rd : RdSc W r (.slice none 0 0) (.slice none 0 0) (.int .i64 0) q n c2 zs (.bool false) b
  n1 : r ≠ s
  n2 : r ≠ mb
  n3 : zs ≠ [] → ∀ x, q = some x → x.block ≠ s ∧ x.block ≠ mb
  n4 : ∀ x, p = some x → x.block ≠ r
  bel : Below w0.heap.size w0 W
  l1 : w0.heap.size ≤ s
  l2 : w0.heap.size ≤ mb
  l3 : w0.heap.size ≤ r
theorem bytes_exw {W W' : World} {R S : Nat} {p : Option Addr} {zs : List Int} (h : Bytes W p zs) (hb : Exw R S W.heap.size W W') (hp : zs ≠ [] → ∀ q, p = some q → q.block ≠ R ∧ q.block ≠ S) : Bytes W' p zs := by
  refine ⟨h.1, fun hne => ?_⟩
  obtain ⟨b, off, rfl, hlt, hc⟩ := h.2 hne
  obtain ⟨h1, h2⟩ := hp hne _ rfl
  exact ⟨b, off, rfl, Nat.lt_of_lt_of_le hlt hb.size, fun i hi => cell_exw hb (hc i hi) h1 h2⟩
/-- Behind the law's open and the reader laid beside it. -/
theorem duo_start {w0 w W3 : World} {p q : Option Addr} {n c1 c2 a : Nat} {zs : List Int} (hb : Below w0.heap.size w0 w) (hs : ScSt W3 (w.heap.size + 1) w.heap.size p n c1 (1099511627776 + a) zs a) (hb3 : Below w.heap.size w W3) (hz : Bytes w0 q zs) (hc : n ≤ c2) (ha : a ≤ n)  (hp : ∀ x, p = some x → x.block < w.heap.size) (hn : n ≤ 3000) :
    Duo w0 (W3.alloc (.cells #[.slice none 0 0, .slice none 0 0, .int .i64 0, .slice q n c2, .int .i64 (a : Nat), .bool false] 32)) (w.heap.size + 1) w.heap.size W3.heap.size p q n c1 c2 (1099511627776 + a) zs a a := by
  have hx := hs.blk
  have h1 := blk_lt hs.blk
  have hbb := hb.trans (hb3.mono hb.size)
  have hal : Below w0.heap.size w0 (W3.alloc (.cells #[.slice none 0 0, .slice none 0 0, .int .i64 0, .slice q n c2, .int .i64 (a : Nat), .bool false] 32)) := hbb.alloc hbb.size _
  have hsz := hb.size
  refine ⟨hs.below ((Below.refl _ _).alloc (Nat.le_refl _) _), ⟨heap_alloc_new W3 _, hz.below (Nat.le_refl _) hal, hs.len, hc, fun hne x hx => ?_, by omega, by omega⟩, by omega, by omega, fun hne x hx => ?_, fun x hx => ?_, hal, by omega, hsz, by omega⟩
  · obtain ⟨b, off, e, hlt, _⟩ := hz.2 hne
    rw [e] at hx
    cases hx
    show b ≠ _
    omega
  · obtain ⟨b, off, e, hlt, _⟩ := hz.2 hne
    rw [e] at hx
    cases hx
    constructor <;> (show b ≠ _) <;> omega
  · have := hp x hx; omega
section
variable {w0 W W' : World} {s mb r : Nat} {p q : Option Addr} {n c1 c2 K : Nat} {zs : List Int} {a b : Nat}
theorem Duo.left {a' : Nat} (h : Duo w0 W s mb r p q n c1 c2 K zs a b) (k : ScTo W s mb p n c1 K zs a' W') : Duo w0 W' s mb r p q n c1 c2 K zs a' b :=
  ⟨k.2, ⟨blk_exw h.rd.blk k.1 (blk_lt h.rd.blk) h.n1 h.n2, bytes_exw h.rd.by_ k.1 h.n3, h.rd.len, h.rd.cap_, h.rd.np, h.rd.le, h.rd.high⟩, h.n1, h.n2, h.n3, h.n4, ScTo.new h.bel k h.l1 h.l2, h.l1, h.l2, h.l3⟩
theorem Duo.right {b' : Nat} (h : Duo w0 W s mb r p q n c1 c2 K zs a b) (k : RdTo W r (.slice none 0 0) (.slice none 0 0) (.int .i64 0) q n c2 zs (.bool false) b' W') : Duo w0 W' s mb r p q n c1 c2 K zs a b' :=
  ⟨⟨blk_exc h.sc.blk k.1 (blk_lt h.sc.blk) (fun e => h.n1 e.symm), blk_exc h.sc.met k.1 (blk_lt h.sc.met) (fun e => h.n2 e.symm), h.sc.by_.excR k.1 (fun _ => h.n4), h.sc.len, h.sc.cap_, h.sc.ne, h.sc.np, h.sc.le, h.sc.low, h.sc.high⟩, k.2, h.n1, h.n2, h.n3, h.n4, h.bel.trans ((k.1.mono h.bel.size).below h.l3), h.l1, h.l2, h.l3⟩
theorem Duo.below (h : Duo w0 W s mb r p q n c1 c2 K zs a b) (hb : Below W.heap.size W W') : Duo w0 W' s mb r p q n c1 c2 K zs a b :=
  ⟨h.sc.below hb, h.rd.below hb, h.n1, h.n2, h.n3, h.n4, h.bel.trans (hb.mono h.bel.size), h.l1, h.l2, h.l3⟩
end
end Go.Proofs.YtneadcbadnicfaaDoor
