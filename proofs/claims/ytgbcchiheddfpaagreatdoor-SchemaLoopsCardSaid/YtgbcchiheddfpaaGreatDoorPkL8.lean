/-
  The reader of the package idl: skip, sign, word, want, sized, name, label, value. Conditions: those that each theorem names.
-/
import Derived.Test.YtgbcchiheddfpaaGreatDoorPkL3
import Derived.Test.YtgbcchiheddfpaaGreatDoorPkL4
import Derived.Test.YtgbcchiheddfpaaGreatDoorPkL5
import Derived.Test.YtgbcchiheddfpaaGreatDoorPkL6
namespace Go.Proofs.YtgbcchiheddfpaaGreatDoor
open Go.ChangeShapes Go.WideShapes Go.ChangeAt Go.RowKit Go.Shelf

structure Rd (w : World) (R g c : Nat) (l r : List Tok) (F : Int × Nat) : Prop where
  blk : w.heap[R]? = some (.cells #[.slice (some ⟨g, (l.length - r.length) * 3, none⟩) r.length (c - (l.length - r.length)), .int .i64 F.1, .int .i64 F.2] 237 (0, 0))
  suf : l.drop (l.length - r.length) = r
  len : r.length ≤ l.length
  glt : g < w.heap.size
  gne : g ≠ R
  cells : ∀ k, k < l.length * 3 → w.cell? ⟨g, k, none⟩ = (toksCells l)[k]?
  cap : l.length ≤ c ∧ c ≤ maxLen
  ends : Ends r
  byt : ∀ t ∈ l, ∀ z ∈ t.text, 0 ≤ z ∧ z ≤ 255
theorem Rd.keep {w W : World} {R g c : Nat} {l r : List Tok} {F : Int × Nat} (h : Rd w R g c l r F) (hb : Below w.heap.size w W) : Rd W R g c l r F :=
  ⟨(hb.block R (blk_lt h.blk)).trans h.blk, h.suf, h.len, Nat.lt_of_lt_of_le h.glt hb.size, h.gne, fun k hk => (hb.cell (p := ⟨g, k, none⟩) h.glt).trans (h.cells k hk), h.cap, h.ends, h.byt⟩
theorem Rd.other {w W : World} {R X g c : Nat} {l r : List Tok} {F : Int × Nat} (h : Rd w R g c l r F) (hb : Exc X w.heap.size w W) (hR : R ≠ X) (hg : g ≠ X) : Rd W R g c l r F :=
  ⟨(hb.block R (blk_lt h.blk) hR).trans h.blk, h.suf, h.len, Nat.lt_of_lt_of_le h.glt hb.size, h.gne, fun k hk => (hb.cell (p := ⟨g, k, none⟩) h.glt hg).trans (h.cells k hk), h.cap, h.ends, h.byt⟩
theorem Rd.alloc {w : World} {R g c : Nat} {l r : List Tok} {F : Int × Nat} (h : Rd w R g c l r F) (o : Obj) : Rd (w.alloc o) R g c l r F := h.keep ((Below.refl _ _).alloc (Nat.le_refl _) _)
theorem Rd.set3 {w : World} {R g c : Nat} {l r : List Tok} {F : Int × Nat} (h : Rd w R g c l r F) {X : Nat} (hR : R ≠ X) (hg : g ≠ X) (x y z : Value) : Rd (((w.setCell ⟨X, 0, none⟩ x).setCell ⟨X, 1, none⟩ y).setCell ⟨X, 2, none⟩ z) R g c l r F := h.other (exc_set3 w X x y z) hR hg
theorem Rd.set1 {w : World} {R g c : Nat} {l r : List Tok} {F : Int × Nat} (h : Rd w R g c l r F) {X : Nat} (hR : R ≠ X) (hg : g ≠ X) (i : Nat) (x : Value) : Rd (w.setCell ⟨X, i, none⟩ x) R g c l r F := h.other (exc_set w X i x) hR hg
def End3 (w : World) (R g c : Nat) (l r : List Tok) (F : Int × Nat) (t : TypeId) (x y z : Value) (W : World) : Prop :=
  W.heap[w.heap.size]? = some (.cells #[x, y, z] t (0, 0)) ∧ Exc R w.heap.size w W ∧ Rd W R g c l r F
theorem end3 {w W : World} {R g c : Nat} {l r : List Tok} {F : Int × Nat} {t : TypeId} {a b d : Value} (hz : W.heap[w.heap.size]? = some (.cells #[a, b, d] t (0, 0))) (hx : Exc R w.heap.size w W) (hr : Rd W R g c l r F) (hR : R < w.heap.size) (hg : g < w.heap.size) (x y z : Value) :
    End3 w R g c l r F t x y z (((W.setCell ⟨w.heap.size, 0, none⟩ x).setCell ⟨w.heap.size, 1, none⟩ y).setCell ⟨w.heap.size, 2, none⟩ z) :=
  ⟨blk_set3 hz _ _ _, hx.set3 (Nat.le_refl _) _ _ _, hr.set3 (by omega) (by omega) _ _ _⟩
theorem end3a {w W : World} {R g c : Nat} {l r : List Tok} {F : Int × Nat} {t : TypeId} {x y z : Value} (h : End3 w R g c l r F t x y z W) (o : Obj) : End3 w R g c l r F t x y z (W.alloc o) :=
  ⟨blk_alloc h.1 o, h.2.1.alloc h.2.1.size o, h.2.2.alloc o⟩
def set8 (w : World) (g : Nat) (a b c d e f g' h : Value) : World :=
  (((((((w.setCell ⟨g, 0, none⟩ a).setCell ⟨g, 1, none⟩ b).setCell ⟨g, 2, none⟩ c).setCell ⟨g, 3, none⟩ d).setCell ⟨g, 4, none⟩ e).setCell ⟨g, 5, none⟩ f).setCell ⟨g, 6, none⟩ g').setCell ⟨g, 7, none⟩ h
theorem exc_set8 (w : World) (g : Nat) (a b c d e f g' h : Value) : Exc g w.heap.size w (set8 w g a b c d e f g' h) :=
  (((((((exc_set w g 0 a).setCell (p := ⟨g, 1, none⟩) (.inl rfl) b).setCell (p := ⟨g, 2, none⟩) (.inl rfl) c).setCell (p := ⟨g, 3, none⟩) (.inl rfl) d).setCell (p := ⟨g, 4, none⟩) (.inl rfl) e).setCell (p := ⟨g, 5, none⟩) (.inl rfl) f).setCell (p := ⟨g, 6, none⟩) (.inl rfl) g').setCell (p := ⟨g, 7, none⟩) (.inl rfl) h
theorem Exc.set8 {R B : Nat} {a w : World} (hx : Exc R B a w) {g : Nat} (hg : B ≤ g) (x0 x1 x2 x3 x4 x5 x6 x7 : Value) : Exc R B a (set8 w g x0 x1 x2 x3 x4 x5 x6 x7) :=
  (((((((hx.set1 hg 0 x0).set1 hg 1 x1).set1 hg 2 x2).set1 hg 3 x3).set1 hg 4 x4).set1 hg 5 x5).set1 hg 6 x6).set1 hg 7 x7
theorem blk_set8 {w : World} {g : Nat} {a b c d e f g' h : Value} {t : TypeId} (hb : w.heap[g]? = some (.cells #[a, b, c, d, e, f, g', h] t (0, 0))) (x0 x1 x2 x3 x4 x5 x6 x7 : Value) :
    (set8 w g x0 x1 x2 x3 x4 x5 x6 x7).heap[g]? = some (.cells #[x0, x1, x2, x3, x4, x5, x6, x7] t (0, 0)) := by
  have k0 : (w.setCell ⟨g, 0, none⟩ x0).heap[g]? = some (.cells #[x0, b, c, d, e, f, g', h] t (0, 0)) := (blk_set hb 0 x0).trans rfl
  have k1 : ((w.setCell ⟨g, 0, none⟩ x0).setCell ⟨g, 1, none⟩ x1).heap[g]? = some (.cells #[x0, x1, c, d, e, f, g', h] t (0, 0)) := (blk_set k0 1 x1).trans rfl
  have k2 : (((w.setCell ⟨g, 0, none⟩ x0).setCell ⟨g, 1, none⟩ x1).setCell ⟨g, 2, none⟩ x2).heap[g]? = some (.cells #[x0, x1, x2, d, e, f, g', h] t (0, 0)) := (blk_set k1 2 x2).trans rfl
  have k3 : ((((w.setCell ⟨g, 0, none⟩ x0).setCell ⟨g, 1, none⟩ x1).setCell ⟨g, 2, none⟩ x2).setCell ⟨g, 3, none⟩ x3).heap[g]? = some (.cells #[x0, x1, x2, x3, e, f, g', h] t (0, 0)) := (blk_set k2 3 x3).trans rfl
  have k4 : (((((w.setCell ⟨g, 0, none⟩ x0).setCell ⟨g, 1, none⟩ x1).setCell ⟨g, 2, none⟩ x2).setCell ⟨g, 3, none⟩ x3).setCell ⟨g, 4, none⟩ x4).heap[g]? = some (.cells #[x0, x1, x2, x3, x4, f, g', h] t (0, 0)) := (blk_set k3 4 x4).trans rfl
  have k5 : ((((((w.setCell ⟨g, 0, none⟩ x0).setCell ⟨g, 1, none⟩ x1).setCell ⟨g, 2, none⟩ x2).setCell ⟨g, 3, none⟩ x3).setCell ⟨g, 4, none⟩ x4).setCell ⟨g, 5, none⟩ x5).heap[g]? = some (.cells #[x0, x1, x2, x3, x4, x5, g', h] t (0, 0)) := (blk_set k4 5 x5).trans rfl
  have k6 : (((((((w.setCell ⟨g, 0, none⟩ x0).setCell ⟨g, 1, none⟩ x1).setCell ⟨g, 2, none⟩ x2).setCell ⟨g, 3, none⟩ x3).setCell ⟨g, 4, none⟩ x4).setCell ⟨g, 5, none⟩ x5).setCell ⟨g, 6, none⟩ x6).heap[g]? = some (.cells #[x0, x1, x2, x3, x4, x5, x6, h] t (0, 0)) := (blk_set k5 6 x6).trans rfl
  have k7 : ((((((((w.setCell ⟨g, 0, none⟩ x0).setCell ⟨g, 1, none⟩ x1).setCell ⟨g, 2, none⟩ x2).setCell ⟨g, 3, none⟩ x3).setCell ⟨g, 4, none⟩ x4).setCell ⟨g, 5, none⟩ x5).setCell ⟨g, 6, none⟩ x6).setCell ⟨g, 7, none⟩ x7).heap[g]? = some (.cells #[x0, x1, x2, x3, x4, x5, x6, x7] t (0, 0)) := (blk_set k6 7 x7).trans rfl
  exact k7
def End8 (w : World) (R g c : Nat) (l r : List Tok) (F : Int × Nat) (t : TypeId) (x0 x1 x2 x3 x4 x5 x6 x7 : Value) (W : World) : Prop :=
  W.heap[w.heap.size]? = some (.cells #[x0, x1, x2, x3, x4, x5, x6, x7] t (0, 0)) ∧ Exc R w.heap.size w W ∧ Rd W R g c l r F
theorem end8 {w W : World} {R g c : Nat} {l r : List Tok} {F : Int × Nat} {t : TypeId} {y0 y1 y2 y3 y4 y5 y6 y7 : Value} (hz : W.heap[w.heap.size]? = some (.cells #[y0, y1, y2, y3, y4, y5, y6, y7] t (0, 0))) (hx : Exc R w.heap.size w W) (hr : Rd W R g c l r F) (hR : R < w.heap.size) (hg : g < w.heap.size) (x0 x1 x2 x3 x4 x5 x6 x7 : Value) :
    End8 w R g c l r F t x0 x1 x2 x3 x4 x5 x6 x7 (set8 W w.heap.size x0 x1 x2 x3 x4 x5 x6 x7) :=
  ⟨blk_set8 hz _ _ _ _ _ _ _ _, hx.set8 (Nat.le_refl _) _ _ _ _ _ _ _ _, hr.other (exc_set8 W w.heap.size x0 x1 x2 x3 x4 x5 x6 x7) (by omega) (by omega)⟩
theorem blk8 {w : World} {g : Nat} {x0 x1 x2 x3 x4 x5 x6 x7 : Value} {t : TypeId} (h : w.heap[g]? = some (.cells #[x0, x1, x2, x3, x4, x5, x6, x7] t (0, 0))) :
    g < w.heap.size ∧ (w.cell? ⟨g, 0, none⟩ = some x0 ∧ w.cell? ⟨g, 1, none⟩ = some x1 ∧ w.cell? ⟨g, 2, none⟩ = some x2 ∧ w.cell? ⟨g, 3, none⟩ = some x3 ∧ w.cell? ⟨g, 4, none⟩ = some x4 ∧ w.cell? ⟨g, 5, none⟩ = some x5 ∧ w.cell? ⟨g, 6, none⟩ = some x6 ∧ w.cell? ⟨g, 7, none⟩ = some x7) ∧
      w.frozen? ⟨g, 0, none⟩ = false ∧ w.frozen? ⟨g, 1, none⟩ = false ∧ w.frozen? ⟨g, 2, none⟩ = false ∧ w.frozen? ⟨g, 3, none⟩ = false ∧ w.frozen? ⟨g, 4, none⟩ = false ∧ w.frozen? ⟨g, 5, none⟩ = false ∧ w.frozen? ⟨g, 6, none⟩ = false ∧ w.frozen? ⟨g, 7, none⟩ = false :=
  ⟨blk_lt h, ⟨(blk_cell h 0).trans rfl, (blk_cell h 1).trans rfl, (blk_cell h 2).trans rfl, (blk_cell h 3).trans rfl, (blk_cell h 4).trans rfl, (blk_cell h 5).trans rfl, (blk_cell h 6).trans rfl, (blk_cell h 7).trans rfl⟩,
    blk_frozen h 0, blk_frozen h 1, blk_frozen h 2, blk_frozen h 3, blk_frozen h 4, blk_frozen h 5, blk_frozen h 6, blk_frozen h 7⟩
theorem Rd.cells3 {w : World} {R g c : Nat} {l r : List Tok} {F : Int × Nat} (h : Rd w R g c l r F) :
    w.cell? ⟨R, 0, none⟩ = some (.slice (some ⟨g, (l.length - r.length) * 3, none⟩) r.length (c - (l.length - r.length))) ∧ w.cell? ⟨R, 1, none⟩ = some (.int .i64 F.1) ∧ w.cell? ⟨R, 2, none⟩ = some (.int .i64 F.2) :=
  ⟨(blk_cell h.blk 0).trans rfl, (blk_cell h.blk 1).trans rfl, (blk_cell h.blk 2).trans rfl⟩
theorem Rd.next {w : World} {R g c : Nat} {l r : List Tok} {F : Int × Nat} (h : Rd w R g c l r F) :
    l.length - r.length < l.length ∧ w.cell? ⟨g, (l.length - r.length) * 3, none⟩ = some (.int .i64 (hd r).kind) ∧ w.cell? ⟨g, (l.length - r.length) * 3 + 1, none⟩ = some (.string (strOfNums (hd r).text)) ∧ w.cell? ⟨g, (l.length - r.length) * 3 + 2, none⟩ = some (.int .i64 (hd r).place) :=
  tok_cell h.cells h.glt (Below.refl _ _) _ _ _ (h.suf.trans h.ends.cons)
theorem Rd.mem {w : World} {R g c : Nat} {l r : List Tok} {F : Int × Nat} (h : Rd w R g c l r F) : hd r ∈ l := by
  have h1 : ∀ q : List Tok, Ends q → hd q ∈ q := fun q hq => by
    cases q with
    | nil => exact hq.elim
    | cons t q => exact List.mem_cons_self
  have h2 := h1 r h.ends
  have h3 : ∀ x, x ∈ r → x ∈ l := fun x hx => List.mem_of_mem_drop (h.suf ▸ hx)
  exact h3 _ h2
def tokV (t : Tok) : Value := .agg #[.int .i64 t.kind, .string (strOfNums t.text), .int .i64 t.place]
theorem fld0 : ∀ (k : Int) (S : ByteArray) (p : Int) (W : World), (Instr.field 282 (.agg #[.int .i64 k, .string S, .int .i64 p]) 0).run Tryz.prog W = .ok (.int .i64 k) W := fun _ _ _ _ => by kernel_rfl
theorem fld1 : ∀ (k : Int) (S : ByteArray) (p : Int) (W : World), (Instr.field 282 (.agg #[.int .i64 k, .string S, .int .i64 p]) 1).run Tryz.prog W = .ok (.string S) W := fun _ _ _ _ => by kernel_rfl
theorem fld2 : ∀ (k : Int) (S : ByteArray) (p : Int) (W : World), (Instr.field 282 (.agg #[.int .i64 k, .string S, .int .i64 p]) 2).run Tryz.prog W = .ok (.int .i64 p) W := fun _ _ _ _ => by kernel_rfl
theorem here_any (w : World) (R g c : Nat) (l r : List Tok) (F : Int × Nat) (h : Rd w R g c l r F) :
    Calls Tryz.prog 203 #[.pointer (some ⟨R, 0, none⟩)] w fun e w' => e = .returned (tokV (hd r)) ∧ Below w.heap.size w w' := by
  obtain ⟨r0, r1, r2⟩ := h.cells3
  obtain ⟨hk, x0, x1, x2⟩ := h.next
  have hg := h.glt
  have hR := blk_lt h.blk
  have h0 : 0 < r.length := by rw [h.ends.len]; omega
  clear h r1 r2
  generalize l.length - r.length = j at *
  unfold tokV
  generalize hd r = t at *
  go_enter Tryz.func203, Tryz.ntmps203
  go_wp2
  exact bodyPost_ret (v := .agg #[.int .i64 t.kind, .string (strOfNums t.text), .int .i64 t.place]) (by simp [results, Tryz.results203, go_sem]) rfl ⟨rfl, (Below.refl _ _).alloc (Nat.le_refl _) _⟩
theorem Rd.taken {w W : World} {R g c : Nat} {l r : List Tok} {F : Int × Nat} (h : Rd w R g c l r F) (h0 : (hd r).kind ≠ 0) (hb : Exc R w.heap.size w W)
    (hblk : W.heap[R]? = some (.cells #[.slice (some ⟨g, (l.length - r.length) * 3 + 3, none⟩) (r.length - 1) (c - (l.length - r.length) - 1), .int .i64 F.1, .int .i64 F.2] 237 (0, 0))) : Rd W R g c l r.tail F := by
  have hl := h.ends.len
  have hl2 := h.len
  have e : l.length - r.tail.length = l.length - r.length + 1 := by omega
  refine ⟨?_, ?_, by omega, Nat.lt_of_lt_of_le h.glt hb.size, h.gne, fun k hk => (hb.cell (p := ⟨g, k, none⟩) h.glt h.gne).trans (h.cells k hk), h.cap, h.ends.tail h0, h.byt⟩
  · rw [hblk, e, show (l.length - r.length + 1) * 3 = (l.length - r.length) * 3 + 3 by omega, show r.tail.length = r.length - 1 by omega, show c - (l.length - r.length + 1) = c - (l.length - r.length) - 1 by omega]
  · rw [e, ← List.drop_drop, h.suf]
    cases r with
    | nil => exact h.ends.elim
    | cons t q => rfl
theorem Rd.faulted {w W : World} {R g c : Nat} {l r : List Tok} {F F' : Int × Nat} (h : Rd w R g c l r F) (hb : Exc R w.heap.size w W)
    (hblk : W.heap[R]? = some (.cells #[.slice (some ⟨g, (l.length - r.length) * 3, none⟩) r.length (c - (l.length - r.length)), .int .i64 F'.1, .int .i64 F'.2] 237 (0, 0))) : Rd W R g c l r F' :=
  ⟨hblk, h.suf, h.len, Nat.lt_of_lt_of_le h.glt hb.size, h.gne, fun k hk => (hb.cell (p := ⟨g, k, none⟩) h.glt h.gne).trans (h.cells k hk), h.cap, h.ends, h.byt⟩
theorem take_any (w : World) (R g c : Nat) (l r : List Tok) (F : Int × Nat) (h : Rd w R g c l r F) (h0 : (hd r).kind ≠ 0) :
    Calls Tryz.prog 246 #[.pointer (some ⟨R, 0, none⟩)] w fun e w' => e = .returned (tokV (hd r)) ∧ Rd w' R g c l r.tail F ∧ Exc R w.heap.size w w' := by
  have HD := Lib.hid h
  have HH := Lib.hid (here_any _ R g c l r F (h.alloc (.cells #[.int .i64 0, .string ByteArray.empty, .int .i64 0] 282)))
  have HB0 := Lib.hid (heap_alloc_new w (.cells #[.int .i64 0, .string ByteArray.empty, .int .i64 0] 282))
  have h2 := h.ends.two h0
  have hlen := h.len
  have hR := blk_lt h.blk
  have t0 : ((hd r).kind != 0) = true := by simp [h0]
  have HZ := Lib.hid h0
  have hcap := h.cap
  unfold maxLen at hcap
  clear h h0
  unfold tokV at HH ⊢
  go_enter Tryz.func246, Tryz.ntmps246
  go_wp2_with fail
  refine HH.out.mono ?_
  rintro e W1 ⟨rfl, hb1⟩
  have HB1 := Lib.hid (((Below.refl _ _).alloc (Nat.le_refl _) _).trans (hb1.mono (by simp)))
  have HD1 := Lib.hid (HD.out.keep HB1.out)
  obtain ⟨hR1, r0, r1, r2, q0, q1, q2⟩ := blk3 HD1.out.blk
  have HZ1 := Lib.hid (blk_below HB0.out hb1 (by simp))
  obtain ⟨hz, z0, z1, z2, y0, y1, y2⟩ := blk3 HZ1.out
  clear hb1 r1 r2 q1 q2
  have hj : l.length - r.length + r.length = l.length := by omega
  generalize hj0 : l.length - r.length = j at *
  have HJ := Lib.hid hj0
  clear hj0
  go_wp2
  refine post_gen (fun Wf => Wf.heap[w.heap.size]? = some (.cells #[.int .i64 (hd r).kind, .string (strOfNums (hd r).text), .int .i64 (hd r).place] 282 (0, 0)) ∧ Exc R w.heap.size w Wf ∧ Wf.heap[R]? = some (.cells #[.slice (some ⟨g, j * 3 + 3, none⟩) (r.length - 1) (c - j - 1), .int .i64 F.1, .int .i64 F.2] 237 (0, 0))) ⟨?_, ?_, ?_⟩ ?_
  · exact blk_alloc (blk_set3 (blk_set_ne HZ1.out (by simp only; omega) _) _ _ _) _
  · exact (((((Exc.of_below (R := R) HB1.out).setCell (p := ⟨R, 0, none⟩) (.inl rfl) _).setCell (.inr (Nat.le_refl _)) _).setCell (.inr (Nat.le_refl _)) _).setCell (.inr (Nat.le_refl _)) _).alloc (by simp [World.setCell]; omega) _
  · refine blk_alloc (blk_set_ne (blk_set_ne (blk_set_ne ((blk_set HD1.out.blk 0 _).trans ?_) (by simp only; omega) _) (by simp only; omega) _) (by simp only; omega) _) _
    rfl
  · rintro Wf ⟨f1, f2, f3⟩
    obtain ⟨_, c0, c1, c2, _⟩ := blk3 f1
    exact bodyPost_ret (v := .agg #[.int .i64 (hd r).kind, .string (strOfNums (hd r).text), .int .i64 (hd r).place]) (by simp [results, Tryz.results246, go_sem, c0, c1, c2]) rfl ⟨rfl, HD.out.taken HZ.out f2 (by rw [HJ.out]; exact f3), f2⟩
set_option maxRecDepth 10000 in
theorem refuse_any (w : World) (R g c : Nat) (l r : List Tok) (F : Int × Nat) (code : Int) (h : Rd w R g c l r F) :
    Calls Tryz.prog 209 #[.pointer (some ⟨R, 0, none⟩), .int .i64 code] w fun e w' => e = .returned (.bool false) ∧ Rd w' R g c l r (code, (hd r).place) ∧ Exc R w.heap.size w w' := by
  have HH := Lib.hid (here_any w R g c l r F h)
  have HD := Lib.hid h
  clear h
  unfold tokV at HH
  go_enter Tryz.func209, Tryz.ntmps209
  go_wp2_with fail
  refine HH.out.mono ?_
  rintro e W1 ⟨rfl, hb1⟩
  have HB1 := Lib.hid hb1
  have HD1 := Lib.hid (HD.out.keep hb1)
  obtain ⟨hR1, r0, r1, r2, q0, q1, q2⟩ := blk3 HD1.out.blk
  have HB1' := Lib.hid hb1
  obtain ⟨f1, f2⟩ := F
  have hf := fld2
  clear hb1 r0 q0
  go_wp2
  refine post_gen (fun Wf => Exc R w.heap.size w Wf ∧ Wf.heap[R]? = some (.cells #[.slice (some ⟨g, (l.length - r.length) * 3, none⟩) r.length (c - (l.length - r.length)), .int .i64 code, .int .i64 (hd r).place] 237 (0, 0))) ⟨?_, ?_⟩ ?_
  · exact ((Exc.of_below (R := R) HB1.out).setCell (p := ⟨R, 1, none⟩) (.inl rfl) _).setCell (p := ⟨R, 2, none⟩) (.inl rfl) _
  · exact (blk_set (blk_set HD1.out.blk 1 _) 2 _).trans rfl
  · rintro Wf ⟨e1, e2⟩
    go_ret
    exact ⟨rfl, HD.out.faulted e1 e2, e1⟩
theorem str_eq (x : List Int) (S : ByteArray) (hx : ∀ z ∈ x, 0 ≤ z ∧ z ≤ 255) : ((strOfNums x).toList == S.toList) = decide (x = bts S) := by
  rw [ByteArray.toList_eq, ByteArray.toList_eq, strOfNums_data]
  rw [Bool.eq_iff_iff, beq_iff_eq, decide_eq_true_iff]
  unfold bts
  constructor
  · intro h
    rw [← h, List.map_map]
    conv => lhs; rw [← List.map_id x]
    refine List.map_congr_left fun z hz => ?_
    have := hx z hz
    simp only [id, Function.comp, UInt8.toNat_ofNat']
    omega
  · rintro rfl
    rw [List.map_map]
    conv => rhs; rw [← List.map_id S.data.toList]
    refine List.map_congr_left fun z _ => ?_
    simp
theorem rdStands_any (w : World) (R g c : Nat) (l r : List Tok) (F : Int × Nat) (k : Int) (S : ByteArray) (s : List Int) (hs : bts S = s) (h : Rd w R g c l r F) :
    Calls Tryz.prog 158 #[.pointer (some ⟨R, 0, none⟩), .int .i64 k, .string S] w fun e w' => e = .returned (.bool (isT k s r)) ∧ Below w.heap.size w w' := by
  have HH := Lib.hid (here_any w R g c l r F h)
  have HD := Lib.hid h
  have HS := Lib.hid hs
  clear h hs
  unfold tokV at HH
  go_enter Tryz.func158, Tryz.ntmps158
  go_wp2_with fail
  refine HH.out.mono ?_
  rintro e W1 ⟨rfl, hb1⟩
  have HB1 := Lib.hid hb1
  clear hb1
  have HX := Lib.hid (HD.out.byt _ HD.out.mem)
  have HI := Lib.hid (str_eq (hd r).text S HX.out)
  go_wp2
  · rename_i hk
    go_ret
    refine ⟨ret_bool ?_, HB1.out.alloc HB1.out.size _⟩
    unfold isT
    rw [HI.out, HS.out, decide_eq_true hk, Bool.true_and]
  · rename_i hk
    go_ret
    refine ⟨ret_bool ?_, HB1.out.alloc HB1.out.size _⟩
    unfold isT
    rw [decide_eq_false hk, Bool.false_and]
end Go.Proofs.YtgbcchiheddfpaaGreatDoor
namespace Go.Proofs.YtgbcchiheddfpaaGreatDoor
open Go.ChangeShapes Go.WideShapes Go.ChangeAt Go.RowKit Go.Shelf

def Says {α : Type} (x : Res α) (a : α) (r : List Tok) (F : Int × Nat) (ok : Bool) : Prop :=
  match x with
  | .ok a' r' => ok = true ∧ a = a' ∧ r = r' ∧ F = (0, 0)
  | .no c p => ok = false ∧ F = (c, p)
def PostR {α : Type} (enc : α → Value) (R g c : Nat) (l : List Tok) (w : World) (x : Res α) (e : Ending) (w' : World) : Prop :=
  ∃ a r F ok, e = .returned (.tuple #[enc a, .bool ok]) ∧ Rd w' R g c l r F ∧ Exc R w.heap.size w w' ∧ Says x a r F ok
def PostB (R g c : Nat) (l : List Tok) (w : World) (x : Res Unit) (e : Ending) (w' : World) : Prop :=
  ∃ r F ok, e = .returned (.bool ok) ∧ Rd w' R g c l r F ∧ Exc R w.heap.size w w' ∧ Says x () r F ok
theorem skip_any (w : World) (R g c : Nat) (l r : List Tok) (F : Int × Nat) (k : Int) (S : ByteArray) (s : List Int) (hs : bts S = s) (hk : k ≠ 0) (h : Rd w R g c l r F) :
    Calls Tryz.prog 233 #[.pointer (some ⟨R, 0, none⟩), .int .i64 k, .string S] w fun e w' => e = .returned (.bool (isT k s r)) ∧ Rd w' R g c l (if isT k s r = true then r.tail else r) F ∧ Exc R w.heap.size w w' := by
  have HS := Lib.hid (rdStands_any w R g c l r F k S s hs h)
  have HD := Lib.hid h
  clear hs h
  obtain ⟨b, hb⟩ : ∃ b, isT k s r = b := ⟨_, rfl⟩
  rw [hb] at HS ⊢
  cases b
  · clear hb
    rw [if_neg (by decide)]
    go_enter Tryz.func233, Tryz.ntmps233
    go_wp2_with fail
    refine HS.out.mono ?_
    rintro e W1 ⟨rfl, hb1⟩
    have HB1 := Lib.hid hb1
    clear hb1
    go_wp2
    go_ret
    exact ⟨rfl, HD.out.keep HB1.out, .of_below HB1.out⟩
  · have HK := Lib.hid (show (hd r).kind ≠ 0 by rw [(isT_kind hb).1]; exact hk)
    clear hb
    rw [if_pos rfl]
    go_enter Tryz.func233, Tryz.ntmps233
    go_wp2_with fail
    refine HS.out.mono ?_
    rintro e W1 ⟨rfl, hb1⟩
    have HB1 := Lib.hid hb1
    have HT := Lib.hid (take_any W1 R g c l r F (HD.out.keep hb1) HK.out)
    clear hb1
    go_wp2_with fail
    refine HT.out.mono ?_
    rintro e W2 ⟨rfl, hr2, hx2⟩
    have HR2 := Lib.hid hr2
    have HX2 := Lib.hid hx2
    clear hr2 hx2
    go_wp2
    go_ret
    exact ⟨rfl, HR2.out, (Exc.of_below HB1.out).then HX2.out⟩
theorem sign_any (w : World) (R g c : Nat) (l r : List Tok) (F : Int × Nat) (S : ByteArray) (s : List Int) (hs : bts S = s) (h : Rd w R g c l r F) :
    Calls Tryz.prog 239 #[.pointer (some ⟨R, 0, none⟩), .string S] w fun e w' => e = .returned (.bool (isT 4 s r)) ∧ Rd w' R g c l (if isT 4 s r = true then r.tail else r) F ∧ Exc R w.heap.size w w' := by
  have HS := Lib.hid (skip_any w R g c l r F 4 S s hs (by decide) h)
  clear hs h
  generalize isT 4 s r = b at *
  obtain ⟨q, hq⟩ : ∃ q, (if b = true then r.tail else r) = q := ⟨_, rfl⟩
  rw [hq] at HS ⊢
  clear hq
  go_enter Tryz.func239, Tryz.ntmps239
  go_wp2_with fail
  refine HS.out.mono ?_
  rintro e W1 ⟨rfl, hr, hx⟩
  have HR := Lib.hid hr
  have HX := Lib.hid hx
  clear hr hx
  go_wp2
  go_ret
  exact ⟨rfl, HR.out, HX.out⟩
theorem word_any (w : World) (R g c : Nat) (l r : List Tok) (F : Int × Nat) (S : ByteArray) (s : List Int) (hs : bts S = s) (h : Rd w R g c l r F) :
    Calls Tryz.prog 204 #[.pointer (some ⟨R, 0, none⟩), .string S] w fun e w' => e = .returned (.bool (isT 1 s r)) ∧ Rd w' R g c l (if isT 1 s r = true then r.tail else r) F ∧ Exc R w.heap.size w w' := by
  have HS := Lib.hid (skip_any w R g c l r F 1 S s hs (by decide) h)
  clear hs h
  generalize isT 1 s r = b at *
  obtain ⟨q, hq⟩ : ∃ q, (if b = true then r.tail else r) = q := ⟨_, rfl⟩
  rw [hq] at HS ⊢
  clear hq
  go_enter Tryz.func204, Tryz.ntmps204
  go_wp2_with fail
  refine HS.out.mono ?_
  rintro e W1 ⟨rfl, hr, hx⟩
  have HR := Lib.hid hr
  have HX := Lib.hid hx
  clear hr hx
  go_wp2
  go_ret
  exact ⟨rfl, HR.out, HX.out⟩
theorem want_any (w : World) (R g c : Nat) (l r : List Tok) (S : ByteArray) (s : List Int) (hs : bts S = s) (h : Rd w R g c l r (0, 0)) :
    Calls Tryz.prog 208 #[.pointer (some ⟨R, 0, none⟩), .string S] w (PostB R g c l w (wantR s r)) := by
  have HS := Lib.hid (sign_any w R g c l r (0, 0) S s hs h)
  clear hs h
  unfold wantR
  generalize isT 4 s r = b at *
  cases b
  · rw [if_neg (by decide)] at HS ⊢
    unfold bad
    go_enter Tryz.func208, Tryz.ntmps208
    go_wp2_with fail
    refine HS.out.mono ?_
    rintro e W1 ⟨rfl, hr, hx⟩
    have HR := Lib.hid (refuse_any W1 R g c l r (0, 0) 11 hr)
    have HX := Lib.hid hx
    clear hr hx
    go_wp2_with fail
    refine HR.out.mono ?_
    rintro e W2 ⟨rfl, hr, hx⟩
    have HR2 := Lib.hid hr
    have HX2 := Lib.hid hx
    clear hr hx
    go_wp2
    go_ret
    exact ⟨r, _, false, rfl, HR2.out, HX.out.then HX2.out, rfl, rfl⟩
  · rw [if_pos rfl] at HS ⊢
    go_enter Tryz.func208, Tryz.ntmps208
    go_wp2_with fail
    refine HS.out.mono ?_
    rintro e W1 ⟨rfl, hr, hx⟩
    have HR := Lib.hid hr
    have HX := Lib.hid hx
    clear hr hx
    go_wp2
    go_ret
    exact ⟨r.tail, _, true, rfl, HR.out, HX.out, rfl, rfl, rfl, rfl⟩
theorem sized_small (w : World) (R g c : Nat) (l r : List Tok) (h : Rd w R g c l r (0, 0)) (t12 : (((strOfNums (hd r).text).size : Int) == 0) = true ∨ ((((strOfNums (hd r).text).size : Int) == 0) = false ∧ decide ((40 : Int) < ((strOfNums (hd r).text).size : Int)) = true)) :
    Calls Tryz.prog 238 #[.pointer (some ⟨R, 0, none⟩)] w (PostR tokV R g c l w (bad 12 r)) := by
  have HB0 := Lib.hid (heap_alloc_new w (.cells #[.int .i64 0, .string ByteArray.empty, .int .i64 0] 282))
  have hbA : Below w.heap.size w (w.alloc (.cells #[.int .i64 0, .string ByteArray.empty, .int .i64 0] 282)) := (Below.refl _ _).alloc (Nat.le_refl _) _
  have HBA := Lib.hid hbA
  have HD := Lib.hid (h.keep hbA)
  have HH := Lib.hid (here_any _ R g c l r (0, 0) HD.out)
  have hR := blk_lt h.blk
  have hg := h.glt
  have hf := fld1
  clear h hbA
  unfold tokV at HH
  unfold bad
  rcases t12 with t1 | ⟨t1, t2⟩
  all_goals
    go_enter Tryz.func238, Tryz.ntmps238
    go_wp2_with fail
    refine HH.out.mono ?_
    rintro e W1 ⟨rfl, hb1⟩
    have HB1 := Lib.hid (HBA.out.trans (hb1.mono HBA.out.size))
    have HT := Lib.hid (refuse_any W1 R g c l r (0, 0) 12 (HD.out.keep hb1))
    have HZ1 := Lib.hid (blk_below HB0.out hb1 (by simp))
    clear hb1
    go_wp2_with fail
    refine HT.out.mono ?_
    rintro e W2 ⟨rfl, hr2, hx2⟩
    have HR2 := Lib.hid hr2
    have HX2 := Lib.hid ((Exc.of_below HB1.out).then hx2)
    have HZ2 := Lib.hid (blk_exc HZ1.out hx2 (blk_lt HZ1.out) (by omega))
    obtain ⟨hz, z0, z1, z2, y0, y1, y2⟩ := blk3 HZ2.out
    clear hr2 hx2
    go_wp2
    refine post_gen (fun Wf => Wf.heap[w.heap.size]? = some (.cells #[.int .i64 0, .string ByteArray.empty, .int .i64 0] 282 (0, 0)) ∧ Exc R w.heap.size w Wf ∧ Rd Wf R g c l r (12, (hd r).place)) ⟨?_, ?_, ?_⟩ ?_
    · exact blk_set3 HZ2.out _ _ _
    · exact HX2.out.set3 (Nat.le_refl _) _ _ _
    · exact HR2.out.set3 (by omega) (by omega) _ _ _
    · rintro Wf ⟨f1, f2, f3⟩
      obtain ⟨_, c0, c1, c2, _⟩ := blk3 f1
      exact bodyPost_ret (v := .tuple #[.agg #[.int .i64 0, .string ByteArray.empty, .int .i64 0], .bool false]) (by simp [results, Tryz.results238, go_sem, c0, c1, c2]) rfl ⟨noTok, r, _, false, rfl, f3, f2, rfl, rfl⟩
theorem sized_fits (w : World) (R g c : Nat) (l r : List Tok) (h : Rd w R g c l r (0, 0)) (h0 : (hd r).kind ≠ 0) (t1 : (((strOfNums (hd r).text).size : Int) == 0) = false) (t2 : decide ((40 : Int) < ((strOfNums (hd r).text).size : Int)) = false) :
    Calls Tryz.prog 238 #[.pointer (some ⟨R, 0, none⟩)] w (PostR tokV R g c l w (.ok (hd r) r.tail)) := by
  have HB0 := Lib.hid (heap_alloc_new w (.cells #[.int .i64 0, .string ByteArray.empty, .int .i64 0] 282))
  have hbA : Below w.heap.size w (w.alloc (.cells #[.int .i64 0, .string ByteArray.empty, .int .i64 0] 282)) := (Below.refl _ _).alloc (Nat.le_refl _) _
  have HBA := Lib.hid hbA
  have HD := Lib.hid (h.keep hbA)
  have HH := Lib.hid (here_any _ R g c l r (0, 0) HD.out)
  have hR := blk_lt h.blk
  have hg := h.glt
  have HZ := Lib.hid h0
  have hf := fld1
  clear h h0 hbA
  unfold tokV at HH
  go_enter Tryz.func238, Tryz.ntmps238
  go_wp2_with fail
  refine HH.out.mono ?_
  rintro e W1 ⟨rfl, hb1⟩
  have HB1 := Lib.hid (HBA.out.trans (hb1.mono HBA.out.size))
  have HT := Lib.hid (take_any W1 R g c l r (0, 0) (HD.out.keep hb1) HZ.out)
  have HZ1 := Lib.hid (blk_below HB0.out hb1 (by simp))
  clear hb1
  unfold tokV at HT
  go_wp2_with fail
  refine HT.out.mono ?_
  rintro e W2 ⟨rfl, hr2, hx2⟩
  have HR2 := Lib.hid hr2
  have HX2 := Lib.hid ((Exc.of_below HB1.out).then hx2)
  have HZ2 := Lib.hid (blk_exc HZ1.out hx2 (blk_lt HZ1.out) (by omega))
  obtain ⟨hz, z0, z1, z2, y0, y1, y2⟩ := blk3 HZ2.out
  clear hr2 hx2
  go_wp2
  refine post_gen (fun Wf => Wf.heap[w.heap.size]? = some (.cells #[.int .i64 (hd r).kind, .string (strOfNums (hd r).text), .int .i64 (hd r).place] 282 (0, 0)) ∧ Exc R w.heap.size w Wf ∧ Rd Wf R g c l r.tail (0, 0)) ⟨?_, ?_, ?_⟩ ?_
  · exact blk_set3 HZ2.out _ _ _
  · exact HX2.out.set3 (Nat.le_refl _) _ _ _
  · exact HR2.out.set3 (by omega) (by omega) _ _ _
  · rintro Wf ⟨f1, f2, f3⟩
    obtain ⟨_, c0, c1, c2, _⟩ := blk3 f1
    exact bodyPost_ret (v := .tuple #[.agg #[.int .i64 (hd r).kind, .string (strOfNums (hd r).text), .int .i64 (hd r).place], .bool true]) (by simp [results, Tryz.results238, go_sem, c0, c1, c2]) rfl ⟨hd r, r.tail, _, true, rfl, f3, f2, rfl, rfl, rfl, rfl⟩
theorem sized_any (w : World) (R g c : Nat) (l r : List Tok) (h : Rd w R g c l r (0, 0)) (h0 : (hd r).kind ≠ 0) :
    Calls Tryz.prog 238 #[.pointer (some ⟨R, 0, none⟩)] w (PostR tokV R g c l w (sizedR r)) := by
  have hsz : (strOfNums (hd r).text).size = (hd r).text.length := strOfNums_size _
  by_cases hn : (hd r).text.length = 0 ∨ 40 < (hd r).text.length
  · rw [show sizedR r = bad 12 r from if_pos hn]
    refine sized_small w R g c l r h ?_
    rw [hsz]
    rcases Nat.eq_zero_or_pos (hd r).text.length with h | h
    · left; rw [h]; rfl
    · right
      exact ⟨by simp; intro h'; rw [h'] at h; simp at h, decide_eq_true (by omega)⟩
  · rw [show sizedR r = .ok (hd r) r.tail from if_neg hn]
    have n1 : ¬ (hd r).text.length = 0 := fun h => hn (.inl h)
    have n2 : ¬ 40 < (hd r).text.length := fun h => hn (.inr h)
    refine sized_fits w R g c l r h h0 ?_ ?_
    · rw [hsz]; simp; intro h; rw [h] at n1; exact n1 rfl
    · rw [hsz]; exact decide_eq_false (by omega)
end Go.Proofs.YtgbcchiheddfpaaGreatDoor
