/-
  LayoutApart's closure, a field: what is taken of the four rows stays apart. Conditions: those that each theorem names.
-/
import Derived.Test.YtdlfndjgncdgfaaDoorApStart
import Derived.Test.YtdlfndjgncdgfaaDoorApNum
import Derived.Test.YtdlfndjgncdgfaaDoorApPtr
import Derived.Test.YtdlfndjgncdgfaaDoorApThere
import Derived.Test.YtdlfndjgncdgfaaDoorApNot
import Derived.Test.YtdlfndjgncdgfaaDoorLayTabled
import Derived.Test.YtdlfndjgncdgfaaDoorMadeK
namespace Go.Proofs.YtdlfndjgncdgfaaDoor
open Go.ChangeShapes Go.WideShapes Go.ChangeAt Go.RowKit Go.Shelf

/-- What doesn't change while the fields are gone through. -/
structure ApCtx (w9 : World) (fs : List SFld) (th : List Bool) (X Y Z xg xc yg yc zg zc tg tc : Nat) : Prop where
  n16 : fs.length ≤ 16
  kinds : ∀ f ∈ fs, 1 ≤ f.kind ∧ f.kind ≤ 13
  thl : th.length = fs.length
  x : ∃ a b, w9.heap[X]? = some (.cells #[a, b, .slice (some ⟨xg, 0, none⟩) fs.length xc] 38 (0, 0))
  y : ∃ a b c, w9.heap[Y]? = some (.cells #[a, .slice (some ⟨yg, 0, none⟩) fs.length yc, b, c] 41 (0, 0))
  z : ∃ a b, w9.heap[Z]? = some (.cells #[.slice (some ⟨zg, 0, none⟩) fs.length zc, a, b] 45 (0, 0))
  xr : ∃ b, w9.ownsRow b 3 1 (.slice (some ⟨xg, 0, none⟩) fs.length xc) (atP fs).length (i64Cells (atP fs))
  yr : ∃ b, w9.ownsRow b 3 1 (.slice (some ⟨yg, 0, none⟩) fs.length yc) (rowUp fs fs.length).pl.length (i64Cells (rowUp fs fs.length).pl)
  zr : ∃ b, w9.ownsRow b 3 1 (.slice (some ⟨zg, 0, none⟩) fs.length zc) (tabAll fs th 4).pl.length (i64Cells (tabAll fs th 4).pl)
  tr : ∃ b, w9.ownsRow b 4 1 (.slice (some ⟨tg, 0, none⟩) fs.length tc) th.length (boolCells th)
/-- Where the four rows are: of the numbers and pointers so many fields are taken, of the table so many. -/
structure ApSt (w9 : World) (fs : List SFld) (th : List Bool) (gb gy gr gp nb ny nr np k j : Nat) (w : World) (lb ly lr lp : List Bool) : Prop where
  below : Below w9.heap.size w9 w
  b : w.ownsRow w9.heap.size 4 1 (.slice (some ⟨gb, 0, none⟩) nb nb) lb.length (boolCells lb)
  y : w.ownsRow w9.heap.size 4 1 (.slice (some ⟨gy, 0, none⟩) ny ny) ly.length (boolCells ly)
  r : w.ownsRow w9.heap.size 4 1 (.slice (some ⟨gr, 0, none⟩) nr nr) lr.length (boolCells lr)
  p : w.ownsRow w9.heap.size 4 1 (.slice (some ⟨gp, 0, none⟩) np np) lp.length (boolCells lp)
  bl : lb.length = nb
  yl : ly.length = ny
  rl : lr.length = nr
  pl : lp.length = np
  mb : Marked lb (atP fs) (fwAt fs) (fun i => i < k ∧ numF (fldAt fs i))
  my : Marked ly (tabAll fs th 4).pl (ksAt fs) (fun i => i < j ∧ thAt th i)
  mr : Marked lr (rowUp fs fs.length).pl (ksAt fs) (fun i => i < k ∧ numF (fldAt fs i))
  mp : Marked lp (atP fs) (fun _ => 1) (fun i => i < k ∧ ¬ numF (fldAt fs i))
/-- The four rows lie apart, and are as long as what is put there. -/
structure ApDim (fs : List SFld) (th : List Bool) (gb gy gr gp nb ny nr np : Nat) : Prop where
  apart : gb ≠ gy ∧ gb ≠ gr ∧ gb ≠ gp ∧ gy ≠ gr ∧ gy ≠ gp ∧ gr ≠ gp
  eb : 64 * wordsP fs = (nb : Int)
  ey : (tabAll fs th 4).size = (ny : Int)
  er : (rowUp fs fs.length).size = (nr : Int)
  ep : ptrsP fs = (np : Int)
  small : nb ≤ 1000000 ∧ ny ≤ 1000000 ∧ nr ≤ 1000000 ∧ np ≤ 1000000
theorem ApSt.drew {w9 : World} {fs : List SFld} {th : List Bool} {gb gy gr gp nb ny nr np k j : Nat} {w : World} {lb ly lr lp : List Bool} (h : ApSt w9 fs th gb gy gr gp nb ny nr np k j w lb ly lr lp) : ApSt w9 fs th gb gy gr gp nb ny nr np k j w.drew lb ly lr lp :=
  ⟨h.below.drew, h.b, h.y, h.r, h.p, h.bl, h.yl, h.rl, h.pl, h.mb, h.my, h.mr, h.mp⟩
theorem ApSt.step {w9 : World} {fs : List SFld} {th : List Bool} {gb gy gr gp nb ny nr np k j : Nat} {w w' : World} {lb ly lr lp : List Bool} (h : ApSt w9 fs th gb gy gr gp nb ny nr np k j w lb ly lr lp) (hb : Below w.heap.size w w') : ApSt w9 fs th gb gy gr gp nb ny nr np k j w' lb ly lr lp :=
  ⟨h.below.trans (hb.mono h.below.size), row_keep hb h.b, row_keep hb h.y, row_keep hb h.r, row_keep hb h.p, h.bl, h.yl, h.rl, h.pl, h.mb, h.my, h.mr, h.mp⟩
theorem below_row {B : Nat} {w0 w w' : World} {base n : Nat} {e : TypeId} {s : Nat} {v : Value} {xs : List Value} (h : Below B w0 w) (hB : B ≤ w.heap.size) (hr : w.ownsRow base e s v n xs) (hb : B ≤ base) (hg : w.grownBy w' v.ownBlock) : Below B w0 w' :=
  h.grown hg hB (fun k hk => Nat.le_trans hb (hr.lt k hk).1)
theorem blk_grown {w w' : World} {g : Nat} {o : Obj} {row : Option Nat} (h : w.heap[g]? = some o) (hg : w.grownBy w' row) (hne : row ≠ some g) : w'.heap[g]? = some o :=
  (hg.block g (blk_lt h) (fun e => hne e.symm)).trans h
theorem ints_at {w : World} {b xg n xc : Nat} {l : List Int} (h : w.ownsRow b 3 1 (.slice (some ⟨xg, 0, none⟩) n xc) l.length (i64Cells l)) (k : Nat) (hk : k < l.length) : w.cell? ⟨xg, k, none⟩ = some (.int .i64 (l.getD k 0)) := by
  obtain ⟨g, c, hv, _, _, hc⟩ := row_i64 h k hk
  injection hv with hv
  injection hv with hv
  injection hv with hv
  subst hv
  rw [hc, List.getD, List.getElem?_eq_getElem hk, Option.getD_some]
theorem bools_at {w : World} {b xg n xc : Nat} {l : List Bool} (h : w.ownsRow b 4 1 (.slice (some ⟨xg, 0, none⟩) n xc) l.length (boolCells l)) (k : Nat) (hk : k < l.length) : w.cell? ⟨xg, k, none⟩ = some (.bool (l.getD k false)) := by
  obtain ⟨g, c, hv, _, _, hc⟩ := row_bool h k hk
  injection hv with hv
  injection hv with hv
  injection hv with hv
  subst hv
  rw [hc, List.getD, List.getElem?_eq_getElem hk, Option.getD_some]
section
variable {K : Act → World → Prop} {Q : Exit → Act → World → Prop} {c : Act} {w w9 : World} {fs : List SFld} {th : List Bool} {X Y Z F xg xc yg yc zg zc tg tc gb gy gr gp nb ny nr np k j : Nat} {fv : Value} {lb ly lr lp : List Bool} {fn : ByteArray} {fk fr fl fd : Nat} {num : Bool} {bits : Int}
/-- What the field's own block holds. -/
def FAt (F : Nat) (fn : ByteArray) (fk fr fl fd : Nat) (w : World) : Prop := w.heap[F]? = some (.cells #[.string fn, .int .u8 fk, .int .i64 fr, .int .i64 fl, .int .u64 fd] 53 (0, 0))
theorem ap_take16 (hx : ApCtx w9 fs th X Y Z xg xc yg yc zg zc tg tc) (hd : ApDim fs th gb gy gr gp nb ny nr np) (hk : k < fs.length) (hf : fldAt fs k = ⟨fn, fk, fr, fl, fd⟩) (hnum : isNumP fk fl = num) (hbits : bits = bitsK fk)
    (hc : ApC X Y Z (.slice (some ⟨tg, 0, none⟩) fs.length tc) (.slice (some ⟨gb, 0, none⟩) nb nb) (.slice (some ⟨gy, 0, none⟩) ny ny) (.slice (some ⟨gr, 0, none⟩) nr nr) (.slice (some ⟨gp, 0, none⟩) np np) fv fs.length k F bits num c)
    (hs : ApSt w9 fs th gb gy gr gp nb ny nr np k j w lb ly lr lp) (hF : FAt F fn fk fr fl fd w)
    (hK : ∀ c' w' lb' lr' lp', ApC1 X Y Z (.slice (some ⟨tg, 0, none⟩) fs.length tc) (.slice (some ⟨gb, 0, none⟩) nb nb) (.slice (some ⟨gy, 0, none⟩) ny ny) (.slice (some ⟨gr, 0, none⟩) nr nr) (.slice (some ⟨gp, 0, none⟩) np np) fv fs.length k F bits num c' →
      ApSt w9 fs th gb gy gr gp nb ny nr np (k + 1) j w' lb' ly lr' lp' → FAt F fn fk fr fl fd w' → K c' w') :
    Code.wp Tryd.prog (apReg 16) (Exit.then K Q) c w := by
  obtain ⟨ax, bx, x9⟩ := hx.x
  obtain ⟨ay, by', cy, y9⟩ := hx.y
  obtain ⟨b1, xr⟩ := hx.xr
  obtain ⟨b2, yr⟩ := hx.yr
  have hfb : ∀ W, Below w9.heap.size w9 W → W.cell? ⟨X, 2, none⟩ = some (.slice (some ⟨xg, 0, none⟩) fs.length xc) ∧ W.cell? ⟨xg, k, none⟩ = some (.int .i64 ((atP fs).getD k 0)) ∧ W.cell? ⟨Y, 1, none⟩ = some (.slice (some ⟨yg, 0, none⟩) fs.length yc) ∧ W.cell? ⟨yg, k, none⟩ = some (.int .i64 ((rowUp fs fs.length).pl.getD k 0)) := fun W hb =>
    ⟨(blk_cell (blk_below x9 hb (blk_lt x9)) 2).trans rfl, ints_at (row_keep hb xr) k (by rw [atP_len]; exact hk), (blk_cell (blk_below y9 hb (blk_lt y9)) 1).trans rfl, ints_at (row_keep hb yr) k (by rw [(rowUp_facts fs fs.length).1]; exact hk)⟩
  have hff : ∀ W, FAt F fn fk fr fl fd W → W.cell? ⟨F, 0, none⟩ = some (.string fn) ∧ W.cell? ⟨F, 1, none⟩ = some (.int .u8 fk) ∧ W.cell? ⟨F, 2, none⟩ = some (.int .i64 fr) ∧ W.cell? ⟨F, 3, none⟩ = some (.int .i64 fl) ∧ W.cell? ⟨F, 4, none⟩ = some (.int .u64 fd) := fun W h => by
    obtain ⟨_, h0, h1, h2, h3, h4, _⟩ := blk5 h
    exact ⟨h0, h1, h2, h3, h4⟩
  have htf : (4 : TypeId) ≠ 53 := by decide
  have hFk : ∀ {W W' : World} {v : Value} {l : List Bool}, W.ownsRow w9.heap.size 4 1 v l.length (boolCells l) → FAt F fn fk fr fl fd W → W.grownBy W' v.ownBlock → FAt F fn fk fr fl fd W' := fun hr hF hg => blk_grown hF hg (row_typedA hF hr htf)
  have hks : ksAt fs k = inlP ⟨fn, fk, fr, fl, fd⟩ := by unfold ksAt; rw [hf]
  have hfw : fwAt fs k = fwI ⟨fn, fk, fr, fl, fd⟩ := by unfold fwAt; rw [hf]
  have hnf : numF (fldAt fs k) ↔ num = true := by rw [hf]; unfold numF; rw [hnum]
  have hsz := hs.below.size
  cases num with
  | true =>
    have hN : numF (fldAt fs k) := hnf.2 rfl
    obtain ⟨_, hfk, y, hy5, hfy⟩ := fwI_is (fldAt fs k) hN
    have hwb := widths_bd y hy5
    have hbk : bits = fwAt fs k := by rw [hbits]; unfold fwAt; rw [hfk, hf]
    have hb0 : 0 < fwAt fs k := by unfold fwAt; omega
    have hsp := at_spans fs
    have hrs := row_spans fs fs.length (Nat.le_refl _)
    have hil := inlP_bd (fldAt fs k)
    obtain ⟨a, m, ha, hm, hfit, hfree, hmk⟩ := mark_take (S' := fun i => i < k + 1 ∧ numF (fldAt fs i)) hsp (Int.le_refl _) (by rw [hd.eb, hs.bl]; exact Int.le_refl _) (fun i hi => ⟨by omega, hi.2⟩) k ⟨hk, hN⟩ (fun h => absurd h.1 (Nat.lt_irrefl _)) (by omega) hs.mb (fun i => ⟨fun hi => by by_cases e : i = k; exact .inr e; exact .inl ⟨by omega, hi.2⟩, fun hi => by rcases hi with hi | rfl; exact ⟨by omega, hi.2⟩; exact ⟨by omega, hN⟩⟩)
    obtain ⟨a2, m2, ha2, hm2, hfit2, hfree2, hmk2⟩ := mark_take (S' := fun i => i < k + 1 ∧ numF (fldAt fs i)) hrs (Int.le_refl _) (by rw [hd.er, hs.rl]; exact Int.le_refl _) (fun i hi => ⟨by omega, hi.2⟩) k ⟨hk, hN⟩ (fun h => absurd h.1 (Nat.lt_irrefl _)) (by unfold ksAt; omega) hs.mr (fun i => ⟨fun hi => by by_cases e : i = k; exact .inr e; exact .inl ⟨by omega, hi.2⟩, fun hi => by rcases hi with hi | rfl; exact ⟨by omega, hi.2⟩; exact ⟨by omega, hN⟩⟩)
    have hmul := hsp.mult trivial k ⟨hk, hN⟩
    have hbl := hs.bl
    have hrl := hs.rl
    have hsm := hd.small
    have hq : inlP ⟨fn, fk, fr, fl, fd⟩ = (m2 : Int) := by rw [← hks]; exact hm2
    have hxb := hfb w hs.below
    have hS0 := hff w hF
    rw [ha, ha2] at hxb
    refine ap_num (P3 := fun w3 => ∃ lb' lr', ApSt w9 fs th gb gy gr gp nb ny nr np (k + 1) j w3 lb' ly lr' lp ∧ FAt F fn fk fr fl fd w3) (px := (a : Int)) (py := (a2 : Int)) (q := (m2 : Int)) (fn := fn) (fk := fk) (fr := fr) (fl := fl) (fd := fd) (xg := xg) (xc := xc) (yg := yg) (yc := yc) hc hk (by omega) ?_ ⟨hxb.1, hxb.2.1, hxb.2.2.1, hxb.2.2.2, hS0⟩ ?_ (fun c' w' hc' hP => by obtain ⟨lb', lr', h1, h2⟩ := hP; exact hK c' w' lb' lr' lp hc' h1 h2)
    · rw [hbk, Int.tmod_eq_emod_of_nonneg (by omega)]
      rw [ha] at hmul
      exact hmul
    · rw [hbk, hm]
      refine (take_any lb a m hfit hfree (by omega) w9.heap.size _ w.drew hs.b).mono ?_
      rintro e w1 ⟨rfl, hr1, hg1⟩
      have hF1 : FAt F fn fk fr fl fd w1 := hFk (W := w.drew) hs.b hF hg1
      have hB1 : Below w9.heap.size w9 w1 := below_row hs.below.drew hsz hs.drew.b (Nat.le_refl _) hg1
      have hb1 := hfb w1 hB1
      rw [ha, ha2] at hb1
      obtain ⟨d1, d2, d3, d4, d5, d6⟩ := hd.apart
      have y1 := rws_other hg1 hs.drew.y (fun g hg e => by simp [Value.ownBlock] at hg e; omega)
      have r1 := rws_other hg1 hs.drew.r (fun g hg e => by simp [Value.ownBlock] at hg e; omega)
      have p1 := rws_other hg1 hs.drew.p (fun g hg e => by simp [Value.ownBlock] at hg e; omega)
      refine ⟨rfl, ⟨hb1.1, hb1.2.1, hb1.2.2.1, hb1.2.2.2, hff w1 hF1⟩, ?_⟩
      refine (linline_any fn fk fr fl fd w1).mono ?_
      rintro e w2 ⟨rfl, hb2⟩
      have hF2 : FAt F fn fk fr fl fd w2 := blk_below hF1 hb2 (blk_lt hF1)
      have hB2 : Below w9.heap.size w9 w2 := hB1.trans (hb2.mono hB1.size)
      have hb2' := hfb w2 hB2
      rw [ha, ha2] at hb2'
      refine ⟨by rw [hq], ⟨hb2'.1, hb2'.2.1, hb2'.2.2.1, hb2'.2.2.2, hff w2 hF2⟩, ?_⟩
      have rb2 := row_keep hb2 hr1
      have y2 := row_keep hb2 y1
      have r2 := row_keep hb2 r1
      have p2 := row_keep hb2 p1
      refine (take_any lr a2 m2 hfit2 hfree2 (by omega) w9.heap.size _ w2 r2).mono ?_
      rintro e w3 ⟨rfl, hr3, hg3⟩
      have hF3 : FAt F fn fk fr fl fd w3 := hFk r2 hF2 hg3
      have hB3 : Below w9.heap.size w9 w3 := below_row hB2 hB2.size r2 (Nat.le_refl _) hg3
      have hb3 := hfb w3 hB3
      rw [ha, ha2] at hb3
      refine ⟨rfl, ⟨hb3.1, hb3.2.1, hb3.2.2.1, hb3.2.2.2, hff w3 hF3⟩, takeL lb a m, takeL lr a2 m2, ?_, hF3⟩
      refine ⟨hB3, ?_, rws_other hg3 y2 (fun g hg e => by simp [Value.ownBlock] at hg e; omega), ?_, rws_other hg3 p2 (fun g hg e => by simp [Value.ownBlock] at hg e; omega), by rw [takeL_len]; exact hs.bl, hs.yl, by rw [takeL_len]; exact hs.rl, hs.pl, hmk, hs.my, hmk2, ?_⟩
      · rw [takeL_len]
        exact rws_other hg3 rb2 (fun g hg e => by simp [Value.ownBlock] at hg e; omega)
      · rw [takeL_len]
        exact hr3
      · intro cc hcc
        rw [hs.mp cc hcc]
        refine exists_congr fun i => ⟨fun h => ⟨⟨by have := h.1.1; omega, h.1.2⟩, h.2⟩, fun h => ⟨⟨?_, h.1.2⟩, h.2⟩⟩
        have : i ≠ k := fun e => h.1.2 (e ▸ hN)
        have := h.1.1
        omega
  | false =>
    have hN : ¬ numF (fldAt fs k) := fun h => by have := hnf.1 h; cases this
    obtain ⟨hps, hp0⟩ := ptr_spans fs
    obtain ⟨a, m, ha, hm, hfit, hfree, hmk⟩ := mark_take (S' := fun i => i < k + 1 ∧ ¬ numF (fldAt fs i)) hps (Int.le_refl _) (by rw [hd.ep, hs.pl]; exact Int.le_refl _) (fun i hi => ⟨by omega, hi.2⟩) k ⟨hk, hN⟩ (fun h => absurd h.1 (Nat.lt_irrefl _)) (by omega) hs.mp (fun i => ⟨fun hi => by by_cases e : i = k; exact .inr e; exact .inl ⟨by omega, hi.2⟩, fun hi => by rcases hi with hi | rfl; exact ⟨by omega, hi.2⟩; exact ⟨by omega, hN⟩⟩)
    obtain rfl : m = 1 := by omega
    have hpl := hs.pl
    have hsm := hd.small
    have hxb := hfb w hs.below
    rw [ha] at hxb
    refine ap_ptr (P3 := fun w3 => ∃ lp', ApSt w9 fs th gb gy gr gp nb ny nr np (k + 1) j w3 lb ly lr lp' ∧ FAt F fn fk fr fl fd w3) (px := (a : Int)) (xg := xg) (xc := xc) hc hk ⟨hxb.1, hxb.2.1⟩ ?_ (fun c' w' hc' hP => by obtain ⟨lp', h1, h2⟩ := hP; exact hK c' w' lb lr lp' hc' h1 h2)
    refine (take_any lp a 1 hfit hfree (by omega) w9.heap.size _ w.drew hs.p).mono ?_
    rintro e w1 ⟨rfl, hr1, hg1⟩
    have hF1 : FAt F fn fk fr fl fd w1 := hFk (W := w.drew) hs.p hF hg1
    have hB1 : Below w9.heap.size w9 w1 := below_row hs.below.drew hsz hs.drew.p (Nat.le_refl _) hg1
    have hb1 := hfb w1 hB1
    rw [ha] at hb1
    obtain ⟨d1, d2, d3, d4, d5, d6⟩ := hd.apart
    refine ⟨rfl, ⟨hb1.1, hb1.2.1⟩, takeL lp a 1, ?_, hF1⟩
    have hno : ∀ i, (i < k + 1 ∧ numF (fldAt fs i)) ↔ (i < k ∧ numF (fldAt fs i)) := fun i => ⟨fun h => ⟨by have : i ≠ k := fun e => hN (e ▸ h.2); omega, h.2⟩, fun h => ⟨by omega, h.2⟩⟩
    refine ⟨hB1, rws_other hg1 hs.drew.b (fun g hg e => by simp [Value.ownBlock] at hg e; omega), rws_other hg1 hs.drew.y (fun g hg e => by simp [Value.ownBlock] at hg e; omega), rws_other hg1 hs.drew.r (fun g hg e => by simp [Value.ownBlock] at hg e; omega), ?_, hs.bl, hs.yl, hs.rl, by rw [takeL_len]; exact hs.pl, ?_, hs.my, ?_, hmk⟩
    · rw [takeL_len]
      exact hr1
    · intro cc hcc
      rw [hs.mb cc hcc]
      exact exists_congr fun i => and_congr_left fun _ => (hno i).symm
    · intro cc hcc
      rw [hs.mr cc hcc]
      exact exists_congr fun i => and_congr_left fun _ => (hno i).symm
theorem ap_take18 (hx : ApCtx w9 fs th X Y Z xg xc yg yc zg zc tg tc) (hd : ApDim fs th gb gy gr gp nb ny nr np) (hk : k < fs.length) (hf : fldAt fs k = ⟨fn, fk, fr, fl, fd⟩)
    (hc : ApC X Y Z (.slice (some ⟨tg, 0, none⟩) fs.length tc) (.slice (some ⟨gb, 0, none⟩) nb nb) (.slice (some ⟨gy, 0, none⟩) ny ny) (.slice (some ⟨gr, 0, none⟩) nr nr) (.slice (some ⟨gp, 0, none⟩) np np) fv fs.length k F bits num c)
    (hs : ApSt w9 fs th gb gy gr gp nb ny nr np j k w lb ly lr lp) (hF : FAt F fn fk fr fl fd w)
    (hK : ∀ c' w' ly', ApC2 X Y Z (.slice (some ⟨tg, 0, none⟩) fs.length tc) (.slice (some ⟨gb, 0, none⟩) nb nb) (.slice (some ⟨gy, 0, none⟩) ny ny) (.slice (some ⟨gr, 0, none⟩) nr nr) (.slice (some ⟨gp, 0, none⟩) np np) fv fs.length k F bits num c' →
      ApSt w9 fs th gb gy gr gp nb ny nr np j (k + 1) w' lb ly' lr lp → K c' w') :
    Code.wp Tryd.prog (apReg 18) (Exit.then K Q) c w := by
  obtain ⟨az, bz, z9⟩ := hx.z
  obtain ⟨b1, zr⟩ := hx.zr
  obtain ⟨b2, tr⟩ := hx.tr
  have hzl : (tabAll fs th 4).pl.length = fs.length := (t_spans fs th 4 (Nat.le_refl _)).2.1
  have hfb : ∀ W, Below w9.heap.size w9 W → W.cell? ⟨Z, 0, none⟩ = some (.slice (some ⟨zg, 0, none⟩) fs.length zc) ∧ W.cell? ⟨zg, k, none⟩ = some (.int .i64 ((tabAll fs th 4).pl.getD k 0)) ∧ W.cell? ⟨tg, k, none⟩ = some (.bool (th.getD k false)) := fun W hb =>
    ⟨(blk_cell (blk_below z9 hb (blk_lt z9)) 0).trans rfl, ints_at (row_keep hb zr) k (by rw [hzl]; exact hk), bools_at (row_keep hb tr) k (by rw [hx.thl]; exact hk)⟩
  have hff : ∀ W, FAt F fn fk fr fl fd W → W.cell? ⟨F, 0, none⟩ = some (.string fn) ∧ W.cell? ⟨F, 1, none⟩ = some (.int .u8 fk) ∧ W.cell? ⟨F, 2, none⟩ = some (.int .i64 fr) ∧ W.cell? ⟨F, 3, none⟩ = some (.int .i64 fl) ∧ W.cell? ⟨F, 4, none⟩ = some (.int .u64 fd) := fun W h => by
    obtain ⟨_, h0, h1, h2, h3, h4, _⟩ := blk5 h
    exact ⟨h0, h1, h2, h3, h4⟩
  have htf : (4 : TypeId) ≠ 53 := by decide
  have hFk : ∀ {W W' : World} {v : Value} {l : List Bool}, W.ownsRow w9.heap.size 4 1 v l.length (boolCells l) → FAt F fn fk fr fl fd W → W.grownBy W' v.ownBlock → FAt F fn fk fr fl fd W' := fun hr hF hg => blk_grown hF hg (row_typedA hF hr htf)
  have hks : ksAt fs k = inlP ⟨fn, fk, fr, fl, fd⟩ := by unfold ksAt; rw [hf]
  have hsz := hs.below.size
  have hxb := hfb w hs.below
  cases hth : th.getD k false with
  | true =>
    have hT : thAt th k := hth
    obtain ⟨hts, ht4⟩ := tab_spans fs th
    obtain ⟨y, hy4, hiy⟩ := inlP_is (fldAt fs k)
    have hib := inlines_is y hy4
    have hk0 : ksAt fs k = 8 ∨ ksAt fs k = 4 ∨ ksAt fs k = 2 ∨ ksAt fs k = 1 := by unfold ksAt; rw [hiy]; exact hib
    obtain ⟨a, m, ha, hm, hfit, hfree, hmk⟩ := mark_take (S' := fun i => i < k + 1 ∧ thAt th i) hts (by omega) (by rw [hd.ey, hs.yl]; exact Int.le_refl _) (fun i hi => ⟨by omega, hi.2⟩) k ⟨hk, hT⟩ (fun h => absurd h.1 (Nat.lt_irrefl _)) (by omega) hs.my (fun i => ⟨fun hi => by by_cases e : i = k; exact .inr e; exact .inl ⟨by omega, hi.2⟩, fun hi => by rcases hi with hi | rfl; exact ⟨by omega, hi.2⟩; exact ⟨by omega, hT⟩⟩)
    have hmul := hts.mult trivial k ⟨hk, hT⟩
    have h4 := (hts.inn k ⟨hk, hT⟩).2.1
    have hyl := hs.yl
    have hsm := hd.small
    have hq : inlP ⟨fn, fk, fr, fl, fd⟩ = (m : Int) := by rw [← hks]; exact hm
    obtain ⟨f0, f1, f2, f3, f4⟩ := hff w hF
    rw [ha, hth] at hxb
    refine ap_there (P3 := fun w3 => ∃ ly', ApSt w9 fs th gb gy gr gp nb ny nr np j (k + 1) w3 lb ly' lr lp) (px := (a : Int)) (q := (m : Int)) (fn := fn) (fk := fk) (fr := fr) (fl := fl) (fd := fd) (xg := zg) (xc := zc) hc hk (by omega) (by omega) ?_ ⟨hxb.1, hxb.2.1, f0, f1, f2, f3, f4, hxb.2.2⟩ ?_ (fun c' w' hc' hP => by obtain ⟨ly', h1⟩ := hP; exact hK c' w' ly' hc' h1)
    · rw [Int.tmod_eq_emod_of_nonneg (by omega)]
      rw [ha, hm] at hmul
      exact hmul
    · refine (linline_any fn fk fr fl fd w.drew).mono ?_
      rintro e w1 ⟨rfl, hb1⟩
      have hF1 : FAt F fn fk fr fl fd w1 := blk_below (w := w.drew) hF hb1 (blk_lt (w := w.drew) hF)
      have s1 := hs.drew.step hb1
      have c1 := hfb w1 s1.below
      rw [ha, hth] at c1
      obtain ⟨f0, f1, f2, f3, f4⟩ := hff w1 hF1
      refine ⟨by rw [hq], ⟨c1.1, c1.2.1, f0, f1, f2, f3, f4, c1.2.2⟩, ?_⟩
      refine (take_any ly a m hfit hfree (by omega) w9.heap.size _ w1 s1.y).mono ?_
      rintro e w2 ⟨rfl, hr2, hg2⟩
      have hF2 : FAt F fn fk fr fl fd w2 := hFk s1.y hF1 hg2
      have hB2 : Below w9.heap.size w9 w2 := below_row s1.below s1.below.size s1.y (Nat.le_refl _) hg2
      have c2 := hfb w2 hB2
      rw [ha, hth] at c2
      obtain ⟨f0, f1, f2, f3, f4⟩ := hff w2 hF2
      obtain ⟨d1, d2, d3, d4, d5, d6⟩ := hd.apart
      refine ⟨rfl, ⟨c2.1, c2.2.1, f0, f1, f2, f3, f4, c2.2.2⟩, ?_⟩
      have s2 : ApSt w9 fs th gb gy gr gp nb ny nr np j (k + 1) w2 lb (takeL ly a m) lr lp :=
        ⟨hB2, rws_other hg2 s1.b (fun g hg e => by simp [Value.ownBlock] at hg e; omega), by rw [takeL_len]; exact hr2, rws_other hg2 s1.r (fun g hg e => by simp [Value.ownBlock] at hg e; omega), rws_other hg2 s1.p (fun g hg e => by simp [Value.ownBlock] at hg e; omega), hs.bl, by rw [takeL_len]; exact hs.yl, hs.rl, hs.pl, hs.mb, hmk, hs.mr, hs.mp⟩
      refine (linline_any fn fk fr fl fd w2).mono ?_
      rintro e w3 ⟨rfl, hb3⟩
      have hF3 : FAt F fn fk fr fl fd w3 := blk_below hF2 hb3 (blk_lt hF2)
      have s3 := s2.step hb3
      have c3 := hfb w3 s3.below
      rw [ha, hth] at c3
      obtain ⟨f0, f1, f2, f3, f4⟩ := hff w3 hF3
      exact ⟨by rw [hq], ⟨c3.1, c3.2.1, f0, f1, f2, f3, f4, c3.2.2⟩, _, s3⟩
  | false =>
    rw [hth] at hxb
    refine ap_not (tg := tg) (tc := tc) hc hk hxb.2.2 (fun c' hc' => hK c' w.drew ly hc' ?_)
    have hno : ∀ i, (i < k + 1 ∧ thAt th i) ↔ (i < k ∧ thAt th i) := fun i => ⟨fun h => ⟨by have : i ≠ k := (fun e => by have h2 := h.2; unfold thAt at h2; rw [e, hth] at h2; cases h2); omega, h.2⟩, fun h => ⟨by omega, h.2⟩⟩
    have s := hs.drew
    exact ⟨s.below, s.b, s.y, s.r, s.p, s.bl, s.yl, s.rl, s.pl, s.mb, fun cc hcc => by rw [s.my cc hcc]; exact exists_congr fun i => and_congr_left fun _ => (hno i).symm, s.mr, s.mp⟩
end
end Go.Proofs.YtdlfndjgncdgfaaDoor
