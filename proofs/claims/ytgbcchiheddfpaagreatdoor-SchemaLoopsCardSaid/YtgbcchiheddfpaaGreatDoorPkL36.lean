/-
  The package schema's maker: field, one field of what is written. Conditions: those that each theorem names.
-/
import Derived.Test.YtgbcchiheddfpaaGreatDoorPkL23
import Derived.Test.YtgbcchiheddfpaaGreatDoorPkL35
import Derived.Deep.RegionHeld3
namespace Go.Proofs.YtgbcchiheddfpaaGreatDoor
open Go.ChangeShapes Go.WideShapes Go.ChangeAt Go.RowKit Go.Shelf

def sfldV (f : SFld) : Value := .agg #[.string f.name, .int .u8 (f.kind : Nat), .int .i64 (f.ref : Nat), .int .i64 (f.lists : Nat), .int .u64 (f.dflt : Nat)]
def noSfld : SFld := ⟨⟨#[]⟩, 0, 0, 0, 0⟩
def fldV (f : RField) : Value := .agg #[.string (strOfNums f.name), .int .i64 f.place, .string (strOfNums f.ty.name), .int .i64 f.ty.lists, .int .i64 f.ty.place, .int .i64 f.dflt.kind, .string (strOfNums f.dflt.text), .int .i64 f.dflt.place]
def fldR : MRes SFld → Value
  | .ok f => .tuple #[sfldV f, .agg #[.int .i64 0, .int .i64 0]]
  | .no c p => .tuple #[sfldV noSfld, .agg #[.int .i64 c, .int .i64 (p : Nat)]]
theorem three_blk (w : World) (a b c : Array Value) (s t u : TypeId) : Below w.heap.size w (((w.alloc (.cells a s)).alloc (.cells b t)).alloc (.cells c u)) ∧ (((w.alloc (.cells a s)).alloc (.cells b t)).alloc (.cells c u)).heap[w.heap.size]? = some (.cells a s (0, 0)) ∧
    (((w.alloc (.cells a s)).alloc (.cells b t)).alloc (.cells c u)).heap[w.heap.size + 1]? = some (.cells b t (0, 0)) ∧ (((w.alloc (.cells a s)).alloc (.cells b t)).alloc (.cells c u)).heap[w.heap.size + 2]? = some (.cells c u (0, 0)) := by
  obtain ⟨h1, h2, h3⟩ := two_blk w a b s t
  refine ⟨h1.alloc h1.size _, blk_alloc h2 _, blk_alloc h3 _, ?_⟩
  have := heap_alloc_new ((w.alloc (.cells a s)).alloc (.cells b t)) (.cells c u)
  simpa using this
theorem ents_look1 {W : World} {b : Nat} {m : List NEnt} (h : MapAt W b (m.map entP)) (s : ByteArray) :
    (Instr.lookup 241 (.map (some b)) (.string s) false).run Tryz.prog W = .ok (mtyV ((lookN m s).map Prod.fst |>.getD 0) ((lookN m s).map Prod.snd |>.getD 0) 0) W := by
  have := h.look ty_key ty_map (ty_zero W) s false
  rw [if_neg (by decide), look_ents] at this
  rw [this]
  cases lookN m s <;> rfl
theorem blk5' {w : World} {g : Nat} {x0 x1 x2 x3 x4 : Value} {t : TypeId} (h : w.heap[g]? = some (.cells #[x0, x1, x2, x3, x4] t (0, 0))) :
    g < w.heap.size ∧ w.cell? ⟨g, 0, none⟩ = some x0 ∧ w.cell? ⟨g, 1, none⟩ = some x1 ∧ w.cell? ⟨g, 2, none⟩ = some x2 ∧ w.cell? ⟨g, 3, none⟩ = some x3 ∧ w.cell? ⟨g, 4, none⟩ = some x4 ∧
    w.frozen? ⟨g, 0, none⟩ = false ∧ w.frozen? ⟨g, 1, none⟩ = false ∧ w.frozen? ⟨g, 2, none⟩ = false ∧ w.frozen? ⟨g, 3, none⟩ = false ∧ w.frozen? ⟨g, 4, none⟩ = false :=
  ⟨blk_lt h, (blk_cell h 0).trans rfl, (blk_cell h 1).trans rfl, (blk_cell h 2).trans rfl, (blk_cell h 3).trans rfl, (blk_cell h 4).trans rfl, blk_frozen h 0, blk_frozen h 1, blk_frozen h 2, blk_frozen h 3, blk_frozen h 4⟩
theorem blk8' {w : World} {g : Nat} {x0 x1 x2 x3 x4 x5 x6 x7 : Value} {t : TypeId} (h : w.heap[g]? = some (.cells #[x0, x1, x2, x3, x4, x5, x6, x7] t (0, 0))) :
    g < w.heap.size ∧ w.cell? ⟨g, 0, none⟩ = some x0 ∧ w.cell? ⟨g, 1, none⟩ = some x1 ∧ w.cell? ⟨g, 2, none⟩ = some x2 ∧ w.cell? ⟨g, 3, none⟩ = some x3 ∧ w.cell? ⟨g, 4, none⟩ = some x4 ∧ w.cell? ⟨g, 5, none⟩ = some x5 ∧ w.cell? ⟨g, 6, none⟩ = some x6 ∧ w.cell? ⟨g, 7, none⟩ = some x7 :=
  ⟨blk_lt h, (blk_cell h 0).trans rfl, (blk_cell h 1).trans rfl, (blk_cell h 2).trans rfl, (blk_cell h 3).trans rfl, (blk_cell h 4).trans rfl, (blk_cell h 5).trans rfl, (blk_cell h 6).trans rfl, (blk_cell h 7).trans rfl⟩
def put5 (W : World) (g : Nat) (x0 x1 x2 x3 x4 : Value) : World := ((((W.setCell ⟨g, 0, none⟩ x0).setCell ⟨g, 1, none⟩ x1).setCell ⟨g, 2, none⟩ x2).setCell ⟨g, 3, none⟩ x3).setCell ⟨g, 4, none⟩ x4
def put2 (W : World) (g : Nat) (u v : Value) : World := (W.setCell ⟨g, 0, none⟩ u).setCell ⟨g, 1, none⟩ v
structure FEnd (W : World) (x0 x1 x2 x3 x4 u v : Value) (Wf : World) : Prop where
  fld : Wf.heap[W.heap.size + 1]? = some (.cells #[x0, x1, x2, x3, x4] 64 (0, 0))
  flt : Wf.heap[W.heap.size + 1 + 1]? = some (.cells #[u, v] 125 (0, 0))
  bel : Below W.heap.size W Wf
theorem put5_blk {W : World} {g : Nat} {a0 a1 a2 a3 a4 : Value} {t : TypeId} (h : W.heap[g]? = some (.cells #[a0, a1, a2, a3, a4] t (0, 0))) (x0 x1 x2 x3 x4 : Value) : (put5 W g x0 x1 x2 x3 x4).heap[g]? = some (.cells #[x0, x1, x2, x3, x4] t (0, 0)) :=
  (blk_set (blk_set (blk_set (blk_set (blk_set h 0 x0) 1 x1) 2 x2) 3 x3) 4 x4).trans rfl
theorem put5_far {W : World} {g k : Nat} {o : Obj} (h : W.heap[k]? = some o) (hk : g ≠ k) (x0 x1 x2 x3 x4 : Value) : (put5 W g x0 x1 x2 x3 x4).heap[k]? = some o :=
  blk_set_ne (blk_set_ne (blk_set_ne (blk_set_ne (blk_set_ne h hk _) hk _) hk _) hk _) hk _
theorem put5_below {B g : Nat} {a W : World} (h : Below B a W) (hg : B ≤ g) (x0 x1 x2 x3 x4 : Value) : Below B a (put5 W g x0 x1 x2 x3 x4) :=
  ((((h.setCell (p := ⟨g, 0, none⟩) hg _).setCell (p := ⟨g, 1, none⟩) hg _).setCell (p := ⟨g, 2, none⟩) hg _).setCell (p := ⟨g, 3, none⟩) hg _).setCell (p := ⟨g, 4, none⟩) hg _
theorem fend1 {W W1 : World} {a0 a1 a2 a3 a4 b0 b1 : Value} (h1 : W1.heap[W.heap.size + 1]? = some (.cells #[a0, a1, a2, a3, a4] 64 (0, 0))) (h2 : W1.heap[W.heap.size + 1 + 1]? = some (.cells #[b0, b1] 125 (0, 0))) (hb : Below W.heap.size W W1) (x0 x1 x2 x3 x4 u v : Value) :
    FEnd W x0 x1 x2 x3 x4 u v (put2 (put5 W1 (W.heap.size + 1) x0 x1 x2 x3 x4) (W.heap.size + 1 + 1) u v) :=
  ⟨blk_set_ne (blk_set_ne (put5_blk h1 _ _ _ _ _) (by show W.heap.size + 1 + 1 ≠ _; omega) _) (by show W.heap.size + 1 + 1 ≠ _; omega) _, blk_set2 (put5_far h2 (by omega) _ _ _ _ _) _ _,
    ((put5_below hb (Nat.le_succ _) _ _ _ _ _).setCell (p := ⟨W.heap.size + 1 + 1, 0, none⟩) (by show _ ≤ W.heap.size + 1 + 1; omega) _).setCell (p := ⟨W.heap.size + 1 + 1, 1, none⟩) (by show _ ≤ W.heap.size + 1 + 1; omega) _⟩
theorem fend2 {W W1 : World} {a0 a1 a2 a3 a4 b0 b1 : Value} (h1 : W1.heap[W.heap.size + 1]? = some (.cells #[a0, a1, a2, a3, a4] 64 (0, 0))) (h2 : W1.heap[W.heap.size + 1 + 1]? = some (.cells #[b0, b1] 125 (0, 0))) (hb : Below W.heap.size W W1) (x0 x1 x2 x3 x4 u v : Value) :
    FEnd W x0 x1 x2 x3 x4 u v (put5 (put2 W1 (W.heap.size + 1 + 1) u v) (W.heap.size + 1) x0 x1 x2 x3 x4) :=
  ⟨put5_blk (blk_set_ne (blk_set_ne h1 (by show W.heap.size + 1 + 1 ≠ _; omega) _) (by show W.heap.size + 1 + 1 ≠ _; omega) _) _ _ _ _ _, put5_far (blk_set2 h2 _ _) (by omega) _ _ _ _ _,
    put5_below ((hb.setCell (p := ⟨W.heap.size + 1 + 1, 0, none⟩) (by show _ ≤ W.heap.size + 1 + 1; omega) _).setCell (p := ⟨W.heap.size + 1 + 1, 1, none⟩) (by show _ ≤ W.heap.size + 1 + 1; omega) _) (Nat.le_succ _) _ _ _ _ _⟩
theorem fend3 {W W1 : World} {a0 a1 a2 a3 a4 u v : Value} (h1 : W1.heap[W.heap.size + 1]? = some (.cells #[a0, a1, a2, a3, a4] 64 (0, 0))) (h2 : W1.heap[W.heap.size + 1 + 1]? = some (.cells #[u, v] 125 (0, 0))) (hb : Below W.heap.size W W1) (x0 x1 x2 x3 x4 : Value) :
    FEnd W x0 x1 x2 x3 x4 u v (put5 W1 (W.heap.size + 1) x0 x1 x2 x3 x4) :=
  ⟨put5_blk h1 _ _ _ _ _, put5_far h2 (by omega) _ _ _ _ _, put5_below hb (Nat.le_succ _) _ _ _ _ _⟩
theorem FEnd.drew {W Wf : World} {x0 x1 x2 x3 x4 u v : Value} (h : FEnd W x0 x1 x2 x3 x4 u v Wf) : FEnd W x0 x1 x2 x3 x4 u v Wf.drew := ⟨h.fld, h.flt, h.bel.drew⟩
set_option maxRecDepth 100000 in
set_option maxHeartbeats 8000000 in
theorem mfield_any (W : World) {M b root base : Nat} {sv ev rv ssv esv : Value} {m : List NEnt} {es : List (SCho × Value)} {xs : List RCho} (hM : MAt W M b sv ev rv m ssv esv root) (hR : ChoRows base W es esv) (hes : es.map Prod.fst = xs.map choOut) (f : RField)
    (hm : ∀ s q, lookN m s = some q → (q.1 = 10 → q.2 < xs.length) ∧ q.1 ≤ 13) (hE : ErrV W) (hsz : f.dflt.text.length ≤ 281474976710656 ∧ f.name.length ≤ 281474976710656) :
    Calls Tryz.prog 166 #[.pointer (some ⟨M, 0, none⟩), fldV f] W fun e w' => e = .returned (fldR (fieldM m xs f)) ∧ Below W.heap.size W w' := by
  obtain ⟨hb, hq1, hq2, hq3⟩ := three_blk W #[.string (strOfNums f.name), .int .i64 f.place, .string (strOfNums f.ty.name), .int .i64 f.ty.lists, .int .i64 f.ty.place, .int .i64 f.dflt.kind, .string (strOfNums f.dflt.text), .int .i64 f.dflt.place] #[.string ⟨#[]⟩, .int .u8 0, .int .i64 0, .int .i64 0, .int .u64 0] #[.int .i64 0, .int .i64 0] 303 64 125
  have HMW := Lib.hid hM
  have HRW := Lib.hid hR
  have HEW := Lib.hid hE
  have HM := Lib.hid (hM.fell hb)
  have HR := Lib.hid (hR.below hb)
  have HE := Lib.hid (hE.later hb)
  have HB := Lib.hid hb
  have HQ1 := Lib.hid hq1
  have HQ2 := Lib.hid hq2
  have HQ3 := Lib.hid hq3
  have HES := Lib.hid hes
  have HMM := Lib.hid (hm (strOfNums f.ty.name))
  have HF : Hid (fieldM m xs f = match lookN m (strOfNums f.ty.name) with
    | none => .no 14 f.ty.place
    | some q => if q.1 = 0 then .no 14 f.ty.place else
      match valueM xs q.1 q.2 f.ty.lists f.dflt with
      | none => .no 15 f.dflt.place
      | some d => .ok ⟨strOfNums f.name, q.1, q.2, f.ty.lists, d⟩) := Lib.hid rfl
  generalize fieldM m xs f = V at *
  clear hM hR hE hb hq1 hq2 hq3 hes hm
  unfold fldV
  go_enter Tryz.func166, Tryz.ntmps166
  go_upto_region 1 with (fail)
  generalize (((W.alloc (.cells #[.string (strOfNums f.name), .int .i64 f.place, .string (strOfNums f.ty.name), .int .i64 f.ty.lists, .int .i64 f.ty.place, .int .i64 f.dflt.kind, .string (strOfNums f.dflt.text), .int .i64 f.dflt.place] 303)).alloc (.cells #[.string ⟨#[]⟩, .int .u8 0, .int .i64 0, .int .i64 0, .int .u64 0] 64)).alloc (.cells #[.int .i64 0, .int .i64 0] 125)) = W0 at *
  obtain ⟨_, y0, y1, y2, y3, y4, y5, y6, y7⟩ := blk8' HQ1.out
  obtain ⟨_, r0, r1, r2, r3, r4, p0, p1, p2, p3, p4⟩ := blk5' HQ2.out
  obtain ⟨_, f0, f1, g0, g1⟩ := blk2 HQ3.out
  obtain ⟨hMl, z0, z1, z2, z3, z4, z5, z6, _⟩ := HM.out.cells
  obtain ⟨kd, hkd⟩ : ∃ kd, ((lookN m (strOfNums f.ty.name)).map Prod.fst).getD 0 = kd := ⟨_, rfl⟩
  obtain ⟨rf, hrf⟩ : ∃ rf, ((lookN m (strOfNums f.ty.name)).map Prod.snd).getD 0 = rf := ⟨_, rfl⟩
  have hlk : ∀ w', MapAt w' b (m.map entP) → (Instr.lookup 241 (.map (some b)) (.string (strOfNums f.ty.name)) false).run Tryz.prog w' = .ok (.agg #[.int .u8 kd, .int .i64 rf, .int .i64 0]) w' := fun w' h' => by rw [← hkd, ← hrf]; exact ents_look1 h' _
  have hl0 := hlk W0 HM.out.map
  have hl1 := hlk W0.drew HM.out.map
  have hl2 := hlk (W0.alloc (.cells #[.int .u8 0, .int .i64 0, .int .i64 0] 62)) (HM.out.map.alloc _)
  have hl3 := hlk (W0.alloc (.cells #[.int .u8 0, .int .i64 0, .int .i64 0] 62)).drew (HM.out.map.alloc _)
  have HKD := Lib.hid hkd
  have HRF := Lib.hid hrf
  clear hlk hkd hrf
  go_region
  all_goals
    simp only [Exit.then]
    apply_assumption
    clear hl0 hl1 hl2 hl3
    have hb1 : Below W0.heap.size W0 (W0.alloc (.cells #[.int .u8 kd, .int .i64 rf, .int .i64 0] 62)).drew := ((Below.refl _ _).alloc (Nat.le_refl _) _).drew
    have ht1 : (W0.alloc (.cells #[.int .u8 kd, .int .i64 rf, .int .i64 0] 62)).drew.heap[W0.heap.size]? = some (.cells #[.int .u8 kd, .int .i64 rf, .int .i64 0] 62 (0, 0)) := heap_alloc_new W0 _
    have HS0 := Lib.hid (show W.heap.size + 2 < W0.heap.size from blk_lt HQ3.out)
    have HM1 := Lib.hid (HM.out.fell hb1)
    have HC1 := Lib.hid (HR.out.below hb1)
    have HE1 := Lib.hid (HE.out.later hb1)
    have HB1 := Lib.hid (HB.out.trans (hb1.mono HB.out.size))
    have HI1 := Lib.hid (blk_below HQ1.out hb1 (blk_lt HQ1.out))
    have HR1 := Lib.hid (blk_below HQ2.out hb1 (blk_lt HQ2.out))
    have HF1 := Lib.hid (blk_below HQ3.out hb1 (blk_lt HQ3.out))
    have HT1 := Lib.hid ht1
    clear y0 y1 y2 y3 y4 y5 y6 y7 r0 r1 r2 r3 r4 p0 p1 p2 p3 p4 f0 f1 g0 g1 z0 z1 z2 z3 z4 z5 z6 hb1 ht1 HM HR HE HB HQ1 HQ2 HQ3
    generalize (W0.alloc (.cells #[.int .u8 kd, .int .i64 rf, .int .i64 0] 62)).drew = W1 at *
    obtain ⟨_, y0, y1, y2, y3, y4, y5, y6, y7⟩ := blk8' HI1.out
    obtain ⟨_, r0, r1, r2, r3, r4, p0, p1, p2, p3, p4⟩ := blk5' HR1.out
    obtain ⟨_, f0, f1, g0, g1⟩ := blk2 HF1.out
    obtain ⟨_, t0, t1, t2, q0, q1, q2⟩ := blk3 HT1.out
    by_cases hk0 : kd = 0
    · have HV : Hid (V = .no 14 f.ty.place) := Lib.hid (by
        rw [HF.out]
        cases hl : lookN m (strOfNums f.ty.name) with
        | none => rfl
        | some q =>
          have h1 := HKD.out
          rw [hl] at h1
          have h2 : q.1 = 0 := by rw [← hk0, ← h1]; rfl
          show (if q.1 = 0 then _ else _) = _
          rw [if_pos h2])
      subst hk0
      go_upto_region 3 with (fail)
      go_region
      all_goals
        simp only [Exit.then]
        apply_assumption
        go_wp2
        refine post_gen (FEnd W (.string ⟨#[]⟩) (.int .u8 0) (.int .i64 0) (.int .i64 0) (.int .u64 0) (.int .i64 14) (.int .i64 f.ty.place)) ?_ ?_
        · first
            | exact (fend1 HR1.out HF1.out HB1.out _ _ _ _ _ _ _).drew
            | exact (fend2 HR1.out HF1.out HB1.out _ _ _ _ _ _ _).drew
            | exact fend1 (W1 := W1.drew) HR1.out HF1.out HB1.out.drew _ _ _ _ _ _ _
            | exact fend2 (W1 := W1.drew) HR1.out HF1.out HB1.out.drew _ _ _ _ _ _ _
        · rintro Wf ⟨e1, e2, e3⟩
          obtain ⟨_, c0, c1, c2, c3, c4, _⟩ := blk5' e1
          obtain ⟨_, d0, d1, _⟩ := blk2 e2
          exact bodyPost_ret (v := .tuple #[.agg #[.string ⟨#[]⟩, .int .u8 0, .int .i64 0, .int .i64 0, .int .u64 0], .agg #[.int .i64 14, .int .i64 f.ty.place]]) (by simp [results, Tryz.results166, go_sem, c0, c1, c2, c3, c4, d0, d1]) rfl ⟨by rw [HV.out]; rfl, e3⟩

    · obtain ⟨q, hl⟩ : ∃ q, lookN m (strOfNums f.ty.name) = some q := by
        cases hl : lookN m (strOfNums f.ty.name) with
        | none => exact absurd (by rw [← HKD.out, hl]; rfl) hk0
        | some q => exact ⟨q, rfl⟩
      have hqk : q.1 = kd := by rw [← HKD.out, hl]; rfl
      have hqr : q.2 = rf := by rw [← HRF.out, hl]; rfl
      obtain ⟨hm1, hm2⟩ := HMM.out q hl
      rw [hqk, hqr] at hm1
      have HFV : Hid (V = match valueM xs kd rf f.ty.lists f.dflt with
        | none => .no 15 f.dflt.place
        | some d => .ok ⟨strOfNums f.name, kd, rf, f.ty.lists, d⟩) := Lib.hid (by
          rw [HF.out, hl]
          show (if q.1 = 0 then _ else _) = _
          rw [if_neg (by rw [hqk]; exact hk0), hqk, hqr])
      have hkb : ((kd : Int) == 0) = false := by simp; omega
      have hkn : ¬ (kd : Int) = 0 := by omega
      clear hl hqk hqr hm2
      go_upto_region 5 with (fail)
      have HT6 := Lib.hid (show W.heap.size + 2 < W0.heap.size from HS0.out)
      generalize hT6 : W0.heap.size = T6 at *
      clear hT6
      have hx2 : Exc T6 W1.heap.size W1 (W1.setCell ⟨T6, 2, none⟩ (.int .i64 f.ty.lists)) := exc_set _ _ _ _
      have HT2 := Lib.hid (show (W1.setCell ⟨T6, 2, none⟩ (.int .i64 f.ty.lists)).heap[T6]? = some (.cells #[.int .u8 kd, .int .i64 rf, .int .i64 f.ty.lists] 62 (0, 0)) from (blk_set HT1.out 2 _).trans rfl)
      have hT6W : W.heap.size + 2 < T6 := HT6.out
      have HB2 := Lib.hid (HB1.out.setCell (p := ⟨T6, 2, none⟩) (by show W.heap.size ≤ T6; omega) (.int .i64 f.ty.lists))
      have HI2 := Lib.hid (blk_set_ne HI1.out (p := ⟨T6, 2, none⟩) (by show T6 ≠ _; omega) (.int .i64 f.ty.lists))
      have HR2 := Lib.hid (blk_set_ne HR1.out (p := ⟨T6, 2, none⟩) (by show T6 ≠ _; omega) (.int .i64 f.ty.lists))
      have HF2 := Lib.hid (blk_set_ne HF1.out (p := ⟨T6, 2, none⟩) (by show T6 ≠ _; omega) (.int .i64 f.ty.lists))
      clear y0 y1 y2 y3 y4 y5 y6 y7 r0 r1 r2 r3 r4 p0 p1 p2 p3 p4 f0 f1 g0 g1 t0 t1 t2 q0 q1 q2 hx2 HB1 HI1 HR1 HF1 HT1 HM1 HC1 HE1
      generalize W1.setCell ⟨T6, 2, none⟩ (.int .i64 f.ty.lists) = W2 at *
      have hval := mvalue_any W2 (HMW.out.fell HB2.out) (HRW.out.below HB2.out) HES.out kd rf f.ty.lists f.dflt hm1 (HEW.out.later HB2.out) (by rw [tokT, strOfNums_size]; exact hsz.1)
      have HVAL := Lib.hid (show Calls Tryz.prog 211 #[.pointer (some ⟨M, 0, none⟩), .agg #[.int .u8 kd, .int .i64 rf, .int .i64 f.ty.lists], .agg #[.int .i64 f.dflt.kind, .string (strOfNums f.dflt.text), .int .i64 f.dflt.place]] W2 _ from hval)
      have HCS := Lib.hid (show (strOfNums f.name).size ≤ 281474976710656 by rw [strOfNums_size]; exact hsz.2)
      obtain ⟨hIl, y0, y1, y2, y3, y4, y5, y6, y7⟩ := blk8' HI2.out
      obtain ⟨hTl, t0, t1, t2, q0, q1, q2⟩ := blk3 HT2.out
      clear hval hsz
      go_wp2_with fail
      refine HVAL.out.mono ?_
      rintro e W3 ⟨rfl, hb3⟩
      have HB3 := Lib.hid (HB2.out.trans (hb3.mono HB2.out.size))
      have HI3 := Lib.hid (blk_below HI2.out hb3 (blk_lt HI2.out))
      have HR3 := Lib.hid (blk_below HR2.out hb3 (blk_lt HR2.out))
      have HF3 := Lib.hid (blk_below HF2.out hb3 (blk_lt HF2.out))
      have HT3 := Lib.hid (blk_below HT2.out hb3 (blk_lt HT2.out))
      clear y0 y1 y2 y3 y4 y5 y6 y7 t0 t1 t2 q0 q1 q2 hb3 HB2 HI2 HR2 HF2 HT2
      obtain ⟨_, y0, y1, y2, y3, y4, y5, y6, y7⟩ := blk8' HI3.out
      obtain ⟨_, r0, r1, r2, r3, r4, p0, p1, p2, p3, p4⟩ := blk5' HR3.out
      obtain ⟨_, f0, f1, g0, g1⟩ := blk2 HF3.out
      cases hvm : valueM xs kd rf f.ty.lists f.dflt with
      | none =>
        have HV : Hid (V = .no 15 f.dflt.place) := Lib.hid (by rw [HFV.out, hvm])
        clear hvm
        simp only [optV]
        go_upto_region 7 with (fail)
        go_region
        all_goals
          simp only [Exit.then]
          apply_assumption
          go_wp2
          refine post_gen (FEnd W (.string ⟨#[]⟩) (.int .u8 0) (.int .i64 0) (.int .i64 0) (.int .u64 0) (.int .i64 15) (.int .i64 f.dflt.place)) ?_ ?_
          · first
              | exact (fend1 HR3.out HF3.out HB3.out _ _ _ _ _ _ _).drew
              | exact (fend2 HR3.out HF3.out HB3.out _ _ _ _ _ _ _).drew
              | exact fend1 (W1 := W3.drew) HR3.out HF3.out HB3.out.drew _ _ _ _ _ _ _
              | exact fend2 (W1 := W3.drew) HR3.out HF3.out HB3.out.drew _ _ _ _ _ _ _
          · rintro Wf ⟨e1, e2, e3⟩
            obtain ⟨_, c0, c1, c2, c3, c4, _⟩ := blk5' e1
            obtain ⟨_, d0, d1, _⟩ := blk2 e2
            exact bodyPost_ret (v := .tuple #[.agg #[.string ⟨#[]⟩, .int .u8 0, .int .i64 0, .int .i64 0, .int .u64 0], .agg #[.int .i64 15, .int .i64 f.dflt.place]]) (by simp [results, Tryz.results166, go_sem, c0, c1, c2, c3, c4, d0, d1]) rfl ⟨by rw [HV.out]; rfl, e3⟩
      | some d =>
        have HV : Hid (V = .ok ⟨strOfNums f.name, kd, rf, f.ty.lists, d⟩) := Lib.hid (by rw [HFV.out, hvm])
        clear hvm
        simp only [optV]
        go_upto_region 8 with (fail)
        obtain ⟨hTl3, t0, t1, t2, q0, q1, q2⟩ := blk3 HT3.out
        have hI3l : W.heap.size < W3.heap.size := blk_lt HI3.out
        have nt0 : W.heap.size ≠ W.heap.size + 1 + 1 := by omega
        have nt1 : T6 ≠ W.heap.size + 1 + 1 := by omega
        have nf0 : W.heap.size ≠ W.heap.size + 1 := by omega
        have nf1 : T6 ≠ W.heap.size + 1 := by omega
        have HCC := Lib.hid (show ∀ w', Below W3.heap.size W3 w' → w'.cell? ⟨W.heap.size, 0, none⟩ = some (.string (strOfNums f.name)) ∧ w'.cell? ⟨T6, 0, none⟩ = some (.int .u8 kd) ∧ w'.cell? ⟨T6, 1, none⟩ = some (.int .i64 rf) ∧ w'.cell? ⟨T6, 2, none⟩ = some (.int .i64 f.ty.lists) from fun w' h => ⟨(h.cell (p := ⟨W.heap.size, 0, none⟩) hI3l).trans y0, (h.cell (p := ⟨T6, 0, none⟩) hTl3).trans t0, (h.cell (p := ⟨T6, 1, none⟩) hTl3).trans t1, (h.cell (p := ⟨T6, 2, none⟩) hTl3).trans t2⟩)
        have s0 := y0
        have s1 := t0
        have s2 := t1
        have s3 := t2
        have sd0 : W3.drew.cell? ⟨W.heap.size, 0, none⟩ = some (.string (strOfNums f.name)) := y0
        have sd1 : W3.drew.cell? ⟨T6, 0, none⟩ = some (.int .u8 kd) := t0
        have sd2 : W3.drew.cell? ⟨T6, 1, none⟩ = some (.int .i64 rf) := t1
        have sd3 : W3.drew.cell? ⟨T6, 2, none⟩ = some (.int .i64 f.ty.lists) := t2
        refine wp_region_noPanic ?_
        clear sd0 sd1 sd2 sd3 s0 s1 s2 s3
        go_region_law (go_simp; go_at_call 163; (with_reducible refine (clone_any (strOfNums f.name) W3.drew HCS.out).mono ?_); rintro e Wc ⟨rfl, hbc⟩; have hbw : Below W3.heap.size W3 Wc := drew_below hbc; obtain ⟨k0, k1, k2, k3⟩ := HCC.out Wc hbw; have hrc := blk_below HR3.out hbw (blk_lt HR3.out); have hfc := blk_below HF3.out hbw (blk_lt HF3.out); obtain ⟨_, rr0, rr1, rr2, rr3, rr4, pp0, pp1, pp2, pp3, pp4⟩ := blk5' hrc; obtain ⟨_, ff0, ff1, gg0, gg1⟩ := blk2 hfc; have HRC := Lib.hid hrc; have HFC := Lib.hid hfc; have HBC := Lib.hid (HB3.out.trans (hbw.mono HB3.out.size)); clear hbc hbw hrc hfc)
        all_goals
          refine NoPanic.normal ?_
          simp only [Exit.then]
          apply_assumption
          go_wp2
          refine post_gen (FEnd W (.string (strOfNums f.name)) (.int .u8 kd) (.int .i64 rf) (.int .i64 f.ty.lists) (.int .u64 d) (.int .i64 0) (.int .i64 0)) ?_ ?_
          · first
              | exact fend1 HRC.out HFC.out HBC.out _ _ _ _ _ _ _
              | exact fend2 HRC.out HFC.out HBC.out _ _ _ _ _ _ _
              | exact fend3 HRC.out HFC.out HBC.out _ _ _ _ _
              | exact (fend1 HRC.out HFC.out HBC.out _ _ _ _ _ _ _).drew
              | exact (fend2 HRC.out HFC.out HBC.out _ _ _ _ _ _ _).drew
              | exact (fend3 HRC.out HFC.out HBC.out _ _ _ _ _).drew
          · rintro Wf ⟨e1, e2, e3⟩
            obtain ⟨_, c0, c1, c2, c3, c4, _⟩ := blk5' e1
            obtain ⟨_, d0, d1, _⟩ := blk2 e2
            exact bodyPost_ret (v := .tuple #[.agg #[.string (strOfNums f.name), .int .u8 kd, .int .i64 rf, .int .i64 f.ty.lists, .int .u64 d], .agg #[.int .i64 0, .int .i64 0]]) (by simp [results, Tryz.results166, go_sem, c0, c1, c2, c3, c4, d0, d1]) rfl ⟨by rw [HV.out]; rfl, e3⟩
end Go.Proofs.YtgbcchiheddfpaaGreatDoor
