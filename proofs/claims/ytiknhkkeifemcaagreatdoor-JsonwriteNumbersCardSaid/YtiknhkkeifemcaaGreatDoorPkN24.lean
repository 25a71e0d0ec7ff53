/-
  The hand's Made: a field's default, and the field put to the others. Conditions: those that each theorem names.
-/
import Derived.Test.YtiknhkkeifemcaaGreatDoorPkN22
namespace Go.Proofs.YtiknhkkeifemcaaGreatDoor
open Go.ChangeShapes Go.WideShapes Go.ChangeAt Go.RowKit Go.Shelf

noncomputable def made37 : Code := (Tryz.f15.body.bind (findRegion 37)).getD .skip
set_option maxRecDepth 100000 in
theorem put_wp {Q : Exit → Act → World → Prop} {c : Act} {W : World} {a : Option Addr} {b i n c0 R k T G : Nat} {rn fv : Value} {f : SFld} {xs : List Value} (hc : FrF b i a n c0 R k T G c) (hG : FldAt W G f) (hk : k ≤ 16)
    (hR : W.heap[R]? = some (.cells #[rn, fv] 63 (0, 0))) (hrow : W.ownsRow (R + 1) 60 5 fv k xs)
    (hQ : ∀ c' w' fv', FrD b i a n c0 R k c' → Below R W w' → w'.heap[R]? = some (.cells #[rn, fv'] 63 (0, 0)) → w'.ownsRow (R + 1) 60 5 fv' (k + 1) (xs ++ sfldCells f) → Q .normal c' w') :
    Code.wp Tryz.prog made37 Q c W := by
  obtain ⟨u, rfl⟩ := frf_lit hc
  have HQ := Lib.hid hQ
  have HR := Lib.hid hR
  have HROW := Lib.hid hrow
  obtain ⟨fva, fvc, rfl⟩ := ownsRow_form hrow
  obtain ⟨hRl, r0, r1, s0, s1⟩ := blk2 hR
  obtain ⟨_, g0, g1, g2, g3, g4, _⟩ := blk5 hG
  obtain ⟨i0, hi0, hzz0, hzz1, hzz2⟩ := info_parts sfld_info
  have I1 := Lib.hid hi0
  have I2 := Lib.hid hzz0
  have I3 := Lib.hid hzz1
  have I4 := Lib.hid hzz2
  have HBN := Lib.hid (heap_alloc_new W (.cells #[.string f.name, .int .u8 f.kind, .int .i64 f.ref, .int .i64 f.lists, .int .u64 f.dflt] 60))
  have HBA := Lib.hid ((Below.refl W.heap.size W).alloc (Nat.le_refl _) (.cells #[.string f.name, .int .u8 f.kind, .int .i64 f.ref, .int .i64 f.lists, .int .u64 f.dflt] 60))
  clear hc hQ hR hrow hG hi0 hzz0 hzz1 hzz2
  conv => arg 2; whnf
  go_wp2_with (at_builtin; refine wpList_append_own _ rfl (.tmp 229) (.tmp 231) 61 rfl (R + 1) 60 i0 _ 5 48 Tryz.underlying61 I1.out I2.out I3.out I4.out rfl (by decide) _ k xs rfl (row_keep HBA.out HROW.out) _ 1 1 (sfldCells f) rfl rfl (World.news_of_block HBN.out) (by intro u hu; simp [sfldCells] at hu; rcases hu with rfl | rfl | rfl | rfl | rfl <;> rfl) (by unfold maxLen; omega) (by omega) (by simp; omega) ?_; intro v4 W8 hown4 hg4 hx; clear hx; obtain ⟨a4, m4, rfl⟩ := ownsRow_form hown4; obtain ⟨s1', s2', s3', s4'⟩ := step2 (Below.refl R W) HR.out HROW.out HBA.out hg4 hown4; obtain ⟨_, d0, d1, e0, e1⟩ := blk2 s4'; have S1 := Lib.hid s1'; have S2 := Lib.hid s2'; have S3 := Lib.hid s3'; clear s1' s2' s3' s4' hown4 hg4)
  exact HQ.out _ _ _ ⟨rfl, rfl, rfl, rfl, rfl, rfl, rfl, rfl, rfl, rfl⟩ S1.out S2.out S3.out
theorem keep1 {w : World} {g i : Nat} {p : Addr} {v x : Value} (h : w.cell? p = some v) (hp : p.block ≠ g) : (w.setCell ⟨g, i, none⟩ x).cell? p = some v :=
  (World.cell?_of_block (Below.heap_setCell _ _ _ _ hp)).trans h
theorem row_under {w w' : World} {B base : Nat} {e : TypeId} {size : Nat} {v : Value} {n : Nat} {xs : List Value} (h : Below B w w') (ho : w.ownsRow base e size v n xs) (hB : ∀ k, v.ownBlock = some k → k < B) : w'.ownsRow base e size v n xs := by
  obtain ⟨hl, h'⟩ := ho
  refine ⟨hl, ?_⟩
  rcases h' with h1 | ⟨g', cap', cur, hv, h1, hg', h2⟩
  · exact .inl h1
  · subst hv
    exact .inr ⟨g', cap', cur, rfl, h1, (h.block g' (hB g' (by simp [Value.ownBlock]))).trans hg', h2⟩
def NumsAre (p : Plan) (kd rf ls n : Nat) (sv ev : Value) (rt : Nat) (W : World) : Prop :=
  ∀ W', Below W.heap.size W W' → Calls Tryz.prog 31 #[.agg #[sv, ev, .int .i64 rt], .agg #[.int .u8 kd, .int .i64 rf, .int .i64 ls], .int .u64 n] W' fun e w' => e = .returned (.int .u64 (numP (cntOf p rf) kd n : Nat)) ∧ Below W'.heap.size W' w'
set_option maxRecDepth 100000 in
set_option maxHeartbeats 4000000 in
theorem dflt_wp {Q : Exit → Act → World → Prop} {c : Act} {w W : World} {p : Plan} {f : PF} {a : Option Addr} {b i n c0 R k T G B off kd rf ls rt : Nat} {nm : ByteArray} {rn fv sv ev : Value} {xs : List Value} (hc : FrF b i a n c0 R k T G c) (hf : PFAt w a k f B off) (hbw : Below w.heap.size w W) (hkn : k < n) (hn : n ≤ 16)
    (ht : MTyAt W T kd rf ls) (hkd : kd ≤ 255) (hG : FldAt W G ⟨nm, kd, rf, ls, 0⟩) (hTG : T < G) (hRT : R < T) (hbR : b + 2 < R) (hBR : B < R)
    (hout : W.heap[b + 2]? = some (.cells #[sv, ev, .int .i64 rt] 30 (0, 0))) (hnum : isNumP kd ls = true → NumsAre p kd rf ls f.dflt sv ev rt W)
    (hR : W.heap[R]? = some (.cells #[rn, fv] 63 (0, 0))) (hrow : W.ownsRow (R + 1) 60 5 fv k xs) (hrT : ∀ g, fv.ownBlock = some g → g < T)
    (hQ : ∀ c' w' fv', FrD b i a n c0 R k c' → Below R W w' → w'.heap[R]? = some (.cells #[rn, fv'] 63 (0, 0)) → w'.ownsRow (R + 1) 60 5 fv' (k + 1) (xs ++ sfldCells ⟨nm, kd, rf, ls, if isNumP kd ls = true then numP (cntOf p rf) kd f.dflt else 0⟩) → Q .normal c' w') :
    Code.wp Tryz.prog made35 Q c W := by
  obtain ⟨u, rfl⟩ := frf_lit hc
  obtain ⟨_, t0, t1, t2, _⟩ := blk3 ht
  have HIS := Lib.hid (isnum_any kd rf ls)
  have HQ := Lib.hid hQ
  have HNUM := Lib.hid hnum
  have HT := Lib.hid ht
  have HG := Lib.hid hG
  have HOUT := Lib.hid hout
  have HR := Lib.hid hR
  have HROW := Lib.hid hrow
  have HRT := Lib.hid hrT
  obtain ⟨rfl, hB, x0, x1, x2, x3, x4, l0, l1, l2, l3, l4⟩ := hf
  have y4 := (hbw.cell (p := ⟨B, off + k * 5 + 4, none⟩) hB).trans x4
  have HY4 := Lib.hid y4
  have hGW : G < W.heap.size := blk_lt hG
  have hki : (k : Int) < n := by omega
  clear hc hQ hnum ht hG hout hR hrow hrT x0 x1 x2 x3 x4 l0 l1 l2 l3 l4 hbw hB y4
  conv => arg 2; whnf
  go_wp2_with fail
  refine (HIS.out _ hkd).mono ?_
  rintro e W1 ⟨rfl, hb1⟩
  have HB1 := Lib.hid hb1
  have hG1 : G < W1.heap.size := Nat.lt_of_lt_of_le hGW hb1.size
  have t0' := (hb1.cell (p := ⟨T, 0, none⟩) (by show T < _; omega)).trans t0
  clear hb1 t0 t1 t2
  generalize hin : isNumP kd ls = bb at *
  have HIN := Lib.hid hin
  clear hin
  cases bb with
  | false =>
    go_upto_region 37 with (fail)
    refine put_wp (fv := fv) (rn := rn) ⟨rfl, rfl, rfl, rfl, rfl, rfl, rfl, rfl, rfl, rfl, rfl, rfl⟩ (blk_below HG.out HB1.out (blk_lt HG.out)) (by omega) (blk_below HR.out HB1.out (blk_lt HR.out)) (row_keep HB1.out HROW.out) ?_
    intro c' w' fv' h1 h2 h3 h4
    exact HQ.out c' w' fv' h1 ((HB1.out.mono (by omega)).trans h2) h3 h4
  | true =>
    have hN0 := HNUM.out rfl
    unfold NumsAre at hN0
    have HN := Lib.hid hN0
    clear hN0
    have HG1 := Lib.hid (blk_below HG.out HB1.out (blk_lt HG.out))
    have HR1 := Lib.hid (blk_below HR.out HB1.out (blk_lt HR.out))
    have HROW1 := Lib.hid (row_keep HB1.out HROW.out)
    have ho1 := blk_below HOUT.out HB1.out (blk_lt HOUT.out)
    have ht1 := blk_below HT.out HB1.out (blk_lt HT.out)
    have y4 := (HB1.out.cell (p := ⟨B, off + k * 5 + 4, none⟩) (by show B < _; omega)).trans HY4.out
    obtain ⟨_, o0, o1, o2, _⟩ := blk3 ho1
    obtain ⟨_, t0, t1, t2, _⟩ := blk3 ht1
    have HB1D := Lib.hid HB1.out.drew
    have hbs : b + 2 < W1.heap.size := blk_lt ho1
    have hOne : b + 2 ≠ G := by omega
    have hTne : T ≠ G := by omega
    have hBne : B ≠ G := by omega
    have hTs : T < W1.heap.size := by omega
    have hBs : B < W1.heap.size := by omega
    have HCC := Lib.hid (show ∀ W3, Below W1.heap.size W1 W3 → W3.cell? ⟨b + 2, 0, none⟩ = some sv ∧ W3.cell? ⟨b + 2, 1, none⟩ = some ev ∧ W3.cell? ⟨b + 2, 2, none⟩ = some (.int .i64 rt) ∧ W3.cell? ⟨T, 0, none⟩ = some (.int .u8 kd) ∧ W3.cell? ⟨T, 1, none⟩ = some (.int .i64 rf) ∧ W3.cell? ⟨T, 2, none⟩ = some (.int .i64 ls) ∧ W3.cell? ⟨B, off + k * 5 + 4, none⟩ = some (.int .u64 (f.dflt : Nat)) from fun W3 hb3 => ⟨(hb3.cell (p := ⟨b + 2, 0, none⟩) hbs).trans o0, (hb3.cell (p := ⟨b + 2, 1, none⟩) hbs).trans o1, (hb3.cell (p := ⟨b + 2, 2, none⟩) hbs).trans o2, (hb3.cell (p := ⟨T, 0, none⟩) hTs).trans t0, (hb3.cell (p := ⟨T, 1, none⟩) hTs).trans t1, (hb3.cell (p := ⟨T, 2, none⟩) hTs).trans t2, (hb3.cell (p := ⟨B, off + k * 5 + 4, none⟩) hBs).trans y4⟩)
    clear ho1 ht1 t0'
    go_upto_region 36 with (fail)
    go_region_held3 (fun w' => w'.cell? ⟨b + 2, 0, none⟩ = some sv ∧ w'.cell? ⟨b + 2, 1, none⟩ = some ev ∧ w'.cell? ⟨b + 2, 2, none⟩ = some (.int .i64 rt) ∧ w'.cell? ⟨T, 0, none⟩ = some (.int .u8 kd) ∧ w'.cell? ⟨T, 1, none⟩ = some (.int .i64 rf) ∧ w'.cell? ⟨T, 2, none⟩ = some (.int .i64 ls) ∧ w'.cell? ⟨B, off + k * 5 + 4, none⟩ = some (.int .u64 (f.dflt : Nat)))
      (first | assumption | (with_reducible exact ⟨keep1 k0 hOne, keep1 k1 hOne, keep1 k2 hOne, keep1 k3 hTne, keep1 k4 hTne, keep1 k5 hTne, keep1 k6 hBne⟩) | go_keep)
      (first | (go_at_call 31; (with_reducible refine (HN.out W1.drew HB1D.out).mono ?_); rintro e W3 ⟨rfl, hb3⟩; have hbW : Below W1.heap.size W1 W3 := bfact_drew hb3; obtain ⟨k0, k1, k2, k3, k4, k5, k6⟩ := HCC.out W3 hbW; have hGb := blk_below HG1.out hbW hG1; have HGB := Lib.hid hGb; obtain ⟨_, g0, g1, g2, g3, g4, j0, j1, j2, j3, j4⟩ := blk5 hGb; clear hGb g0 g1 g2 g3 j0 j1 j2 j3) | (go_at_call 31; (with_reducible refine (HN.out W1 HB1.out).mono ?_); rintro e W3 ⟨rfl, hb3⟩; have hbW : Below W1.heap.size W1 W3 := hb3; obtain ⟨k0, k1, k2, k3, k4, k5, k6⟩ := HCC.out W3 hbW; have hGb := blk_below HG1.out hbW hG1; have HGB := Lib.hid hGb; obtain ⟨_, g0, g1, g2, g3, g4, j0, j1, j2, j3, j4⟩ := blk5 hGb; clear hGb g0 g1 g2 g3 j0 j1 j2 j3))
    all_goals
      go_upto_region 37 with (fail)
      have hbn : Below G W1 (W3.setCell ⟨G, 4, none⟩ (.int .u64 (numP (cntOf p rf) kd f.dflt : Nat))) := (hbW.mono (Nat.le_of_lt hG1)).setCell (p := ⟨G, 4, none⟩) (Nat.le_refl _) _
      refine put_wp (fv := fv) (rn := rn) (xs := xs) (f := ⟨nm, kd, rf, ls, numP (cntOf p rf) kd f.dflt⟩) ⟨rfl, rfl, rfl, rfl, rfl, rfl, rfl, rfl, rfl, rfl, rfl, rfl⟩ ((blk_set HGB.out 4 _).trans rfl) (by omega) (blk_below HR1.out hbn (by omega)) (row_under hbn HROW1.out (fun g hg => by have := HRT.out g hg; omega)) ?_
      intro c' w' fv' h1 h2 h3 h4
      exact HQ.out c' w' fv' h1 (((HB1.out.mono (by omega)).trans (hbn.mono (by omega))).trans h2) h3 h4
end Go.Proofs.YtiknhkkeifemcaaGreatDoor
