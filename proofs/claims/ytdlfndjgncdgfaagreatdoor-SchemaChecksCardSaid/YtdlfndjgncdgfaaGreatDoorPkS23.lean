/-
  The hand's Made: the loop over a struct's fields. Conditions: those that each theorem names.
-/
import Derived.Test.YtdlfndjgncdgfaaGreatDoorPkS5
import Derived.Test.YtdlfndjgncdgfaaGreatDoorPkS6
import Derived.Test.YtdlfndjgncdgfaaGreatDoorPkS10
import Derived.Test.YtdlfndjgncdgfaaGreatDoorPkS13
import Derived.Test.YtdlfndjgncdgfaaGreatDoorPkS20
import Derived.Laws.BytesArg
namespace Go.Proofs.YtdlfndjgncdgfaaGreatDoor
open Go.ChangeShapes Go.WideShapes Go.ChangeAt Go.RowKit Go.Shelf

noncomputable def made37 : Code := (Tryz.f7.body.bind (findRegion 37)).getD .skip
set_option maxRecDepth 100000 in
theorem put_wp {Q : Exit → Act → World → Prop} {c : Act} {W : World} {a : Option Addr} {b i n c0 R k T G : Nat} {rn fv : Value} {f : SFld} {xs : List Value} (hc : FrF b i a n c0 R k T G c) (hG : FldAt W G f) (hk : k ≤ 16)
    (hR : W.heap[R]? = some (.cells #[rn, fv] 54 (0, 0))) (hrow : W.ownsRow (R + 1) 51 5 fv k xs)
    (hQ : ∀ c' w' fv', FrD b i a n c0 R k c' → Below R W w' → w'.heap[R]? = some (.cells #[rn, fv'] 54 (0, 0)) → w'.ownsRow (R + 1) 51 5 fv' (k + 1) (xs ++ sfldCells f) → Q .normal c' w') :
    Code.wp Tryz.prog made37 Q c W := by
  obtain ⟨u, rfl⟩ := frf_lit hc
  have HQ := Lib.hid hQ
  have HR := Lib.hid hR
  have HROW := Lib.hid hrow
  obtain ⟨fva, fvc, rfl⟩ := ownsRow_form hrow
  obtain ⟨hRl, r0, r1, s0, s1⟩ := blk2 hR
  obtain ⟨_, g0, g1, g2, g3, g4, _⟩ := blk5 hG
  obtain ⟨i0, hi0, hzz0, hzz1, hzz2⟩ := info_parts sfld_info
  have I1 := Lib.hid hi0
  have I2 := Lib.hid hzz0
  have I3 := Lib.hid hzz1
  have I4 := Lib.hid hzz2
  have HBN := Lib.hid (heap_alloc_new W (.cells #[.string f.name, .int .u8 f.kind, .int .i64 f.ref, .int .i64 f.lists, .int .u64 f.dflt] 51))
  have HBA := Lib.hid ((Below.refl W.heap.size W).alloc (Nat.le_refl _) (.cells #[.string f.name, .int .u8 f.kind, .int .i64 f.ref, .int .i64 f.lists, .int .u64 f.dflt] 51))
  clear hc hQ hR hrow hG hi0 hzz0 hzz1 hzz2
  conv => arg 2; whnf
  go_wp2_with (at_builtin; refine wpList_append_own _ rfl (.tmp 229) (.tmp 231) 52 rfl (R + 1) 51 i0 _ 5 48 Tryz.underlying52 I1.out I2.out I3.out I4.out rfl (by decide) _ k xs rfl (row_keep HBA.out HROW.out) _ 1 1 (sfldCells f) rfl rfl (World.news_of_block HBN.out) (by intro u hu; simp [sfldCells] at hu; rcases hu with rfl | rfl | rfl | rfl | rfl <;> rfl) (by unfold maxLen; omega) (by omega) (by simp; omega) ?_; intro v4 W8 hown4 hg4 hx; clear hx; obtain ⟨a4, m4, rfl⟩ := ownsRow_form hown4; obtain ⟨s1', s2', s3', s4'⟩ := step2 (Below.refl R W) HR.out HROW.out HBA.out hg4 hown4; obtain ⟨_, d0, d1, e0, e1⟩ := blk2 s4'; have S1 := Lib.hid s1'; have S2 := Lib.hid s2'; have S3 := Lib.hid s3'; clear s1' s2' s3' s4' hown4 hg4)
  exact HQ.out _ _ _ ⟨rfl, rfl, rfl, rfl, rfl, rfl, rfl, rfl, rfl, rfl⟩ S1.out S2.out S3.out
theorem keep1 {w : World} {g i : Nat} {p : Addr} {v x : Value} (h : w.cell? p = some v) (hp : p.block ≠ g) : (w.setCell ⟨g, i, none⟩ x).cell? p = some v :=
  (World.cell?_of_block (Below.heap_setCell _ _ _ _ hp)).trans h
theorem row_under {w w' : World} {B base : Nat} {e : TypeId} {size : Nat} {v : Value} {n : Nat} {xs : List Value} (h : Below B w w') (ho : w.ownsRow base e size v n xs) (hB : ∀ k, v.ownBlock = some k → k < B) : w'.ownsRow base e size v n xs := by
  obtain ⟨hl, h'⟩ := ho
  refine ⟨hl, ?_⟩
  rcases h' with h1 | ⟨g', cap', cur, hv, h1, hg', h2⟩
  · exact .inl h1
  · subst hv
    exact .inr ⟨g', cap', cur, rfl, h1, (h.block g' (hB g' (by simp [Value.ownBlock]))).trans hg', h2⟩
def NumsAre (p : Plan) (kd rf ls n : Nat) (sv ev : Value) (rt : Nat) (W : World) : Prop :=
  ∀ W', Below W.heap.size W W' → Calls Tryz.prog 18 #[.agg #[sv, ev, .int .i64 rt], .agg #[.int .u8 kd, .int .i64 rf, .int .i64 ls], .int .u64 n] W' fun e w' => e = .returned (.int .u64 (numP (cntOf p rf) kd n : Nat)) ∧ Below W'.heap.size W' w'
set_option maxRecDepth 100000 in
set_option maxHeartbeats 4000000 in
theorem dflt_wp {Q : Exit → Act → World → Prop} {c : Act} {w W : World} {p : Plan} {f : PF} {a : Option Addr} {b i n c0 R k T G B off kd rf ls rt : Nat} {nm : ByteArray} {rn fv sv ev : Value} {xs : List Value} (hc : FrF b i a n c0 R k T G c) (hf : PFAt w a k f B off) (hbw : Below w.heap.size w W) (hkn : k < n) (hn : n ≤ 16)
    (ht : MTyAt W T kd rf ls) (hkd : kd ≤ 255) (hG : FldAt W G ⟨nm, kd, rf, ls, 0⟩) (hTG : T < G) (hRT : R < T) (hbR : b + 2 < R) (hBR : B < R)
    (hout : W.heap[b + 2]? = some (.cells #[sv, ev, .int .i64 rt] 30 (0, 0))) (hnum : isNumP kd ls = true → NumsAre p kd rf ls f.dflt sv ev rt W)
    (hR : W.heap[R]? = some (.cells #[rn, fv] 54 (0, 0))) (hrow : W.ownsRow (R + 1) 51 5 fv k xs) (hrT : ∀ g, fv.ownBlock = some g → g < T)
    (hQ : ∀ c' w' fv', FrD b i a n c0 R k c' → Below R W w' → w'.heap[R]? = some (.cells #[rn, fv'] 54 (0, 0)) → w'.ownsRow (R + 1) 51 5 fv' (k + 1) (xs ++ sfldCells ⟨nm, kd, rf, ls, if isNumP kd ls = true then numP (cntOf p rf) kd f.dflt else 0⟩) → Q .normal c' w') :
    Code.wp Tryz.prog made35 Q c W := by
  obtain ⟨u, rfl⟩ := frf_lit hc
  obtain ⟨_, t0, t1, t2, _⟩ := blk3 ht
  have HIS := Lib.hid (isnum_any kd rf ls)
  have HQ := Lib.hid hQ
  have HNUM := Lib.hid hnum
  have HT := Lib.hid ht
  have HG := Lib.hid hG
  have HOUT := Lib.hid hout
  have HR := Lib.hid hR
  have HROW := Lib.hid hrow
  have HRT := Lib.hid hrT
  obtain ⟨rfl, hB, x0, x1, x2, x3, x4, l0, l1, l2, l3, l4⟩ := hf
  have y4 := (hbw.cell (p := ⟨B, off + k * 5 + 4, none⟩) hB).trans x4
  have HY4 := Lib.hid y4
  have hGW : G < W.heap.size := blk_lt hG
  have hki : (k : Int) < n := by omega
  clear hc hQ hnum ht hG hout hR hrow hrT x0 x1 x2 x3 x4 l0 l1 l2 l3 l4 hbw hB y4
  conv => arg 2; whnf
  go_wp2_with fail
  refine (HIS.out _ hkd).mono ?_
  rintro e W1 ⟨rfl, hb1⟩
  have HB1 := Lib.hid hb1
  have hG1 : G < W1.heap.size := Nat.lt_of_lt_of_le hGW hb1.size
  have t0' := (hb1.cell (p := ⟨T, 0, none⟩) (by show T < _; omega)).trans t0
  clear hb1 t0 t1 t2
  generalize hin : isNumP kd ls = bb at *
  have HIN := Lib.hid hin
  clear hin
  cases bb with
  | false =>
    go_upto_region 37 with (fail)
    refine put_wp (fv := fv) (rn := rn) ⟨rfl, rfl, rfl, rfl, rfl, rfl, rfl, rfl, rfl, rfl, rfl, rfl⟩ (blk_below HG.out HB1.out (blk_lt HG.out)) (by omega) (blk_below HR.out HB1.out (blk_lt HR.out)) (row_keep HB1.out HROW.out) ?_
    intro c' w' fv' h1 h2 h3 h4
    exact HQ.out c' w' fv' h1 ((HB1.out.mono (by omega)).trans h2) h3 h4
  | true =>
    have hN0 := HNUM.out rfl
    unfold NumsAre at hN0
    have HN := Lib.hid hN0
    clear hN0
    have HG1 := Lib.hid (blk_below HG.out HB1.out (blk_lt HG.out))
    have HR1 := Lib.hid (blk_below HR.out HB1.out (blk_lt HR.out))
    have HROW1 := Lib.hid (row_keep HB1.out HROW.out)
    have ho1 := blk_below HOUT.out HB1.out (blk_lt HOUT.out)
    have ht1 := blk_below HT.out HB1.out (blk_lt HT.out)
    have y4 := (HB1.out.cell (p := ⟨B, off + k * 5 + 4, none⟩) (by show B < _; omega)).trans HY4.out
    obtain ⟨_, o0, o1, o2, _⟩ := blk3 ho1
    obtain ⟨_, t0, t1, t2, _⟩ := blk3 ht1
    have HB1D := Lib.hid HB1.out.drew
    have hbs : b + 2 < W1.heap.size := blk_lt ho1
    have hOne : b + 2 ≠ G := by omega
    have hTne : T ≠ G := by omega
    have hBne : B ≠ G := by omega
    have hTs : T < W1.heap.size := by omega
    have hBs : B < W1.heap.size := by omega
    have HCC := Lib.hid (show ∀ W3, Below W1.heap.size W1 W3 → W3.cell? ⟨b + 2, 0, none⟩ = some sv ∧ W3.cell? ⟨b + 2, 1, none⟩ = some ev ∧ W3.cell? ⟨b + 2, 2, none⟩ = some (.int .i64 rt) ∧ W3.cell? ⟨T, 0, none⟩ = some (.int .u8 kd) ∧ W3.cell? ⟨T, 1, none⟩ = some (.int .i64 rf) ∧ W3.cell? ⟨T, 2, none⟩ = some (.int .i64 ls) ∧ W3.cell? ⟨B, off + k * 5 + 4, none⟩ = some (.int .u64 (f.dflt : Nat)) from fun W3 hb3 => ⟨(hb3.cell (p := ⟨b + 2, 0, none⟩) hbs).trans o0, (hb3.cell (p := ⟨b + 2, 1, none⟩) hbs).trans o1, (hb3.cell (p := ⟨b + 2, 2, none⟩) hbs).trans o2, (hb3.cell (p := ⟨T, 0, none⟩) hTs).trans t0, (hb3.cell (p := ⟨T, 1, none⟩) hTs).trans t1, (hb3.cell (p := ⟨T, 2, none⟩) hTs).trans t2, (hb3.cell (p := ⟨B, off + k * 5 + 4, none⟩) hBs).trans y4⟩)
    clear ho1 ht1 t0'
    go_upto_region 36 with (fail)
    go_region_held3 (fun w' => w'.cell? ⟨b + 2, 0, none⟩ = some sv ∧ w'.cell? ⟨b + 2, 1, none⟩ = some ev ∧ w'.cell? ⟨b + 2, 2, none⟩ = some (.int .i64 rt) ∧ w'.cell? ⟨T, 0, none⟩ = some (.int .u8 kd) ∧ w'.cell? ⟨T, 1, none⟩ = some (.int .i64 rf) ∧ w'.cell? ⟨T, 2, none⟩ = some (.int .i64 ls) ∧ w'.cell? ⟨B, off + k * 5 + 4, none⟩ = some (.int .u64 (f.dflt : Nat)))
      (first | assumption | (with_reducible exact ⟨keep1 k0 hOne, keep1 k1 hOne, keep1 k2 hOne, keep1 k3 hTne, keep1 k4 hTne, keep1 k5 hTne, keep1 k6 hBne⟩) | go_keep)
      (first | (go_at_call 18; (with_reducible refine (HN.out W1.drew HB1D.out).mono ?_); rintro e W3 ⟨rfl, hb3⟩; have hbW : Below W1.heap.size W1 W3 := bfact_drew hb3; obtain ⟨k0, k1, k2, k3, k4, k5, k6⟩ := HCC.out W3 hbW; have hGb := blk_below HG1.out hbW hG1; have HGB := Lib.hid hGb; obtain ⟨_, g0, g1, g2, g3, g4, j0, j1, j2, j3, j4⟩ := blk5 hGb; clear hGb g0 g1 g2 g3 j0 j1 j2 j3) | (go_at_call 18; (with_reducible refine (HN.out W1 HB1.out).mono ?_); rintro e W3 ⟨rfl, hb3⟩; have hbW : Below W1.heap.size W1 W3 := hb3; obtain ⟨k0, k1, k2, k3, k4, k5, k6⟩ := HCC.out W3 hbW; have hGb := blk_below HG1.out hbW hG1; have HGB := Lib.hid hGb; obtain ⟨_, g0, g1, g2, g3, g4, j0, j1, j2, j3, j4⟩ := blk5 hGb; clear hGb g0 g1 g2 g3 j0 j1 j2 j3))
    all_goals
      go_upto_region 37 with (fail)
      have hbn : Below G W1 (W3.setCell ⟨G, 4, none⟩ (.int .u64 (numP (cntOf p rf) kd f.dflt : Nat))) := (hbW.mono (Nat.le_of_lt hG1)).setCell (p := ⟨G, 4, none⟩) (Nat.le_refl _) _
      refine put_wp (fv := fv) (rn := rn) (xs := xs) (f := ⟨nm, kd, rf, ls, numP (cntOf p rf) kd f.dflt⟩) ⟨rfl, rfl, rfl, rfl, rfl, rfl, rfl, rfl, rfl, rfl, rfl, rfl⟩ ((blk_set HGB.out 4 _).trans rfl) (by omega) (blk_below HR1.out hbn (by omega)) (row_under hbn HROW1.out (fun g hg => by have := HRT.out g hg; omega)) ?_
      intro c' w' fv' h1 h2 h3 h4
      exact HQ.out c' w' fv' h1 (((HB1.out.mono (by omega)).trans (hbn.mono (by omega))).trans h2) h3 h4
end Go.Proofs.YtdlfndjgncdgfaaGreatDoor
namespace Go.Proofs.YtdlfndjgncdgfaaGreatDoor
open Go.ChangeShapes Go.WideShapes Go.ChangeAt Go.RowKit Go.Shelf

def okU (zs : List Int) : Bool := decide (u8At zs 0 < 0)
def quoVal (zs : List Int) (i : Nat) : Value := if quoBad okU zs i = true then .tuple #[.int .i64 0, .bool false] else .tuple #[.int .i64 (quoEnd zs i + 1 : Nat), .bool true]
theorem quoVal_eq (zs : List Int) (i : Nat) : quoVal zs i = if quoBad okU zs i = true then .tuple #[.int .i64 0, .bool false] else .tuple #[.int .i64 (quoEnd zs i + 1 : Nat), .bool true] := rfl
theorem sub_length (zs : List Int) (i j : Nat) (_h : i ≤ j) (h2 : j ≤ zs.length) : (sub zs i j).length = j - i := by
  unfold sub
  rw [List.length_take, List.length_drop]
  omega
theorem sub_get (zs : List Int) (i j k : Nat) (h : k < j - i) : (sub zs i j).getD k 0 = zs.getD (i + k) 0 := by
  unfold sub
  simp [List.getD, h]
theorem sub_bd {zs : List Int} (h : ∀ i, 0 ≤ zs.getD i 0 ∧ zs.getD i 0 ≤ 255) (i j : Nat) : ∀ k, 0 ≤ (sub zs i j).getD k 0 ∧ (sub zs i j).getD k 0 ≤ 255 := by
  intro k
  by_cases hk : k < j - i
  · rw [sub_get zs i j k hk]
    exact h _
  · have : (sub zs i j).getD k 0 = 0 := by
      unfold sub
      rw [List.getD, List.getElem?_eq_none (by rw [List.length_take]; omega)]
      rfl
    rw [this]
    omega
theorem sub_utf8 (b off c n i j m : Nat) (zs : List Int) (w : World) (hT : Tabs w) (hz : Bytes w (some ⟨b, off, none⟩) zs) (hn : zs.length = n) (hl : n ≤ 281474976710656) (hij : i ≤ j) (hj : j < n) (hm : m = j - i) (hc : m ≤ c) :
    Calls Tryz.prog 137 #[.slice (some ⟨b, off + i, none⟩) m c] w fun e w' => e = .returned (.int .i64 (u8At (sub zs i j) 0)) ∧ Below w.heap.size w w' := by
  obtain ⟨b', off', he, hlt, hcell⟩ := hz.2 (by rintro rfl; simp at hn; omega)
  cases he
  have hlen := sub_length zs i j hij (by omega)
  refine wutf8_off b (off + i) c m (sub zs i j) w hT (sub_bd hz.1 i j) hlt (fun k hk => ?_) (by omega) (by omega) hc
  rw [sub_get zs i j k (by omega), Nat.add_assoc]
  exact hcell (i + k) (by omega)
set_option maxHeartbeats 800000 in
theorem quoted_any (p : Option Addr) (n cap i : Nat) (x : Int) (zs : List Int) (w : World) (hx : x = i) (hT : Tabs w) (hz : Bytes w p zs) (hn : zs.length = n) (hl : n ≤ 281474976710656) (hi : i < n) (hcap : n ≤ cap) :
    Calls Tryz.prog 114 #[.slice p n cap, .int .i64 x] w fun e w' => e = .returned (quoVal zs i) ∧ Below w.heap.size w w' := by
  subst hx
  obtain ⟨b, off, rfl, _, _⟩ := hz.2 (by rintro rfl; simp at hn; omega)
  have HR := Lib.hid (fun (j : Nat) (y : Int) v k W hy hb hk => stands_any (some ⟨b, off, none⟩) n cap j y zs v k W hy (Bytes.below hz (Nat.le_refl _) hb) hn hk hl)
  have HU := Lib.hid (fun (j : Nat) (y : Int) v k W hy hj hb hk => run_any (some ⟨b, off, none⟩) n cap j y zs v k W hy (Bytes.below hz (Nat.le_refl _) hb) hn hk hl hj)
  have HQ := Lib.hid (fun c j m W hb hij hj hm hc => sub_utf8 b off c n (i + 1) j m zs W (Tabs.below hT (Nat.le_refl _) hb) (Bytes.below hz (Nat.le_refl _) hb) hn hl hij hj hm hc)
  have HN := Lib.hid hn
  have HV := Lib.hid (quoVal_eq zs i)
  have hlo := runTo_ge zs isPlain (i + 1)
  have hup := runTo_le zs isPlain (i + 1) (by omega)
  rw [show quoEnd zs i = runTo zs isPlain (i + 1) from rfl] at HV
  have HB0 : Hid (quoBad okU zs i = (!stA zs (isC 34) (runTo zs isPlain (i + 1)) || !okU (sub zs (i + 1) (runTo zs isPlain (i + 1))))) := rfl
  rw [HB0.out] at HV
  rw [HN.out] at hup
  clear hz hn hT HB0
  go_enter Tryz.func114, Tryz.ntmps114
  go_wp2_with fail
  refine (plain_any _).mono ?_
  rintro e W1 ⟨v1, rfl, hb1, hk1⟩
  have HK1 := Lib.hid hk1
  have HB1 := Lib.hid hb1
  clear hk1 hb1
  go_wp2_with fail
  refine (HU.out (i + 1) _ v1 isPlain W1 (by omega) (by omega) HB1.out HK1.out).mono ?_
  rintro e W2 ⟨rfl, hb2⟩
  have HB2 := Lib.hid (HB1.out.trans (hb2.mono HB1.out.size))
  clear hb2
  generalize runTo zs isPlain (i + 1) = E at hlo hup HV ⊢
  go_wp2_with fail
  refine (quote_any _).mono ?_
  rintro e W3 ⟨v3, rfl, hb3, hk3⟩
  have HK3 := Lib.hid hk3
  have HB3 := Lib.hid (HB2.out.trans (hb3.mono HB2.out.size))
  clear hk3 hb3
  go_wp2_with fail
  refine (HR.out E _ v3 (isC 34) W3 rfl HB3.out HK3.out).mono ?_
  rintro e W4 ⟨rfl, hb4⟩
  have HB4 := Lib.hid (HB3.out.trans (hb4.mono HB3.out.size))
  clear hb4
  cases h1 : stA zs (isC 34) E
  · have HV' := Lib.hid (HV.out.trans (if_pos (by rw [h1]; rfl)))
    clear h1
    go_wp2
    go_ret2
    exact ⟨by rw [HV'.out]; rfl, HB4.out⟩
  · have hlt := stA_lt h1
    rw [HN.out] at hlt
    have hE : ¬ cap = i + 1 := by omega
    have H1 := Lib.hid h1
    clear h1
    go_wp2_with fail
    refine (HQ.out _ E _ W4 HB4.out hlo hlt rfl (by omega)).mono ?_
    rintro e W5 ⟨rfl, hb5⟩
    have HB5 := Lib.hid (HB4.out.trans (hb5.mono HB4.out.size))
    clear hb5
    have HO : Hid (okU (sub zs (i + 1) E) = decide (u8At (sub zs (i + 1) E) 0 < 0)) := rfl
    generalize u8At (sub zs (i + 1) E) 0 = u at HO ⊢
    by_cases hu : u < 0
    · have HV' := Lib.hid (HV.out.trans (if_neg (by rw [H1.out, HO.out, decide_eq_true hu]; decide)))
      go_wp2
      go_ret2
      exact ⟨by rw [HV'.out]; rfl, HB5.out⟩
    · have HV' := Lib.hid (HV.out.trans (if_pos (by rw [H1.out, HO.out, decide_eq_false hu]; rfl)))
      go_wp2
      go_ret2
      exact ⟨by rw [HV'.out]; rfl, HB5.out⟩
end Go.Proofs.YtdlfndjgncdgfaaGreatDoor
namespace Go.Proofs.YtdlfndjgncdgfaaGreatDoor
open Go.ChangeShapes Go.WideShapes Go.ChangeAt Go.RowKit Go.Shelf
def tokVal : Option (Tok × Nat) → Value
  | none => .tuple #[.agg #[.int .i64 0, .string ByteArray.empty, .int .i64 0], .int .i64 0, .bool false]
  | some (t, e) => .tuple #[.agg #[.int .i64 t.kind, .string (strOfNums t.text), .int .i64 t.place], .int .i64 e, .bool true]
theorem sub_str (b off c n i j m t d : Nat) (zs : List Int) (w : World) (hz : Bytes w (some ⟨b, off, none⟩) zs) (hn : zs.length = n) (hij : i ≤ j) (hj : j ≤ n) (hi : i < n) (hm : m = j - i) (ht : t = 22) (hd : d = 9) :
    (convert t d (.slice (some ⟨b, off + i, none⟩) m c)).run Tryz.prog w = .ok (.string (strOfNums (sub zs i j))) w := by
  subst ht hd
  obtain ⟨b', off', he, hlt, hcell⟩ := hz.2 (by rintro rfl; simp at hn; omega)
  cases he
  refine run_convert_bytes_arg (P := Tryz.prog) w 22 5 Tryz.underlying22 Tryz.underlying5 b (off + i) m c (sub zs i j) (by rw [sub_length zs i j hij (by omega), hm]) (fun k hk => ?_) 9 Tryz.underlying9
  rw [sub_get zs i j k (by omega), Nat.add_assoc]
  exact hcell (i + k) (by omega)
def ResBlk (g : Nat) (W : World) : Prop := W.heap[g]? = some (.cells #[.int .i64 0, .string ⟨#[]⟩, .int .i64 0] 108 (0, 0))
theorem ResBlk.later {g : Nat} {W W' : World} (h : ResBlk g W) (hb : Below W.heap.size W W') : ResBlk g W' := by
  have hlt : g < W.heap.size := by
    rcases Nat.lt_or_ge g W.heap.size with h' | h'
    · exact h'
    · unfold ResBlk at h
      rw [Array.getElem?_eq_none h'] at h
      cases h
  exact (hb.block g hlt).trans h
theorem ResBlk.facts {g : Nat} {W : World} (h : ResBlk g W) : W.cell? ⟨g, 0, none⟩ = some (.int .i64 0) ∧ W.cell? ⟨g, 1, none⟩ = some (.string ⟨#[]⟩) ∧ W.cell? ⟨g, 2, none⟩ = some (.int .i64 0) ∧ W.frozen? ⟨g, 0, none⟩ = false ∧ W.frozen? ⟨g, 1, none⟩ = false ∧ W.frozen? ⟨g, 2, none⟩ = false := by
  refine ⟨?_, ?_, ?_, ?_, ?_, ?_⟩
  · rw [cell_of_row W g 0 _ _ (0, 0) h]; rfl
  · rw [cell_of_row W g 1 _ _ (0, 0) h]; rfl
  · rw [cell_of_row W g 2 _ _ (0, 0) h]; rfl
  · simp [World.frozen?, show W.heap[g]? = _ from h]
  · simp [World.frozen?, show W.heap[g]? = _ from h]
  · simp [World.frozen?, show W.heap[g]? = _ from h]
theorem resBlk_new (w : World) : ResBlk w.heap.size (w.alloc (.cells #[.int .i64 0, .string ⟨#[]⟩, .int .i64 0] 108)) := heap_alloc_new w _
set_option maxHeartbeats 800000 in
theorem token_end (p : Option Addr) (n cap i : Nat) (x : Int) (v : Value) (w : World) (hx : x = i) (hi : i = n) :
    Calls Tryz.prog 80 #[.slice p n cap, .int .i64 x, v] w fun e w' => e = .returned (tokVal (some (⟨0, [], i⟩, i))) ∧ Below w.heap.size w w' := by
  subst hx
  subst hi
  go_enter Tryz.func80, Tryz.ntmps80
  go_wp2
  exact bodyPost_ret (v := .tuple #[.agg #[.int .i64 0, .string ⟨#[]⟩, .int .i64 i], .int .i64 i, .bool true]) (by simp [results, Tryz.results80, go_sem]) rfl ⟨rfl, (Below.refl _ _).alloc (Nat.le_refl _) _⟩
set_option maxHeartbeats 800000 in
theorem token_name (b off n cap i : Nat) (x : Int) (v : Value) (zs : List Int) (w : World) (hx : x = i) (hz : Bytes w (some ⟨b, off, none⟩) zs) (hn : zs.length = n) (hl : n ≤ 281474976710656) (hi : i < n) (hcap : n ≤ cap) (h1 : stA zs isLet i = true) :
    Calls Tryz.prog 80 #[.slice (some ⟨b, off, none⟩) n cap, .int .i64 x, v] w fun e w' => e = .returned (tokVal (some (⟨1, sub zs i (runTo zs (fun c => isLet c || isDig c) i), i⟩, runTo zs (fun c => isLet c || isDig c) i))) ∧ Below w.heap.size w w' := by
  subst hx
  have HR := Lib.hid (fun (j : Nat) (y : Int) v k W hy hb hk => stands_any (some ⟨b, off, none⟩) n cap j y zs v k W hy (Bytes.below hz (Nat.le_refl _) hb) hn hk hl)
  have HU := Lib.hid (fun (j : Nat) (y : Int) v k W hy hj hb hk => run_any (some ⟨b, off, none⟩) n cap j y zs v k W hy (Bytes.below hz (Nat.le_refl _) hb) hn hk hl hj)
  have HS := Lib.hid (fun c j m t d W hb hij hj hm ht hd => sub_str b off c n i j m t d zs W (Bytes.below hz (Nat.le_refl _) hb) hn hij hj hi hm ht hd)
  have H1 := Lib.hid h1
  have hlo := runTo_ge zs (fun c => isLet c || isDig c) i
  have hup := runTo_le zs (fun c => isLet c || isDig c) i (by omega)
  rw [hn] at hup
  generalize hE : runTo zs (fun c => isLet c || isDig c) i = E at hlo hup ⊢
  have HE := Lib.hid hE
  clear hz hn h1 hE
  have t0 : ((i : Int) == (n : Int)) = false := by simp; omega
  go_enter Tryz.func80, Tryz.ntmps80
  go_wp2_with fail
  refine (letter_any _).mono ?_
  rintro e W1 ⟨v1, rfl, hb1, hk1⟩
  have HK1 := Lib.hid hk1
  have HG1 := Lib.hid ((resBlk_new w).later hb1)
  have HB1 := Lib.hid (((Below.refl _ _).alloc (Nat.le_refl _) _).trans (hb1.mono (by simp)))
  clear hk1 hb1
  go_wp2_with fail
  refine (HR.out i _ v1 isLet W1 rfl HB1.out HK1.out).mono ?_
  rintro e W2 ⟨rfl, hb2⟩
  have HG2 := Lib.hid (HG1.out.later hb2)
  have HB2 := Lib.hid (HB1.out.trans (hb2.mono HB1.out.size))
  clear hb2
  rw [H1.out]
  go_wp2_with fail
  refine (letter_any _).mono ?_
  rintro e W3 ⟨v3, rfl, hb3, hk3⟩
  have HK3 := Lib.hid hk3
  have HG3 := Lib.hid (HG2.out.later hb3)
  have HB3 := Lib.hid (HB2.out.trans (hb3.mono HB2.out.size))
  clear hk3 hb3
  go_wp2_with fail
  refine (digit_any _).mono ?_
  rintro e W4 ⟨v4, rfl, hb4, hk4⟩
  have HK4 := Lib.hid hk4
  have HK3' := Lib.hid (HK3.out.later hb4)
  have HG4 := Lib.hid (HG3.out.later hb4)
  have HB4 := Lib.hid (HB3.out.trans (hb4.mono HB3.out.size))
  clear hk4 hb4
  go_wp2_with fail
  refine (either_any v3 v4 _ _ _ HK3'.out HK4.out).mono ?_
  rintro e W5 ⟨v5, rfl, hb5, hk5⟩
  have HK5 := Lib.hid hk5
  have HG5 := Lib.hid (HG4.out.later hb5)
  have HB5 := Lib.hid (HB4.out.trans (hb5.mono HB4.out.size))
  clear hk5 hb5
  go_wp2_with fail
  refine (HU.out i _ v5 _ W5 rfl (by omega) HB5.out HK5.out).mono ?_
  rintro e W6 ⟨rfl, hb6⟩
  have HG6 := Lib.hid (HG5.out.later hb6)
  have HB6 := Lib.hid (HB5.out.trans (hb6.mono HB5.out.size))
  clear hb6
  rw [HE.out]
  have kc := HS.out (cap - i) E (E - i) 22 9 W6 HB6.out hlo hup rfl rfl rfl
  obtain ⟨g0, g1, g2, f0, f1, f2⟩ := HG6.out.facts
  have hci : ¬ cap = i := by omega
  go_wp2
  exact bodyPost_ret (v := .tuple #[.agg #[.int .i64 1, .string (strOfNums (sub zs i E)), .int .i64 i], .int .i64 E, .bool true]) (by simp [results, Tryz.results80, go_sem, g0, g1, g2]) rfl ⟨rfl, ((HB6.out.setCell (Nat.le_refl _) _).setCell (Nat.le_refl _) _).setCell (Nat.le_refl _) _⟩
end Go.Proofs.YtdlfndjgncdgfaaGreatDoor
namespace Go.Proofs.YtdlfndjgncdgfaaGreatDoor
open Go.ChangeShapes Go.WideShapes Go.ChangeAt Go.RowKit Go.Shelf

theorem full_length (t : Tok) : t.text.length + (if t.kind = 3 then 2 else 0) = (full t).length := by
  unfold full
  split <;> simp
theorem text_bd {ok : List Int → Bool} {sg : Int → Bool} {s : ByteArray} {i e : Nat} {t : Tok} (_ : Fine ok sg t) (h : sub (bts s) i e = full t) : ∀ z ∈ t.text, 0 ≤ z ∧ z ≤ 255 := by
  intro z hz
  have h1 : z ∈ full t := by
    unfold full
    split
    · exact List.mem_cons_of_mem _ (List.mem_append_left _ hz)
    · exact hz
  rw [← h] at h1
  have h2 : z ∈ bts s := List.mem_of_mem_drop (List.mem_of_mem_take h1)
  obtain ⟨j, hj, rfl⟩ := List.mem_iff_getElem.1 h2
  have := bts_bd s j
  rw [List.getD, List.getElem?_eq_getElem hj] at this
  exact this
theorem bts_inj {a b : ByteArray} (h : bts a = bts b) : a = b := by
  have h1 := bts_toList a b.data.toList
  have h2 : a.toList = b.data.toList := by
    have : (a.toList == b.data.toList) = true := by rw [h1]; exact decide_eq_true h
    exact beq_iff_eq.1 this
  rw [ByteArray.toList_eq] at h2
  exact bytes_inj h2
theorem bts_part (s : ByteArray) (i j : Nat) : bts (s.extract i j) = sub (bts s) i j := by
  unfold bts sub
  rw [Lib.extract_data]
  simp
theorem chain_all {s : ByteArray} {sg : Int → Bool} : ∀ (l : List Tok) (i : Nat), i ≤ (bts s).length → Left okU sg (bts s) i l → ∀ t ∈ l, Fine okU sg t ∧ (full t).length ≤ s.size ∧ ∀ z ∈ t.text, 0 ≤ z ∧ z ≤ 255
  | [], _, _, _, t, h => by cases h
  | a :: r, i, hi, hl, t, h => by
    obtain ⟨f1, _, f3, f4, _, f6⟩ := left_step hi hl
    rcases List.mem_cons.1 h with rfl | h
    · refine ⟨f1, ?_, text_bd f1 f4⟩
      rw [bts_length] at f3
      omega
    · exact chain_all r _ f3 f6 t h
end Go.Proofs.YtdlfndjgncdgfaaGreatDoor
namespace Go.Proofs.YtdlfndjgncdgfaaGreatDoor
open Go.ChangeShapes Go.WideShapes Go.ChangeAt Go.RowKit Go.Shelf

theorem isNum_kinds {kd ls : Nat} (h : isNumP kd ls = true) : 1 ≤ kd ∧ kd ≤ 10 := by
  unfold isNumP at h
  have h2 := (Bool.and_eq_true_iff.1 h).2
  have h3 : 0 < kSize kd := of_decide_eq_true h2
  rcases Nat.lt_or_ge kd 1 with h4 | h4
  · rw [kSize_else _ (.inl (by omega))] at h3
    omega
  · rcases Nat.lt_or_ge 10 kd with h5 | h5
    · rw [kSize_else _ (.inr (by omega))] at h3
      omega
    · exact ⟨h4, h5⟩
theorem kind_enum {p : Plan} {f : PF} {i : Nat} (h : kindP p i f = 10) : p.enums.length ≠ 0 ∧ refP p i f = f.ref % p.enums.length := by
  by_cases h10 : f.kind % 13 + 1 = 10
  · by_cases h0 : p.enums.length = 0
    · have := (kp_a (i := i) h10 h0).1
      omega
    · exact ⟨h0, (kp_b h10 h0).2⟩
  · by_cases h13 : f.kind % 13 + 1 = 13
    · cases ht : p.tree with
      | true =>
        by_cases hl : i + 1 = p.structs.length
        · have := (kp_c h13 ht hl).1
          omega
        · have := (kp_d h13 ht hl).1
          omega
      | false =>
        have := (kp_e (i := i) h13 ht).1
        omega
    · have := (kp_f (p := p) (i := i) h10 h13).1
      omega
theorem kindP_le (p : Plan) (i : Nat) (f : PF) : 1 ≤ kindP p i f ∧ kindP p i f ≤ 13 := by
  have h := Nat.mod_lt f.kind (show 0 < 13 by decide)
  unfold kindP
  split
  · omega
  · unfold kind0
    split <;> omega
theorem enum_at {p : Plan} {n0 : Nat} {es : List (SCho × Value)} (hes : es.map Prod.fst = chosP p n0) {k : Nat} (hk : k < n0) : ∃ h : k < es.length, es[k].1 = choP p k := by
  have hl : es.length = n0 := by have := congrArg List.length hes; rw [chosP_length] at this; simpa using this
  refine ⟨by omega, ?_⟩
  have h1 : (es.map Prod.fst)[k]? = (chosP p n0)[k]? := by rw [hes]
  rw [List.getElem?_map, List.getElem?_eq_getElem (by omega)] at h1
  unfold chosP at h1
  rw [List.getElem?_map, List.getElem?_range hk] at h1
  exact Option.some.inj h1
theorem nums_of {p : Plan} {f : PF} {i n0 base ls rt : Nat} {W : World} {ss : List (SRec × Value)} {es : List (SCho × Value)} {sv ev : Value} (hs : SchRows base W ss es sv ev) (hes : es.map Prod.fst = chosP p n0) (hel : p.enums.length = n0) (hd : (f.dflt : Int) ≤ 18446744073709551615) (h : isNumP (kindP p i f) ls = true) :
    NumsAre p (kindP p i f) (refP p i f) ls f.dflt sv ev rt W := by
  obtain ⟨h1, h10⟩ := isNum_kinds h
  by_cases hk : kindP p i f = 10
  · obtain ⟨h0, hr⟩ := kind_enum hk
    rw [hel] at h0 hr
    obtain ⟨hlt, he⟩ := enum_at hes (show refP p i f < n0 by rw [hr]; exact Nat.mod_lt _ (by omega))
    have hc : es[refP p i f].1.names.length = cntOf p (refP p i f) := by rw [he]; simp [choP]
    intro W' hb
    rw [hk, ← hc]
    exact numberE_any (refP p i f) ls f.dflt rt W' (hs.below hb) hlt (by rw [hc]; unfold cntOf; omega) hd
  · intro W' _
    exact hnumber_any (kindP p i f) (refP p i f) ls f.dflt (cntOf p (refP p i f)) sv ev rt W' hd h1 (by omega)
def FldsInv (w0 : World) (p : Plan) (l : List PF) (b i n c0 R : Nat) (a : Option Addr) (rn : Value) (c' : Act) (w' : World) : Prop :=
  ∃ (k : Nat) (fv : Value), k ≤ n ∧ FrD b i a n c0 R k c' ∧ Below R w0 w' ∧ w'.heap[R]? = some (.cells #[rn, fv] 54 (0, 0)) ∧ w'.ownsRow (R + 1) 51 5 fv k (sfldsCells (fldsP p i l k))
set_option maxRecDepth 100000 in
set_option maxHeartbeats 4000000 in
theorem flds_wp {Q : Exit → Act → World → Prop} {c : Act} {w wS w0 : World} {p : Plan} {a a0 a1 : Option Addr} {b i n c0 n0 e0 n1 c1 R rt : Nat} {rn sv ev : Value} {ss : List (SRec × Value)} {es : List (SCho × Value)} {l : List PF}
    (hF : ∀ k, k < n → ∃ B off, PFAt w a k (l.getD k noPF) B off) (hn : n ≤ 16) (hkp : MKeeps w b (.slice a0 n0 e0) (.slice a1 n1 c1) p.root p.tree wS) (hs : SchAt (b + 2) wS ss es sv ev rt) (hes : es.map Prod.fst = chosP p n0) (hel : p.enums.length = n0) (hsl : p.structs.length = n1)
    (hi : i < n1) (h16 : n1 ≤ 16) (h8 : n0 ≤ 8) (hbS : Below wS.heap.size wS w0) (hSR : wS.heap.size ≤ R) (hR : w0.heap[R]? = some (.cells #[rn, .slice none 0 0] 54 (0, 0))) (hc : FrD b i a n c0 R 0 c)
    (hQ : ∀ c' w' fv, FrD b i a n c0 R n c' → Below R w0 w' → w'.heap[R]? = some (.cells #[rn, fv] 54 (0, 0)) → w'.ownsRow (R + 1) 51 5 fv n (sfldsCells (fldsP p i l n)) → Q (.exit 6) c' w') :
    Code.wp Tryz.prog (Code.loop (madeLoop 3)) Q c w0 := by
  refine wp_loop (FldsInv w0 p l b i n c0 R a rn)
    (fun c' _ => n - (intOf (c'.tmps.getD 11 undef)).toNat) ⟨0, _, Nat.zero_le _, hc, Below.refl _ _, hR, World.ownsRow_nil _ _ _ _⟩ ?_
  clear hc hR
  rintro c wr ⟨k, fv, hk, hc, hb, hR, hrow⟩
  have hbb : Below wS.heap.size wS wr := hbS.trans (hb.mono hSR)
  have HSA := Lib.hid (hs.below hbb)
  have HKP := Lib.hid (hkp.below hbb (Nat.le_of_lt (blk_lt hs.blk)))
  have HQ := Lib.hid hQ
  have HB := Lib.hid hb
  have HR := Lib.hid hR
  have HROW := Lib.hid hrow
  have HES := Lib.hid hes
  have HEL := Lib.hid hel
  have HSL := Lib.hid hsl
  have hbR : b + 2 < R := Nat.lt_of_lt_of_le (blk_lt hs.blk) hSR
  have hRw : R < wr.heap.size := blk_lt hR
  have hbeq := hkp.hb
  obtain ⟨u, rfl⟩ := frd_lit hc
  by_cases hkl : k < n
  · obtain ⟨B, off, hpf⟩ := hF k hkl
    have HFX := Lib.hid (rfl : l.getD k noPF = l.getD k noPF)
    have HSN := Lib.hid (fldsP_succ p i l k)
    generalize l.getD k noPF = f at *
    have HPF := Lib.hid hpf
    obtain ⟨rfl, hB, x0, x1, x2, x3, x4, l0, l1, l2, l3, l4⟩ := hpf
    have y0 := (HKP.out.bel.cell (p := ⟨B, off + k * 5, none⟩) (by show B < b; omega)).trans x0
    have y1 := (HKP.out.bel.cell (p := ⟨B, off + k * 5 + 1, none⟩) (by show B < b; omega)).trans x1
    have hBb : B < b := by omega
    have HBEQ := Lib.hid hbeq
    clear hc hQ hb hR hrow hes hel hsl hbb hs hkp hF x0 x1 x2 x3 x4 l2 l3 hbS hB hbeq
    have m0 : (f.kind : Int).tmod 13 = ((f.kind % 13 : Nat) : Int) := by rw [Int.tmod_eq_emod_of_nonneg (by omega)]; omega
    have m1 : (f.lists : Int).tmod 4 = ((f.lists % 4 : Nat) : Int) := by rw [Int.tmod_eq_emod_of_nonneg (by omega)]; omega
    have hk13 : f.kind % 13 < 13 := by omega
    have hl4 : f.lists % 4 < 4 := by omega
    obtain ⟨kq, hkq⟩ : ∃ kq, f.kind % 13 = kq := ⟨_, rfl⟩
    obtain ⟨lq, hlq⟩ : ∃ lq, f.lists % 4 = lq := ⟨_, rfl⟩
    rw [hkq] at m0 hk13
    rw [hlq] at m1 hl4
    have HKQ := Lib.hid hkq
    have HLQ := Lib.hid hlq
    clear hkq hlq
    have v0 := u8_in (kq : Int) (by omega) (by omega)
    have v1 := u8_in ((kq : Int) + 1) (by omega) (by omega)
    have v2 := u8_in (lq : Int) (by omega) (by omega)
    have v3 := IntWalk.i64_in (lq : Int) (by omega)
    have hki : (k : Int) < n := by omega
    conv => arg 2; whnf
    go_upto_region 23 with (fail)
    go_region_held3 (fun w' => w'.cell? ⟨B, off + k * 5, none⟩ = some (.int .u8 (f.kind : Nat)) ∧ w'.cell? ⟨B, off + k * 5 + 1, none⟩ = some (.int .u8 (f.lists : Nat))) (first | assumption | go_keep) (first | fail)
    all_goals
      simp only [Exit.then]
      apply_assumption
      have hbt : Below wr.heap.size wr (wr.alloc (.cells #[.int .u8 ((kq : Int) + 1), .int .i64 0, .int .i64 lq] 49)).drew := ((Below.refl _ _).alloc (Nat.le_refl _) _).drew
      have hty : MTyAt (wr.alloc (.cells #[.int .u8 ((kq : Int) + 1), .int .i64 0, .int .i64 lq] 49)).drew wr.heap.size (f.kind % 13 + 1) 0 (f.lists % 4) := by
        rw [HKQ.out, HLQ.out]
        exact heap_alloc_new wr _
      generalize (wr.alloc (.cells #[.int .u8 ((kq : Int) + 1), .int .i64 0, .int .i64 lq] 49)).drew = W1 at *
      have hs1 := HSA.out.below hbt
      have hk1 := HKP.out.below hbt (by omega)
      obtain ⟨eva, evc, hevf⟩ := ownsRow_form hs1.rows.enums
      have hesl : es.length = n0 := by have := congrArg List.length HES.out; rw [chosP_length] at this; simpa using this
      rw [hesl] at hevf
      subst hevf
      refine kinds_wp (a0 := a0) (c1 := c1) ⟨rfl, rfl, rfl, rfl, rfl, rfl, rfl, rfl, rfl, rfl, rfl⟩ ⟨HPF.out, by rw [← HBEQ.out]; exact hk1.bel, HBEQ.out, by omega, (blk_cell hs1.blk 1).trans rfl, (blk_cell hk1.box 1).trans rfl, (blk_cell hk1.box 3).trans rfl, HEL.out, HSL.out, hi, h16, h8, hkl, hn⟩ hty ?_
      intro c2 W2 G hf2 hTG hbel hty2 hfl
      have hT : wr.heap.size < W1.heap.size := blk_lt hty
      have HS1 := Lib.hid hs1
      have hs2 : SchAt (b + 2) W2 ss es sv (.slice eva n0 evc) rt := HSA.out.below (hbt.trans hbel)
      have hb2 : Below wr.heap.size wr W2 := hbt.trans hbel
      have hR2 := blk_below HR.out hb2 (by omega)
      have hrow2 := row_keep hb2 HROW.out
      refine dflt_wp (w := w) (p := p) (fv := fv) (rn := rn) (xs := sfldsCells (fldsP p i l k)) hf2 HPF.out (by rw [← HBEQ.out]; exact (HKP.out.below hb2 (by omega)).bel) hkl hn hty2 (by have := (kindP_le p i f).2; omega) hfl hTG hRw hbR (by omega) hs2.blk (fun h => nums_of hs2.rows HES.out HEL.out l4 h) hR2 hrow2 (fun g hg => (ownsRow_lt HROW.out g hg).2) ?_
      intro c3 W4 fv' h1 h2 h3 h4
      have HF1 := Lib.hid h1
      have HB4 := Lib.hid ((HB.out.trans (hb2.mono (Nat.le_of_lt hRw))).trans h2)
      have HR4 := Lib.hid h3
      have HROW4 := Lib.hid h4
      obtain ⟨u3, rfl⟩ := frd_lit h1
      clear h1 h2 h3 h4 hR2 hrow2 hs2 hb2 hf2 hbel hty2 hfl hs1 hk1 hbt hty
      simp only [Exit.inBlock, Exit.then]
      apply_assumption
      go_wp2
      refine ⟨⟨k + 1, fv', by omega, ⟨rfl, rfl, rfl, rfl, rfl, rfl, rfl, rfl, rfl, rfl⟩, HB4.out, HR4.out, ?_⟩, ?_⟩
      · rw [HSN.out, sfldsCells_snoc]
        exact HROW4.out
      · show n - (intOf (.int .i64 ((k : Int) + 1))).toNat < n - (intOf (.int .i64 (k : Int))).toNat
        simp [intOf]; omega
  · obtain rfl : k = n := by omega
    clear hc hQ hb hR hrow hes hel hsl hbb hs hkp hF hbS hbeq
    conv => arg 2; whnf
    go_wp2
    exact HQ.out _ _ _ ⟨rfl, rfl, rfl, rfl, rfl, rfl, rfl, rfl, rfl, rfl⟩ HB.out HR.out HROW.out
end Go.Proofs.YtdlfndjgncdgfaaGreatDoor
