/-
  The hand's Made: a field's default, and the field put to the others. Conditions: those that each theorem names.
-/
import Derived.Test.YtiknhkkeifemcaaGreatDoorPkM12
import Derived.StillTailTactics
namespace Go.Proofs.YtiknhkkeifemcaaGreatDoor
open Go.ChangeShapes Go.WideShapes Go.ChangeAt Go.RowKit Go.Shelf

noncomputable def made24 : Code := (Tryz.f15.body.bind (afterRegion 23)).getD .skip
structure TyIn (w W : World) (p : Plan) (f : PF) (a a0 a1 ea : Option Addr) (b i n k B off T n0 e0 n1 c1 : Nat) : Prop where
  pf : PFAt w a k f B off
  bel : Below w.heap.size w W
  hb : b = w.heap.size
  hT : b + 2 < T
  out : W.cell? ⟨b + 2, 1, none⟩ = some (.slice ea n0 e0)
  bx1 : W.cell? ⟨b, 1, none⟩ = some (.slice a1 n1 c1)
  bx3 : W.cell? ⟨b, 3, none⟩ = some (.bool p.tree)
  el : p.enums.length = n0
  sl : p.structs.length = n1
  i1 : i < n1
  n16 : n1 ≤ 16
  n8 : n0 ≤ 8
  kn : k < n
  nn : n ≤ 16
theorem kp_a {p : Plan} {f : PF} {i : Nat} (h : f.kind % 13 + 1 = 10) (h0 : p.enums.length = 0) : kindP p i f = 7 ∧ refP p i f = 0 := by
  have k0 : kind0 p f = 7 := if_pos ⟨h, h0⟩
  have k1 : kindP p i f = 7 := (if_neg (by omega)).trans k0
  exact ⟨k1, (if_neg (by omega)).trans (if_neg (by omega))⟩
theorem kp_b {p : Plan} {f : PF} {i : Nat} (h : f.kind % 13 + 1 = 10) (h0 : p.enums.length ≠ 0) : kindP p i f = 10 ∧ refP p i f = f.ref % p.enums.length := by
  have k0 : kind0 p f = 10 := (if_neg (fun hh => h0 hh.2)).trans h
  have k1 : kindP p i f = 10 := (if_neg (by omega)).trans k0
  exact ⟨k1, (if_neg (by omega)).trans (if_pos k0)⟩
theorem kp_c {p : Plan} {f : PF} {i : Nat} (h : f.kind % 13 + 1 = 13) (ht : p.tree = true) (h0 : i + 1 = p.structs.length) : kindP p i f = 11 ∧ refP p i f = 0 := by
  have k0 : kind0 p f = 13 := (if_neg (by omega)).trans h
  have k1 : kindP p i f = 11 := if_pos ⟨k0, ht, h0⟩
  exact ⟨k1, (if_neg (by omega)).trans (if_neg (by omega))⟩
theorem kp_d {p : Plan} {f : PF} {i : Nat} (h : f.kind % 13 + 1 = 13) (ht : p.tree = true) (h0 : i + 1 ≠ p.structs.length) : kindP p i f = 13 ∧ refP p i f = i + 1 + f.ref % (p.structs.length - i - 1) := by
  have k0 : kind0 p f = 13 := (if_neg (by omega)).trans h
  have k1 : kindP p i f = 13 := (if_neg (fun hh => h0 hh.2.2)).trans k0
  exact ⟨k1, (if_pos k1).trans (if_pos ht)⟩
theorem kp_e {p : Plan} {f : PF} {i : Nat} (h : f.kind % 13 + 1 = 13) (ht : p.tree = false) : kindP p i f = 13 ∧ refP p i f = f.ref % p.structs.length := by
  have k0 : kind0 p f = 13 := (if_neg (by omega)).trans h
  have k1 : kindP p i f = 13 := (if_neg (fun hh => by rw [ht] at hh; cases hh.2.1)).trans k0
  exact ⟨k1, (if_pos k1).trans (if_neg (by rw [ht]; decide))⟩
theorem kp_f {p : Plan} {f : PF} {i : Nat} (h : f.kind % 13 + 1 ≠ 10) (h13 : f.kind % 13 + 1 ≠ 13) : kindP p i f = f.kind % 13 + 1 ∧ refP p i f = 0 := by
  have k0 : kind0 p f = f.kind % 13 + 1 := if_neg (fun hh => h hh.1)
  have k1 : kindP p i f = f.kind % 13 + 1 := (if_neg (fun hh => h13 (k0 ▸ hh.1))).trans k0
  exact ⟨k1, (if_neg (by omega)).trans (if_neg (by omega))⟩
theorem tmod_nat (x y : Nat) : (x : Int).tmod (y : Int) = ((x % y : Nat) : Int) := by
  rw [Int.tmod_eq_emod_of_nonneg (by omega)]
  exact (Int.natCast_emod x y).symm
set_option maxRecDepth 100000 in
set_option maxHeartbeats 4000000 in
theorem kinds_wp {Q : Exit → Act → World → Prop} {c : Act} {w W : World} {p : Plan} {f : PF} {a a0 a1 ea : Option Addr} {b i n c0 R k T B off n0 e0 n1 c1 : Nat} (hc : FrE b i a n c0 R k T c) (hin : TyIn w W p f a a0 a1 ea b i n k B off T n0 e0 n1 c1) (ht : MTyAt W T (f.kind % 13 + 1) 0 (f.lists % 4))
    (hK : ∀ c' w' G, FrF b i a n c0 R k T G c' → T < G → Below T W w' → MTyAt w' T (kindP p i f) (refP p i f) (f.lists % 4) → FldAt w' G ⟨labelOf f.name k, kindP p i f, refP p i f, f.lists % 4, 0⟩ → Code.wp Tryz.prog made35 Q c' w') :
    Code.wp Tryz.prog made24 Q c W := by
  obtain ⟨u, rfl⟩ := fre_lit hc
  obtain ⟨pf, bel, hb, hT, out, bx1, bx3, el, sl, i1, n16, n8, kn, nn⟩ := hin
  have hTW : T < W.heap.size := blk_lt ht
  have HT := Lib.hid ht
  have HPF := Lib.hid pf
  have HBEL := Lib.hid bel
  -- what ends each way: the rest of the round, from a world in which the type is made
  have HE : Hid (∀ (c' : Act) (W' : World) (K : Act → World → Prop), FrE b i a n c0 R k T c' → Below T W W' → MTyAt W' T (kindP p i f) (refP p i f) (f.lists % 4) → (∀ a w, Code.wp Tryz.prog made35 Q a w → K a w) → Code.wp Tryz.prog made34 (Exit.then K Q) c' W') := Lib.hid (fun c' W' K h1 h2 h3 h4 =>
    fld_wp h1 pf (bel.trans (h2.mono (by omega))) kn nn h3 (fun c2 w2 G g1 g2 g3 g4 => h4 _ _ (hK c2 w2 G g1 (by have := blk_lt h3; omega) (h2.trans (g3.mono (Nat.le_of_lt (blk_lt h3)))) (blk_below h3 g3 (blk_lt h3)) g4)))
  obtain ⟨_, t0, t1, t2, s0, s1, s2⟩ := blk3 ht
  have HEL := Lib.hid el
  have HSL := Lib.hid sl
  have hq13 : f.kind % 13 < 13 := by omega
  obtain ⟨rfl, hB, x0, x1, x2, x3, x4, l0, l1, l2, l3, l4⟩ := pf
  have y2 := (bel.cell (p := ⟨B, off + k * 5 + 2, none⟩) hB).trans x2
  have hBT : B < T := by omega
  have hki : (k : Int) < n := by omega
  have BX1 := Lib.hid bx1
  have Y2 := Lib.hid y2
  clear hc hK ht bel el sl x0 x1 x2 x3 x4 l0 l1 l3 l4 hB hb
  conv => arg 2; whnf
  by_cases h10 : f.kind % 13 + 1 = 10
  · by_cases hn0 : n0 = 0
    · -- no enum: a number
      obtain ⟨e1, e2⟩ := kp_a (p := p) (i := i) h10 (by rw [HEL.out]; exact hn0)
      rw [e1, e2] at HE
      rw [h10] at t0 HT
      subst hn0
      clear e1 e2 h10
      go_upto_region 34 with (fail)
      refine HE.out _ _ _ ⟨rfl, rfl, rfl, rfl, rfl, rfl, rfl, rfl, rfl, rfl, rfl⟩ ?_ ?_ (by assumption)
      · exact (Below.refl _ _).setCell (p := ⟨T, 0, none⟩) (Nat.le_refl _) _
      · exact (blk_set HT.out 0 _).trans rfl
    · -- an enum
      obtain ⟨e1, e2⟩ := kp_b (p := p) (i := i) h10 (by rw [HEL.out]; exact hn0)
      rw [HEL.out] at e2
      rw [e1, e2] at HE
      rw [h10] at t0 HT
      have w1 := IntWalk.i64_in (f.ref : Int) (by omega)
      have w2 := tmod_nat f.ref n0
      have hlt : f.ref % n0 < n0 := Nat.mod_lt _ (by omega)
      have w3 := IntWalk.i64_in ((f.ref % n0 : Nat) : Int) (by omega)
      have z0 : (n0 : Int) ≠ 0 := by omega
      have z1 : ((n0 : Int) == 0) = false := by simp; omega
      generalize f.ref % n0 = rr at *
      clear e1 e2 h10
      go_upto_region 27 with (fail)
      go_still_tail 11, (by kernel_rfl)
      change wpList _ _ _ _ _ W.drew
      have d0 : W.drew.cell? ⟨T, 0, none⟩ = some (.int .u8 10) := t0
      have HTD := Lib.hid (show MTyAt W.drew T 10 0 (f.lists % 4) from HT.out)
      have HBD := Lib.hid ((Below.refl T W).drew)
      obtain ⟨_, t0', t1', t2', s0', s1', s2'⟩ := blk3 HTD.out
      have bx3' : W.drew.cell? ⟨b, 3, none⟩ = some (.bool p.tree) := bx3
      clear t0 t1 t2 s0 s1 s2 d0 HT bx3 out bx1 y2
      generalize W.drew = W2 at *
      go_upto_region 34 with (fail)
      refine HE.out _ _ _ ⟨rfl, rfl, rfl, rfl, rfl, rfl, rfl, rfl, rfl, rfl, rfl⟩ ?_ ?_ (by assumption)
      · exact HBD.out.setCell (p := ⟨T, 1, none⟩) (Nat.le_refl _) _
      · exact (blk_set HTD.out 1 _).trans rfl
  · have k10 : ((f.kind % 13 + 1 : Nat) : Int) ≠ 10 := by omega
    by_cases h13 : f.kind % 13 + 1 = 13
    · rw [h13] at t0 HT
      clear k10
      generalize htr : p.tree = tr at *
      cases tr with
      | true =>
        by_cases hla : i + 1 = n1
        · -- the last struct: a text
          obtain ⟨e1, e2⟩ := kp_c (p := p) (i := i) h13 htr (by rw [HSL.out]; exact hla)
          rw [e1, e2] at HE
          have hlb : ((i : Int) + 1 == n1) = true := by simp; omega
          clear e1 e2 h10 h13 htr
          go_upto_region 34 with (fail)
          refine HE.out _ _ _ ⟨rfl, rfl, rfl, rfl, rfl, rfl, rfl, rfl, rfl, rfl, rfl⟩ ?_ ?_ (by assumption)
          · exact (Below.refl _ _).setCell (p := ⟨T, 0, none⟩) (Nat.le_refl _) _
          · exact (blk_set HT.out 0 _).trans rfl
        · -- a struct behind this one
          obtain ⟨e1, e2⟩ := kp_d (p := p) (i := i) h13 htr (by rw [HSL.out]; exact hla)
          rw [HSL.out] at e2
          rw [e1, e2] at HE
          have hlb : ((i : Int) + 1 == n1) = false := by simp; omega
          have w1 := IntWalk.i64_in (f.ref : Int) (by omega)
          have w2 := tmod_nat f.ref n1
          have hlt : f.ref % n1 < n1 := Nat.mod_lt _ (by omega)
          have w3 := IntWalk.i64_in ((f.ref % n1 : Nat) : Int) (by omega)
          have z0 : (n1 : Int) ≠ 0 := by omega
          have z2 : ¬ n1 = 0 := by omega
          have z1 : ((n1 : Int) == 0) = false := by simp; omega
          have v2 : (f.ref : Int).tmod ((n1 : Int) - i - 1) = ((f.ref % (n1 - i - 1) : Nat) : Int) := by rw [show (n1 : Int) - i - 1 = ((n1 - i - 1 : Nat) : Int) by omega]; exact tmod_nat _ _
          have hlt2 : f.ref % (n1 - i - 1) < n1 - i - 1 := Nat.mod_lt _ (by omega)
          have v3 := IntWalk.i64_in ((f.ref % (n1 - i - 1) : Nat) : Int) (by omega)
          have v4 := IntWalk.i64_in ((n1 : Int) - i) (by omega)
          have v5 := IntWalk.i64_in ((n1 : Int) - i - 1) (by omega)
          have v6 := IntWalk.i64_in ((i : Int) + 1) (by omega)
          have v7 := IntWalk.i64_in ((i : Int) + 1 + (f.ref % (n1 - i - 1) : Nat)) (by omega)
          have v8 : (n1 : Int) - i - 1 ≠ 0 := by omega
          have v9 : ((n1 : Int) - i - 1 == 0) = false := by simp; omega
          have va : ¬ ((n1 : Int) - i = 1) := by omega
          have HES := Lib.hid (show ((i + 1 + f.ref % (n1 - i - 1) : Nat) : Int) = (i : Int) + 1 + ((f.ref % (n1 - i - 1) : Nat) : Int) by omega)
          generalize f.ref % (n1 - i - 1) = r2 at *
          generalize f.ref % n1 = rr at *
          clear e1 e2 h10 h13 htr
          go_upto_region 31 with (fail)
          go_still_tail 11, (by kernel_rfl)
          change wpList _ _ _ _ _ W.drew
          have d0 : W.drew.cell? ⟨T, 0, none⟩ = some (.int .u8 13) := t0
          have HTD := Lib.hid (show MTyAt W.drew T 13 0 (f.lists % 4) from HT.out)
          have HBD := Lib.hid ((Below.refl T W).drew)
          obtain ⟨_, t0', t1', t2', s0', s1', s2'⟩ := blk3 HTD.out
          have bx1' : W.drew.cell? ⟨b, 1, none⟩ = some (.slice a1 n1 c1) := bx1
          have bx3' : W.drew.cell? ⟨b, 3, none⟩ = some (.bool true) := bx3
          have y2' : W.drew.cell? ⟨B, off + k * 5 + 2, none⟩ = some (.int .u8 (f.ref : Nat)) := y2
          clear t0 t1 t2 s0 s1 s2 d0 HT bx3 out bx1 y2
          generalize W.drew = W2 at *
          go_upto_region 33 with (fail)
          have HTS := Lib.hid (show MTyAt (W2.setCell ⟨T, 1, none⟩ (.int .i64 rr)) T 13 rr (f.lists % 4) from (blk_set HTD.out 1 _).trans rfl)
          have HBS := Lib.hid (HBD.out.setCell (p := ⟨T, 1, none⟩) (Nat.le_refl _) (.int .i64 rr))
          have bx1s := (HBS.out.cell (p := ⟨b, 1, none⟩) (by show b < T; omega)).trans BX1.out
          have y2s := (HBS.out.cell (p := ⟨B, off + k * 5 + 2, none⟩) hBT).trans Y2.out
          obtain ⟨_, r0, r1, r2c, p0, p1, p2⟩ := blk3 HTS.out
          clear t0' t1' t2' s0' s1' s2' bx1' bx3' y2'
          generalize W2.setCell ⟨T, 1, none⟩ (.int .i64 rr) = W3 at *
          go_still_tail 17, (by kernel_rfl)
          change wpList _ _ _ _ _ W3.drew
          have HTE := Lib.hid (show MTyAt W3.drew T 13 rr (f.lists % 4) from HTS.out)
          have HBE := Lib.hid HBS.out.drew
          obtain ⟨_, r0', r1', r2', p0', p1', p2'⟩ := blk3 HTE.out
          clear r0 r1 r2c p0 p1 p2 bx1s y2s HTS HBS
          generalize W3.drew = W4 at *
          go_upto_region 34 with (fail)
          refine HE.out _ _ _ ⟨rfl, rfl, rfl, rfl, rfl, rfl, rfl, rfl, rfl, rfl, rfl⟩ ?_ ?_ (by assumption)
          · exact HBE.out.setCell (p := ⟨T, 1, none⟩) (Nat.le_refl _) _
          · exact (blk_set HTE.out 1 _).trans (by rw [← HES.out]; rfl)
      | false =>
        obtain ⟨e1, e2⟩ := kp_e (p := p) (i := i) h13 htr
        rw [HSL.out] at e2
        rw [e1, e2] at HE
        have w1 := IntWalk.i64_in (f.ref : Int) (by omega)
        have w2 := tmod_nat f.ref n1
        have hlt : f.ref % n1 < n1 := Nat.mod_lt _ (by omega)
        have w3 := IntWalk.i64_in ((f.ref % n1 : Nat) : Int) (by omega)
        have z0 : (n1 : Int) ≠ 0 := by omega
        have z2 : ¬ n1 = 0 := by omega
        have z1 : ((n1 : Int) == 0) = false := by simp; omega
        generalize f.ref % n1 = rr at *
        clear e1 e2 h10 h13 htr
        go_upto_region 31 with (fail)
        go_still_tail 11, (by kernel_rfl)
        change wpList _ _ _ _ _ W.drew
        have d0 : W.drew.cell? ⟨T, 0, none⟩ = some (.int .u8 13) := t0
        have HTD := Lib.hid (show MTyAt W.drew T 13 0 (f.lists % 4) from HT.out)
        have HBD := Lib.hid ((Below.refl T W).drew)
        obtain ⟨_, t0', t1', t2', s0', s1', s2'⟩ := blk3 HTD.out
        have bx1' : W.drew.cell? ⟨b, 1, none⟩ = some (.slice a1 n1 c1) := bx1
        have bx3' : W.drew.cell? ⟨b, 3, none⟩ = some (.bool false) := bx3
        have y2' : W.drew.cell? ⟨B, off + k * 5 + 2, none⟩ = some (.int .u8 (f.ref : Nat)) := y2
        clear t0 t1 t2 s0 s1 s2 d0 HT bx3 out bx1 y2
        generalize W.drew = W2 at *
        go_upto_region 34 with (fail)
        refine HE.out _ _ _ ⟨rfl, rfl, rfl, rfl, rfl, rfl, rfl, rfl, rfl, rfl, rfl⟩ ?_ ?_ (by assumption)
        · exact HBD.out.setCell (p := ⟨T, 1, none⟩) (Nat.le_refl _) _
        · exact (blk_set HTD.out 1 _).trans rfl
    · -- as it is
      obtain ⟨e1, e2⟩ := kp_f (p := p) (i := i) h10 h13
      rw [e1, e2] at HE
      have q1 : (((f.kind % 13 + 1 : Nat) : Int) == 10) = false := by simp; omega
      have q2 : (((f.kind % 13 + 1 : Nat) : Int) == 13) = false := by simp; omega
      generalize f.kind % 13 + 1 = q at *
      clear e1 e2 h10 h13 k10
      go_upto_region 34 with (fail)
      refine HE.out _ _ _ ⟨rfl, rfl, rfl, rfl, rfl, rfl, rfl, rfl, rfl, rfl, rfl⟩ ?_ ?_ (by assumption)
      · exact Below.refl _ _
      · exact HT.out
end Go.Proofs.YtiknhkkeifemcaaGreatDoor
namespace Go.Proofs.YtiknhkkeifemcaaGreatDoor
open Go.ChangeShapes Go.WideShapes Go.ChangeAt Go.RowKit Go.Shelf

noncomputable def made37 : Code := (Tryz.f15.body.bind (findRegion 37)).getD .skip
set_option maxRecDepth 100000 in
theorem put_wp {Q : Exit → Act → World → Prop} {c : Act} {W : World} {a : Option Addr} {b i n c0 R k T G : Nat} {rn fv : Value} {f : SFld} {xs : List Value} (hc : FrF b i a n c0 R k T G c) (hG : FldAt W G f) (hk : k ≤ 16)
    (hR : W.heap[R]? = some (.cells #[rn, fv] 63 (0, 0))) (hrow : W.ownsRow (R + 1) 60 5 fv k xs)
    (hQ : ∀ c' w' fv', FrD b i a n c0 R k c' → Below R W w' → w'.heap[R]? = some (.cells #[rn, fv'] 63 (0, 0)) → w'.ownsRow (R + 1) 60 5 fv' (k + 1) (xs ++ sfldCells f) → Q .normal c' w') :
    Code.wp Tryz.prog made37 Q c W := by
  obtain ⟨u, rfl⟩ := frf_lit hc
  have HQ := Lib.hid hQ
  have HR := Lib.hid hR
  have HROW := Lib.hid hrow
  obtain ⟨fva, fvc, rfl⟩ := ownsRow_form hrow
  obtain ⟨hRl, r0, r1, s0, s1⟩ := blk2 hR
  obtain ⟨_, g0, g1, g2, g3, g4, _⟩ := blk5 hG
  obtain ⟨i0, hi0, hzz0, hzz1, hzz2⟩ := info_parts sfld_info
  have I1 := Lib.hid hi0
  have I2 := Lib.hid hzz0
  have I3 := Lib.hid hzz1
  have I4 := Lib.hid hzz2
  have HBN := Lib.hid (heap_alloc_new W (.cells #[.string f.name, .int .u8 f.kind, .int .i64 f.ref, .int .i64 f.lists, .int .u64 f.dflt] 60))
  have HBA := Lib.hid ((Below.refl W.heap.size W).alloc (Nat.le_refl _) (.cells #[.string f.name, .int .u8 f.kind, .int .i64 f.ref, .int .i64 f.lists, .int .u64 f.dflt] 60))
  clear hc hQ hR hrow hG hi0 hzz0 hzz1 hzz2
  conv => arg 2; whnf
  go_wp2_with (at_builtin; refine wpList_append_own _ rfl (.tmp 229) (.tmp 231) 61 rfl (R + 1) 60 i0 _ 5 48 Tryz.underlying61 I1.out I2.out I3.out I4.out rfl (by decide) _ k xs rfl (row_keep HBA.out HROW.out) _ 1 1 (sfldCells f) rfl rfl (World.news_of_block HBN.out) (by intro u hu; simp [sfldCells] at hu; rcases hu with rfl | rfl | rfl | rfl | rfl <;> rfl) (by unfold maxLen; omega) (by omega) (by simp; omega) ?_; intro v4 W8 hown4 hg4 hx; clear hx; obtain ⟨a4, m4, rfl⟩ := ownsRow_form hown4; obtain ⟨s1', s2', s3', s4'⟩ := step2 (Below.refl R W) HR.out HROW.out HBA.out hg4 hown4; obtain ⟨_, d0, d1, e0, e1⟩ := blk2 s4'; have S1 := Lib.hid s1'; have S2 := Lib.hid s2'; have S3 := Lib.hid s3'; clear s1' s2' s3' s4' hown4 hg4)
  exact HQ.out _ _ _ ⟨rfl, rfl, rfl, rfl, rfl, rfl, rfl, rfl, rfl, rfl⟩ S1.out S2.out S3.out
theorem keep1 {w : World} {g i : Nat} {p : Addr} {v x : Value} (h : w.cell? p = some v) (hp : p.block ≠ g) : (w.setCell ⟨g, i, none⟩ x).cell? p = some v :=
  (World.cell?_of_block (Below.heap_setCell _ _ _ _ hp)).trans h
theorem row_under {w w' : World} {B base : Nat} {e : TypeId} {size : Nat} {v : Value} {n : Nat} {xs : List Value} (h : Below B w w') (ho : w.ownsRow base e size v n xs) (hB : ∀ k, v.ownBlock = some k → k < B) : w'.ownsRow base e size v n xs := by
  obtain ⟨hl, h'⟩ := ho
  refine ⟨hl, ?_⟩
  rcases h' with h1 | ⟨g', cap', cur, hv, h1, hg', h2⟩
  · exact .inl h1
  · subst hv
    exact .inr ⟨g', cap', cur, rfl, h1, (h.block g' (hB g' (by simp [Value.ownBlock]))).trans hg', h2⟩
def NumsAre (p : Plan) (kd rf ls n : Nat) (sv ev : Value) (rt : Nat) (W : World) : Prop :=
  ∀ W', Below W.heap.size W W' → Calls Tryz.prog 31 #[.agg #[sv, ev, .int .i64 rt], .agg #[.int .u8 kd, .int .i64 rf, .int .i64 ls], .int .u64 n] W' fun e w' => e = .returned (.int .u64 (numP (cntOf p rf) kd n : Nat)) ∧ Below W'.heap.size W' w'
set_option maxRecDepth 100000 in
set_option maxHeartbeats 4000000 in
theorem dflt_wp {Q : Exit → Act → World → Prop} {c : Act} {w W : World} {p : Plan} {f : PF} {a : Option Addr} {b i n c0 R k T G B off kd rf ls rt : Nat} {nm : ByteArray} {rn fv sv ev : Value} {xs : List Value} (hc : FrF b i a n c0 R k T G c) (hf : PFAt w a k f B off) (hbw : Below w.heap.size w W) (hkn : k < n) (hn : n ≤ 16)
    (ht : MTyAt W T kd rf ls) (hkd : kd ≤ 255) (hG : FldAt W G ⟨nm, kd, rf, ls, 0⟩) (hTG : T < G) (hRT : R < T) (hbR : b + 2 < R) (hBR : B < R)
    (hout : W.heap[b + 2]? = some (.cells #[sv, ev, .int .i64 rt] 30 (0, 0))) (hnum : isNumP kd ls = true → NumsAre p kd rf ls f.dflt sv ev rt W)
    (hR : W.heap[R]? = some (.cells #[rn, fv] 63 (0, 0))) (hrow : W.ownsRow (R + 1) 60 5 fv k xs) (hrT : ∀ g, fv.ownBlock = some g → g < T)
    (hQ : ∀ c' w' fv', FrD b i a n c0 R k c' → Below R W w' → w'.heap[R]? = some (.cells #[rn, fv'] 63 (0, 0)) → w'.ownsRow (R + 1) 60 5 fv' (k + 1) (xs ++ sfldCells ⟨nm, kd, rf, ls, if isNumP kd ls = true then numP (cntOf p rf) kd f.dflt else 0⟩) → Q .normal c' w') :
    Code.wp Tryz.prog made35 Q c W := by
  obtain ⟨u, rfl⟩ := frf_lit hc
  obtain ⟨_, t0, t1, t2, _⟩ := blk3 ht
  have HIS := Lib.hid (isnum_any kd rf ls)
  have HQ := Lib.hid hQ
  have HNUM := Lib.hid hnum
  have HT := Lib.hid ht
  have HG := Lib.hid hG
  have HOUT := Lib.hid hout
  have HR := Lib.hid hR
  have HROW := Lib.hid hrow
  have HRT := Lib.hid hrT
  obtain ⟨rfl, hB, x0, x1, x2, x3, x4, l0, l1, l2, l3, l4⟩ := hf
  have y4 := (hbw.cell (p := ⟨B, off + k * 5 + 4, none⟩) hB).trans x4
  have HY4 := Lib.hid y4
  have hGW : G < W.heap.size := blk_lt hG
  have hki : (k : Int) < n := by omega
  clear hc hQ hnum ht hG hout hR hrow hrT x0 x1 x2 x3 x4 l0 l1 l2 l3 l4 hbw hB y4
  conv => arg 2; whnf
  go_wp2_with fail
  refine (HIS.out _ hkd).mono ?_
  rintro e W1 ⟨rfl, hb1⟩
  have HB1 := Lib.hid hb1
  have hG1 : G < W1.heap.size := Nat.lt_of_lt_of_le hGW hb1.size
  have t0' := (hb1.cell (p := ⟨T, 0, none⟩) (by show T < _; omega)).trans t0
  clear hb1 t0 t1 t2
  generalize hin : isNumP kd ls = bb at *
  have HIN := Lib.hid hin
  clear hin
  cases bb with
  | false =>
    go_upto_region 37 with (fail)
    refine put_wp (fv := fv) (rn := rn) ⟨rfl, rfl, rfl, rfl, rfl, rfl, rfl, rfl, rfl, rfl, rfl, rfl⟩ (blk_below HG.out HB1.out (blk_lt HG.out)) (by omega) (blk_below HR.out HB1.out (blk_lt HR.out)) (row_keep HB1.out HROW.out) ?_
    intro c' w' fv' h1 h2 h3 h4
    exact HQ.out c' w' fv' h1 ((HB1.out.mono (by omega)).trans h2) h3 h4
  | true =>
    have hN0 := HNUM.out rfl
    unfold NumsAre at hN0
    have HN := Lib.hid hN0
    clear hN0
    have HG1 := Lib.hid (blk_below HG.out HB1.out (blk_lt HG.out))
    have HR1 := Lib.hid (blk_below HR.out HB1.out (blk_lt HR.out))
    have HROW1 := Lib.hid (row_keep HB1.out HROW.out)
    have ho1 := blk_below HOUT.out HB1.out (blk_lt HOUT.out)
    have ht1 := blk_below HT.out HB1.out (blk_lt HT.out)
    have y4 := (HB1.out.cell (p := ⟨B, off + k * 5 + 4, none⟩) (by show B < _; omega)).trans HY4.out
    obtain ⟨_, o0, o1, o2, _⟩ := blk3 ho1
    obtain ⟨_, t0, t1, t2, _⟩ := blk3 ht1
    have HB1D := Lib.hid HB1.out.drew
    have hbs : b + 2 < W1.heap.size := blk_lt ho1
    have hOne : b + 2 ≠ G := by omega
    have hTne : T ≠ G := by omega
    have hBne : B ≠ G := by omega
    have hTs : T < W1.heap.size := by omega
    have hBs : B < W1.heap.size := by omega
    have HCC := Lib.hid (show ∀ W3, Below W1.heap.size W1 W3 → W3.cell? ⟨b + 2, 0, none⟩ = some sv ∧ W3.cell? ⟨b + 2, 1, none⟩ = some ev ∧ W3.cell? ⟨b + 2, 2, none⟩ = some (.int .i64 rt) ∧ W3.cell? ⟨T, 0, none⟩ = some (.int .u8 kd) ∧ W3.cell? ⟨T, 1, none⟩ = some (.int .i64 rf) ∧ W3.cell? ⟨T, 2, none⟩ = some (.int .i64 ls) ∧ W3.cell? ⟨B, off + k * 5 + 4, none⟩ = some (.int .u64 (f.dflt : Nat)) from fun W3 hb3 => ⟨(hb3.cell (p := ⟨b + 2, 0, none⟩) hbs).trans o0, (hb3.cell (p := ⟨b + 2, 1, none⟩) hbs).trans o1, (hb3.cell (p := ⟨b + 2, 2, none⟩) hbs).trans o2, (hb3.cell (p := ⟨T, 0, none⟩) hTs).trans t0, (hb3.cell (p := ⟨T, 1, none⟩) hTs).trans t1, (hb3.cell (p := ⟨T, 2, none⟩) hTs).trans t2, (hb3.cell (p := ⟨B, off + k * 5 + 4, none⟩) hBs).trans y4⟩)
    clear ho1 ht1 t0'
    go_upto_region 36 with (fail)
    go_region_held3 (fun w' => w'.cell? ⟨b + 2, 0, none⟩ = some sv ∧ w'.cell? ⟨b + 2, 1, none⟩ = some ev ∧ w'.cell? ⟨b + 2, 2, none⟩ = some (.int .i64 rt) ∧ w'.cell? ⟨T, 0, none⟩ = some (.int .u8 kd) ∧ w'.cell? ⟨T, 1, none⟩ = some (.int .i64 rf) ∧ w'.cell? ⟨T, 2, none⟩ = some (.int .i64 ls) ∧ w'.cell? ⟨B, off + k * 5 + 4, none⟩ = some (.int .u64 (f.dflt : Nat)))
      (first | assumption | (with_reducible exact ⟨keep1 k0 hOne, keep1 k1 hOne, keep1 k2 hOne, keep1 k3 hTne, keep1 k4 hTne, keep1 k5 hTne, keep1 k6 hBne⟩) | go_keep)
      (first | (go_at_call 31; (with_reducible refine (HN.out W1.drew HB1D.out).mono ?_); rintro e W3 ⟨rfl, hb3⟩; have hbW : Below W1.heap.size W1 W3 := bfact_drew hb3; obtain ⟨k0, k1, k2, k3, k4, k5, k6⟩ := HCC.out W3 hbW; have hGb := blk_below HG1.out hbW hG1; have HGB := Lib.hid hGb; obtain ⟨_, g0, g1, g2, g3, g4, j0, j1, j2, j3, j4⟩ := blk5 hGb; clear hGb g0 g1 g2 g3 j0 j1 j2 j3) | (go_at_call 31; (with_reducible refine (HN.out W1 HB1.out).mono ?_); rintro e W3 ⟨rfl, hb3⟩; have hbW : Below W1.heap.size W1 W3 := hb3; obtain ⟨k0, k1, k2, k3, k4, k5, k6⟩ := HCC.out W3 hbW; have hGb := blk_below HG1.out hbW hG1; have HGB := Lib.hid hGb; obtain ⟨_, g0, g1, g2, g3, g4, j0, j1, j2, j3, j4⟩ := blk5 hGb; clear hGb g0 g1 g2 g3 j0 j1 j2 j3))
    all_goals
      go_upto_region 37 with (fail)
      have hbn : Below G W1 (W3.setCell ⟨G, 4, none⟩ (.int .u64 (numP (cntOf p rf) kd f.dflt : Nat))) := (hbW.mono (Nat.le_of_lt hG1)).setCell (p := ⟨G, 4, none⟩) (Nat.le_refl _) _
      refine put_wp (fv := fv) (rn := rn) (xs := xs) (f := ⟨nm, kd, rf, ls, numP (cntOf p rf) kd f.dflt⟩) ⟨rfl, rfl, rfl, rfl, rfl, rfl, rfl, rfl, rfl, rfl, rfl, rfl⟩ ((blk_set HGB.out 4 _).trans rfl) (by omega) (blk_below HR1.out hbn (by omega)) (row_under hbn HROW1.out (fun g hg => by have := HRT.out g hg; omega)) ?_
      intro c' w' fv' h1 h2 h3 h4
      exact HQ.out c' w' fv' h1 (((HB1.out.mono (by omega)).trans (hbn.mono (by omega))).trans h2) h3 h4
end Go.Proofs.YtiknhkkeifemcaaGreatDoor
