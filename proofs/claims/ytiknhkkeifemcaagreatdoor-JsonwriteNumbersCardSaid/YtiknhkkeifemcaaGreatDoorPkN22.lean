/-
  The hand's Made: the type of a field. Conditions: those that each theorem names.
-/
import Derived.Test.YtiknhkkeifemcaaGreatDoorPkN18
import Derived.StillTailTactics
namespace Go.Proofs.YtiknhkkeifemcaaGreatDoor
open Go.ChangeShapes Go.WideShapes Go.ChangeAt Go.RowKit Go.Shelf

noncomputable def made24 : Code := (Tryz.f15.body.bind (afterRegion 23)).getD .skip
structure TyIn (w W : World) (p : Plan) (f : PF) (a a0 a1 ea : Option Addr) (b i n k B off T n0 e0 n1 c1 : Nat) : Prop where
  pf : PFAt w a k f B off
  bel : Below w.heap.size w W
  hb : b = w.heap.size
  hT : b + 2 < T
  out : W.cell? ⟨b + 2, 1, none⟩ = some (.slice ea n0 e0)
  bx1 : W.cell? ⟨b, 1, none⟩ = some (.slice a1 n1 c1)
  bx3 : W.cell? ⟨b, 3, none⟩ = some (.bool p.tree)
  el : p.enums.length = n0
  sl : p.structs.length = n1
  i1 : i < n1
  n16 : n1 ≤ 16
  n8 : n0 ≤ 8
  kn : k < n
  nn : n ≤ 16
theorem kp_a {p : Plan} {f : PF} {i : Nat} (h : f.kind % 13 + 1 = 10) (h0 : p.enums.length = 0) : kindP p i f = 7 ∧ refP p i f = 0 := by
  have k0 : kind0 p f = 7 := if_pos ⟨h, h0⟩
  have k1 : kindP p i f = 7 := (if_neg (by omega)).trans k0
  exact ⟨k1, (if_neg (by omega)).trans (if_neg (by omega))⟩
theorem kp_b {p : Plan} {f : PF} {i : Nat} (h : f.kind % 13 + 1 = 10) (h0 : p.enums.length ≠ 0) : kindP p i f = 10 ∧ refP p i f = f.ref % p.enums.length := by
  have k0 : kind0 p f = 10 := (if_neg (fun hh => h0 hh.2)).trans h
  have k1 : kindP p i f = 10 := (if_neg (by omega)).trans k0
  exact ⟨k1, (if_neg (by omega)).trans (if_pos k0)⟩
theorem kp_c {p : Plan} {f : PF} {i : Nat} (h : f.kind % 13 + 1 = 13) (ht : p.tree = true) (h0 : i + 1 = p.structs.length) : kindP p i f = 11 ∧ refP p i f = 0 := by
  have k0 : kind0 p f = 13 := (if_neg (by omega)).trans h
  have k1 : kindP p i f = 11 := if_pos ⟨k0, ht, h0⟩
  exact ⟨k1, (if_neg (by omega)).trans (if_neg (by omega))⟩
theorem kp_d {p : Plan} {f : PF} {i : Nat} (h : f.kind % 13 + 1 = 13) (ht : p.tree = true) (h0 : i + 1 ≠ p.structs.length) : kindP p i f = 13 ∧ refP p i f = i + 1 + f.ref % (p.structs.length - i - 1) := by
  have k0 : kind0 p f = 13 := (if_neg (by omega)).trans h
  have k1 : kindP p i f = 13 := (if_neg (fun hh => h0 hh.2.2)).trans k0
  exact ⟨k1, (if_pos k1).trans (if_pos ht)⟩
theorem kp_e {p : Plan} {f : PF} {i : Nat} (h : f.kind % 13 + 1 = 13) (ht : p.tree = false) : kindP p i f = 13 ∧ refP p i f = f.ref % p.structs.length := by
  have k0 : kind0 p f = 13 := (if_neg (by omega)).trans h
  have k1 : kindP p i f = 13 := (if_neg (fun hh => by rw [ht] at hh; cases hh.2.1)).trans k0
  exact ⟨k1, (if_pos k1).trans (if_neg (by rw [ht]; decide))⟩
theorem kp_f {p : Plan} {f : PF} {i : Nat} (h : f.kind % 13 + 1 ≠ 10) (h13 : f.kind % 13 + 1 ≠ 13) : kindP p i f = f.kind % 13 + 1 ∧ refP p i f = 0 := by
  have k0 : kind0 p f = f.kind % 13 + 1 := if_neg (fun hh => h hh.1)
  have k1 : kindP p i f = f.kind % 13 + 1 := (if_neg (fun hh => h13 (k0 ▸ hh.1))).trans k0
  exact ⟨k1, (if_neg (by omega)).trans (if_neg (by omega))⟩
theorem tmod_nat (x y : Nat) : (x : Int).tmod (y : Int) = ((x % y : Nat) : Int) := by
  rw [Int.tmod_eq_emod_of_nonneg (by omega)]
  exact (Int.natCast_emod x y).symm
set_option maxRecDepth 100000 in
set_option maxHeartbeats 4000000 in
theorem kinds_wp {Q : Exit → Act → World → Prop} {c : Act} {w W : World} {p : Plan} {f : PF} {a a0 a1 ea : Option Addr} {b i n c0 R k T B off n0 e0 n1 c1 : Nat} (hc : FrE b i a n c0 R k T c) (hin : TyIn w W p f a a0 a1 ea b i n k B off T n0 e0 n1 c1) (ht : MTyAt W T (f.kind % 13 + 1) 0 (f.lists % 4))
    (hK : ∀ c' w' G, FrF b i a n c0 R k T G c' → T < G → Below T W w' → MTyAt w' T (kindP p i f) (refP p i f) (f.lists % 4) → FldAt w' G ⟨labelOf f.name k, kindP p i f, refP p i f, f.lists % 4, 0⟩ → Code.wp Tryz.prog made35 Q c' w') :
    Code.wp Tryz.prog made24 Q c W := by
  obtain ⟨u, rfl⟩ := fre_lit hc
  obtain ⟨pf, bel, hb, hT, out, bx1, bx3, el, sl, i1, n16, n8, kn, nn⟩ := hin
  have hTW : T < W.heap.size := blk_lt ht
  have HT := Lib.hid ht
  have HPF := Lib.hid pf
  have HBEL := Lib.hid bel
  -- what ends each way: the rest of the round, from a world in which the type is made
  have HE : Hid (∀ (c' : Act) (W' : World) (K : Act → World → Prop), FrE b i a n c0 R k T c' → Below T W W' → MTyAt W' T (kindP p i f) (refP p i f) (f.lists % 4) → (∀ a w, Code.wp Tryz.prog made35 Q a w → K a w) → Code.wp Tryz.prog made34 (Exit.then K Q) c' W') := Lib.hid (fun c' W' K h1 h2 h3 h4 =>
    fld_wp h1 pf (bel.trans (h2.mono (by omega))) kn nn h3 (fun c2 w2 G g1 g2 g3 g4 => h4 _ _ (hK c2 w2 G g1 (by have := blk_lt h3; omega) (h2.trans (g3.mono (Nat.le_of_lt (blk_lt h3)))) (blk_below h3 g3 (blk_lt h3)) g4)))
  obtain ⟨_, t0, t1, t2, s0, s1, s2⟩ := blk3 ht
  have HEL := Lib.hid el
  have HSL := Lib.hid sl
  have hq13 : f.kind % 13 < 13 := by omega
  obtain ⟨rfl, hB, x0, x1, x2, x3, x4, l0, l1, l2, l3, l4⟩ := pf
  have y2 := (bel.cell (p := ⟨B, off + k * 5 + 2, none⟩) hB).trans x2
  have hBT : B < T := by omega
  have hki : (k : Int) < n := by omega
  have BX1 := Lib.hid bx1
  have Y2 := Lib.hid y2
  clear hc hK ht bel el sl x0 x1 x2 x3 x4 l0 l1 l3 l4 hB hb
  conv => arg 2; whnf
  by_cases h10 : f.kind % 13 + 1 = 10
  · by_cases hn0 : n0 = 0
    · -- no enum: a number
      obtain ⟨e1, e2⟩ := kp_a (p := p) (i := i) h10 (by rw [HEL.out]; exact hn0)
      rw [e1, e2] at HE
      rw [h10] at t0 HT
      subst hn0
      clear e1 e2 h10
      go_upto_region 34 with (fail)
      refine HE.out _ _ _ ⟨rfl, rfl, rfl, rfl, rfl, rfl, rfl, rfl, rfl, rfl, rfl⟩ ?_ ?_ (by assumption)
      · exact (Below.refl _ _).setCell (p := ⟨T, 0, none⟩) (Nat.le_refl _) _
      · exact (blk_set HT.out 0 _).trans rfl
    · -- an enum
      obtain ⟨e1, e2⟩ := kp_b (p := p) (i := i) h10 (by rw [HEL.out]; exact hn0)
      rw [HEL.out] at e2
      rw [e1, e2] at HE
      rw [h10] at t0 HT
      have w1 := IntWalk.i64_in (f.ref : Int) (by omega)
      have w2 := tmod_nat f.ref n0
      have hlt : f.ref % n0 < n0 := Nat.mod_lt _ (by omega)
      have w3 := IntWalk.i64_in ((f.ref % n0 : Nat) : Int) (by omega)
      have z0 : (n0 : Int) ≠ 0 := by omega
      have z1 : ((n0 : Int) == 0) = false := by simp; omega
      generalize f.ref % n0 = rr at *
      clear e1 e2 h10
      go_upto_region 27 with (fail)
      go_still_tail 11, (by kernel_rfl)
      change wpList _ _ _ _ _ W.drew
      have d0 : W.drew.cell? ⟨T, 0, none⟩ = some (.int .u8 10) := t0
      have HTD := Lib.hid (show MTyAt W.drew T 10 0 (f.lists % 4) from HT.out)
      have HBD := Lib.hid ((Below.refl T W).drew)
      obtain ⟨_, t0', t1', t2', s0', s1', s2'⟩ := blk3 HTD.out
      have bx3' : W.drew.cell? ⟨b, 3, none⟩ = some (.bool p.tree) := bx3
      clear t0 t1 t2 s0 s1 s2 d0 HT bx3 out bx1 y2
      generalize W.drew = W2 at *
      go_upto_region 34 with (fail)
      refine HE.out _ _ _ ⟨rfl, rfl, rfl, rfl, rfl, rfl, rfl, rfl, rfl, rfl, rfl⟩ ?_ ?_ (by assumption)
      · exact HBD.out.setCell (p := ⟨T, 1, none⟩) (Nat.le_refl _) _
      · exact (blk_set HTD.out 1 _).trans rfl
  · have k10 : ((f.kind % 13 + 1 : Nat) : Int) ≠ 10 := by omega
    by_cases h13 : f.kind % 13 + 1 = 13
    · rw [h13] at t0 HT
      clear k10
      generalize htr : p.tree = tr at *
      cases tr with
      | true =>
        by_cases hla : i + 1 = n1
        · -- the last struct: a text
          obtain ⟨e1, e2⟩ := kp_c (p := p) (i := i) h13 htr (by rw [HSL.out]; exact hla)
          rw [e1, e2] at HE
          have hlb : ((i : Int) + 1 == n1) = true := by simp; omega
          clear e1 e2 h10 h13 htr
          go_upto_region 34 with (fail)
          refine HE.out _ _ _ ⟨rfl, rfl, rfl, rfl, rfl, rfl, rfl, rfl, rfl, rfl, rfl⟩ ?_ ?_ (by assumption)
          · exact (Below.refl _ _).setCell (p := ⟨T, 0, none⟩) (Nat.le_refl _) _
          · exact (blk_set HT.out 0 _).trans rfl
        · -- a struct behind this one
          obtain ⟨e1, e2⟩ := kp_d (p := p) (i := i) h13 htr (by rw [HSL.out]; exact hla)
          rw [HSL.out] at e2
          rw [e1, e2] at HE
          have hlb : ((i : Int) + 1 == n1) = false := by simp; omega
          have w1 := IntWalk.i64_in (f.ref : Int) (by omega)
          have w2 := tmod_nat f.ref n1
          have hlt : f.ref % n1 < n1 := Nat.mod_lt _ (by omega)
          have w3 := IntWalk.i64_in ((f.ref % n1 : Nat) : Int) (by omega)
          have z0 : (n1 : Int) ≠ 0 := by omega
          have z2 : ¬ n1 = 0 := by omega
          have z1 : ((n1 : Int) == 0) = false := by simp; omega
          have v2 : (f.ref : Int).tmod ((n1 : Int) - i - 1) = ((f.ref % (n1 - i - 1) : Nat) : Int) := by rw [show (n1 : Int) - i - 1 = ((n1 - i - 1 : Nat) : Int) by omega]; exact tmod_nat _ _
          have hlt2 : f.ref % (n1 - i - 1) < n1 - i - 1 := Nat.mod_lt _ (by omega)
          have v3 := IntWalk.i64_in ((f.ref % (n1 - i - 1) : Nat) : Int) (by omega)
          have v4 := IntWalk.i64_in ((n1 : Int) - i) (by omega)
          have v5 := IntWalk.i64_in ((n1 : Int) - i - 1) (by omega)
          have v6 := IntWalk.i64_in ((i : Int) + 1) (by omega)
          have v7 := IntWalk.i64_in ((i : Int) + 1 + (f.ref % (n1 - i - 1) : Nat)) (by omega)
          have v8 : (n1 : Int) - i - 1 ≠ 0 := by omega
          have v9 : ((n1 : Int) - i - 1 == 0) = false := by simp; omega
          have va : ¬ ((n1 : Int) - i = 1) := by omega
          have HES := Lib.hid (show ((i + 1 + f.ref % (n1 - i - 1) : Nat) : Int) = (i : Int) + 1 + ((f.ref % (n1 - i - 1) : Nat) : Int) by omega)
          generalize f.ref % (n1 - i - 1) = r2 at *
          generalize f.ref % n1 = rr at *
          clear e1 e2 h10 h13 htr
          go_upto_region 31 with (fail)
          go_still_tail 11, (by kernel_rfl)
          change wpList _ _ _ _ _ W.drew
          have d0 : W.drew.cell? ⟨T, 0, none⟩ = some (.int .u8 13) := t0
          have HTD := Lib.hid (show MTyAt W.drew T 13 0 (f.lists % 4) from HT.out)
          have HBD := Lib.hid ((Below.refl T W).drew)
          obtain ⟨_, t0', t1', t2', s0', s1', s2'⟩ := blk3 HTD.out
          have bx1' : W.drew.cell? ⟨b, 1, none⟩ = some (.slice a1 n1 c1) := bx1
          have bx3' : W.drew.cell? ⟨b, 3, none⟩ = some (.bool true) := bx3
          have y2' : W.drew.cell? ⟨B, off + k * 5 + 2, none⟩ = some (.int .u8 (f.ref : Nat)) := y2
          clear t0 t1 t2 s0 s1 s2 d0 HT bx3 out bx1 y2
          generalize W.drew = W2 at *
          go_upto_region 33 with (fail)
          have HTS := Lib.hid (show MTyAt (W2.setCell ⟨T, 1, none⟩ (.int .i64 rr)) T 13 rr (f.lists % 4) from (blk_set HTD.out 1 _).trans rfl)
          have HBS := Lib.hid (HBD.out.setCell (p := ⟨T, 1, none⟩) (Nat.le_refl _) (.int .i64 rr))
          have bx1s := (HBS.out.cell (p := ⟨b, 1, none⟩) (by show b < T; omega)).trans BX1.out
          have y2s := (HBS.out.cell (p := ⟨B, off + k * 5 + 2, none⟩) hBT).trans Y2.out
          obtain ⟨_, r0, r1, r2c, p0, p1, p2⟩ := blk3 HTS.out
          clear t0' t1' t2' s0' s1' s2' bx1' bx3' y2'
          generalize W2.setCell ⟨T, 1, none⟩ (.int .i64 rr) = W3 at *
          go_still_tail 17, (by kernel_rfl)
          change wpList _ _ _ _ _ W3.drew
          have HTE := Lib.hid (show MTyAt W3.drew T 13 rr (f.lists % 4) from HTS.out)
          have HBE := Lib.hid HBS.out.drew
          obtain ⟨_, r0', r1', r2', p0', p1', p2'⟩ := blk3 HTE.out
          clear r0 r1 r2c p0 p1 p2 bx1s y2s HTS HBS
          generalize W3.drew = W4 at *
          go_upto_region 34 with (fail)
          refine HE.out _ _ _ ⟨rfl, rfl, rfl, rfl, rfl, rfl, rfl, rfl, rfl, rfl, rfl⟩ ?_ ?_ (by assumption)
          · exact HBE.out.setCell (p := ⟨T, 1, none⟩) (Nat.le_refl _) _
          · exact (blk_set HTE.out 1 _).trans (by rw [← HES.out]; rfl)
      | false =>
        obtain ⟨e1, e2⟩ := kp_e (p := p) (i := i) h13 htr
        rw [HSL.out] at e2
        rw [e1, e2] at HE
        have w1 := IntWalk.i64_in (f.ref : Int) (by omega)
        have w2 := tmod_nat f.ref n1
        have hlt : f.ref % n1 < n1 := Nat.mod_lt _ (by omega)
        have w3 := IntWalk.i64_in ((f.ref % n1 : Nat) : Int) (by omega)
        have z0 : (n1 : Int) ≠ 0 := by omega
        have z2 : ¬ n1 = 0 := by omega
        have z1 : ((n1 : Int) == 0) = false := by simp; omega
        generalize f.ref % n1 = rr at *
        clear e1 e2 h10 h13 htr
        go_upto_region 31 with (fail)
        go_still_tail 11, (by kernel_rfl)
        change wpList _ _ _ _ _ W.drew
        have d0 : W.drew.cell? ⟨T, 0, none⟩ = some (.int .u8 13) := t0
        have HTD := Lib.hid (show MTyAt W.drew T 13 0 (f.lists % 4) from HT.out)
        have HBD := Lib.hid ((Below.refl T W).drew)
        obtain ⟨_, t0', t1', t2', s0', s1', s2'⟩ := blk3 HTD.out
        have bx1' : W.drew.cell? ⟨b, 1, none⟩ = some (.slice a1 n1 c1) := bx1
        have bx3' : W.drew.cell? ⟨b, 3, none⟩ = some (.bool false) := bx3
        have y2' : W.drew.cell? ⟨B, off + k * 5 + 2, none⟩ = some (.int .u8 (f.ref : Nat)) := y2
        clear t0 t1 t2 s0 s1 s2 d0 HT bx3 out bx1 y2
        generalize W.drew = W2 at *
        go_upto_region 34 with (fail)
        refine HE.out _ _ _ ⟨rfl, rfl, rfl, rfl, rfl, rfl, rfl, rfl, rfl, rfl, rfl⟩ ?_ ?_ (by assumption)
        · exact HBD.out.setCell (p := ⟨T, 1, none⟩) (Nat.le_refl _) _
        · exact (blk_set HTD.out 1 _).trans rfl
    · -- as it is
      obtain ⟨e1, e2⟩ := kp_f (p := p) (i := i) h10 h13
      rw [e1, e2] at HE
      have q1 : (((f.kind % 13 + 1 : Nat) : Int) == 10) = false := by simp; omega
      have q2 : (((f.kind % 13 + 1 : Nat) : Int) == 13) = false := by simp; omega
      generalize f.kind % 13 + 1 = q at *
      clear e1 e2 h10 h13 k10
      go_upto_region 34 with (fail)
      refine HE.out _ _ _ ⟨rfl, rfl, rfl, rfl, rfl, rfl, rfl, rfl, rfl, rfl, rfl⟩ ?_ ?_ (by assumption)
      · exact Below.refl _ _
      · exact HT.out
end Go.Proofs.YtiknhkkeifemcaaGreatDoor
