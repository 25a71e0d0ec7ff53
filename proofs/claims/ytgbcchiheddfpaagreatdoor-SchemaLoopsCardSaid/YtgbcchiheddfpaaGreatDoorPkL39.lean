/-
  What the hand's Made makes has such fields as the package view and the document's Value are told of. Conditions: those that each theorem names.
-/
import Derived.Test.YtgbcchiheddfpaaGreatDoorPkL21
import Derived.Test.YtgbcchiheddfpaaGreatDoorPkL37
namespace Go.Proofs.YtgbcchiheddfpaaGreatDoor
open Go.ChangeShapes Go.WideShapes Go.ChangeAt Go.RowKit Go.Shelf

def LensOk (p : Plan) (i : Nat) : Prop := ∀ j, j < i → 1 ≤ (p.structs.getD j []).length ∧ (p.structs.getD j []).length ≤ 16
def RecsInv (w : World) (p : Plan) (es : List (SCho × Value)) (ev x0 x1 : Value) (b n1 rt : Nat) (c' : Act) (w' : World) : Prop :=
  ∃ (i : Nat) (ss : List (SRec × Value)) (sv : Value), i ≤ n1 ∧ FrC b i c' ∧ MKeeps w b x0 x1 p.root p.tree w' ∧ SchAt (b + 2) w' ss es sv ev rt ∧ ss.map Prod.fst = recsP p i ∧ LensOk p i
set_option maxRecDepth 100000 in
set_option maxHeartbeats 4000000 in
theorem recs_wp {Q : Exit → Act → World → Prop} {c : Act} {w w0 : World} {p : Plan} {a0 a1 : Option Addr} {n0 e0 n1 c1 b rt : Nat} {es : List (SCho × Value)} {ev : Value} (hp : IsPlan w p a0 n0 e0 a1 n1 c1) (h8 : n0 ≤ 8) (h16 : n1 ≤ 16) (hc : FrC b 0 c)
    (hk : MKeeps w b (.slice a0 n0 e0) (.slice a1 n1 c1) p.root p.tree w0) (hs : SchAt (b + 2) w0 [] es (.slice none 0 0) ev rt) (hes : es.map Prod.fst = chosP p n0)
    (hQ : ∀ c' w' ss sv, FrC b n1 c' → MKeeps w b (.slice a0 n0 e0) (.slice a1 n1 c1) p.root p.tree w' → SchAt (b + 2) w' ss es sv ev rt → ss.map Prod.fst = recsP p n1 → LensOk p n1 → Q (.exit 4) c' w')
    (hB : ∀ c' w' j, FrC b j c' → w'.heap[b + 1]? = some (.cells #[.slice none 0 0, .slice none 0 0, .int .i64 0] 30 (0, 0)) → Below b w w' → j < n1 → ¬ (1 ≤ (p.structs.getD j []).length ∧ (p.structs.getD j []).length ≤ 16) → Q .ret c' w') :
    Code.wp Tryz.prog (Code.loop (madeLoop 2)) Q c w0 := by
  refine wp_loop (RecsInv w p es ev (.slice a0 n0 e0) (.slice a1 n1 c1) b n1 rt)
    (fun c' _ => n1 - (intOf (c'.tmps.getD 8 undef)).toNat) ⟨0, [], _, Nat.zero_le _, hc, hk, hs, rfl, fun j hj => absurd hj (Nat.not_lt_zero j)⟩ ?_
  clear hc hk hs
  rintro c wr ⟨i, ss, sv, hi, hc, hk, hs, hss, hlen⟩
  have HP := Lib.hid hp
  have HQ := Lib.hid hQ
  have HBAD := Lib.hid hB
  have HK := Lib.hid hk
  have HS := Lib.hid hs
  have HES := Lib.hid hes
  have HSS := Lib.hid hss
  have HLEN := Lib.hid hlen
  have hssl : ss.length ≤ 16 := by have := congrArg List.length hss; rw [recsP_length] at this; simp at this; omega
  obtain ⟨u, rfl⟩ := frc_lit hc
  have y1 := (blk_cell hk.box 1).trans rfl
  have hbl : b + 2 < wr.heap.size := blk_lt hs.blk
  clear hc hQ hB hk hs hp hes hss hlen
  conv => arg 2; whnf
  by_cases hlt : i < n1
  · obtain ⟨B, off, a, n, cc, rfl, hB0, hz, hn, hnc, hcm, hfl⟩ := HP.out.s_at i hlt
    have hB : B < b := by rw [HK.out.hb]; exact hB0
    have hzr := (HK.out.bel.cell (p := ⟨B, off + i, none⟩) hB).trans hz
    have HFL := Lib.hid hfl
    have HN := Lib.hid hn
    clear hfl hz hB0
    by_cases hb1 : n < 1
    · obtain ⟨_, _, _, _, s0, s1, s2⟩ := blk3 HK.out.res
      clear hn
      go_wp2
      refine HBAD.out _ _ i ⟨rfl, rfl, rfl, rfl, rfl, rfl, rfl⟩ (blk_set3 HK.out.res _ _ _) (((HK.out.bel.setCell (p := ⟨b + 1, 0, none⟩) (by show b ≤ b + 1; omega) _).setCell (p := ⟨b + 1, 1, none⟩) (by show b ≤ b + 1; omega) _).setCell (p := ⟨b + 1, 2, none⟩) (by show b ≤ b + 1; omega) _) hlt (by rw [HN.out]; omega)
    · by_cases hb2 : 16 < n
      · obtain ⟨_, _, _, _, s0, s1, s2⟩ := blk3 HK.out.res
        clear hn
        go_wp2
        refine HBAD.out _ _ i ⟨rfl, rfl, rfl, rfl, rfl, rfl, rfl⟩ (blk_set3 HK.out.res _ _ _) (((HK.out.bel.setCell (p := ⟨b + 1, 0, none⟩) (by show b ≤ b + 1; omega) _).setCell (p := ⟨b + 1, 1, none⟩) (by show b ≤ b + 1; omega) _).setCell (p := ⟨b + 1, 2, none⟩) (by show b ≤ b + 1; omega) _) hlt (by rw [HN.out]; omega)
      · have kc := one_str
        have hsz : ¬ 9223372036854775807 < 1 + (strOfNums [97 + (i : Int)]).size := by rw [strOfNums_size]; simp
        obtain ⟨hbw2, hB1, hB2⟩ := two_start wr #[.int .u8 (97 + (i : Int))] #[.string (recName i), .slice none 0 0] 5 67
        have HB2 := Lib.hid hbw2
        have HBB := Lib.hid hB2
        clear hbw2 hB1 hB2 hn
        go_wp2_with fail
        refine flds_wp (a0 := a0) (c1 := c1) (R := wr.heap.size + 1) (rn := .string (recName i)) (l := p.structs.getD i []) ?_ (by omega) HK.out HS.out HES.out HP.out.e_len HP.out.s_len hlt h16 h8 HB2.out (by omega) HBB.out ⟨rfl, rfl, rfl, rfl, rfl, rfl, rfl, rfl, rfl, rfl⟩ ?_
        · intro k hk
          obtain ⟨b', off', f, hf, ha, hbf, x0, x1, x2, x3, x4, q0, q1, q2, q3, q4⟩ := HFL.out k hk
          rw [hf]
          exact ⟨b', off', ⟨ha, hbf, x0, x1, x2, x3, x4, q0, q1, q2, q3, q4⟩⟩
        intro c2 w2 fv hf hbel hR2 hrow2
        obtain ⟨fva, fvc, rfl⟩ := ownsRow_form hrow2
        have hb3 : Below wr.heap.size wr w2 := HB2.out.trans (hbel.mono (by omega))
        have hs2 := HS.out.below hb3
        have HS2 := Lib.hid hs2
        have HK2 := Lib.hid (HK.out.below hb3 (by omega))
        have HROW := Lib.hid hrow2
        have HPR : Hid (recP p i = ⟨recName i, fldsP p i (p.structs.getD i []) n⟩) := Lib.hid (by unfold recP; rw [HN.out])
        have HFN : Hid ((fldsP p i (p.structs.getD i []) n).length = n) := Lib.hid (fldsP_length _ _ _ _)
        have HLI : Hid (LensOk p (i + 1)) := Lib.hid (fun j hj => by
          rcases Nat.lt_or_ge j i with h | h
          · exact HLEN.out j h
          · obtain rfl : j = i := by omega
            rw [HN.out]
            omega)
        generalize fldsP p i (p.structs.getD i []) n = FL at *
        obtain ⟨_, z0, z1, z2, f0, f1, f2⟩ := blk3 hs2.blk
        obtain ⟨hCl, d0, d1, _⟩ := blk2 hR2
        obtain ⟨sva, svc, rfl⟩ := ownsRow_form hs2.rows.structs
        obtain ⟨i0, hi0, hzz0, hzz1, hzz2⟩ := info_parts srec_info
        have I1 := Lib.hid hi0
        have I2 := Lib.hid hzz0
        have I3 := Lib.hid hzz1
        have I4 := Lib.hid hzz2
        have hbs : b + 2 < w2.heap.size := blk_lt hs2.blk
        have HBN := Lib.hid (heap_alloc_new w2 (.cells #[.string (recName i), .slice fva n fvc] 67))
        have HBA := Lib.hid ((Below.refl w2.heap.size w2).alloc (Nat.le_refl _) (.cells #[.string (recName i), .slice fva n fvc] 67))
        obtain ⟨u2, rfl⟩ := frd_lit hf
        clear hf hbel hR2 hrow2 hb3 hs2 hi0 hzz0 hzz1 hzz2 HS HK y1 kc hsz hzr
        simp only [Exit.inBlock, Exit.then]
        apply_assumption
        go_wp2_with (at_builtin; refine wpList_append_own _ rfl (.tmp 235) (.tmp 237) 27 rfl (b + 2 + 1) 67 i0 _ 2 40 Tryz.underlying27 I1.out I2.out I3.out I4.out rfl (by decide) _ ss.length (srecsCells ss) rfl (row_keep HBA.out HS2.out.rows.structs) _ 1 1 [.string (recName i), .slice fva n fvc] rfl rfl (World.news_of_block HBN.out) (by intro u hu; simp at hu; rcases hu with rfl | rfl <;> rfl) (by unfold maxLen; omega) (by omega) (by simp; omega) ?_; intro v4 W8 hown4 hg4 hx; clear hx; obtain ⟨a4, m4, rfl⟩ := ownsRow_form hown4; have s5 := SchAt.strct (q := (⟨recName i, FL⟩, .slice fva n fvc)) (HS2.out.below HBA.out) (by have h := ownsRow_base (row_keep HBA.out HROW.out) (show b + 2 + 1 ≤ wr.heap.size + 1 + 1 by omega); show World.ownsRow _ _ _ _ _ FL.length (sfldsCells FL); rw [HFN.out]; exact h) hg4 hown4; have s4 : W8.heap[b + 2]? = some (.cells #[.slice sva ss.length svc, ev, .int .i64 rt] 30 (0, 0)) := (hg4.block (b + 2) (by simp; omega) (fun e => by have := (ownsRow_lt HS2.out.rows.structs _ e.symm).1; omega)).trans (HS2.out.below HBA.out).blk; obtain ⟨_, p0, p1, p2, q0, q1, q2⟩ := blk3 s4; have S5 := Lib.hid s5; have S6 := Lib.hid (bel_app HBA.out hbs hg4 (fun k hk => by have := (ownsRow_lt HS2.out.rows.structs k hk).1; omega) 0 (.slice a4 (ss.length + 1) m4)); clear s5 s4 hown4 hg4)
        refine ⟨⟨i + 1, _, _, by omega, ⟨rfl, rfl, rfl, rfl, rfl, rfl, rfl⟩, HK2.out.below S6.out (Nat.le_refl _), S5.out, by rw [List.map_append, HSS.out, recsP_succ, HPR.out]; rfl, HLI.out⟩, ?_⟩
        show n1 - (intOf (.int .i64 ((i : Int) + 1))).toNat < n1 - (intOf (.int .i64 (i : Int))).toNat
        simp [intOf]; omega
  · obtain rfl : i = n1 := by omega
    clear hlt
    go_wp2
    exact HQ.out _ _ _ _ ⟨rfl, rfl, rfl, rfl, rfl, rfl, rfl⟩ HK.out HS.out HSS.out HLEN.out
end Go.Proofs.YtgbcchiheddfpaaGreatDoor
namespace Go.Proofs.YtgbcchiheddfpaaGreatDoor
open Go.ChangeShapes Go.WideShapes Go.ChangeAt Go.RowKit Go.Shelf

def MadePost (p : Plan) (w : World) (e : Ending) (w' : World) : Prop :=
  Below w.heap.size w w' ∧ ((planOk p ∧ ∃ ss es sv ev, e = .returned (.tuple #[.agg #[sv, ev, .int .i64 (p.root % p.structs.length : Nat)], .bool true]) ∧ ss.map Prod.fst = recsP p p.structs.length ∧ es.map Prod.fst = chosP p p.enums.length ∧ SchRows w.heap.size w' ss es sv ev) ∨
    (¬ planOk p ∧ e = .returned (.tuple #[.agg #[.slice none 0 0, .slice none 0 0, .int .i64 0], .bool false])))
theorem made_no {p : Plan} {w w' : World} (h : ¬ planOk p) (hb : Below w.heap.size w w') : MadePost p w (.returned (.tuple #[.agg #[.slice none 0 0, .slice none 0 0, .int .i64 0], .bool false])) w' := ⟨hb, .inr ⟨h, rfl⟩⟩
theorem lens_ok {p : Plan} (h1 : 1 ≤ p.structs.length) (h2 : p.structs.length ≤ 16) (h3 : p.enums.length ≤ 8) (h : LensOk p p.structs.length) : planOk p := by
  refine ⟨h1, h2, h3, fun l hl => ?_⟩
  obtain ⟨j, hj, rfl⟩ := List.getElem_of_mem hl
  have := h j hj
  rwa [List.getD, List.getElem?_eq_getElem hj] at this
theorem lens_bad {p : Plan} {j : Nat} (hj : j < p.structs.length) (h : ¬ (1 ≤ (p.structs.getD j []).length ∧ (p.structs.getD j []).length ≤ 16)) : ¬ planOk p := by
  intro ho
  apply h
  rw [List.getD, List.getElem?_eq_getElem hj]
  exact ho.2.2.2 _ (List.getElem_mem hj)
set_option maxRecDepth 100000 in
set_option maxHeartbeats 4000000 in
theorem made_bad (p : Plan) (w : World) {a0 a1 : Option Addr} {n0 e0 n1 c1 : Nat} (hp : IsPlan w p a0 n0 e0 a1 n1 c1) (hg : ¬ (1 ≤ n1 ∧ n1 ≤ 16 ∧ n0 ≤ 8)) :
    Calls Tryz.prog 13 #[.agg #[.slice a0 n0 e0, .slice a1 n1 c1, .int .u8 p.root, .bool p.tree]] w (MadePost p w) := by
  obtain ⟨hb, hz1, hz2⟩ := two_start w #[.slice a0 n0 e0, .slice a1 n1 c1, .int .u8 p.root, .bool p.tree] #[.slice none 0 0, .slice none 0 0, .int .i64 0] 25 30
  have HP := Lib.hid hp
  have HB := Lib.hid hb
  have HZ1 := Lib.hid hz1
  have HZ2 := Lib.hid hz2
  have hrt := hp.rt
  have hcaps : n0 ≤ 9223372036854775807 ∧ n1 ≤ 9223372036854775807 := by
    have h1 := hp.e_cap
    have h2 := hp.s_cap
    unfold maxLen at h1 h2
    omega
  obtain ⟨hn0, hn1⟩ := hcaps
  have y0 := (blk_cell hz1 0).trans rfl
  have y1 := (blk_cell hz1 1).trans rfl
  have y2 := (blk_cell hz1 2).trans rfl
  obtain ⟨_, _, _, _, s0, s1, s2⟩ := blk3 hz2
  clear hp hb hz1 hz2
  have HNO : Hid (¬ planOk p) := Lib.hid (fun ho => hg ⟨by rw [← HP.out.s_len]; exact ho.1, by rw [← HP.out.s_len]; exact ho.2.1, by rw [← HP.out.e_len]; exact ho.2.2.1⟩)
  by_cases g1 : n1 < 1
  · have t1 : decide ((n1 : Int) < 1) = true := decide_eq_true (by omega)
    clear hg
    go_enter Tryz.func13, Tryz.ntmps13
    go_wp2
    refine post_gen (fun Wf => Wf.heap[w.heap.size + 1]? = some (.cells #[.slice none 0 0, .slice none 0 0, .int .i64 0] 30 (0, 0)) ∧ Below w.heap.size w Wf) ⟨?_, ?_⟩ ?_
    · first
        | exact HZ2.out
        | exact blk_set3 HZ2.out _ _ _
    · first
        | exact HB.out
        | exact ((HB.out.setCell (p := ⟨w.heap.size + 1, 0, none⟩) (Nat.le_succ _) _).setCell (p := ⟨w.heap.size + 1, 1, none⟩) (Nat.le_succ _) _).setCell (p := ⟨w.heap.size + 1, 2, none⟩) (Nat.le_succ _) _
    · rintro Wf ⟨e1, e2⟩
      obtain ⟨_, d0, d1, d2, _⟩ := blk3 e1
      exact bodyPost_ret (v := .tuple #[.agg #[.slice none 0 0, .slice none 0 0, .int .i64 0], .bool false]) (by simp [results, Tryz.results13, go_sem, d0, d1, d2]) rfl (made_no (HNO.out) e2)
  · by_cases g2 : 16 < n1
    · have t1 : decide ((n1 : Int) < 1) = false := decide_eq_false (by omega)
      have t2 : decide ((16 : Int) < n1) = true := decide_eq_true (by omega)
      clear hg
      go_enter Tryz.func13, Tryz.ntmps13
      go_wp2
      refine post_gen (fun Wf => Wf.heap[w.heap.size + 1]? = some (.cells #[.slice none 0 0, .slice none 0 0, .int .i64 0] 30 (0, 0)) ∧ Below w.heap.size w Wf) ⟨?_, ?_⟩ ?_
      · first
        | exact HZ2.out
        | exact blk_set3 HZ2.out _ _ _
      · first
        | exact HB.out
        | exact ((HB.out.setCell (p := ⟨w.heap.size + 1, 0, none⟩) (Nat.le_succ _) _).setCell (p := ⟨w.heap.size + 1, 1, none⟩) (Nat.le_succ _) _).setCell (p := ⟨w.heap.size + 1, 2, none⟩) (Nat.le_succ _) _
      · rintro Wf ⟨e1, e2⟩
        obtain ⟨_, d0, d1, d2, _⟩ := blk3 e1
        exact bodyPost_ret (v := .tuple #[.agg #[.slice none 0 0, .slice none 0 0, .int .i64 0], .bool false]) (by simp [results, Tryz.results13, go_sem, d0, d1, d2]) rfl (made_no (HNO.out) e2)
    · have g3 : 8 < n0 := by omega
      have t1 : decide ((n1 : Int) < 1) = false := decide_eq_false (by omega)
      have t2 : decide ((16 : Int) < n1) = false := decide_eq_false (by omega)
      have t3 : decide ((8 : Int) < n0) = true := decide_eq_true (by omega)
      clear hg
      go_enter Tryz.func13, Tryz.ntmps13
      go_wp2
      refine post_gen (fun Wf => Wf.heap[w.heap.size + 1]? = some (.cells #[.slice none 0 0, .slice none 0 0, .int .i64 0] 30 (0, 0)) ∧ Below w.heap.size w Wf) ⟨?_, ?_⟩ ?_
      · first
        | exact HZ2.out
        | exact blk_set3 HZ2.out _ _ _
      · first
        | exact HB.out
        | exact ((HB.out.setCell (p := ⟨w.heap.size + 1, 0, none⟩) (Nat.le_succ _) _).setCell (p := ⟨w.heap.size + 1, 1, none⟩) (Nat.le_succ _) _).setCell (p := ⟨w.heap.size + 1, 2, none⟩) (Nat.le_succ _) _
      · rintro Wf ⟨e1, e2⟩
        obtain ⟨_, d0, d1, d2, _⟩ := blk3 e1
        exact bodyPost_ret (v := .tuple #[.agg #[.slice none 0 0, .slice none 0 0, .int .i64 0], .bool false]) (by simp [results, Tryz.results13, go_sem, d0, d1, d2]) rfl (made_no (HNO.out) e2)
end Go.Proofs.YtgbcchiheddfpaaGreatDoor
namespace Go.Proofs.YtgbcchiheddfpaaGreatDoor
open Go.ChangeShapes Go.WideShapes Go.ChangeAt Go.RowKit Go.Shelf

set_option maxRecDepth 100000 in
set_option maxHeartbeats 4000000 in
theorem made_any (p : Plan) (w : World) {a0 a1 : Option Addr} {n0 e0 n1 c1 : Nat} (hp : IsPlan w p a0 n0 e0 a1 n1 c1) :
    Calls Tryz.prog 13 #[.agg #[.slice a0 n0 e0, .slice a1 n1 c1, .int .u8 p.root, .bool p.tree]] w (MadePost p w) := by
  obtain ⟨hb, hz1, hz2⟩ := two_start w #[.slice a0 n0 e0, .slice a1 n1 c1, .int .u8 p.root, .bool p.tree] #[.slice none 0 0, .slice none 0 0, .int .i64 0] 25 30
  have HP := Lib.hid hp
  have HB := Lib.hid hb
  have HZ1 := Lib.hid hz1
  have HZ2 := Lib.hid hz2
  have hrt := hp.rt
  have hcaps : n0 ≤ 9223372036854775807 ∧ n1 ≤ 9223372036854775807 := by
    have h1 := hp.e_cap
    have h2 := hp.s_cap
    unfold maxLen at h1 h2
    omega
  obtain ⟨hn0, hn1⟩ := hcaps
  have y0 := (blk_cell hz1 0).trans rfl
  have y1 := (blk_cell hz1 1).trans rfl
  have y2 := (blk_cell hz1 2).trans rfl
  obtain ⟨_, _, _, _, s0, s1, s2⟩ := blk3 hz2
  clear hp hb hz1 hz2
  by_cases hg : 1 ≤ n1 ∧ n1 ≤ 16 ∧ n0 ≤ 8
  · obtain ⟨g1, g2, g3⟩ := hg
    have hmod : (p.root : Int) % (n1 : Int) = ((p.root % n1 : Nat) : Int) := (Int.natCast_emod _ _).symm
    have hz0 : (n1 : Int) ≠ 0 := by omega
    have HRT : Hid (p.root % n1 = p.root % p.structs.length) := Lib.hid (by rw [HP.out.s_len])
    generalize p.root % n1 = rt at *
    have hsz : ((w.alloc (.cells #[.slice a0 n0 e0, .slice a1 n1 c1, .int .u8 p.root, .bool p.tree] 25)).alloc (.cells #[.slice none 0 0, .slice none 0 0, .int .i64 0] 30)).heap.size = w.heap.size + 2 := by simp
    have HSZ := Lib.hid hsz
    clear hsz
    go_enter Tryz.func13, Tryz.ntmps13
    go_upto_region 4 with (fail)
    generalize (w.alloc (.cells #[.slice a0 n0 e0, .slice a1 n1 c1, .int .u8 p.root, .bool p.tree] 25)).alloc (.cells #[.slice none 0 0, .slice none 0 0, .int .i64 0] 30) = W0 at *
    have hba : Below W0.heap.size W0 (W0.alloc (.cells #[.slice none 0 0, .slice none 0 0, .int .i64 rt] 30)) := (Below.refl _ _).alloc (Nat.le_refl _) _
    have hba2 := hba
    rw [HSZ.out] at hba2
    have HK1 : Hid (MKeeps w w.heap.size (.slice a0 n0 e0) (.slice a1 n1 c1) p.root p.tree (W0.alloc (.cells #[.slice none 0 0, .slice none 0 0, .int .i64 rt] 30))) := Lib.hid ⟨rfl, blk_below HZ1.out hba (blk_lt HZ1.out), blk_below HZ2.out hba (blk_lt HZ2.out), HB.out.trans (hba.mono HB.out.size)⟩
    have hnew := heap_alloc_new W0 (.cells #[.slice none 0 0, .slice none 0 0, .int .i64 rt] 30)
    rw [HSZ.out] at hnew
    have HS1 : Hid (SchAt (w.heap.size + 2) (W0.alloc (.cells #[.slice none 0 0, .slice none 0 0, .int .i64 rt] 30)) [] [] (.slice none 0 0) (.slice none 0 0) rt) := Lib.hid ⟨hnew, World.ownsRow_nil _ _ _ _, World.ownsRow_nil _ _ _ _, (fun q hq => by cases hq), (fun q hq => by cases hq)⟩
    clear hba hba2 hnew y0 y1 y2 s0 s1 s2
    generalize W0.alloc (.cells #[.slice none 0 0, .slice none 0 0, .int .i64 rt] 30) = W1 at *
    go_wp2_with fail
    refine enums_wp HP.out g3 ⟨rfl, rfl, rfl, rfl, rfl, rfl, rfl⟩ HK1.out HS1.out ?_
    intro c2 w2 es ev hf hk hs hes
    have HK2 := Lib.hid hk
    have HS2 := Lib.hid hs
    have HES := Lib.hid hes
    obtain ⟨u, rfl⟩ := fra_lit hf
    clear hf hk hs hes
    simp only [Exit.inBlock, Exit.then]
    apply_assumption
    go_wp2_with fail
    refine recs_wp HP.out g3 g2 ⟨rfl, rfl, rfl, rfl, rfl, rfl, rfl⟩ HK2.out HS2.out HES.out ?_ ?_
    · intro c3 w3 ss sv hf hk hs hss hlen
      have HK3 := Lib.hid hk
      have HS3 := Lib.hid hs
      have HOK : Hid (planOk p) := Lib.hid (lens_ok (by rw [HP.out.s_len]; exact g1) (by rw [HP.out.s_len]; exact g2) (by rw [HP.out.e_len]; exact g3) (by rw [HP.out.s_len]; exact hlen))
      have HSS := Lib.hid hss
      obtain ⟨_, o0, o1, o2, _⟩ := blk3 hs.blk
      obtain ⟨_, r0, r1, r2, q0, q1, q2⟩ := blk3 hk.res
      obtain ⟨u3, rfl⟩ := frc_lit hf
      obtain ⟨sva, svc, eva, evc, rfl, rfl⟩ := hs.rows.forms
      clear hf hk hs hss hlen
      simp only [Exit.inBlock, Exit.then]
      apply_assumption
      go_wp2
      refine post_gen (fun Wf => Wf.heap[w.heap.size + 1]? = some (.cells #[.slice sva ss.length svc, .slice eva es.length evc, .int .i64 rt] 30 (0, 0)) ∧ Below w.heap.size w Wf ∧ SchRows w.heap.size Wf ss es (.slice sva ss.length svc) (.slice eva es.length evc)) ⟨?_, ?_, ?_⟩ ?_
      · exact blk_set3 HK3.out.res _ _ _
      · exact ((HK3.out.bel.setCell (p := ⟨w.heap.size + 1, 0, none⟩) (Nat.le_succ _) _).setCell (p := ⟨w.heap.size + 1, 1, none⟩) (Nat.le_succ _) _).setCell (p := ⟨w.heap.size + 1, 2, none⟩) (Nat.le_succ _) _
      · have hr := HS3.out.rows
        have key : ∀ {e : TypeId} {s : Nat} {v : Value} {n : Nat} {xs : List Value}, w3.ownsRow (w.heap.size + 2 + 1) e s v n xs → World.ownsRow (((w3.setCell ⟨w.heap.size + 1, 0, none⟩ (.slice sva ss.length svc)).setCell ⟨w.heap.size + 1, 1, none⟩ (.slice eva es.length evc)).setCell ⟨w.heap.size + 1, 2, none⟩ (.int .i64 rt)) w.heap.size e s v n xs := fun ho =>
          ownsRow_base (ownsRow_setCell_below (ownsRow_setCell_below (ownsRow_setCell_below ho (by show w.heap.size + 1 < _; omega) _) (by show w.heap.size + 1 < _; omega) _) (by show w.heap.size + 1 < _; omega) _) (by omega)
        exact ⟨key hr.structs, key hr.enums, fun q hq => key (hr.fields q hq), fun q hq => key (hr.names q hq)⟩
      · rintro Wf ⟨e1, e2, e3⟩
        obtain ⟨_, d0, d1, d2, _⟩ := blk3 e1
        refine bodyPost_ret (v := .tuple #[.agg #[.slice sva ss.length svc, .slice eva es.length evc, .int .i64 rt], .bool true]) (by simp [results, Tryz.results13, go_sem, d0, d1, d2]) rfl ⟨e2, .inl ⟨HOK.out, ss, es, _, _, ?_, ?_, ?_, e3⟩⟩
        · rw [HRT.out]
        · rw [HP.out.s_len]; exact HSS.out
        · rw [HP.out.e_len]; exact HES.out
    · intro c3 w3 j hf hres hbel hj hbad
      have HNO : Hid (¬ planOk p) := Lib.hid (lens_bad (by rw [HP.out.s_len]; exact hj) hbad)
      have HRE := Lib.hid hres
      have HBE := Lib.hid hbel
      obtain ⟨u3, rfl⟩ := frc_lit hf
      clear hf hres hbel hj hbad
      simp only [Exit.inBlock, Exit.then]
      refine post_gen (fun Wf => Wf.heap[w.heap.size + 1]? = some (.cells #[.slice none 0 0, .slice none 0 0, .int .i64 0] 30 (0, 0)) ∧ Below w.heap.size w Wf) ⟨HRE.out, HBE.out⟩ ?_
      rintro Wf ⟨e1, e2⟩
      obtain ⟨_, d0, d1, d2, _⟩ := blk3 e1
      exact bodyPost_ret (v := .tuple #[.agg #[.slice none 0 0, .slice none 0 0, .int .i64 0], .bool false]) (by simp [results, Tryz.results13, go_sem, d0, d1, d2]) rfl (made_no HNO.out e2)
  · exact made_bad p w HP.out hg
end Go.Proofs.YtgbcchiheddfpaaGreatDoor
namespace Go.Proofs.YtgbcchiheddfpaaGreatDoor
open Go.ChangeShapes Go.WideShapes Go.ChangeAt Go.RowKit Go.Shelf
theorem refP_struct {p : Plan} {f : PF} {i : Nat} (hi : i < p.structs.length) (h : kindP p i f = 13) : refP p i f < p.structs.length := by
  by_cases h10 : f.kind % 13 + 1 = 10
  · by_cases h0 : p.enums.length = 0
    · have := (kp_a (i := i) h10 h0).1
      omega
    · have := (kp_b (i := i) h10 h0).1
      omega
  · by_cases h13 : f.kind % 13 + 1 = 13
    · cases ht : p.tree with
      | true =>
        by_cases hl : i + 1 = p.structs.length
        · have := (kp_c h13 ht hl).1
          omega
        · rw [(kp_d h13 ht hl).2]
          have := Nat.mod_lt f.ref (show 0 < p.structs.length - i - 1 by omega)
          omega
      | false =>
        rw [(kp_e (i := i) h13 ht).2]
        exact Nat.mod_lt _ (by omega)
    · have := (kp_f (p := p) (i := i) h10 h13).1
      omega
end Go.Proofs.YtgbcchiheddfpaaGreatDoor
namespace Go.Proofs.YtgbcchiheddfpaaGreatDoor
open Go.ChangeShapes Go.WideShapes Go.ChangeAt Go.RowKit Go.Shelf

def crow (ss : List (SRec × Value)) : List (CRec × Value) := ss.map fun q => (cR q.1, q.2)
theorem crow_length (ss : List (SRec × Value)) : (crow ss).length = ss.length := List.length_map _
theorem crow_fst (ss : List (SRec × Value)) : (crow ss).map Prod.fst = (ss.map Prod.fst).map cR := by
  unfold crow
  rw [List.map_map, List.map_map]
  rfl
theorem made_fld {p : Plan} {ss : List (SRec × Value)} (hss : ss.map Prod.fst = recsP p p.structs.length) : ∀ q ∈ crow ss, ∃ i, i < p.structs.length ∧ (p.structs.getD i []).length = q.1.fields.length ∧ q.1.name = recName i ∧ ∀ f ∈ q.1.fields, ∃ k, k < (p.structs.getD i []).length ∧ f = cF (fldP p i k ((p.structs.getD i []).getD k noPF)) := by
  intro q hq
  obtain ⟨x, hx, rfl⟩ := List.mem_map.1 hq
  have h1 : x.1 ∈ recsP p p.structs.length := by rw [← hss]; exact List.mem_map.2 ⟨x, hx, rfl⟩
  obtain ⟨i, hi, h2⟩ := List.mem_map.1 h1
  refine ⟨i, List.mem_range.1 hi, ?_, by rw [← h2]; rfl, fun f hf => ?_⟩
  · show _ = (x.1.fields.map cF).length
    rw [← h2]
    show _ = ((fldsP p i _ _).map cF).length
    rw [List.length_map, fldsP_length]
  · obtain ⟨y, hy, rfl⟩ := List.mem_map.1 (show f ∈ x.1.fields.map cF from hf)
    rw [← h2] at hy
    obtain ⟨k, hk, rfl⟩ := List.mem_map.1 (show y ∈ (List.range _).map _ from hy)
    exact ⟨k, List.mem_range.1 hk, rfl⟩
theorem made_ty {p : Plan} {i k : Nat} {f : PF} (hi : i < p.structs.length) : 1 ≤ (cF (fldP p i k f)).kind ∧ (cF (fldP p i k f)).kind ≤ 13 ∧ 0 ≤ (cF (fldP p i k f)).lists ∧ (cF (fldP p i k f)).lists ≤ 3 ∧ ((cF (fldP p i k f)).kind = 13 → 0 ≤ (cF (fldP p i k f)).ref ∧ (cF (fldP p i k f)).ref < p.structs.length) := by
  have hk := kindP_le p i f
  refine ⟨hk.1, hk.2, Int.natCast_nonneg _, ?_, fun h => ⟨Int.natCast_nonneg _, ?_⟩⟩
  · have := Nat.mod_lt f.lists (show 0 < 4 by decide)
    show ((f.lists % 4 : Nat) : Int) ≤ 3
    omega
  · have := refP_struct hi (show kindP p i f = 13 from h)
    show ((refP p i f : Nat) : Int) < _
    omega
theorem made_rflds {p : Plan} {ss : List (SRec × Value)} (hss : ss.map Prod.fst = recsP p p.structs.length) : RFlds (crow ss) := by
  intro q hq f hf
  obtain ⟨i, hi, _, _, hall⟩ := made_fld hss q hq
  obtain ⟨k, _, rfl⟩ := hall f hf
  have hl : (crow ss).length = p.structs.length := by
    have := congrArg List.length hss
    rw [List.length_map, recsP_length] at this
    rw [crow_length, this]
  obtain ⟨h1, h2, h3, h4, h5⟩ := made_ty (k := k) (f := (p.structs.getD i []).getD k noPF) hi
  exact ⟨h1, h2, h3, by omega, by rw [hl]; exact h5⟩
theorem made_len {p : Plan} {ss : List (SRec × Value)} (hok : planOk p) (hss : ss.map Prod.fst = recsP p p.structs.length) : 1 ≤ ss.length ∧ ss.length ≤ 16 ∧ ss.length = p.structs.length := by
  have hl : ss.length = p.structs.length := by
    have := congrArg List.length hss
    rwa [List.length_map, recsP_length] at this
  rw [hl]
  exact ⟨hok.1, hok.2.1, rfl⟩
end Go.Proofs.YtgbcchiheddfpaaGreatDoor
