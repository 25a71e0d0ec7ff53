/-
  The hand's Made: the loop over the structs. Conditions: those that each theorem names.
-/
import Derived.Test.YtjeoekggdohhiaaDoorPkB26
namespace Go.Proofs.YtjeoekggdohhiaaDoor
open Go.ChangeShapes Go.WideShapes Go.ChangeAt Go.RowKit Go.Shelf

def LensOk (p : Plan) (i : Nat) : Prop := ∀ j, j < i → 1 ≤ (p.structs.getD j []).length ∧ (p.structs.getD j []).length ≤ 16
def RecsInv (w : World) (p : Plan) (es : List (SCho × Value)) (ev x0 x1 : Value) (b n1 rt : Nat) (c' : Act) (w' : World) : Prop :=
  ∃ (i : Nat) (ss : List (SRec × Value)) (sv : Value), i ≤ n1 ∧ FrC b i c' ∧ MKeeps w b x0 x1 p.root p.tree w' ∧ SchAt (b + 2) w' ss es sv ev rt ∧ ss.map Prod.fst = recsP p i ∧ LensOk p i
set_option maxRecDepth 100000 in
set_option maxHeartbeats 4000000 in
theorem recs_wp {Q : Exit → Act → World → Prop} {c : Act} {w w0 : World} {p : Plan} {a0 a1 : Option Addr} {n0 e0 n1 c1 b rt : Nat} {es : List (SCho × Value)} {ev : Value} (hp : IsPlan w p a0 n0 e0 a1 n1 c1) (h8 : n0 ≤ 8) (h16 : n1 ≤ 16) (hc : FrC b 0 c)
    (hk : MKeeps w b (.slice a0 n0 e0) (.slice a1 n1 c1) p.root p.tree w0) (hs : SchAt (b + 2) w0 [] es (.slice none 0 0) ev rt) (hes : es.map Prod.fst = chosP p n0)
    (hQ : ∀ c' w' ss sv, FrC b n1 c' → MKeeps w b (.slice a0 n0 e0) (.slice a1 n1 c1) p.root p.tree w' → SchAt (b + 2) w' ss es sv ev rt → ss.map Prod.fst = recsP p n1 → LensOk p n1 → Q (.exit 4) c' w')
    (hB : ∀ c' w' j, FrC b j c' → w'.heap[b + 1]? = some (.cells #[.slice none 0 0, .slice none 0 0, .int .i64 0] 30 (0, 0)) → Below b w w' → j < n1 → ¬ (1 ≤ (p.structs.getD j []).length ∧ (p.structs.getD j []).length ≤ 16) → Q .ret c' w') :
    Code.wp Tryd.prog (Code.loop (madeLoop 2)) Q c w0 := by
  refine wp_loop (RecsInv w p es ev (.slice a0 n0 e0) (.slice a1 n1 c1) b n1 rt)
    (fun c' _ => n1 - (intOf (c'.tmps.getD 8 undef)).toNat) ⟨0, [], _, Nat.zero_le _, hc, hk, hs, rfl, fun j hj => absurd hj (Nat.not_lt_zero j)⟩ ?_
  clear hc hk hs
  rintro c wr ⟨i, ss, sv, hi, hc, hk, hs, hss, hlen⟩
  have HP := Lib.hid hp
  have HQ := Lib.hid hQ
  have HBAD := Lib.hid hB
  have HK := Lib.hid hk
  have HS := Lib.hid hs
  have HES := Lib.hid hes
  have HSS := Lib.hid hss
  have HLEN := Lib.hid hlen
  have hssl : ss.length ≤ 16 := by have := congrArg List.length hss; rw [recsP_length] at this; simp at this; omega
  obtain ⟨u, rfl⟩ := frc_lit hc
  have y1 := (blk_cell hk.box 1).trans rfl
  have hbl : b + 2 < wr.heap.size := blk_lt hs.blk
  clear hc hQ hB hk hs hp hes hss hlen
  conv => arg 2; whnf
  by_cases hlt : i < n1
  · obtain ⟨B, off, a, n, cc, rfl, hB0, hz, hn, hnc, hcm, hfl⟩ := HP.out.s_at i hlt
    have hB : B < b := by rw [HK.out.hb]; exact hB0
    have hzr := (HK.out.bel.cell (p := ⟨B, off + i, none⟩) hB).trans hz
    have HFL := Lib.hid hfl
    have HN := Lib.hid hn
    clear hfl hz hB0
    by_cases hb1 : n < 1
    · obtain ⟨_, _, _, _, s0, s1, s2⟩ := blk3 HK.out.res
      clear hn
      go_wp2
      refine HBAD.out _ _ i ⟨rfl, rfl, rfl, rfl, rfl, rfl, rfl⟩ (blk_set3 HK.out.res _ _ _) (((HK.out.bel.setCell (p := ⟨b + 1, 0, none⟩) (by show b ≤ b + 1; omega) _).setCell (p := ⟨b + 1, 1, none⟩) (by show b ≤ b + 1; omega) _).setCell (p := ⟨b + 1, 2, none⟩) (by show b ≤ b + 1; omega) _) hlt (by rw [HN.out]; omega)
    · by_cases hb2 : 16 < n
      · obtain ⟨_, _, _, _, s0, s1, s2⟩ := blk3 HK.out.res
        clear hn
        go_wp2
        refine HBAD.out _ _ i ⟨rfl, rfl, rfl, rfl, rfl, rfl, rfl⟩ (blk_set3 HK.out.res _ _ _) (((HK.out.bel.setCell (p := ⟨b + 1, 0, none⟩) (by show b ≤ b + 1; omega) _).setCell (p := ⟨b + 1, 1, none⟩) (by show b ≤ b + 1; omega) _).setCell (p := ⟨b + 1, 2, none⟩) (by show b ≤ b + 1; omega) _) hlt (by rw [HN.out]; omega)
      · have kc := one_str
        have hsz : ¬ 9223372036854775807 < 1 + (strOfNums [97 + (i : Int)]).size := by rw [strOfNums_size]; simp
        obtain ⟨hbw2, hB1, hB2⟩ := two_start wr #[.int .u8 (97 + (i : Int))] #[.string (recName i), .slice none 0 0] 5 51
        have HB2 := Lib.hid hbw2
        have HBB := Lib.hid hB2
        clear hbw2 hB1 hB2 hn
        go_wp2_with fail
        refine flds_wp (a0 := a0) (c1 := c1) (R := wr.heap.size + 1) (rn := .string (recName i)) (l := p.structs.getD i []) ?_ (by omega) HK.out HS.out HES.out HP.out.e_len HP.out.s_len hlt h16 h8 HB2.out (by omega) HBB.out ⟨rfl, rfl, rfl, rfl, rfl, rfl, rfl, rfl, rfl, rfl⟩ ?_
        · intro k hk
          obtain ⟨b', off', f, hf, ha, hbf, x0, x1, x2, x3, x4, q0, q1, q2, q3, q4⟩ := HFL.out k hk
          rw [hf]
          exact ⟨b', off', ⟨ha, hbf, x0, x1, x2, x3, x4, q0, q1, q2, q3, q4⟩⟩
        intro c2 w2 fv hf hbel hR2 hrow2
        obtain ⟨fva, fvc, rfl⟩ := ownsRow_form hrow2
        have hb3 : Below wr.heap.size wr w2 := HB2.out.trans (hbel.mono (by omega))
        have hs2 := HS.out.below hb3
        have HS2 := Lib.hid hs2
        have HK2 := Lib.hid (HK.out.below hb3 (by omega))
        have HROW := Lib.hid hrow2
        have HPR : Hid (recP p i = ⟨recName i, fldsP p i (p.structs.getD i []) n⟩) := Lib.hid (by unfold recP; rw [HN.out])
        have HFN : Hid ((fldsP p i (p.structs.getD i []) n).length = n) := Lib.hid (fldsP_length _ _ _ _)
        have HLI : Hid (LensOk p (i + 1)) := Lib.hid (fun j hj => by
          rcases Nat.lt_or_ge j i with h | h
          · exact HLEN.out j h
          · obtain rfl : j = i := by omega
            rw [HN.out]
            omega)
        generalize fldsP p i (p.structs.getD i []) n = FL at *
        obtain ⟨_, z0, z1, z2, f0, f1, f2⟩ := blk3 hs2.blk
        obtain ⟨hCl, d0, d1, _⟩ := blk2 hR2
        obtain ⟨sva, svc, rfl⟩ := ownsRow_form hs2.rows.structs
        obtain ⟨i0, hi0, hzz0, hzz1, hzz2⟩ := info_parts srec_info
        have I1 := Lib.hid hi0
        have I2 := Lib.hid hzz0
        have I3 := Lib.hid hzz1
        have I4 := Lib.hid hzz2
        have hbs : b + 2 < w2.heap.size := blk_lt hs2.blk
        have HBN := Lib.hid (heap_alloc_new w2 (.cells #[.string (recName i), .slice fva n fvc] 51))
        have HBA := Lib.hid ((Below.refl w2.heap.size w2).alloc (Nat.le_refl _) (.cells #[.string (recName i), .slice fva n fvc] 51))
        obtain ⟨u2, rfl⟩ := frd_lit hf
        clear hf hbel hR2 hrow2 hb3 hs2 hi0 hzz0 hzz1 hzz2 HS HK y1 kc hsz hzr
        simp only [Exit.inBlock, Exit.then]
        apply_assumption
        go_wp2_with (at_builtin; refine wpList_append_own _ rfl (.tmp 235) (.tmp 237) 27 rfl (b + 2 + 1) 51 i0 _ 2 40 Tryd.underlying27 I1.out I2.out I3.out I4.out rfl (by decide) _ ss.length (srecsCells ss) rfl (row_keep HBA.out HS2.out.rows.structs) _ 1 1 [.string (recName i), .slice fva n fvc] rfl rfl (World.news_of_block HBN.out) (by intro u hu; simp at hu; rcases hu with rfl | rfl <;> rfl) (by unfold maxLen; omega) (by omega) (by simp; omega) ?_; intro v4 W8 hown4 hg4 hx; clear hx; obtain ⟨a4, m4, rfl⟩ := ownsRow_form hown4; have s5 := SchAt.strct (q := (⟨recName i, FL⟩, .slice fva n fvc)) (HS2.out.below HBA.out) (by have h := ownsRow_base (row_keep HBA.out HROW.out) (show b + 2 + 1 ≤ wr.heap.size + 1 + 1 by omega); show World.ownsRow _ _ _ _ _ FL.length (sfldsCells FL); rw [HFN.out]; exact h) hg4 hown4; have s4 : W8.heap[b + 2]? = some (.cells #[.slice sva ss.length svc, ev, .int .i64 rt] 30 (0, 0)) := (hg4.block (b + 2) (by simp; omega) (fun e => by have := (ownsRow_lt HS2.out.rows.structs _ e.symm).1; omega)).trans (HS2.out.below HBA.out).blk; obtain ⟨_, p0, p1, p2, q0, q1, q2⟩ := blk3 s4; have S5 := Lib.hid s5; have S6 := Lib.hid (bel_app HBA.out hbs hg4 (fun k hk => by have := (ownsRow_lt HS2.out.rows.structs k hk).1; omega) 0 (.slice a4 (ss.length + 1) m4)); clear s5 s4 hown4 hg4)
        refine ⟨⟨i + 1, _, _, by omega, ⟨rfl, rfl, rfl, rfl, rfl, rfl, rfl⟩, HK2.out.below S6.out (Nat.le_refl _), S5.out, by rw [List.map_append, HSS.out, recsP_succ, HPR.out]; rfl, HLI.out⟩, ?_⟩
        show n1 - (intOf (.int .i64 ((i : Int) + 1))).toNat < n1 - (intOf (.int .i64 (i : Int))).toNat
        simp [intOf]; omega
  · obtain rfl : i = n1 := by omega
    clear hlt
    go_wp2
    exact HQ.out _ _ _ _ ⟨rfl, rfl, rfl, rfl, rfl, rfl, rfl⟩ HK.out HS.out HSS.out HLEN.out
end Go.Proofs.YtjeoekggdohhiaaDoor
