/-
  A world in which the three variables that the rows of jsonwrite's laws list lie as the program's text lays them; and what the walks ask of them, out of that condition. No conditions.
-/
import Derived.Test.YtiknhkkeifemcaaGreatDoorPkM2
import Derived.Test.YtiknhkkeifemcaaGreatDoorPkM24
import Derived.Test.YtiknhkkeifemcaaGreatDoorPkM25
import Derived.Test.YtiknhkkeifemcaaGreatDoorPkM26
import Derived.Test.YtiknhkkeifemcaaGreatDoorPkM27
import Derived.Test.YtiknhkkeifemcaaGreatDoorPkM28
import Derived.Test.YtiknhkkeifemcaaGreatDoorPkM36
import Derived.BigQuiet
import Derived.Deep.Cut
import Derived.Lib.LaidTab
import Derived.Stop.LaidErr
namespace Go.Proofs.YtiknhkkeifemcaaGreatDoor
open Go.ChangeShapes Go.WideShapes Go.ChangeAt Go.RowKit Go.Shelf

theorem val_info3_3 : (Tryz.prog.info? 40).map (fun i => (i.zero, i.size, i.bytes)) = some (some (.agg #[.int .u64 0, .slice none 0 0, .slice none 0 0, .bool false]), 4, 64) := by kernel_rfl
def LsAt3 (g : Nat) (a : Option Addr) (bs : List Int) (bc i i1 : Nat) (w : World) (SS : List CRec) (ES : List SCho) (left k r lm m TB : Nat) (sv ev : Value) (root : Int) (x : Value) (wr : World) : Prop := ∃ (j i2 : Nat) (A : Option Addr) (cap : Nat) (l : List KV), j ≤ m ∧ x = .int .i64 j ∧ wr.heap[w.heap.size + 1 + 1 + 1 + 1]? = some (.cells #[.int .u64 0, .slice none 0 0, .slice A j cap, .bool false] 40 (0, 0)) ∧
  wr.ownsRow (w.heap.size + 1 + 1 + 1 + 1 + 1) 40 4 (.slice A j cap) j (kvsCells l) ∧ KidsIn (rowS (w.heap.size + 1 + 1 + 1 + 1 + 1) (.slice A j cap)) wr l ∧ ((ElsFit SS ES (left - 1) k r lm l ∧ (l ≠ [] → left ≠ 0)) ∧ KidsSWL bs.length i1 i2 l) ∧ wr.heap[w.heap.size + 1 + 1 + 1]? = some (.cells #[.int .u64 0, .slice none 0 0, .slice none 0 0, .bool false] 40 (0, 0)) ∧
  wr.heap[w.heap.size]? = some (.cells #[sv, ev, .int .i64 root] 30 (0, 0)) ∧ wr.heap[TB]? = some (.cells #[.int .u8 k, .int .i64 r, .int .i64 lm] 47 (0, 0)) ∧ Src g a bs bc wr i2 ∧ i ≤ i2 ∧ Exc g w.heap.size w wr
set_option maxRecDepth 100000 in
set_option maxHeartbeats 8000000 in
theorem hval_list3 (k r l lm left : Nat) {d fk : Nat} {fr fl : Int} {nm : ByteArray} {sure : Bool} {b g i bc : Nat} {a : Option Addr} {bs : List Int} {ss : List (SRec × Value)} {es : List (SCho × Value)} {sv ev : Value} {root : Int} {w : World} (hl : l = lm + 1) (hl3 : l ≤ 3) (hv : lm = 0 ∧ k = 13) (ht : TyM ss.length (es.map Prod.fst) k r lm) (hm : SchM ss (es.map Prod.fst)) (hnx : ∀ q, left = q + 1 → ValAt q) (hl12 : left ≤ 12) (hs : Src g a bs bc w i) (hg : ∀ W, Exc g w.heap.size w W → SchRows b W ss es sv ev) :
    Calls Tryz.prog 44 #[.agg #[sv, ev, .int .i64 root], .agg #[.int .u8 k, .int .i64 r, .int .i64 l], .pointer (some ⟨g, 0, none⟩), .int .i64 left, .agg #[.string nm, .int .u8 fk, .int .i64 fr, .int .i64 fl, .int .u64 d], .bool sure] w (ValPost g a bs bc i w ((crow ss).map Prod.fst) (es.map Prod.fst) left k r l sure) := by
  have hk1 := ht.lo
  have hk13 := ht.hi
  have HT := Lib.hid ht
  have HM := Lib.hid hm
  have HNX := Lib.hid hnx
  have HL := Lib.hid hl
  have hrwl : (l : Int) - 1 = (lm : Int) := by omega
  have hrwl2 : IntKind.i64.wrap (lm : Int) = lm := IntWalk.i64_in _ (by omega)
  have hl0 : decide (0 < l) = true := decide_eq_true (by omega)
  have hlz : ((lm : Int) == 0) = true := by simp; omega
  have hkz : ((k : Int) == 13) = true := by simp; omega
  have HVV := Lib.hid hv
  clear ht hm hnx hl hv
  obtain ⟨h0, h1, h2, h3, h4, h5, h6⟩ := five_blk w #[sv, ev, .int .i64 root] #[.int .u8 k, .int .i64 r, .int .i64 l] #[.string nm, .int .u8 fk, .int .i64 fr, .int .i64 fl, .int .u64 d] #[.int .u64 0, .slice none 0 0, .slice none 0 0, .bool false] #[.int .u64 0, .slice none 0 0, .slice none 0 0, .bool false] 30 47 60 40 40
  have HGL := Lib.hid (blk_lt hs.blk)
  have HS0 := Lib.hid hs
  have HS := Lib.hid (hs.below h0)
  have HG := Lib.hid hg
  have HB := Lib.hid h0
  have Q1 := Lib.hid h1
  have Q2 := Lib.hid h2
  have Q3 := Lib.hid h3
  have Q4 := Lib.hid h4
  have Q5 := Lib.hid h5
  have HSZ := Lib.hid h6
  clear h0 h1 h2 h3 h4 h5 h6 hs hg
  go_enter Tryz.func44, Tryz.ntmps44
  go_upto_region 2 with (fail)
  generalize (((((w.alloc (.cells #[sv, ev, .int .i64 root] 30)).alloc (.cells #[.int .u8 k, .int .i64 r, .int .i64 l] 47)).alloc (.cells #[.string nm, .int .u8 fk, .int .i64 fr, .int .i64 fl, .int .u64 d] 60)).alloc (.cells #[.int .u64 0, .slice none 0 0, .slice none 0 0, .bool false] 40)).alloc (.cells #[.int .u64 0, .slice none 0 0, .slice none 0 0, .bool false] 40)) = W0 at *
  go_wp2_with fail
  refine (next_more g a bs bc i W0 HS.out).mono ?_
  rintro e W1 ⟨c, i1, rfl, hc, hi1, hs1, hx1, HMORE⟩
  have hgl := HGL.out
  have HS1 := Lib.hid hs1
  have HX1 := Lib.hid ((Exc.of_below HB.out).thenB (Nat.le_refl _) hx1)
  have HB1 := Lib.hid (Nat.le_trans (Nat.le_of_eq HSZ.out) hx1.size)
  have R1 := Lib.hid (blk_exc Q1.out hx1 (blk_lt Q1.out) (by omega))
  have R2 := Lib.hid (blk_exc Q2.out hx1 (blk_lt Q2.out) (by omega))
  have R3 := Lib.hid (blk_exc Q3.out hx1 (blk_lt Q3.out) (by omega))
  have R4 := Lib.hid (blk_exc Q4.out hx1 (blk_lt Q4.out) (by omega))
  have R5 := Lib.hid (blk_exc Q5.out hx1 (blk_lt Q5.out) (by omega))
  clear hs1 hx1 HS Q1 Q2 Q3 Q4 Q5 HSZ HB hgl
  obtain ⟨_, t0, t1, t2, _⟩ := blk3 R2.out
  obtain ⟨m, hm⟩ : ∃ m : Nat, c % 5 = m := ⟨_, rfl⟩
  have hmod : (c : Int).tmod 5 = m := by rw [Int.tmod_eq_emod_of_nonneg (by omega)]; omega
  have hm5 : m < 5 := by omega
  clear hm
  go_upto_region 15 with (fail)
  have hba : Below W1.heap.size W1 (W1.alloc (.cells #[.int .u8 k, .int .i64 r, .int .i64 lm] 47)) := (Below.refl _ _).alloc (Nat.le_refl _) _
  have hTO : w.heap.size + 1 + 1 + 1 + 1 < W1.heap.size := blk_lt R5.out
  have HTO := Lib.hid hTO
  have HST : Hid (LsAt3 g a bs bc i i1 w ((crow ss).map Prod.fst) (es.map Prod.fst) left k r lm m W1.heap.size sv ev root (.int .i64 ((0 : Nat) : Int)) (W1.alloc (.cells #[.int .u8 k, .int .i64 r, .int .i64 lm] 47))) := Lib.hid ⟨0, i1, none, 0, [], Nat.zero_le _, rfl, blk_alloc R5.out _, World.ownsRow_nil _ _ _ _, fun q hq => by (cases hq), ⟨⟨fun q hq => by (cases hq), fun h => absurd rfl h⟩, KidsSWL.nil _ i1⟩, blk_alloc R4.out _, blk_alloc R1.out _, heap_alloc_new W1 _, HS1.out.below hba, hi1, HX1.out.bel (Nat.le_refl _) hba⟩
  clear t0 t1 t2 R1 R2 R3 R4 R5 HS1 HX1 HB1 hba hTO
  generalize W1.alloc (.cells #[.int .u8 k, .int .i64 r, .int .i64 lm] 47) = WS at *
  generalize W1.heap.size = TB at *
  have hlz2 := hlz
  go_loopw [17] (fun x wr => LsAt3 g a bs bc i i1 w ((crow ss).map Prod.fst) (es.map Prod.fst) left k r lm m TB sv ev root x wr) (fun x _ => 5 - (intOf x).toNat)
  case atStart => exact HST.out
  case round =>
    obtain ⟨j, i2, A, cap, l', hj, rfl, hO, hrow, hkin, hkf, hR, hSB, hTB, hs, hi2, hx⟩ := hrel
    have HO := Lib.hid hO
    have HROW := Lib.hid hrow
    have HKI := Lib.hid hkin
    have HKF := Lib.hid hkf
    have HR := Lib.hid hR
    have HSB := Lib.hid hSB
    have HTB := Lib.hid hTB
    have HSW := Lib.hid hs
    have HXW := Lib.hid hx
    obtain ⟨_, x0, x1, _⟩ := blk2 hs.blk
    clear hO hrow hkin hkf hR hSB hTB hs hx
    by_cases hgo : j < m ∧ 2 ≤ left ∧ i2 < bs.length
    · obtain ⟨hjm, hlf, hib⟩ := hgo
      have HIB := Lib.hid hib
      have hji : (j : Int) < m := by omega
      have hli : (2 : Int) ≤ (left : Int) := by omega
      have hbI : (i2 : Int) < (bs.length : Int) := by omega
      obtain ⟨rm, hrm⟩ : ∃ rm, left = rm + 1 := ⟨left - 1, by omega⟩
      have hrw : (left : Int) - 1 = (rm : Int) := by omega
      have hrw2 : IntKind.i64.wrap (rm : Int) = rm := IntWalk.i64_in _ (by omega)
      have HRM := Lib.hid hrm
      have HRM1 : Hid (left - 1 = rm) := Lib.hid (by omega)
      clear hrm
      go_upto_region 15 with (fail)
      go_quiet (fail)
      have q1 : Exc g wr.heap.size wr (wr.drewN nq) := exc_dN (Exc.refl _ _ _) nq
      have hb5 := bel_dN wr nq
      have H5 := Lib.hid q1
      have HSB5 : Hid ((wr.drewN nq).heap[w.heap.size]? = _) := Lib.hid HSB.out
      have HTB5 : Hid ((wr.drewN nq).heap[TB]? = _) := Lib.hid HTB.out
      have HSW5 := Lib.hid (HSW.out.below hb5)
      have hsz : (wr.drewN nq).heap.size = wr.heap.size := rfl
      have HSZ5 := Lib.hid hsz
      clear hb5 q1 hsz x0 x1
      generalize wr.drewN nq = W5 at *
      obtain ⟨_, s0, s1, s2, _⟩ := blk3 HSB5.out
      obtain ⟨_, t0, t1, t2, _⟩ := blk3 HTB5.out
      have HV := Lib.hid (HNX.out rm HRM.out k r lm 0 0 0 0 ⟨#[]⟩ true b g i2 bc a bs ss es sv ev root W5 HT.out HM.out HSW5.out (fun W' hW' => HG.out W' (HXW.out.thenB (Nat.le_refl _) (H5.out.thenB (Nat.le_refl _) hW'))) (by decide) (fun h1 h2 => num_zero _ _ _ ⟨HT.out.lo, h2, HT.out.en⟩))
      go_wp2_with fail
      refine HV.out.mono ?_
      rintro e W6 ⟨v6, val6, i3, rfl, hvh6, hft6, hss6, hi3, hs6, hx6'⟩
      have hx6 : Exc g wr.heap.size wr W6 := H5.out.thenB (Nat.le_refl _) hx6'
      rw [HSZ5.out] at hvh6
      have hgw : wr.heap.size ≠ g := by have := HGL.out; have := blk_lt HO.out; omega
      obtain ⟨ba, ka, bcc, kcc, rfl, _, _, _, _, _, _, _⟩ := IsV.form hvh6
      have hsn : ElsFit ((crow ss).map Prod.fst) (es.map Prod.fst) (left - 1) k r lm (l' ++ [⟨v6, .int .u64 v6.num, .slice ba v6.bytes.length bcc, .slice ka v6.kids.length kcc, .bool v6.has⟩]) := by have h1 := HKF.out.1.1; rw [HRM1.out] at h1 ⊢; exact h1.snoc hft6.1 (fun h1 h2 => hss6 h1 h2 rfl (by have := HVV.out; have := HRM.out; omega))
      have HSN := Lib.hid hsn
      clear hx6' s0 s1 s2 t0 t1 t2 hsn
      go_upto_region 18 with (fail)
      have q1 : Exc g wr.heap.size wr (W6.alloc (.cells #[.int .u64 v6.num, .slice ba v6.bytes.length bcc, .slice ka v6.kids.length kcc, .bool v6.has] 40)) := hx6.alloc hx6.size _
      have q2 : VH (newS wr.heap.size) (W6.alloc (.cells #[.int .u64 v6.num, .slice ba v6.bytes.length bcc, .slice ka v6.kids.length kcc, .bool v6.has] 40)) v6 (.agg #[.int .u64 v6.num, .slice ba v6.bytes.length bcc, .slice ka v6.kids.length kcc, .bool v6.has]) := VH.alloc (show VH (newS wr.heap.size) W6 v6 (.agg #[.int .u64 v6.num, .slice ba v6.bytes.length bcc, .slice ka v6.kids.length kcc, .bool v6.has]) from hvh6) _
      have q3 : (W6.alloc (.cells #[.int .u64 v6.num, .slice ba v6.bytes.length bcc, .slice ka v6.kids.length kcc, .bool v6.has] 40)).heap[W6.heap.size]? = some (.cells #[.int .u64 v6.num, .slice ba v6.bytes.length bcc, .slice ka v6.kids.length kcc, .bool v6.has] 40 (0, 0)) := heap_alloc_new W6 _
      have q4 : Src g a bs bc (W6.alloc (.cells #[.int .u64 v6.num, .slice ba v6.bytes.length bcc, .slice ka v6.kids.length kcc, .bool v6.has] 40)) i3 := hs6.below ((Below.refl _ _).alloc (Nat.le_refl _) _)
      generalize W6.alloc (.cells #[.int .u64 v6.num, .slice ba v6.bytes.length bcc, .slice ka v6.kids.length kcc, .bool v6.has] 40) = W7 at *
      generalize W6.heap.size = V at *
      have HSM := Lib.hid (KidsSWL.snoc (q := ⟨v6, .int .u64 v6.num, .slice ba v6.bytes.length bcc, .slice ka v6.kids.length kcc, .bool v6.has⟩) HKF.out.2 hft6.2 HIB.out hi3)
      have hgl := HGL.out
      have HX7 := Lib.hid (HXW.out.thenB (Nat.le_refl _) q1)
      have HO7 := Lib.hid (blk_exc HO.out q1 (blk_lt HO.out) (by omega))
      have HROW7 := Lib.hid (q1.ownsRow HROW.out (fun e => by have := (ownsRow_lt HROW.out g e).1; omega))
      have HR7 := Lib.hid (blk_exc HR.out q1 (blk_lt HR.out) (by omega))
      have HSB7 := Lib.hid (blk_exc HSB.out q1 (blk_lt HSB.out) (by omega))
      have HRB7 := Lib.hid (blk_exc HTB.out q1 (blk_lt HTB.out) (by have := HTO.out; omega))
      have HBN := Lib.hid (heap_alloc_new W7 (.cells #[.int .u64 v6.num, .slice ba v6.bytes.length bcc, .slice ka v6.kids.length kcc, .bool v6.has] 40))
      have HBA := Lib.hid ((Below.refl W7.heap.size W7).alloc (Nat.le_refl _) (.cells #[.int .u64 v6.num, .slice ba v6.bytes.length bcc, .slice ka v6.kids.length kcc, .bool v6.has] 40))
      have hO1 := blk_lt HO7.out
      have hjj : j ≤ 1000 := by omega
      obtain ⟨_, v0, v1, v2, v3⟩ := blk4p HO7.out
      obtain ⟨_, w0, w1, w2, w3⟩ := blk4p q3
      obtain ⟨i0, hi0, hzz0, hzz1, hzz2⟩ := info_parts val_info3_3
      have I1 := Lib.hid hi0
      have I2 := Lib.hid hzz0
      have I3 := Lib.hid hzz1
      have I4 := Lib.hid hzz2
      have Q1 := Lib.hid q1
      have Q2 := Lib.hid q2
      have Q4 := Lib.hid q4
      have hOw : w.heap.size + 1 + 1 + 1 + 1 < wr.heap.size := blk_lt HO.out
      have HOW := Lib.hid hOw
      have HGW := Lib.hid hgl
      clear q1 q2 q3 q4 hi0 hzz0 hzz1 hzz2 hvh6 hft6 hss6 hs6 hx6 hgl hOw
      go_wp2_with (at_builtin; refine wpList_append_own_at _ rfl (.tmp 93) (.tmp 95) 38 rfl (w.heap.size + 1 + 1 + 1 + 1 + 1) 40 i0 _ 4 64 Tryz.underlying38 I1.out I2.out I3.out I4.out rfl (by decide) _ j (kvsCells l') rfl (row_keep HBA.out HROW7.out) _ 1 1 [.int .u64 v6.num, .slice ba v6.bytes.length bcc, .slice ka v6.kids.length kcc, .bool v6.has] rfl rfl (World.news_of_block HBN.out) (by intro u hu; simp at hu; rcases hu with rfl | rfl | rfl | rfl <;> rfl) (by unfold maxLen; omega) (by omega) (by simp; omega) ?_; intro v4 W8 hown4 hg4 hx hat4; clear hx; obtain ⟨a4, m4, rfl⟩ := ownsRow_form hown4; obtain ⟨s1, s2, s3, s4, s5⟩ := stepV 2 HX7.out (show w.heap.size ≤ w.heap.size + 1 + 1 + 1 + 1 by omega) HO7.out HROW7.out HBA.out hg4 hown4; have hkk := kids_step (q := ⟨v6, .int .u64 v6.num, .slice ba v6.bytes.length bcc, .slice ka v6.kids.length kcc, .bool v6.has⟩) HKI.out Q1.out (show g ≤ w.heap.size + 1 + 1 + 1 + 1 by have := HGW.out; omega) HOW.out (fun k hk => (ownsRow_lt HROW.out k hk).2) Q2.out HBA.out hg4 hat4 (Nat.le_refl _) 2 (.slice a4 (j + 1) m4); have hE8 := ((hg4.block TB (by have := blk_lt HRB7.out; simp; omega) (fun h => row_other HROW7.out HRB7.out (by decide) h.symm)).trans (HBA.out.block TB (blk_lt HRB7.out))).trans HRB7.out; have HE8 := Lib.hid hE8; clear hE8; obtain ⟨_, d0, d1, d2, d3⟩ := blk4p s4; have e1 := blk_frozen s4 2; have S1 := Lib.hid s1; have S2 := Lib.hid s2; have S3 := Lib.hid s3; have S5 := Lib.hid s5; have HKK := Lib.hid hkk; clear s1 s2 s3 s4 s5 hkk hown4 hg4 hat4)
      go_roundw
      case rel =>
        have hgl := HGL.out
        exact ⟨j + 1, i3, a4, m4, l' ++ [⟨v6, .int .u64 v6.num, .slice ba v6.bytes.length bcc, .slice ka v6.kids.length kcc, .bool v6.has⟩], by omega, by go_num, S2.out.trans rfl, by rw [kvsCells_snoc]; exact S3.out, HKK.out, ⟨⟨HSN.out, fun _ => by omega⟩, HSM.out⟩, (S5.out _ (by omega)).trans HR7.out, (S5.out _ (by omega)).trans HSB7.out, (Below.heap_setCell _ _ _ _ (by have := HTO.out; show TB ≠ w.heap.size + 1 + 1 + 1 + 1; omega)).trans HE8.out, HS0.out.at S1.out Q4.out (S5.out g (by omega)), by omega, S1.out⟩
      case measure => simp [intOf]; omega
    · have hEND : Hid (fitsP ((crow ss).map Prod.fst) (es.map Prod.fst) left k r l (.mk 0 [] (l'.map KV.v) false) = true) := Lib.hid (fits_list HL.out HKF.out.1.1 HKF.out.1.2)
      obtain ⟨_, u0, u1, u2, u3⟩ := blk4p HR.out
      obtain ⟨_, v0, v1, v2, v3⟩ := blk4p HO.out
      have p0 := blk_frozen HR.out 0
      have p1 := blk_frozen HR.out 1
      have p2 := blk_frozen HR.out 2
      have p3 := blk_frozen HR.out 3
      have hways : ¬ (j : Int) < m ∨ ((j : Int) < m ∧ ¬ (2 : Int) ≤ (left : Int)) ∨ ((j : Int) < m ∧ (2 : Int) ≤ (left : Int) ∧ ¬ (i2 : Int) < (bs.length : Int)) := by omega
      clear hgo
      rcases hways with h1 | ⟨h1, h2⟩ | ⟨h1, h2, h3⟩
      all_goals go_upto_region 15 with (fail)
      all_goals go_quiet (fail)
      all_goals
        go_wp2
        refine post_gen (fun Wf => Wf.heap[w.heap.size + 1 + 1 + 1]? = some (.cells #[.int .u64 0, .slice none 0 0, .slice A j cap, .bool false] 40 (0, 0)) ∧ Exc g w.heap.size w Wf ∧ Src g a bs bc Wf i2 ∧ Wf.ownsRow (w.heap.size + 1 + 1 + 1 + 1 + 1) 40 4 (.slice A j cap) j (kvsCells l') ∧ KidsIn (rowS (w.heap.size + 1 + 1 + 1 + 1 + 1) (.slice A j cap)) Wf l') ⟨?_, ?_, ?_, ?_, ?_⟩ ?_
        · exact blk_set4 (w := wr.drewN nq) HR.out _ _ _ _
        · exact exc_put4 (exc_dN HXW.out nq) (Nat.le_succ_of_le (Nat.le_succ_of_le (Nat.le_succ _))) _ _ _ _
        · have hgl := HGL.out
          exact HS0.out.at (exc_put4 (exc_dN HXW.out nq) (Nat.le_succ_of_le (Nat.le_succ_of_le (Nat.le_succ _))) _ _ _ _) (HSW.out.dN nq) (set4_blk _ (by omega) _ _ _ _)
        · exact own_set4 (row_keep (bel_dN wr nq) HROW.out) (by omega) _ _ _ _
        · exact HKI.out.step (by simp [World.setCell]) (fun k hk hS => ⟨hS, set4_blk (wr.drewN nq) (by have := (rowS_no.1 hS).1; omega) _ _ _ _⟩)
        · rintro Wf ⟨e1, e2, e3, e4, e5⟩
          obtain ⟨_, d0, d1, d2, d3⟩ := blk4p e1
          exact bodyPost_ret (v := .agg #[.int .u64 0, .slice none 0 0, .slice A j cap, .bool false]) (by simp [results, Tryz.results44, go_sem, d0, d1, d2, d3]) rfl ⟨.mk 0 [] (l'.map KV.v) false, _, i2, rfl, vh_kids e4 e5 (fun k hS => by have := (rowS_no.1 hS).1; unfold newS; simp; omega) (fun k hk => by unfold newS; simp; omega) false, ⟨hEND.out, HKF.out.2.val (by have := kv_len e4; omega) hi1 HMORE.out false⟩, fun _ h _ _ => absurd h (by omega), by omega, e3, e2⟩
end Go.Proofs.YtiknhkkeifemcaaGreatDoor
namespace Go.Proofs.YtiknhkkeifemcaaGreatDoor
open Go.ChangeShapes Go.WideShapes Go.ChangeAt Go.RowKit Go.Shelf

theorem hval_step (left : Nat) (hl12 : left ≤ 12) (hnx : ∀ q, left = q + 1 → ValAt q) : ValAt left := by
  intro k r l d fk fr fl nm sure b g i bc a bs ss es sv ev root w ht hm hs hg hd hdf
  cases l with
  | zero =>
    have h10 : k ≤ 10 ∨ k = 11 ∨ k = 12 ∨ k = 13 := by have := ht.hi; omega
    rcases h10 with h | rfl | rfl | rfl
    · exact hval_num k r left ⟨ht.lo, h, ht.en⟩ hd (hdf rfl h) hs hg
    · exact hval_text r left hs hg
    · exact hval_data r left hs hg
    · exact hval_struct r left (ht.st rfl) hm hnx hl12 hs hg
  | succ lm =>
    have ht' : TyM ss.length (es.map Prod.fst) k r lm := ⟨ht.lo, ht.hi, by have := ht.li; omega, ht.en, ht.st⟩
    by_cases h0 : lm = 0
    · by_cases hk : k = 13
      · exact hval_list3 k r (lm + 1) lm left rfl ht.li ⟨h0, hk⟩ ht' hm hnx hl12 hs hg
      · exact hval_list2 k r (lm + 1) lm left rfl ht.li ⟨h0, hk⟩ ht' hm hnx hl12 hs hg
    · exact hval_list1 k r (lm + 1) lm left rfl ht.li h0 ht' hm hnx hl12 hs hg
theorem hval_any : ∀ left, left ≤ 12 → ValAt left
  | 0, h => hval_step 0 h (fun q hq => by cases hq)
  | n + 1, h => hval_step (n + 1) h (fun q hq => by injection hq with hq; exact hq ▸ hval_any n (by omega))
end Go.Proofs.YtiknhkkeifemcaaGreatDoor
namespace Go.Proofs.YtiknhkkeifemcaaGreatDoor
open Go.ChangeShapes Go.WideShapes Go.ChangeAt Go.RowKit Go.Shelf

set_option maxRecDepth 100000 in
set_option maxHeartbeats 4000000 in
theorem hvalue_wt (w : World) {b n bc root : Nat} {a : Option Addr} {bs : List Int} {ss : List (SRec × Value)} {es : List (SCho × Value)} {sv ev : Value} (h : SchRows b w ss es sv ev) (hm : SchM ss (es.map Prod.fst)) (hr : root < ss.length) (hb : Bytes w a bs) (hn : bs.length = n) (hl : (n : Int) ≤ 9223372036854775807) (hc : n ≤ bc) :
    Calls Tryz.prog 18 #[.agg #[sv, ev, .int .i64 root], .slice a n bc] w fun e w' => (∃ (v : PV) (val : Value), e = .returned val ∧ IsV w' v val ∧ VH (newS w.heap.size) w' v val ∧ v.has = true ∧ fitsP ((crow ss).map Prod.fst) (es.map Prod.fst) 12 13 root 0 v = true ∧ SmallV v ∧ Wt v (1700 * (n + 1))) ∧ Below w.heap.size w w' := by
  subst hn
  obtain ⟨h0, h1, h2, h3⟩ := three_start w #[sv, ev, .int .i64 root] #[.int .u64 0, .slice none 0 0, .slice none 0 0, .bool false] #[.slice a bs.length bc, .int .i64 0] 30 40 102
  have HB := Lib.hid h0
  have HR2 := Lib.hid h2
  have HCALL := Lib.hid (hval_any 12 (by decide) 13 root 0 0 0 0 0 ⟨#[]⟩ true b (w.heap.size + 1 + 1) 0 bc a bs ss es sv ev root _ ⟨by decide, by decide, by decide, fun h => absurd h (by decide), fun _ => hr⟩ hm ⟨h3, Nat.zero_le _, hb.below (Nat.le_refl _) h0, fun hne p off e => by
      obtain ⟨b', off', e', hlt, _⟩ := hb.2 hne
      rw [e] at e'
      injection e' with e'
      injection e' with e1 _ _
      omega, hl, hc⟩ (fun W hW => h.below (h0.trans (((hW.mono h0.size)).below (by omega)))) (by decide) (fun _ h10 => absurd h10 (by decide)))
  obtain ⟨_, s0, s1, s2, _⟩ := blk3 h1
  clear h0 h1 h2 h3 h hb hl hc hm hr
  go_enter Tryz.func18, Tryz.ntmps18
  go_upto_region 1 with (fail)
  go_wp2_with fail
  refine HCALL.out.mono ?_
  rintro e W6 ⟨v, val, i3, rfl, hvh, ⟨hft, hsm⟩, hss, hi3, hs6, hx6⟩
  have hbel : Below w.heap.size w W6 := HB.out.trans ((hx6.mono HB.out.size).below (by omega))
  have hq2 := blk_exc HR2.out hx6 (blk_lt HR2.out) (by omega)
  have hsz : w.heap.size + 1 + 1 + 1 = (((w.alloc (.cells #[sv, ev, .int .i64 root] 30)).alloc (.cells #[.int .u64 0, .slice none 0 0, .slice none 0 0, .bool false] 40)).alloc (.cells #[.slice a bs.length bc, .int .i64 0] 102)).heap.size := by simp
  rw [← hsz] at hvh
  obtain ⟨ba, ka, bcc, kcc, rfl, _, _, _, _, _, _, _⟩ := IsV.form hvh
  have HVH := Lib.hid hvh
  have HFT := Lib.hid hft
  have HSM := Lib.hid hsm
  have HWT : Hid (Wt v (1700 * (bs.length + 1))) := Lib.hid (by
    obtain ⟨m, h1, h2, _⟩ := hsm.2
    have h3 := hs6.le
    exact h1.mono (by omega))
  have HSS := Lib.hid (hss rfl rfl rfl (by decide))
  have HBE := Lib.hid hbel
  have HQ2 := Lib.hid hq2
  obtain ⟨_, u0, u1, u2, u3⟩ := blk4p hq2
  have p0 := blk_frozen hq2 0
  have p1 := blk_frozen hq2 1
  have p2 := blk_frozen hq2 2
  have p3 := blk_frozen hq2 3
  clear hvh hft hsm hss hi3 hs6 hx6 hbel hq2 hsz s0 s1 s2 HB HR2 HCALL
  go_wp2
  refine post_gen (fun Wf => Wf.heap[w.heap.size + 1]? = some (.cells #[.int .u64 v.num, .slice ba v.bytes.length bcc, .slice ka v.kids.length kcc, .bool v.has] 40 (0, 0)) ∧ Below w.heap.size w Wf ∧ VH (newS w.heap.size) Wf v (.agg #[.int .u64 v.num, .slice ba v.bytes.length bcc, .slice ka v.kids.length kcc, .bool v.has])) ⟨?_, ?_, ?_⟩ ?_
  · exact blk_set4 HQ2.out _ _ _ _
  · exact below_set4 HBE.out (Nat.le_succ _) _ _ _ _
  · exact vh_new HVH.out (by omega) (by simp [World.setCell]) (fun k hk hB => set4_blk W6 (by omega) _ _ _ _)
  · rintro Wf ⟨e1, e2, e3⟩
    obtain ⟨_, d0, d1, d2, d3⟩ := blk4p e1
    exact bodyPost_ret (v := .agg #[.int .u64 v.num, .slice ba v.bytes.length bcc, .slice ka v.kids.length kcc, .bool v.has]) (by simp [results, Tryz.results18, go_sem, d0, d1, d2, d3]) rfl ⟨⟨v, _, rfl, e3.out, e3, HSS.out, HFT.out, HSM.out.1, HWT.out⟩, e2⟩
end Go.Proofs.YtiknhkkeifemcaaGreatDoor
namespace Go.Proofs.YtiknhkkeifemcaaGreatDoor
open Go.ChangeShapes Go.WideShapes Go.ChangeAt Go.RowKit

def numCells (d : DataW Unit) : Array Value :=
  match d with
  | .agg parts => (parts.filterMap fun | .lit (.int k n) => some (Value.int k n) | _ => none).toArray
  | _ => #[]
def withCells (cs : Array Value) : Obj → Obj
  | .cells _ t frozen => .cells cs t frozen
  | o => o
noncomputable def laidWorld (os : Os) : World :=
  { World.holding Tryz.prog os ⟨#[], #[], []⟩ with
    heap := (((World.holding Tryz.prog os ⟨#[], #[], []⟩).heap.modify
      0 (withCells (numCells Rows.laid_internal_strconv_uint64pow10))).modify
      1 (withCells (numCells Rows.laid_math_bits_deBruijn32tab))).modify
      2 (withCells (numCells Rows.laid_math_bits_deBruijn64tab)) }
abbrev laid3 : List (String × DataW Unit) := [("math/bits.deBruijn32tab", Rows.laid_math_bits_deBruijn32tab), ("math/bits.deBruijn64tab", Rows.laid_math_bits_deBruijn64tab), ("internal/strconv.uint64pow10", Rows.laid_internal_strconv_uint64pow10)]
theorem laid3_met (os : Os) (args : Array Value) : laidMet Tryz.prog laid3 ((laidWorld os).forCall (fun _ _ => 0) ⟨#[], args, []⟩).memory :=
  laidMet_of_run' 8 (by kernel_rfl) (by kernel_rfl)
theorem laid3_plain {W : World} (h : laidMetH Tryz.prog laid3 W) : laidMet Tryz.prog laid3 W := h
theorem pow_data : (Rows.laid_internal_strconv_uint64pow10 : DataW Unit) = Lib.tabData .u64 Lib.pow10Tab := by kernel_rfl
theorem powT_of_laid3 {W : World} (h : laidMetH Tryz.prog laid3 W) : PowT W := by
  have h' := (laid3_plain h).tail.tail
  rw [pow_data] at h'
  exact Lib.tabIs_of_head (g := 0) (by kernel_rfl) (by kernel_rfl) Tryz.underlying260 Tryz.underlying37 (by kernel_rfl) (by kernel_rfl) h'
end Go.Proofs.YtiknhkkeifemcaaGreatDoor
