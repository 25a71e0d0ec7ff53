/-
  The hand's value: of data. Conditions: those that each theorem names.
-/
import Derived.Test.YtjeoekggdohhiaaDoorPkB32
namespace Go.Proofs.YtjeoekggdohhiaaDoor
open Go.ChangeShapes Go.WideShapes Go.ChangeAt Go.RowKit Go.Shelf

theorem u8_info2 : (Tryd.prog.info? 5).map (fun i => (i.zero, i.size, i.bytes)) = some (some (.int .u8 0), 1, 1) := by kernel_rfl
def DatAt (g : Nat) (a : Option Addr) (bs : List Int) (bc i : Nat) (w : World) (m : Nat) (x : Value) (wr : World) : Prop := ∃ (j i2 : Nat) (A : Option Addr) (cap : Nat) (zs : List Int), j ≤ m ∧ x = .int .i64 j ∧ wr.heap[w.heap.size + 1 + 1 + 1 + 1]? = some (.cells #[.int .u64 0, .slice A j cap, .slice none 0 0, .bool false] 36 (0, 0)) ∧
  wr.ownsRow (w.heap.size + 1 + 1 + 1 + 1 + 1) 5 1 (.slice A j cap) j (u8Cells zs) ∧ (∀ z ∈ zs, 0 ≤ z ∧ z ≤ 255) ∧ wr.heap[w.heap.size + 1 + 1 + 1]? = some (.cells #[.int .u64 0, .slice none 0 0, .slice none 0 0, .bool false] 36 (0, 0)) ∧ Src g a bs bc wr i2 ∧ i ≤ i2 ∧ Exc g w.heap.size w wr
set_option maxRecDepth 100000 in
set_option maxHeartbeats 8000000 in
theorem hval_data (r left : Nat) {d fk : Nat} {fr fl : Int} {nm : ByteArray} {sure : Bool} {b g i bc : Nat} {a : Option Addr} {bs : List Int} {ss : List (SRec × Value)} {es : List (SCho × Value)} {sv ev : Value} {root : Int} {w : World}  (hs : Src g a bs bc w i) (hg : ∀ W, Exc g w.heap.size w W → SchRows b W ss es sv ev) :
    Calls Tryd.prog 25 #[.agg #[sv, ev, .int .i64 root], .agg #[.int .u8 12, .int .i64 r, .int .i64 0], .pointer (some ⟨g, 0, none⟩), .int .i64 left, .agg #[.string nm, .int .u8 fk, .int .i64 fr, .int .i64 fl, .int .u64 d], .bool sure] w (ValPost g a bs bc i w ((crow ss).map Prod.fst) (es.map Prod.fst) left 12 r 0 sure) := by
  obtain ⟨h0, h1, h2, h3, h4, h5, h6⟩ := five_blk w #[sv, ev, .int .i64 root] #[.int .u8 12, .int .i64 r, .int .i64 0] #[.string nm, .int .u8 fk, .int .i64 fr, .int .i64 fl, .int .u64 d] #[.int .u64 0, .slice none 0 0, .slice none 0 0, .bool false] #[.int .u64 0, .slice none 0 0, .slice none 0 0, .bool false] 30 55 57 36 36
  have HGL := Lib.hid (blk_lt hs.blk)
  have HS0 := Lib.hid hs
  have HS := Lib.hid (hs.below h0)
  have HG := Lib.hid hg
  have HB := Lib.hid h0
  have Q1 := Lib.hid h1
  have Q2 := Lib.hid h2
  have Q3 := Lib.hid h3
  have Q4 := Lib.hid h4
  have Q5 := Lib.hid h5
  have HSZ := Lib.hid h6
  clear h0 h1 h2 h3 h4 h5 h6 hs hg
  go_enter Tryd.func25, Tryd.ntmps25
  go_upto_region 2 with (fail)
  generalize (((((w.alloc (.cells #[sv, ev, .int .i64 root] 30)).alloc (.cells #[.int .u8 12, .int .i64 r, .int .i64 0] 55)).alloc (.cells #[.string nm, .int .u8 fk, .int .i64 fr, .int .i64 fl, .int .u64 d] 57)).alloc (.cells #[.int .u64 0, .slice none 0 0, .slice none 0 0, .bool false] 36)).alloc (.cells #[.int .u64 0, .slice none 0 0, .slice none 0 0, .bool false] 36)) = W0 at *
  go_wp2_with fail
  refine (next_any g a bs bc i W0 HS.out).mono ?_
  rintro e W1 ⟨c, i1, rfl, hc, hi1, hs1, hx1⟩
  have hgl := HGL.out
  have HS1 := Lib.hid hs1
  have HX1 := Lib.hid ((Exc.of_below HB.out).thenB (Nat.le_refl _) hx1)
  have HB1 := Lib.hid (Nat.le_trans (Nat.le_of_eq HSZ.out) hx1.size)
  have R1 := Lib.hid (blk_exc Q1.out hx1 (blk_lt Q1.out) (by omega))
  have R2 := Lib.hid (blk_exc Q2.out hx1 (blk_lt Q2.out) (by omega))
  have R3 := Lib.hid (blk_exc Q3.out hx1 (blk_lt Q3.out) (by omega))
  have R4 := Lib.hid (blk_exc Q4.out hx1 (blk_lt Q4.out) (by omega))
  have R5 := Lib.hid (blk_exc Q5.out hx1 (blk_lt Q5.out) (by omega))
  clear hs1 hx1 HS Q1 Q2 Q3 Q4 Q5 HSZ HB hgl
  obtain ⟨_, t0, t1, t2, _⟩ := blk3 R2.out
  go_upto_region 29 with (fail)
  go_wp2_with fail
  refine (isnum_any 12 r 0 W1 (by decide)).mono ?_
  rintro e W2 ⟨rfl, hb2⟩
  rw [show isNumP 12 0 = false from rfl]
  have HS2 := Lib.hid (HS1.out.below hb2)
  have HX2 := Lib.hid (HX1.out.bel (Nat.le_refl _) hb2)
  have R22 := Lib.hid (blk_below R2.out hb2 (blk_lt R2.out))
  have R42 := Lib.hid (blk_below R4.out hb2 (blk_lt R4.out))
  have R52 := Lib.hid (blk_below R5.out hb2 (blk_lt R5.out))
  clear hb2 t0 t1 t2 R1 R2 R3 R4 R5 HS1 HX1 HB1
  obtain ⟨_, t0, t1, t2, _⟩ := blk3 R22.out
  obtain ⟨m, hm⟩ : ∃ m : Nat, c % 7 = m := ⟨_, rfl⟩
  have hmod : (c : Int).tmod 7 = m := by rw [Int.tmod_eq_emod_of_nonneg (by omega)]; omega
  have hm7 : m < 7 := by omega
  clear hm
  go_wp2_with fail
  have HST : Hid (DatAt g a bs bc i w m (.int .i64 ((0 : Nat) : Int)) W2) := Lib.hid ⟨0, i1, none, 0, [], Nat.zero_le _, rfl, R52.out, World.ownsRow_nil _ _ _ _, fun z hz => by (cases hz), R42.out, HS2.out, hi1, HX2.out⟩
  clear t0 t1 t2 R22 R42 R52 HS2 HX2
  go_loopw [25] (fun x wr => DatAt g a bs bc i w m x wr) (fun x _ => 7 - (intOf x).toNat)
  case atStart => exact HST.out
  case round =>
    obtain ⟨j, i2, A, cap, zs, hj, rfl, hO, hrow, hz, hR, hs, hi2, hx⟩ := hrel
    have HO := Lib.hid hO
    have HROW := Lib.hid hrow
    have HZ := Lib.hid hz
    have HR := Lib.hid hR
    have HSW := Lib.hid hs
    have HXW := Lib.hid hx
    clear hO hrow hz hR hs hx
    by_cases hjm : j < m
    · have hji : (j : Int) < m := by omega
      go_wp2_with fail
      refine (next_any g a bs bc i2 wr HSW.out).mono ?_
      rintro e W5 ⟨c2, i3, rfl, hc2, hi3, hs5, hx5⟩
      have hgl := HGL.out
      have hcw : IntKind.u8.wrap (c2 : Int) = c2 := u8_in _ (by omega) (by omega)
      have hne : ∀ k, (Value.slice A j cap).ownBlock = some k → k ≠ g := fun k hk => by have := (ownsRow_lt HROW.out k hk).1; omega
      have HS5 := Lib.hid hs5
      have HX5 := Lib.hid (HXW.out.thenB (Nat.le_refl _) hx5)
      have HO5 := Lib.hid (blk_exc HO.out hx5 (blk_lt HO.out) (by omega))
      have HR5 := Lib.hid (blk_exc HR.out hx5 (blk_lt HR.out) (by omega))
      have HROW5 := Lib.hid (hx5.ownsRow HROW.out (fun e => hne g e rfl))
      have HBN := Lib.hid (heap_alloc_new W5 (.cells #[.int .u8 c2] 5))
      have HBA := Lib.hid ((Below.refl W5.heap.size W5).alloc (Nat.le_refl _) (.cells #[.int .u8 c2] 5))
      have hO1 := blk_lt HO5.out
      obtain ⟨_, v0, v1, v2, v3⟩ := blk4p HO5.out
      obtain ⟨i0, hi0, hzz0, hzz1, hzz2⟩ := info_parts u8_info2
      have I1 := Lib.hid hi0
      have I2 := Lib.hid hzz0
      have I3 := Lib.hid hzz1
      have I4 := Lib.hid hzz2
      clear hs5 hx5 hne hi0 hzz0 hzz1 hzz2 HO HR HROW HSW HXW
      go_wp2_with (at_builtin; refine wpList_append_own _ rfl (.tmp 39) (.tmp 42) 22 rfl (w.heap.size + 1 + 1 + 1 + 1 + 1) 5 i0 _ 1 1 Tryd.underlying22 I1.out I2.out I3.out I4.out rfl (by decide) _ j (u8Cells zs) rfl (row_keep HBA.out HROW5.out) _ 1 1 [.int .u8 c2] rfl rfl (World.news_of_block HBN.out) (by intro u hu; rw [List.mem_singleton.1 hu]; rfl) (by unfold maxLen; omega) (by omega) (by simp; omega) ?_; intro v4 W8 hown4 hg4 hx; clear hx; obtain ⟨a4, m4, rfl⟩ := ownsRow_form hown4; obtain ⟨s1, s2, s3, s4, s5⟩ := stepV 1 HX5.out (show w.heap.size ≤ w.heap.size + 1 + 1 + 1 + 1 by omega) HO5.out HROW5.out HBA.out hg4 hown4; obtain ⟨_, d0, d1, d2, d3⟩ := blk4p s4; have e1 := blk_frozen s4 1; have S1 := Lib.hid s1; have S2 := Lib.hid s2; have S3 := Lib.hid s3; have S5 := Lib.hid s5; clear s1 s2 s3 s4 s5 hown4 hg4)
      go_roundw
      case rel =>
        have hgl := HGL.out
        exact ⟨j + 1, i3, a4, m4, zs ++ [(c2 : Int)], by omega, by go_num, S2.out.trans rfl, by rw [u8Cells_snoc]; exact S3.out, fun z hz => by (rcases List.mem_append.1 hz with h | h; exact HZ.out z h; rw [List.mem_singleton.1 h]; omega), (S5.out _ (by omega)).trans HR5.out, HS0.out.at S1.out HS5.out (S5.out g (by omega)), by omega, S1.out⟩
      case measure => simp [intOf]; omega
    · obtain rfl : j = m := by omega
      obtain ⟨_, u0, u1, u2, u3⟩ := blk4p HR.out
      obtain ⟨_, v0, v1, v2, v3⟩ := blk4p HO.out
      have p0 := blk_frozen HR.out 0
      have p1 := blk_frozen HR.out 1
      have p2 := blk_frozen HR.out 2
      have p3 := blk_frozen HR.out 3
      go_wp2
      refine post_gen (fun Wf => Wf.heap[w.heap.size + 1 + 1 + 1]? = some (.cells #[.int .u64 0, .slice A j cap, .slice none 0 0, .bool false] 36 (0, 0)) ∧ Exc g w.heap.size w Wf ∧ Src g a bs bc Wf i2 ∧ Wf.ownsRow (w.heap.size + 1 + 1 + 1 + 1 + 1) 5 1 (.slice A j cap) j (u8Cells zs)) ⟨?_, ?_, ?_, ?_⟩ ?_
      · exact blk_set4 HR.out _ _ _ _
      · exact exc_put4 HXW.out (Nat.le_succ_of_le (Nat.le_succ_of_le (Nat.le_succ _))) _ _ _ _
      · have hgl := HGL.out
        exact HS0.out.at (exc_put4 HXW.out (Nat.le_succ_of_le (Nat.le_succ_of_le (Nat.le_succ _))) _ _ _ _) HSW.out (set4_blk _ (by omega) _ _ _ _)
      · exact own_set4 HROW.out (by omega) _ _ _ _
      · rintro Wf ⟨e1, e2, e3, e4⟩
        obtain ⟨_, d0, d1, d2, d3⟩ := blk4p e1
        exact bodyPost_ret (v := .agg #[.int .u64 0, .slice A j cap, .slice none 0 0, .bool false]) (by simp [results, Tryd.results25, go_sem, d0, d1, d2, d3]) rfl ⟨.mk 0 zs [] false, _, i2, rfl, vh_bytes e4 HZ.out (fun k hk => by unfold newS; simp; omega), ⟨fits_data, smallV_bytes (by have := (bytes_own (S := fun _ => false) e4 HZ.out (fun _ _ => rfl)).2; omega)⟩, fun h => absurd h (by decide), by omega, e3, e2⟩
end Go.Proofs.YtjeoekggdohhiaaDoor
