/-
  The hand's value: of a number's type. Conditions: those that each theorem names.
-/
import Derived.Test.YtjeoekggdohhiaaDoorPkB32
namespace Go.Proofs.YtjeoekggdohhiaaDoor
open Go.ChangeShapes Go.WideShapes Go.ChangeAt Go.RowKit Go.Shelf

set_option maxRecDepth 100000 in
set_option maxHeartbeats 8000000 in
theorem hval_num (k r left : Nat) {d fk : Nat} {fr fl : Int} {nm : ByteArray} {sure : Bool} {b g i bc : Nat} {a : Option Addr} {bs : List Int} {ss : List (SRec × Value)} {es : List (SCho × Value)} {sv ev : Value} {root : Int} {w : World} (ht : NumTy (es.map Prod.fst) k r) (hd : (d : Int) ≤ 18446744073709551615) (hdf : fitsT (es.map Prod.fst) k r 0 d = true) (hs : Src g a bs bc w i) (hg : ∀ W, Exc g w.heap.size w W → SchRows b W ss es sv ev) :
    Calls Tryd.prog 25 #[.agg #[sv, ev, .int .i64 root], .agg #[.int .u8 k, .int .i64 r, .int .i64 0], .pointer (some ⟨g, 0, none⟩), .int .i64 left, .agg #[.string nm, .int .u8 fk, .int .i64 fr, .int .i64 fl, .int .u64 d], .bool sure] w (ValPost g a bs bc i w ((crow ss).map Prod.fst) (es.map Prod.fst) left k r 0 sure) := by
  have hlo := ht.lo
  have hhi := ht.hi
  have HT := Lib.hid ht
  have HD := Lib.hid hd
  have HDF := Lib.hid hdf
  clear ht hd hdf
  obtain ⟨h0, h1, h2, h3, h4, h5, h6⟩ := five_blk w #[sv, ev, .int .i64 root] #[.int .u8 k, .int .i64 r, .int .i64 0] #[.string nm, .int .u8 fk, .int .i64 fr, .int .i64 fl, .int .u64 d] #[.int .u64 0, .slice none 0 0, .slice none 0 0, .bool false] #[.int .u64 0, .slice none 0 0, .slice none 0 0, .bool false] 30 55 57 36 36
  have HGL := Lib.hid (blk_lt hs.blk)
  have HS0 := Lib.hid hs
  have HS := Lib.hid (hs.below h0)
  have HG := Lib.hid hg
  have HB := Lib.hid h0
  have Q1 := Lib.hid h1
  have Q2 := Lib.hid h2
  have Q3 := Lib.hid h3
  have Q4 := Lib.hid h4
  have Q5 := Lib.hid h5
  have HSZ := Lib.hid h6
  clear h0 h1 h2 h3 h4 h5 h6 hs hg
  go_enter Tryd.func25, Tryd.ntmps25
  go_upto_region 2 with (fail)
  generalize (((((w.alloc (.cells #[sv, ev, .int .i64 root] 30)).alloc (.cells #[.int .u8 k, .int .i64 r, .int .i64 0] 55)).alloc (.cells #[.string nm, .int .u8 fk, .int .i64 fr, .int .i64 fl, .int .u64 d] 57)).alloc (.cells #[.int .u64 0, .slice none 0 0, .slice none 0 0, .bool false] 36)).alloc (.cells #[.int .u64 0, .slice none 0 0, .slice none 0 0, .bool false] 36)) = W0 at *
  go_wp2_with fail
  refine (next_any g a bs bc i W0 HS.out).mono ?_
  rintro e W1 ⟨c, i1, rfl, hc, hi1, hs1, hx1⟩
  have hgl := HGL.out
  have HS1 := Lib.hid hs1
  have HX1 := Lib.hid ((Exc.of_below HB.out).thenB (Nat.le_refl _) hx1)
  have HB1 := Lib.hid (Nat.le_trans (Nat.le_of_eq HSZ.out) hx1.size)
  have R1 := Lib.hid (blk_exc Q1.out hx1 (blk_lt Q1.out) (by omega))
  have R2 := Lib.hid (blk_exc Q2.out hx1 (blk_lt Q2.out) (by omega))
  have R3 := Lib.hid (blk_exc Q3.out hx1 (blk_lt Q3.out) (by omega))
  have R4 := Lib.hid (blk_exc Q4.out hx1 (blk_lt Q4.out) (by omega))
  have R5 := Lib.hid (blk_exc Q5.out hx1 (blk_lt Q5.out) (by omega))
  clear hs1 hx1 HS Q1 Q2 Q3 Q4 Q5 HSZ HB hgl
  have hk13 : ((k : Int) == 13) = false := by simp; omega
  obtain ⟨_, s0, s1, s2, _⟩ := blk3 R1.out
  obtain ⟨_, t0, t1, t2, _⟩ := blk3 R2.out
  obtain ⟨_, f0, f1, f2, f3, f4⟩ := blk5 R3.out
  have hin : isNumP k 0 = true := by
    have hk : k = 1 ∨ k = 2 ∨ k = 3 ∨ k = 4 ∨ k = 5 ∨ k = 6 ∨ k = 7 ∨ k = 8 ∨ k = 9 ∨ k = 10 := by omega
    rcases hk with rfl | rfl | rfl | rfl | rfl | rfl | rfl | rfl | rfl | rfl <;> decide
  go_wp2_with fail
  refine (isnum_any k r 0 W1 (by omega)).mono ?_
  rintro e W2 ⟨rfl, hb2⟩
  rw [hin]
  have HS2 := Lib.hid (HS1.out.below hb2)
  have HX2 := Lib.hid (HX1.out.bel (Nat.le_refl _) hb2)
  have R12 := Lib.hid (blk_below R1.out hb2 (blk_lt R1.out))
  have R22 := Lib.hid (blk_below R2.out hb2 (blk_lt R2.out))
  have R32 := Lib.hid (blk_below R3.out hb2 (blk_lt R3.out))
  have R42 := Lib.hid (blk_below R4.out hb2 (blk_lt R4.out))
  have R52 := Lib.hid (blk_below R5.out hb2 (blk_lt R5.out))
  clear hb2 hin s0 s1 s2 t0 t1 t2 f0 f1 f2 f3 f4 R1 R2 R3 R4 R5 HS1 HX1
  obtain ⟨_, s0, s1, s2, _⟩ := blk3 R12.out
  obtain ⟨_, t0, t1, t2, _⟩ := blk3 R22.out
  obtain ⟨_, f0, f1, f2, f3, f4⟩ := blk5 R32.out
  go_wp2_with fail
  refine (number_any k r c d fk fr fl nm root W2 HT.out HS2.out (fun W hW => HG.out W (HX2.out.thenB (Nat.le_refl _) hW)) hc HD.out HDF.out).mono ?_
  rintro e W3 ⟨z, i3, rfl, hz, hfz, hi3, hs3, hx3⟩
  have hgl := HGL.out
  have HS3 := Lib.hid hs3
  have HFZ := Lib.hid hfz
  have HX3 := Lib.hid (HX2.out.thenB (Nat.le_refl _) hx3)
  have R43 := Lib.hid (blk_exc R42.out hx3 (blk_lt R42.out) (by omega))
  have R53 := Lib.hid (blk_exc R52.out hx3 (blk_lt R52.out) (by omega))
  clear s0 s1 s2 t0 t1 t2 f0 f1 f2 f3 f4 hs3 hx3 R12 R22 R32 R42 R52 hfz hgl
  obtain ⟨_, u0, u1, u2, u3⟩ := blk4p R43.out
  obtain ⟨_, v0, v1, v2, v3⟩ := blk4p R53.out
  have p0 := blk_frozen R43.out 0
  have p1 := blk_frozen R43.out 1
  have p2 := blk_frozen R43.out 2
  have p3 := blk_frozen R43.out 3
  have q0 := blk_frozen R53.out 0
  go_wp2
  refine post_gen (fun Wf => Wf.heap[w.heap.size + 1 + 1 + 1]? = some (.cells #[.int .u64 z, .slice none 0 0, .slice none 0 0, .bool false] 36 (0, 0)) ∧ Exc g w.heap.size w Wf ∧ Src g a bs bc Wf i3) ⟨?_, ?_, ?_⟩ ?_
  · exact blk_set4 (blk_set_ne R43.out (by simp) _) _ _ _ _
  · exact exc_puts HX3.out (Nat.le_succ_of_le (Nat.le_succ_of_le (Nat.le_succ _))) (by omega) _ _ _ _ _ _
  · have hgl := HGL.out
    exact HS0.out.at (exc_puts HX3.out (Nat.le_succ_of_le (Nat.le_succ_of_le (Nat.le_succ _))) (by omega) _ _ _ _ _ _) HS3.out (puts_blk _ (by omega) (by omega) _ _ _ _ _ _)
  · rintro Wf ⟨e1, e2, e3⟩
    obtain ⟨_, d0, d1, d2, d3⟩ := blk4p e1
    exact bodyPost_ret (v := .agg #[.int .u64 z, .slice none 0 0, .slice none 0 0, .bool false]) (by simp [results, Tryd.results25, go_sem, d0, d1, d2, d3]) rfl ⟨numV z, _, i3, rfl, vh_num _ _ z hz, ⟨fits_num (k_size hlo hhi) HFZ.out, smallV_num z⟩, fun h => by omega, by omega, e3, e2⟩
end Go.Proofs.YtjeoekggdohhiaaDoor
