/-
  The hand's value: of text. Conditions: those that each theorem names.
-/
import Derived.Test.YtiknhkkeifemcaaGreatDoorPkM7
import Derived.Test.YtiknhkkeifemcaaGreatDoorPkM23
import Derived.Lib.AppendStr
import Derived.BigRegion
import Derived.Deep.RegionLaw
import Derived.Deep.RegionHeld3
namespace Go.Proofs.YtiknhkkeifemcaaGreatDoor
open Go.ChangeShapes Go.WideShapes Go.ChangeAt Go.RowKit Go.Shelf

theorem u8_info2 : (Tryz.prog.info? 5).map (fun i => (i.zero, i.size, i.bytes)) = some (some (.int .u8 0), 1, 1) := by kernel_rfl
def DatAt (g : Nat) (a : Option Addr) (bs : List Int) (bc i : Nat) (w : World) (m : Nat) (x : Value) (wr : World) : Prop := ∃ (j i2 : Nat) (A : Option Addr) (cap : Nat) (zs : List Int), j ≤ m ∧ x = .int .i64 j ∧ wr.heap[w.heap.size + 1 + 1 + 1 + 1]? = some (.cells #[.int .u64 0, .slice A j cap, .slice none 0 0, .bool false] 40 (0, 0)) ∧
  wr.ownsRow (w.heap.size + 1 + 1 + 1 + 1 + 1) 5 1 (.slice A j cap) j (u8Cells zs) ∧ (∀ z ∈ zs, 0 ≤ z ∧ z ≤ 255) ∧ wr.heap[w.heap.size + 1 + 1 + 1]? = some (.cells #[.int .u64 0, .slice none 0 0, .slice none 0 0, .bool false] 40 (0, 0)) ∧ Src g a bs bc wr i2 ∧ i ≤ i2 ∧ Exc g w.heap.size w wr
set_option maxRecDepth 100000 in
set_option maxHeartbeats 8000000 in
theorem hval_data (r left : Nat) {d fk : Nat} {fr fl : Int} {nm : ByteArray} {sure : Bool} {b g i bc : Nat} {a : Option Addr} {bs : List Int} {ss : List (SRec × Value)} {es : List (SCho × Value)} {sv ev : Value} {root : Int} {w : World}  (hs : Src g a bs bc w i) (hg : ∀ W, Exc g w.heap.size w W → SchRows b W ss es sv ev) :
    Calls Tryz.prog 44 #[.agg #[sv, ev, .int .i64 root], .agg #[.int .u8 12, .int .i64 r, .int .i64 0], .pointer (some ⟨g, 0, none⟩), .int .i64 left, .agg #[.string nm, .int .u8 fk, .int .i64 fr, .int .i64 fl, .int .u64 d], .bool sure] w (ValPost g a bs bc i w ((crow ss).map Prod.fst) (es.map Prod.fst) left 12 r 0 sure) := by
  obtain ⟨h0, h1, h2, h3, h4, h5, h6⟩ := five_blk w #[sv, ev, .int .i64 root] #[.int .u8 12, .int .i64 r, .int .i64 0] #[.string nm, .int .u8 fk, .int .i64 fr, .int .i64 fl, .int .u64 d] #[.int .u64 0, .slice none 0 0, .slice none 0 0, .bool false] #[.int .u64 0, .slice none 0 0, .slice none 0 0, .bool false] 30 47 60 40 40
  have HGL := Lib.hid (blk_lt hs.blk)
  have HS0 := Lib.hid hs
  have HS := Lib.hid (hs.below h0)
  have HG := Lib.hid hg
  have HB := Lib.hid h0
  have Q1 := Lib.hid h1
  have Q2 := Lib.hid h2
  have Q3 := Lib.hid h3
  have Q4 := Lib.hid h4
  have Q5 := Lib.hid h5
  have HSZ := Lib.hid h6
  clear h0 h1 h2 h3 h4 h5 h6 hs hg
  go_enter Tryz.func44, Tryz.ntmps44
  go_upto_region 2 with (fail)
  generalize (((((w.alloc (.cells #[sv, ev, .int .i64 root] 30)).alloc (.cells #[.int .u8 12, .int .i64 r, .int .i64 0] 47)).alloc (.cells #[.string nm, .int .u8 fk, .int .i64 fr, .int .i64 fl, .int .u64 d] 60)).alloc (.cells #[.int .u64 0, .slice none 0 0, .slice none 0 0, .bool false] 40)).alloc (.cells #[.int .u64 0, .slice none 0 0, .slice none 0 0, .bool false] 40)) = W0 at *
  go_wp2_with fail
  refine (next_any g a bs bc i W0 HS.out).mono ?_
  rintro e W1 ⟨c, i1, rfl, hc, hi1, hs1, hx1⟩
  have hgl := HGL.out
  have HS1 := Lib.hid hs1
  have HX1 := Lib.hid ((Exc.of_below HB.out).thenB (Nat.le_refl _) hx1)
  have HB1 := Lib.hid (Nat.le_trans (Nat.le_of_eq HSZ.out) hx1.size)
  have R1 := Lib.hid (blk_exc Q1.out hx1 (blk_lt Q1.out) (by omega))
  have R2 := Lib.hid (blk_exc Q2.out hx1 (blk_lt Q2.out) (by omega))
  have R3 := Lib.hid (blk_exc Q3.out hx1 (blk_lt Q3.out) (by omega))
  have R4 := Lib.hid (blk_exc Q4.out hx1 (blk_lt Q4.out) (by omega))
  have R5 := Lib.hid (blk_exc Q5.out hx1 (blk_lt Q5.out) (by omega))
  clear hs1 hx1 HS Q1 Q2 Q3 Q4 Q5 HSZ HB hgl
  obtain ⟨_, t0, t1, t2, _⟩ := blk3 R2.out
  go_upto_region 29 with (fail)
  go_wp2_with fail
  refine (isnum_any 12 r 0 W1 (by decide)).mono ?_
  rintro e W2 ⟨rfl, hb2⟩
  rw [show isNumP 12 0 = false from rfl]
  have HS2 := Lib.hid (HS1.out.below hb2)
  have HX2 := Lib.hid (HX1.out.bel (Nat.le_refl _) hb2)
  have R22 := Lib.hid (blk_below R2.out hb2 (blk_lt R2.out))
  have R42 := Lib.hid (blk_below R4.out hb2 (blk_lt R4.out))
  have R52 := Lib.hid (blk_below R5.out hb2 (blk_lt R5.out))
  clear hb2 t0 t1 t2 R1 R2 R3 R4 R5 HS1 HX1 HB1
  obtain ⟨_, t0, t1, t2, _⟩ := blk3 R22.out
  obtain ⟨m, hm⟩ : ∃ m : Nat, c % 7 = m := ⟨_, rfl⟩
  have hmod : (c : Int).tmod 7 = m := by rw [Int.tmod_eq_emod_of_nonneg (by omega)]; omega
  have hm7 : m < 7 := by omega
  clear hm
  go_wp2_with fail
  have HST : Hid (DatAt g a bs bc i w m (.int .i64 ((0 : Nat) : Int)) W2) := Lib.hid ⟨0, i1, none, 0, [], Nat.zero_le _, rfl, R52.out, World.ownsRow_nil _ _ _ _, fun z hz => by (cases hz), R42.out, HS2.out, hi1, HX2.out⟩
  clear t0 t1 t2 R22 R42 R52 HS2 HX2
  go_loopw [25] (fun x wr => DatAt g a bs bc i w m x wr) (fun x _ => 7 - (intOf x).toNat)
  case atStart => exact HST.out
  case round =>
    obtain ⟨j, i2, A, cap, zs, hj, rfl, hO, hrow, hz, hR, hs, hi2, hx⟩ := hrel
    have HO := Lib.hid hO
    have HROW := Lib.hid hrow
    have HZ := Lib.hid hz
    have HR := Lib.hid hR
    have HSW := Lib.hid hs
    have HXW := Lib.hid hx
    clear hO hrow hz hR hs hx
    by_cases hjm : j < m
    · have hji : (j : Int) < m := by omega
      go_wp2_with fail
      refine (next_any g a bs bc i2 wr HSW.out).mono ?_
      rintro e W5 ⟨c2, i3, rfl, hc2, hi3, hs5, hx5⟩
      have hgl := HGL.out
      have hcw : IntKind.u8.wrap (c2 : Int) = c2 := u8_in _ (by omega) (by omega)
      have hne : ∀ k, (Value.slice A j cap).ownBlock = some k → k ≠ g := fun k hk => by have := (ownsRow_lt HROW.out k hk).1; omega
      have HS5 := Lib.hid hs5
      have HX5 := Lib.hid (HXW.out.thenB (Nat.le_refl _) hx5)
      have HO5 := Lib.hid (blk_exc HO.out hx5 (blk_lt HO.out) (by omega))
      have HR5 := Lib.hid (blk_exc HR.out hx5 (blk_lt HR.out) (by omega))
      have HROW5 := Lib.hid (hx5.ownsRow HROW.out (fun e => hne g e rfl))
      have HBN := Lib.hid (heap_alloc_new W5 (.cells #[.int .u8 c2] 5))
      have HBA := Lib.hid ((Below.refl W5.heap.size W5).alloc (Nat.le_refl _) (.cells #[.int .u8 c2] 5))
      have hO1 := blk_lt HO5.out
      obtain ⟨_, v0, v1, v2, v3⟩ := blk4p HO5.out
      obtain ⟨i0, hi0, hzz0, hzz1, hzz2⟩ := info_parts u8_info2
      have I1 := Lib.hid hi0
      have I2 := Lib.hid hzz0
      have I3 := Lib.hid hzz1
      have I4 := Lib.hid hzz2
      clear hs5 hx5 hne hi0 hzz0 hzz1 hzz2 HO HR HROW HSW HXW
      go_wp2_with (at_builtin; refine wpList_append_own _ rfl (.tmp 39) (.tmp 42) 22 rfl (w.heap.size + 1 + 1 + 1 + 1 + 1) 5 i0 _ 1 1 Tryz.underlying22 I1.out I2.out I3.out I4.out rfl (by decide) _ j (u8Cells zs) rfl (row_keep HBA.out HROW5.out) _ 1 1 [.int .u8 c2] rfl rfl (World.news_of_block HBN.out) (by intro u hu; rw [List.mem_singleton.1 hu]; rfl) (by unfold maxLen; omega) (by omega) (by simp; omega) ?_; intro v4 W8 hown4 hg4 hx; clear hx; obtain ⟨a4, m4, rfl⟩ := ownsRow_form hown4; obtain ⟨s1, s2, s3, s4, s5⟩ := stepV 1 HX5.out (show w.heap.size ≤ w.heap.size + 1 + 1 + 1 + 1 by omega) HO5.out HROW5.out HBA.out hg4 hown4; obtain ⟨_, d0, d1, d2, d3⟩ := blk4p s4; have e1 := blk_frozen s4 1; have S1 := Lib.hid s1; have S2 := Lib.hid s2; have S3 := Lib.hid s3; have S5 := Lib.hid s5; clear s1 s2 s3 s4 s5 hown4 hg4)
      go_roundw
      case rel =>
        have hgl := HGL.out
        exact ⟨j + 1, i3, a4, m4, zs ++ [(c2 : Int)], by omega, by go_num, S2.out.trans rfl, by rw [u8Cells_snoc]; exact S3.out, fun z hz => by (rcases List.mem_append.1 hz with h | h; exact HZ.out z h; rw [List.mem_singleton.1 h]; omega), (S5.out _ (by omega)).trans HR5.out, HS0.out.at S1.out HS5.out (S5.out g (by omega)), by omega, S1.out⟩
      case measure => simp [intOf]; omega
    · obtain rfl : j = m := by omega
      obtain ⟨_, u0, u1, u2, u3⟩ := blk4p HR.out
      obtain ⟨_, v0, v1, v2, v3⟩ := blk4p HO.out
      have p0 := blk_frozen HR.out 0
      have p1 := blk_frozen HR.out 1
      have p2 := blk_frozen HR.out 2
      have p3 := blk_frozen HR.out 3
      go_wp2
      refine post_gen (fun Wf => Wf.heap[w.heap.size + 1 + 1 + 1]? = some (.cells #[.int .u64 0, .slice A j cap, .slice none 0 0, .bool false] 40 (0, 0)) ∧ Exc g w.heap.size w Wf ∧ Src g a bs bc Wf i2 ∧ Wf.ownsRow (w.heap.size + 1 + 1 + 1 + 1 + 1) 5 1 (.slice A j cap) j (u8Cells zs)) ⟨?_, ?_, ?_, ?_⟩ ?_
      · exact blk_set4 HR.out _ _ _ _
      · exact exc_put4 HXW.out (Nat.le_succ_of_le (Nat.le_succ_of_le (Nat.le_succ _))) _ _ _ _
      · have hgl := HGL.out
        exact HS0.out.at (exc_put4 HXW.out (Nat.le_succ_of_le (Nat.le_succ_of_le (Nat.le_succ _))) _ _ _ _) HSW.out (set4_blk _ (by omega) _ _ _ _)
      · exact own_set4 HROW.out (by omega) _ _ _ _
      · rintro Wf ⟨e1, e2, e3, e4⟩
        obtain ⟨_, d0, d1, d2, d3⟩ := blk4p e1
        exact bodyPost_ret (v := .agg #[.int .u64 0, .slice A j cap, .slice none 0 0, .bool false]) (by simp [results, Tryz.results44, go_sem, d0, d1, d2, d3]) rfl ⟨.mk 0 zs [] false, _, i2, rfl, vh_bytes e4 HZ.out (fun k hk => by unfold newS; simp; omega), ⟨fits_data, sw_bytes (by have := (bytes_own (S := fun _ => false) e4 HZ.out (fun _ _ => rfl)).2; omega)⟩, fun h => absurd h (by decide), by omega, e3, e2⟩
end Go.Proofs.YtiknhkkeifemcaaGreatDoor
namespace Go.Proofs.YtiknhkkeifemcaaGreatDoor
open Go.ChangeShapes Go.WideShapes Go.ChangeAt Go.RowKit Go.Shelf

def pieceL : Nat → List Int
  | 0 => [97] | 1 => [] | 2 => [34] | 3 => [92] | 4 => [10] | 5 => [1] | 6 => [195, 169] | 7 => [226, 130, 172] | 8 => [240, 159, 152, 128] | 9 => [0] | 10 => [47] | _ => [127]
def pieceB : Nat → ByteArray
  | 0 => ⟨#[97]⟩ | 1 => ⟨#[]⟩ | 2 => ⟨#[34]⟩ | 3 => ⟨#[92]⟩ | 4 => ⟨#[10]⟩ | 5 => ⟨#[1]⟩ | 6 => ⟨#[195, 169]⟩ | 7 => ⟨#[226, 130, 172]⟩ | 8 => ⟨#[240, 159, 152, 128]⟩ | 9 => ⟨#[0]⟩ | 10 => ⟨#[47]⟩ | _ => ⟨#[127]⟩
def pieceCs : Array Value := #[.string ⟨#[97]⟩, .string ⟨#[]⟩, .string ⟨#[34]⟩, .string ⟨#[92]⟩, .string ⟨#[10]⟩, .string ⟨#[1]⟩, .string ⟨#[195, 169]⟩, .string ⟨#[226, 130, 172]⟩, .string ⟨#[240, 159, 152, 128]⟩, .string ⟨#[0]⟩, .string ⟨#[47]⟩, .string ⟨#[127]⟩]
theorem twelve {P : Nat → Prop} (h0 : P 0) (h1 : P 1) (h2 : P 2) (h3 : P 3) (h4 : P 4) (h5 : P 5) (h6 : P 6) (h7 : P 7) (h8 : P 8) (h9 : P 9) (h10 : P 10) (h11 : P 11) (k : Nat) (hk : k < 12) : P k := by
  have h : k = 0 ∨ k = 1 ∨ k = 2 ∨ k = 3 ∨ k = 4 ∨ k = 5 ∨ k = 6 ∨ k = 7 ∨ k = 8 ∨ k = 9 ∨ k = 10 ∨ k = 11 := by omega
  rcases h with rfl | rfl | rfl | rfl | rfl | rfl | rfl | rfl | rfl | rfl | rfl | rfl <;> assumption
theorem piece_at (k : Nat) (hk : k < 12) : pieceCs[k]? = some (.string (pieceB k)) := twelve (P := fun k => pieceCs[k]? = some (.string (pieceB k))) rfl rfl rfl rfl rfl rfl rfl rfl rfl rfl rfl rfl k hk
theorem piece_cells (k : Nat) (hk : k < 12) : Lib.strCells (pieceB k) = u8Cells (pieceL k) := twelve (P := fun k => Lib.strCells (pieceB k) = u8Cells (pieceL k)) (by kernel_rfl) (by kernel_rfl) (by kernel_rfl) (by kernel_rfl) (by kernel_rfl) (by kernel_rfl) (by kernel_rfl) (by kernel_rfl) (by kernel_rfl) (by kernel_rfl) (by kernel_rfl) (by kernel_rfl) k hk
theorem piece_size (k : Nat) (hk : k < 12) : (pieceB k).size = (pieceL k).length ∧ (pieceL k).length ≤ 4 := twelve (P := fun k => (pieceB k).size = (pieceL k).length ∧ (pieceL k).length ≤ 4) (by decide) (by decide) (by decide) (by decide) (by decide) (by decide) (by decide) (by decide) (by decide) (by decide) (by decide) (by decide) k hk
theorem piece_range (k : Nat) (hk : k < 12) : ∀ z ∈ pieceL k, 0 ≤ z ∧ z ≤ 255 := twelve (P := fun k => ∀ z ∈ pieceL k, 0 ≤ z ∧ z ≤ 255) (by decide) (by decide) (by decide) (by decide) (by decide) (by decide) (by decide) (by decide) (by decide) (by decide) (by decide) (by decide) k hk
theorem dec_raw (zs : List Int) (h : 0 < zs.length) : dec zs = (((Lib.decodeN zs.length ((bytesOf zs).get! 0).toNat ((bytesOf zs).get! 1).toNat ((bytesOf zs).get! 2).toNat ((bytesOf zs).get! 3).toNat).1 : Int), ((Lib.decodeN zs.length ((bytesOf zs).get! 0).toNat ((bytesOf zs).get! 1).toNat ((bytesOf zs).get! 2).toNat ((bytesOf zs).get! 3).toNat).2 : Int)) := by
  have e : Lib.decodeGo (bytesOf zs) = Utf8.decode (bytesOf zs) 0 := by
    unfold Lib.decodeGo
    rw [if_neg (by rw [bytesOf_size]; omega)]
  unfold dec
  rw [e, Lib.decode_at, bytesOf_size]
  rfl
theorem dec_low (b0 n b1 b2 b3 : Nat) (h : b0 < 128) : Lib.decodeN n b0 b1 b2 b3 = (b0, 1) := by
  unfold Lib.decodeN
  rw [if_pos h]
theorem piece_dec (rest : List Int) (k : Nat) (hk : k < 12) : k ≠ 1 → (dec (pieceL k ++ rest)).1 ≠ 65533 ∧ (dec (pieceL k ++ rest)).2 = (pieceL k).length := by
  have low : ∀ z : Nat, z < 128 → (dec ((z : Int) :: rest)).1 ≠ 65533 ∧ (dec ((z : Int) :: rest)).2 = 1 := fun z hz => by
    have e0 : ((bytesOf ((z : Int) :: rest)).get! 0).toNat = z := by
      show (UInt8.ofNat ((z : Int)).toNat).toNat = z
      rw [Int.toNat_natCast]
      exact Nat.mod_eq_of_lt (by omega)
    rw [dec_raw _ (by simp), e0, dec_low _ _ _ _ _ hz]
    exact ⟨by simp; omega, rfl⟩
  refine twelve (P := fun k => k ≠ 1 → (dec (pieceL k ++ rest)).1 ≠ 65533 ∧ (dec (pieceL k ++ rest)).2 = (pieceL k).length) (fun _ => low 97 (by decide)) (fun h => absurd rfl h) (fun _ => low 34 (by decide)) (fun _ => low 92 (by decide)) (fun _ => low 10 (by decide)) (fun _ => low 1 (by decide)) (fun _ => ?_) (fun _ => ?_) (fun _ => ?_) (fun _ => low 0 (by decide)) (fun _ => low 47 (by decide)) (fun _ => low 127 (by decide)) k hk
  · show (dec (195 :: 169 :: rest)).1 ≠ 65533 ∧ (dec (195 :: 169 :: rest)).2 = 2
    have e : Lib.decodeN (195 :: 169 :: rest).length ((bytesOf (195 :: 169 :: rest)).get! 0).toNat ((bytesOf (195 :: 169 :: rest)).get! 1).toNat ((bytesOf (195 :: 169 :: rest)).get! 2).toNat ((bytesOf (195 :: 169 :: rest)).get! 3).toNat = (233, 2) := by
      show Lib.decodeN (rest.length + 2) 195 169 _ _ = _
      unfold Lib.decodeN
      rw [if_neg (by decide), if_pos ⟨by decide, by omega, by decide⟩, if_pos (by decide)]
    rw [dec_raw _ (by simp), e]
    exact ⟨by decide, rfl⟩
  · show (dec (226 :: 130 :: 172 :: rest)).1 ≠ 65533 ∧ (dec (226 :: 130 :: 172 :: rest)).2 = 3
    have e : Lib.decodeN (226 :: 130 :: 172 :: rest).length ((bytesOf (226 :: 130 :: 172 :: rest)).get! 0).toNat ((bytesOf (226 :: 130 :: 172 :: rest)).get! 1).toNat ((bytesOf (226 :: 130 :: 172 :: rest)).get! 2).toNat ((bytesOf (226 :: 130 :: 172 :: rest)).get! 3).toNat = (8364, 3) := by
      show Lib.decodeN (rest.length + 3) 226 130 172 _ = _
      unfold Lib.decodeN
      rw [if_neg (by decide), if_neg (by omega), if_pos ⟨by decide, ⟨by omega, by decide⟩, by omega, by decide⟩, if_pos (by decide)]
    rw [dec_raw _ (by simp), e]
    exact ⟨by decide, rfl⟩
  · show (dec (240 :: 159 :: 152 :: 128 :: rest)).1 ≠ 65533 ∧ (dec (240 :: 159 :: 152 :: 128 :: rest)).2 = 4
    have e : Lib.decodeN (240 :: 159 :: 152 :: 128 :: rest).length ((bytesOf (240 :: 159 :: 152 :: 128 :: rest)).get! 0).toNat ((bytesOf (240 :: 159 :: 152 :: 128 :: rest)).get! 1).toNat ((bytesOf (240 :: 159 :: 152 :: 128 :: rest)).get! 2).toNat ((bytesOf (240 :: 159 :: 152 :: 128 :: rest)).get! 3).toNat = (128512, 4) := by
      show Lib.decodeN (rest.length + 4) 240 159 152 128 = _
      unfold Lib.decodeN
      rw [if_neg (by decide), if_neg (by omega), if_neg (by omega), if_pos ⟨by decide, ⟨by omega, by decide⟩, ⟨by omega, by decide⟩, by omega, by decide⟩, if_pos (by decide)]
    rw [dec_raw _ (by simp), e]
    exact ⟨by decide, rfl⟩
theorem pieces_good : ∀ (l : List Nat) (pre : List Int), (∀ k ∈ l, k < 12) → u8At (pre ++ l.flatMap pieceL) pre.length = -1
  | [], pre, _ => u8At_end _ _ (by simp)
  | k :: l, pre, h => by
    have hk := h k (List.mem_cons_self ..)
    have ih := pieces_good l (pre ++ pieceL k) (fun q hq => h q (List.mem_cons_of_mem _ hq))
    have e : pre ++ (k :: l).flatMap pieceL = pre ++ pieceL k ++ l.flatMap pieceL := by rw [List.flatMap_cons, List.append_assoc]
    rw [e]
    by_cases h1 : k = 1
    · subst h1
      simpa [pieceL] using ih
    · obtain ⟨d1, d2⟩ := piece_dec (l.flatMap pieceL) k hk h1
      have hd : (pre ++ pieceL k ++ l.flatMap pieceL).drop pre.length = pieceL k ++ l.flatMap pieceL := by rw [List.append_assoc, List.drop_left]
      have hp : 0 < (pieceL k).length := twelve (P := fun k => k ≠ 1 → 0 < (pieceL k).length) (by decide) (fun h => absurd rfl h) (by decide) (by decide) (by decide) (by decide) (by decide) (by decide) (by decide) (by decide) (by decide) (by decide) k hk h1
      rw [u8At_good _ _ (by rw [List.length_append, List.length_append]; omega) (by rw [hd]; exact fun h => d1 h.1), hd, d2, Int.toNat_natCast, ← List.length_append]
      exact ih
theorem texts_good (l : List Nat) (h : ∀ k ∈ l, k < 12) : u8At (l.flatMap pieceL) 0 < 0 := by
  have := pieces_good l [] h
  rw [List.nil_append] at this
  show u8At (l.flatMap pieceL) ([] : List Int).length < 0
  rw [this]
  decide
end Go.Proofs.YtiknhkkeifemcaaGreatDoor
namespace Go.Proofs.YtiknhkkeifemcaaGreatDoor
open Go.ChangeShapes Go.WideShapes Go.ChangeAt Go.RowKit Go.Shelf

theorem u8_info3 : (Tryz.prog.info? 5).map (fun i => (i.zero, i.size, i.bytes)) = some (some (.int .u8 0), 1, 1) := by kernel_rfl
def TxtAt (g : Nat) (a : Option Addr) (bs : List Int) (bc i : Nat) (w : World) (m P : Nat) (x : Value) (wr : World) : Prop := ∃ (j i2 n : Nat) (A : Option Addr) (cap : Nat) (l : List Nat), j ≤ m ∧ x = .int .i64 j ∧ n ≤ 4 * j ∧ wr.heap[w.heap.size + 1 + 1 + 1 + 1]? = some (.cells #[.int .u64 0, .slice A n cap, .slice none 0 0, .bool false] 40 (0, 0)) ∧
  wr.ownsRow (w.heap.size + 1 + 1 + 1 + 1 + 1) 5 1 (.slice A n cap) n (u8Cells (l.flatMap pieceL)) ∧ (∀ k ∈ l, k < 12) ∧ wr.heap[w.heap.size + 1 + 1 + 1]? = some (.cells #[.int .u64 0, .slice none 0 0, .slice none 0 0, .bool false] 40 (0, 0)) ∧ Src g a bs bc wr i2 ∧ i ≤ i2 ∧ Exc g w.heap.size w wr ∧ wr.heap[P]? = some (.cells pieceCs 9 (0, 0))
set_option maxRecDepth 100000 in
set_option maxHeartbeats 8000000 in
theorem hval_text (r left : Nat) {d fk : Nat} {fr fl : Int} {nm : ByteArray} {sure : Bool} {b g i bc : Nat} {a : Option Addr} {bs : List Int} {ss : List (SRec × Value)} {es : List (SCho × Value)} {sv ev : Value} {root : Int} {w : World}  (hs : Src g a bs bc w i) (hg : ∀ W, Exc g w.heap.size w W → SchRows b W ss es sv ev) :
    Calls Tryz.prog 44 #[.agg #[sv, ev, .int .i64 root], .agg #[.int .u8 11, .int .i64 r, .int .i64 0], .pointer (some ⟨g, 0, none⟩), .int .i64 left, .agg #[.string nm, .int .u8 fk, .int .i64 fr, .int .i64 fl, .int .u64 d], .bool sure] w (ValPost g a bs bc i w ((crow ss).map Prod.fst) (es.map Prod.fst) left 11 r 0 sure) := by
  obtain ⟨h0, h1, h2, h3, h4, h5, h6⟩ := five_blk w #[sv, ev, .int .i64 root] #[.int .u8 11, .int .i64 r, .int .i64 0] #[.string nm, .int .u8 fk, .int .i64 fr, .int .i64 fl, .int .u64 d] #[.int .u64 0, .slice none 0 0, .slice none 0 0, .bool false] #[.int .u64 0, .slice none 0 0, .slice none 0 0, .bool false] 30 47 60 40 40
  have HGL := Lib.hid (blk_lt hs.blk)
  have HS0 := Lib.hid hs
  have HS := Lib.hid (hs.below h0)
  have HG := Lib.hid hg
  have HB := Lib.hid h0
  have Q1 := Lib.hid h1
  have Q2 := Lib.hid h2
  have Q3 := Lib.hid h3
  have Q4 := Lib.hid h4
  have Q5 := Lib.hid h5
  have HSZ := Lib.hid h6
  clear h0 h1 h2 h3 h4 h5 h6 hs hg
  go_enter Tryz.func44, Tryz.ntmps44
  go_upto_region 2 with (fail)
  generalize (((((w.alloc (.cells #[sv, ev, .int .i64 root] 30)).alloc (.cells #[.int .u8 11, .int .i64 r, .int .i64 0] 47)).alloc (.cells #[.string nm, .int .u8 fk, .int .i64 fr, .int .i64 fl, .int .u64 d] 60)).alloc (.cells #[.int .u64 0, .slice none 0 0, .slice none 0 0, .bool false] 40)).alloc (.cells #[.int .u64 0, .slice none 0 0, .slice none 0 0, .bool false] 40)) = W0 at *
  go_wp2_with fail
  refine (next_any g a bs bc i W0 HS.out).mono ?_
  rintro e W1 ⟨c, i1, rfl, hc, hi1, hs1, hx1⟩
  have hgl := HGL.out
  have HS1 := Lib.hid hs1
  have HX1 := Lib.hid ((Exc.of_below HB.out).thenB (Nat.le_refl _) hx1)
  have HB1 := Lib.hid (Nat.le_trans (Nat.le_of_eq HSZ.out) hx1.size)
  have R1 := Lib.hid (blk_exc Q1.out hx1 (blk_lt Q1.out) (by omega))
  have R2 := Lib.hid (blk_exc Q2.out hx1 (blk_lt Q2.out) (by omega))
  have R3 := Lib.hid (blk_exc Q3.out hx1 (blk_lt Q3.out) (by omega))
  have R4 := Lib.hid (blk_exc Q4.out hx1 (blk_lt Q4.out) (by omega))
  have R5 := Lib.hid (blk_exc Q5.out hx1 (blk_lt Q5.out) (by omega))
  clear hs1 hx1 HS Q1 Q2 Q3 Q4 Q5 HSZ HB hgl
  obtain ⟨_, t0, t1, t2, _⟩ := blk3 R2.out
  go_upto_region 29 with (fail)
  go_wp2_with fail
  refine (isnum_any 11 r 0 W1 (by decide)).mono ?_
  rintro e W2 ⟨rfl, hb2⟩
  rw [show isNumP 11 0 = false from rfl]
  have HS2 := Lib.hid (HS1.out.below hb2)
  have HX2 := Lib.hid (HX1.out.bel (Nat.le_refl _) hb2)
  have R22 := Lib.hid (blk_below R2.out hb2 (blk_lt R2.out))
  have R42 := Lib.hid (blk_below R4.out hb2 (blk_lt R4.out))
  have R52 := Lib.hid (blk_below R5.out hb2 (blk_lt R5.out))
  clear hb2 t0 t1 t2 R1 R2 R3 R4 R5 HS1 HX1 HB1
  obtain ⟨_, t0, t1, t2, _⟩ := blk3 R22.out
  obtain ⟨m, hm⟩ : ∃ m : Nat, c % 6 = m := ⟨_, rfl⟩
  have hmod : (c : Int).tmod 6 = m := by rw [Int.tmod_eq_emod_of_nonneg (by omega)]; omega
  have hm7 : m < 6 := by omega
  clear hm
  go_upto_region 34 with (fail)
  have hba : Below W2.heap.size W2 (W2.alloc (.cells pieceCs 9)) := (Below.refl _ _).alloc (Nat.le_refl _) _
  have hPG : W2.heap.size ≠ g := by have := blk_lt HS2.out.blk; omega
  have HPO : Hid (w.heap.size + 1 + 1 + 1 + 1 < W2.heap.size) := Lib.hid (blk_lt R52.out)
  have HST : Hid (TxtAt g a bs bc i w m W2.heap.size (.int .i64 ((0 : Nat) : Int)) (W2.alloc (.cells pieceCs 9))) := Lib.hid ⟨0, i1, 0, none, 0, [], Nat.zero_le _, rfl, Nat.zero_le _, blk_alloc R52.out _, World.ownsRow_nil _ _ _ _, fun z hz => by (cases hz), blk_alloc R42.out _, HS2.out.below hba, hi1, HX2.out.bel (Nat.le_refl _) hba, heap_alloc_new W2 _⟩
  clear t0 t1 t2 R22 R42 R52 HS2 HX2 hba
  change Code.wp _ _ _ _ (W2.alloc (.cells pieceCs 9))
  generalize W2.alloc (.cells pieceCs 9) = WS at *
  generalize W2.heap.size = P at *
  go_loopw [23] (fun x wr => TxtAt g a bs bc i w m P x wr) (fun x _ => 7 - (intOf x).toNat)
  case atStart => exact HST.out
  case round =>
    obtain ⟨j, i2, n, A, cap, l, hj, rfl, hn4, hO, hrow, hz, hR, hs, hi2, hx, hP⟩ := hrel
    have HO := Lib.hid hO
    have HROW := Lib.hid hrow
    have HZ := Lib.hid hz
    have HR := Lib.hid hR
    have HSW := Lib.hid hs
    have HXW := Lib.hid hx
    have HP := Lib.hid hP
    clear hO hrow hz hR hs hx hP
    by_cases hjm : j < m
    · have hji : (j : Int) < m := by omega
      go_wp2_with fail
      refine (next_any g a bs bc i2 wr HSW.out).mono ?_
      rintro e W5 ⟨c2, i3, rfl, hc2, hi3, hs5, hx5⟩
      have hgl := HGL.out
      obtain ⟨q, hq⟩ : ∃ q : Nat, c2 % 12 = q := ⟨_, rfl⟩
      have hqm : (c2 : Int).tmod 12 = q := by rw [Int.tmod_eq_emod_of_nonneg (by omega)]; omega
      have hq12 : q < 12 := by omega
      have hqi : (q : Int) < 12 := by omega
      have hq0 : (0 : Int) ≤ (q : Int) := by omega
      clear hq
      have hne : ∀ k, (Value.slice A n cap).ownBlock = some k → k ≠ g := fun k hk => by have := (ownsRow_lt HROW.out k hk).1; omega
      have HS5 := Lib.hid hs5
      have HX5 := Lib.hid (HXW.out.thenB (Nat.le_refl _) hx5)
      have HO5 := Lib.hid (blk_exc HO.out hx5 (blk_lt HO.out) (by omega))
      have HR5 := Lib.hid (blk_exc HR.out hx5 (blk_lt HR.out) (by omega))
      have HP5 := Lib.hid (blk_exc HP.out hx5 (blk_lt HP.out) hPG)
      have HROW5 := Lib.hid (hx5.ownsRow HROW.out (fun e => hne g e rfl))
      have hO1 := blk_lt HO5.out
      obtain ⟨_, v0, v1, v2, v3⟩ := blk4p HO5.out
      have y0 : W5.cell? ⟨P, q, none⟩ = some (.string (pieceB q)) := (blk_cell HP5.out q).trans (piece_at q hq12)
      have ps4 : (pieceB q).size ≤ 4 := by have := piece_size q hq12; omega
      obtain ⟨i0, hi0, hzz0, hzz1, hzz2⟩ := info_parts u8_info3
      obtain ⟨v4, W8, hrun, hown4, hg4, _⟩ := Lib.run_append_own_string (P := Tryz.prog) (w := W5.drew) (w.heap.size + 1 + 1 + 1 + 1 + 1) 22 9 22 5 i0 Tryz.underlying22 Tryz.underlying9 hi0 hzz0 hzz1 hzz2 (.slice A n cap) n (u8Cells (l.flatMap pieceL)) (row_keep (Below.refl _ _).drew HROW5.out) (pieceB q) (by unfold maxLen; omega) (by omega) (by show _ ≤ W5.heap.size; omega)
      obtain ⟨a4, m4, rfl⟩ := ownsRow_form hown4
      obtain ⟨s1, s2, s3, s4, s5⟩ := stepV 1 HX5.out (show w.heap.size ≤ w.heap.size + 1 + 1 + 1 + 1 by omega) HO5.out HROW5.out (Below.refl W5.heap.size W5).drew hg4 hown4
      have hP8 : W8.heap[P]? = some (.cells pieceCs 9 (0, 0)) := (hg4.block P (blk_lt HP5.out) (fun h => row_other HROW5.out HP5.out (by decide) h.symm)).trans HP5.out
      obtain ⟨_, d0, d1, d2, d3⟩ := blk4p s4
      have e1 := blk_frozen s4 1
      have S1 := Lib.hid s1
      have S2 := Lib.hid s2
      have S3 := Lib.hid s3
      have S5 := Lib.hid s5
      have HP8 := Lib.hid hP8
      clear s1 s2 s3 s4 s5 hown4 hg4 hP8 hs5 hx5 hne hi0 hzz0 hzz1 hzz2 HO HR HROW HSW HXW HP
      go_wp2
      go_region_law (first | (refine step_append_run _ rfl (.tmp 186) (.tmp 193) 22 9 rfl (.slice A n cap) (.string (pieceB q)) (.slice a4 (n + (pieceB q).size) m4) W8 rfl rfl hrun ?_))
      all_goals
        go_wp2
        go_roundw
        case rel =>
          have hgl := HGL.out
          have hlen : (u8Cells (l.flatMap pieceL)) ++ Lib.strCells (pieceB q) = u8Cells ((l ++ [q]).flatMap pieceL) := by rw [piece_cells q hq12, List.flatMap_append]; simp [u8Cells]
          exact ⟨j + 1, i3, n + (pieceB q).size, a4, m4, l ++ [q], by omega, by go_num, by omega, S2.out.trans rfl, by rw [← hlen]; exact S3.out, fun z hz => by (rcases List.mem_append.1 hz with h | h; exact HZ.out z h; rw [List.mem_singleton.1 h]; exact hq12), (S5.out _ (by omega)).trans HR5.out, HS0.out.at S1.out HS5.out (S5.out g (by omega)), by omega, S1.out, (Below.heap_setCell _ _ _ _ (by have := HPO.out; show P ≠ w.heap.size + 1 + 1 + 1 + 1; omega)).trans HP8.out⟩
        case measure => simp [intOf]; omega
    · obtain rfl : j = m := by omega
      obtain ⟨_, u0, u1, u2, u3⟩ := blk4p HR.out
      obtain ⟨_, v0, v1, v2, v3⟩ := blk4p HO.out
      have p0 := blk_frozen HR.out 0
      have p1 := blk_frozen HR.out 1
      have p2 := blk_frozen HR.out 2
      have p3 := blk_frozen HR.out 3
      go_wp2
      refine post_gen (fun Wf => Wf.heap[w.heap.size + 1 + 1 + 1]? = some (.cells #[.int .u64 0, .slice A n cap, .slice none 0 0, .bool false] 40 (0, 0)) ∧ Exc g w.heap.size w Wf ∧ Src g a bs bc Wf i2 ∧ Wf.ownsRow (w.heap.size + 1 + 1 + 1 + 1 + 1) 5 1 (.slice A n cap) n (u8Cells (l.flatMap pieceL))) ⟨?_, ?_, ?_, ?_⟩ ?_
      · exact blk_set4 HR.out _ _ _ _
      · exact exc_put4 HXW.out (Nat.le_succ_of_le (Nat.le_succ_of_le (Nat.le_succ _))) _ _ _ _
      · have hgl := HGL.out
        exact HS0.out.at (exc_put4 HXW.out (Nat.le_succ_of_le (Nat.le_succ_of_le (Nat.le_succ _))) _ _ _ _) HSW.out (set4_blk _ (by omega) _ _ _ _)
      · exact own_set4 HROW.out (by omega) _ _ _ _
      · rintro Wf ⟨e1, e2, e3, e4⟩
        obtain ⟨_, d0, d1, d2, d3⟩ := blk4p e1
        exact bodyPost_ret (v := .agg #[.int .u64 0, .slice A n cap, .slice none 0 0, .bool false]) (by simp [results, Tryz.results44, go_sem, d0, d1, d2, d3]) rfl ⟨.mk 0 (l.flatMap pieceL) [] false, _, i2, rfl, vh_bytes e4 (fun z hz => by obtain ⟨k, hk, hzk⟩ := List.mem_flatMap.1 hz; exact piece_range k (HZ.out k hk) z hzk) (fun k hk => by unfold newS; simp; omega), ⟨fits_text (texts_good l HZ.out), sw_bytes (by have := (bytes_own (S := fun _ => false) e4 (fun z hz => by obtain ⟨k, hk, hzk⟩ := List.mem_flatMap.1 hz; exact piece_range k (HZ.out k hk) z hzk) (fun _ _ => rfl)).2; omega)⟩, fun h => absurd h (by decide), by omega, e3, e2⟩
end Go.Proofs.YtiknhkkeifemcaaGreatDoor
