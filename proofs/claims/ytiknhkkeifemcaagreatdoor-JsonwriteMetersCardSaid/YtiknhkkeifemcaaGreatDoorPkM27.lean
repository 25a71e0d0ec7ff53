/-
  The hand's value: of a struct's type. Conditions: those that each theorem names.
-/
import Derived.Test.YtiknhkkeifemcaaGreatDoorPkM24
import Derived.BigQuiet
import Derived.Deep.RegionHeld3
namespace Go.Proofs.YtiknhkkeifemcaaGreatDoor
open Go.ChangeShapes Go.WideShapes Go.ChangeAt Go.RowKit Go.Shelf

theorem val_info2 : (Tryz.prog.info? 40).map (fun i => (i.zero, i.size, i.bytes)) = some (some (.agg #[.int .u64 0, .slice none 0 0, .slice none 0 0, .bool false]), 4, 64) := by kernel_rfl
def StAt (g : Nat) (a : Option Addr) (bs : List Int) (bc i i1 : Nat) (w : World) (SS : List CRec) (ES : List SCho) (room : Nat) (xs : List SFld) (E : Nat) (sv ev : Value) (root : Int) (rn : ByteArray) (fa : Option Addr) (fc : Nat) (x : Value) (wr : World) : Prop := ∃ (j i2 : Nat) (A : Option Addr) (cap : Nat) (l : List KV), j ≤ xs.length ∧ x = .int .i64 j ∧ wr.heap[w.heap.size + 1 + 1 + 1 + 1]? = some (.cells #[.int .u64 0, .slice none 0 0, .slice A j cap, .bool true] 40 (0, 0)) ∧
  wr.ownsRow (w.heap.size + 1 + 1 + 1 + 1 + 1) 40 4 (.slice A j cap) j (kvsCells l) ∧ KidsIn (rowS (w.heap.size + 1 + 1 + 1 + 1 + 1) (.slice A j cap)) wr l ∧ (KidsFit SS ES room xs l ∧ KidsSW i1 i2 l) ∧ wr.heap[w.heap.size + 1 + 1 + 1]? = some (.cells #[.int .u64 0, .slice none 0 0, .slice none 0 0, .bool false] 40 (0, 0)) ∧
  wr.heap[w.heap.size]? = some (.cells #[sv, ev, .int .i64 root] 30 (0, 0)) ∧ wr.heap[E]? = some (.cells #[.string rn, .slice fa xs.length fc] 63 (0, 0)) ∧ Src g a bs bc wr i2 ∧ i ≤ i2 ∧ Exc g w.heap.size w wr
theorem fits_gone {ss : List CRec} {es : List SCho} {left r : Nat} : fitsP ss es left 13 r 0 nilV = true := by
  rw [fitsP_eq, show sortP 13 0 = 4 from rfl]
  rfl
set_option maxRecDepth 100000 in
set_option maxHeartbeats 8000000 in
theorem hval_struct (r left : Nat) {d fk : Nat} {fr fl : Int} {nm : ByteArray} {sure : Bool} {b g i bc : Nat} {a : Option Addr} {bs : List Int} {ss : List (SRec × Value)} {es : List (SCho × Value)} {sv ev : Value} {root : Int} {w : World} (hr : r < ss.length) (hm : SchM ss (es.map Prod.fst)) (hnx : ∀ l, left = l + 1 → ValAt l) (hl12 : left ≤ 12) (hs : Src g a bs bc w i) (hg : ∀ W, Exc g w.heap.size w W → SchRows b W ss es sv ev) :
    Calls Tryz.prog 44 #[.agg #[sv, ev, .int .i64 root], .agg #[.int .u8 13, .int .i64 r, .int .i64 0], .pointer (some ⟨g, 0, none⟩), .int .i64 left, .agg #[.string nm, .int .u8 fk, .int .i64 fr, .int .i64 fl, .int .u64 d], .bool sure] w (ValPost g a bs bc i w ((crow ss).map Prod.fst) (es.map Prod.fst) left 13 r 0 sure) := by
  obtain ⟨sa, sc, ea, ec, rfl, rfl⟩ := (hg w (Exc.refl _ _ _)).forms
  have HRL := Lib.hid hr
  have HM := Lib.hid hm
  have HNX := Lib.hid hnx
  clear hm hnx
  obtain ⟨h0, h1, h2, h3, h4, h5, h6⟩ := five_blk w #[.slice sa ss.length sc, .slice ea es.length ec, .int .i64 root] #[.int .u8 13, .int .i64 r, .int .i64 0] #[.string nm, .int .u8 fk, .int .i64 fr, .int .i64 fl, .int .u64 d] #[.int .u64 0, .slice none 0 0, .slice none 0 0, .bool false] #[.int .u64 0, .slice none 0 0, .slice none 0 0, .bool false] 30 47 60 40 40
  have HGL := Lib.hid (blk_lt hs.blk)
  have HS0 := Lib.hid hs
  have HS := Lib.hid (hs.below h0)
  have HG := Lib.hid hg
  have HB := Lib.hid h0
  have Q1 := Lib.hid h1
  have Q2 := Lib.hid h2
  have Q3 := Lib.hid h3
  have Q4 := Lib.hid h4
  have Q5 := Lib.hid h5
  have HSZ := Lib.hid h6
  clear h0 h1 h2 h3 h4 h5 h6 hs hg
  go_enter Tryz.func44, Tryz.ntmps44
  go_upto_region 2 with (fail)
  generalize (((((w.alloc (.cells #[.slice sa ss.length sc, .slice ea es.length ec, .int .i64 root] 30)).alloc (.cells #[.int .u8 13, .int .i64 r, .int .i64 0] 47)).alloc (.cells #[.string nm, .int .u8 fk, .int .i64 fr, .int .i64 fl, .int .u64 d] 60)).alloc (.cells #[.int .u64 0, .slice none 0 0, .slice none 0 0, .bool false] 40)).alloc (.cells #[.int .u64 0, .slice none 0 0, .slice none 0 0, .bool false] 40)) = W0 at *
  go_wp2_with fail
  refine (next_more g a bs bc i W0 HS.out).mono ?_
  rintro e W1 ⟨c, i1, rfl, hc, hi1, hs1, hx1, HMORE⟩
  have hgl := HGL.out
  have HS1 := Lib.hid hs1
  have HX1 := Lib.hid ((Exc.of_below HB.out).thenB (Nat.le_refl _) hx1)
  have HB1 := Lib.hid (Nat.le_trans (Nat.le_of_eq HSZ.out) hx1.size)
  have R1 := Lib.hid (blk_exc Q1.out hx1 (blk_lt Q1.out) (by omega))
  have R2 := Lib.hid (blk_exc Q2.out hx1 (blk_lt Q2.out) (by omega))
  have R3 := Lib.hid (blk_exc Q3.out hx1 (blk_lt Q3.out) (by omega))
  have R4 := Lib.hid (blk_exc Q4.out hx1 (blk_lt Q4.out) (by omega))
  have R5 := Lib.hid (blk_exc Q5.out hx1 (blk_lt Q5.out) (by omega))
  clear hs1 hx1 HS Q1 Q2 Q3 Q4 Q5 HSZ HB hgl
  obtain ⟨_, s0, s1, s2, _⟩ := blk3 R1.out
  obtain ⟨_, t0, t1, t2, _⟩ := blk3 R2.out
  obtain ⟨_, v0, v1, v2, v3⟩ := blk4p R5.out
  obtain ⟨_, u0, u1, u2, u3⟩ := blk4p R4.out
  obtain ⟨_, x0, x1, _⟩ := blk2 HS1.out.blk
  have p0 := blk_frozen R4.out 0
  have p1 := blk_frozen R4.out 1
  have p2 := blk_frozen R4.out 2
  have p3 := blk_frozen R4.out 3
  go_upto_region 20 with (fail)
  by_cases hleft : left < 1
  · have hli : (left : Int) < 1 := by omega
    go_quiet (fail)
    go_wp2
    refine post_gen (fun Wf => Wf.heap[w.heap.size + 1 + 1 + 1]? = some (.cells #[.int .u64 0, .slice none 0 0, .slice none 0 0, .bool false] 40 (0, 0)) ∧ Exc g w.heap.size w Wf ∧ Src g a bs bc Wf i1) ⟨?_, ?_, ?_⟩ ?_
    · exact blk_set4 (w := W1.drewN nq) R4.out _ _ _ _
    · exact exc_put4 (exc_dN HX1.out nq) (Nat.le_succ_of_le (Nat.le_succ_of_le (Nat.le_succ _))) _ _ _ _
    · have hgl := HGL.out
      exact HS0.out.at (exc_put4 (exc_dN HX1.out nq) (Nat.le_succ_of_le (Nat.le_succ_of_le (Nat.le_succ _))) _ _ _ _) (HS1.out.dN nq) (set4_blk _ (by omega) _ _ _ _)
    · rintro Wf ⟨e1, e2, e3⟩
      obtain ⟨_, d0, d1, d2, d3⟩ := blk4p e1
      exact bodyPost_ret (v := .agg #[.int .u64 0, .slice none 0 0, .slice none 0 0, .bool false]) (by simp [results, Tryz.results44, go_sem, d0, d1, d2, d3]) rfl ⟨nilV, _, i1, rfl, vh_nil _ _, ⟨fits_gone, sw_nil⟩, fun _ _ _ h => absurd h (by omega), by omega, e3, e2⟩
  have hli : ¬ (left : Int) < 1 := by omega
  by_cases hno : sure = false ∧ c % 3 = 0
  · obtain ⟨rfl, hc3⟩ := hno
    have hmod : (c : Int).tmod 3 = 0 := by rw [Int.tmod_eq_emod_of_nonneg (by omega)]; omega
    go_quiet (fail)
    go_wp2
    refine post_gen (fun Wf => Wf.heap[w.heap.size + 1 + 1 + 1]? = some (.cells #[.int .u64 0, .slice none 0 0, .slice none 0 0, .bool false] 40 (0, 0)) ∧ Exc g w.heap.size w Wf ∧ Src g a bs bc Wf i1) ⟨?_, ?_, ?_⟩ ?_
    · exact blk_set4 (w := W1.drewN nq) R4.out _ _ _ _
    · exact exc_put4 (exc_dN HX1.out nq) (Nat.le_succ_of_le (Nat.le_succ_of_le (Nat.le_succ _))) _ _ _ _
    · have hgl := HGL.out
      exact HS0.out.at (exc_put4 (exc_dN HX1.out nq) (Nat.le_succ_of_le (Nat.le_succ_of_le (Nat.le_succ _))) _ _ _ _) (HS1.out.dN nq) (set4_blk _ (by omega) _ _ _ _)
    · rintro Wf ⟨e1, e2, e3⟩
      obtain ⟨_, d0, d1, d2, d3⟩ := blk4p e1
      exact bodyPost_ret (v := .agg #[.int .u64 0, .slice none 0 0, .slice none 0 0, .bool false]) (by simp [results, Tryz.results44, go_sem, d0, d1, d2, d3]) rfl ⟨nilV, _, i1, rfl, vh_nil _ _, ⟨fits_gone, sw_nil⟩, fun _ _ h => absurd h (by decide), by omega, e3, e2⟩
  by_cases hno2 : sure = false ∧ bs.length ≤ i1
  · obtain ⟨rfl, hbi⟩ := hno2
    have hbI : (bs.length : Int) ≤ i1 := by omega
    obtain ⟨m3, hm3⟩ : ∃ m3 : Nat, c % 3 = m3 := ⟨_, rfl⟩
    have hmod : (c : Int).tmod 3 = m3 := by rw [Int.tmod_eq_emod_of_nonneg (by omega)]; omega
    have hm0 : ((m3 : Int) == 0) = false := by have : m3 ≠ 0 := fun h => hno ⟨rfl, by omega⟩; simp; omega
    clear hno hm3
    go_quiet (fail)
    go_wp2
    refine post_gen (fun Wf => Wf.heap[w.heap.size + 1 + 1 + 1]? = some (.cells #[.int .u64 0, .slice none 0 0, .slice none 0 0, .bool false] 40 (0, 0)) ∧ Exc g w.heap.size w Wf ∧ Src g a bs bc Wf i1) ⟨?_, ?_, ?_⟩ ?_
    · exact blk_set4 (w := W1.drewN nq) R4.out _ _ _ _
    · exact exc_put4 (exc_dN HX1.out nq) (Nat.le_succ_of_le (Nat.le_succ_of_le (Nat.le_succ _))) _ _ _ _
    · have hgl := HGL.out
      exact HS0.out.at (exc_put4 (exc_dN HX1.out nq) (Nat.le_succ_of_le (Nat.le_succ_of_le (Nat.le_succ _))) _ _ _ _) (HS1.out.dN nq) (set4_blk _ (by omega) _ _ _ _)
    · rintro Wf ⟨e1, e2, e3⟩
      obtain ⟨_, d0, d1, d2, d3⟩ := blk4p e1
      exact bodyPost_ret (v := .agg #[.int .u64 0, .slice none 0 0, .slice none 0 0, .bool false]) (by simp [results, Tryz.results44, go_sem, d0, d1, d2, d3]) rfl ⟨nilV, _, i1, rfl, vh_nil _ _, ⟨fits_gone, sw_nil⟩, fun _ _ h => absurd h (by decide), by omega, e3, e2⟩
  have hgo : Hid (sure = true ∨ (sure = false ∧ ¬ c % 3 = 0 ∧ ¬ bs.length ≤ i1)) := Lib.hid (by
    cases sure with
    | true => exact .inl rfl
    | false => exact .inr ⟨rfl, fun h => hno ⟨rfl, h⟩, fun h => hno2 ⟨rfl, h⟩⟩)
  have HGO : Hid (sure = true ∨ i1 < bs.length) := Lib.hid (by
    rcases hgo.out with h | ⟨_, _, h⟩
    · exact .inl h
    · exact .inr (by omega))
  clear hno hno2
  have q3 := blk_frozen R5.out 3
  rcases hgo.out with rfl | ⟨rfl, hc3, hbi⟩
  rotate_left 1
  obtain ⟨m3, hm3⟩ : ∃ m3 : Nat, c % 3 = m3 := ⟨_, rfl⟩
  have hmod : (c : Int).tmod 3 = m3 := by rw [Int.tmod_eq_emod_of_nonneg (by omega)]; omega
  have hm0 : ((m3 : Int) == 0) = false := by simp; omega
  have hbI : ¬ (bs.length : Int) ≤ i1 := by omega
  clear hm3 hc3 hbi
  all_goals go_quiet (fail)
  all_goals go_upto_region 23 with (fail)
  all_goals
    have hgl := HGL.out
    have hx2 := (exc_dN HX1.out nq).setCell (p := ⟨w.heap.size + 1 + 1 + 1 + 1, 3, none⟩) (.inr (by show w.heap.size ≤ w.heap.size + 1 + 1 + 1 + 1; omega)) (.bool true)
    have hs2 := HS0.out.at hx2 (HS1.out.dN nq) (Below.heap_setCell _ _ _ _ (by show g ≠ w.heap.size + 1 + 1 + 1 + 1; omega))
    have hr1 := blk_set_ne (w := W1.drewN nq) R1.out (p := ⟨w.heap.size + 1 + 1 + 1 + 1, 3, none⟩) (by show w.heap.size + 1 + 1 + 1 + 1 ≠ w.heap.size; omega) (.bool true)
    have hr2 := blk_set_ne (w := W1.drewN nq) R2.out (p := ⟨w.heap.size + 1 + 1 + 1 + 1, 3, none⟩) (by show w.heap.size + 1 + 1 + 1 + 1 ≠ w.heap.size + 1; omega) (.bool true)
    have hr4 := blk_set_ne (w := W1.drewN nq) R4.out (p := ⟨w.heap.size + 1 + 1 + 1 + 1, 3, none⟩) (by show w.heap.size + 1 + 1 + 1 + 1 ≠ w.heap.size + 1 + 1 + 1; omega) (.bool true)
    have hr5 : ((W1.drewN nq).setCell ⟨w.heap.size + 1 + 1 + 1 + 1, 3, none⟩ (.bool true)).heap[w.heap.size + 1 + 1 + 1 + 1]? = some (.cells #[.int .u64 0, .slice none 0 0, .slice none 0 0, .bool true] 40 (0, 0)) := (blk_set (w := W1.drewN nq) R5.out 3 (.bool true)).trans rfl
    generalize (W1.drewN nq).setCell ⟨w.heap.size + 1 + 1 + 1 + 1, 3, none⟩ (.bool true) = W2 at *
    have hsr := HG.out W2 hx2
    obtain ⟨gS, cS, hv, hcc, hgS, hcell⟩ := row_el srecCells 2 (fun _ => rfl) hsr.structs r hr
    obtain ⟨rfl, rfl⟩ := slice_inj hv
    have y0 : W2.cell? ⟨gS, r * 2, none⟩ = some (.string ss[r].1.name) := hcell 0 (by omega)
    have y1' : W2.cell? ⟨gS, r * 2 + 1, none⟩ = some ss[r].2 := hcell 1 (by omega)
    have HF := Lib.hid (fun W (hW : Exc g w.heap.size w W) => (HG.out W hW).fields _ (List.getElem_mem hr))
    obtain ⟨fa, fc, hf⟩ := ownsRow_form (HF.out W2 hx2)
    have HMF := Lib.hid (HM.out.2 _ (List.getElem_mem hr))
    obtain ⟨rm, hrm⟩ : ∃ rm, left = rm + 1 := ⟨left - 1, by omega⟩
    have HEND : Hid (∀ l : List KV, l.length = ss[r].1.fields.length → KidsFit ((crow ss).map Prod.fst) (es.map Prod.fst) rm ss[r].1.fields l → fitsP ((crow ss).map Prod.fst) (es.map Prod.fst) left 13 r 0 (.mk 0 [] (l.map KV.v) true) = true) := Lib.hid (fun l h1 h2 => by rw [hrm]; exact fits_struct hr h1 h2)
    have y1 : W2.cell? ⟨gS, r * 2 + 1, none⟩ = some (.slice fa ss[r].1.fields.length fc) := y1'.trans (congrArg some hf)
    rw [hf] at HF
    clear y1'
    generalize ss[r].1.fields = xs at *
    generalize ss[r].1.name = rn at *
    have hrw : (left : Int) - 1 = (rm : Int) := by omega
    have hrw2 : IntKind.i64.wrap (rm : Int) = rm := IntWalk.i64_in _ (by omega)
    have hrI : (r : Int) < ss.length := by omega
    have hrI0 : (0 : Int) ≤ (r : Int) := by omega
    have HMA := HM
    have HNXR := Lib.hid (HNX.out rm hrm)
    have HX2 := Lib.hid hx2
    have HS2 := Lib.hid hs2
    have A1 := Lib.hid hr1
    have A4 := Lib.hid hr4
    have A5 := Lib.hid hr5
    obtain ⟨_, t0, t1, t2, _⟩ := blk3 hr2
    obtain ⟨_, s0, s1, s2, _⟩ := blk3 hr1
    clear hf hrm hx2 hs2 hr1 hr2 hr4 hr5 hsr hcell hv hr HNX R1 R2 R3 R4 R5 HS1 HX1 HB1 u0 u1 u2 u3 p0 p1 p2 p3 q3 v0 v1 v2 v3 x0 x1
    go_upto_region 24 with (fail)
    have hba := (Below.refl W2.heap.size W2).alloc (Nat.le_refl _) (.cells #[.string rn, .slice fa xs.length fc] 63)
    have HE := Lib.hid (heap_alloc_new W2 (.cells #[.string rn, .slice fa xs.length fc] 63))
    have hEO : w.heap.size + 1 + 1 + 1 + 1 < W2.heap.size := blk_lt A5.out
    have HEO := Lib.hid hEO
    have HST : Hid (StAt g a bs bc i i1 w ((crow ss).map Prod.fst) (es.map Prod.fst) rm xs W2.heap.size (.slice (some ⟨gS, 0, none⟩) ss.length sc) (.slice ea es.length ec) root rn fa fc (.int .i64 ((0 : Nat) : Int)) (W2.alloc (.cells #[.string rn, .slice fa xs.length fc] 63))) := Lib.hid ⟨0, i1, none, 0, [], Nat.zero_le _, rfl, blk_alloc A5.out _, World.ownsRow_nil _ _ _ _, fun q hq => by (cases hq), ⟨fun i hi hk => absurd hk (Nat.not_lt_zero i), KidsSW.nil i1⟩, blk_alloc A4.out _, blk_alloc A1.out _, HE.out, HS2.out.below hba, hi1, HX2.out.bel (Nat.le_refl _) hba⟩
    generalize W2.alloc (.cells #[.string rn, .slice fa xs.length fc] 63) = WS at *
    clear hba HE A1 A4 A5 HS2 HX2 s0 s1 s2 t0 t1 t2 y0 y1
    generalize W2.heap.size = E at *
    go_wp2_with fail
    go_loopw [20] (fun x wr => StAt g a bs bc i i1 w ((crow ss).map Prod.fst) (es.map Prod.fst) rm xs E (.slice (some ⟨gS, 0, none⟩) ss.length sc) (.slice ea es.length ec) root rn fa fc x wr) (fun x _ => xs.length - (intOf x).toNat)
    case atStart => exact HST.out
    case round =>
      obtain ⟨j, i2, A, cap, l, hj, rfl, hO, hrow, hkin, hkf, hR, hSB, hRB, hs, hi2, hx⟩ := hrel
      have HO := Lib.hid hO
      have HROW := Lib.hid hrow
      have HKI := Lib.hid hkin
      have HKF := Lib.hid hkf
      have HR := Lib.hid hR
      have HSB := Lib.hid hSB
      have HRB := Lib.hid hRB
      have HSW := Lib.hid hs
      have HXW := Lib.hid hx
      obtain ⟨_, s0, s1, s2, _⟩ := blk3 hSB
      obtain ⟨_, r0, r1, _⟩ := blk2 hRB
      clear hO hrow hkin hkf hR hSB hRB hs hx r0
      have HJJ : Hid (j ≤ 16) := Lib.hid (by have := HMF.out.1; omega)
      by_cases hjl : j < xs.length
      · have hji : (j : Int) < xs.length := by omega
        have hji0 : (0 : Int) ≤ (j : Int) := by omega
        obtain ⟨g', cc', hv, hcc', hgl', hcell⟩ := row_el sfldCells 5 (fun _ => rfl) (HF.out wr HXW.out) j hjl
        obtain ⟨rfl, rfl⟩ := slice_inj hv
        have hMF := HMF.out.2 _ (List.getElem_mem hjl)
        have HSN := Lib.hid (fun (q : KV) (hq : fitsP ((crow ss).map Prod.fst) (es.map Prod.fst) rm xs[j].kind xs[j].ref xs[j].lists q.v = true) => HKF.out.1.snoc (kv_len HROW.out) hjl hq)
        obtain ⟨f, hf⟩ : ∃ f, xs[j] = f := ⟨_, rfl⟩
        rw [hf] at hcell hMF HSN
        have HMJ := Lib.hid hMF
        have z0 : wr.cell? ⟨g', j * 5, none⟩ = some (.string f.name) := hcell 0 (by omega)
        have z1 : wr.cell? ⟨g', j * 5 + 1, none⟩ = some (.int .u8 f.kind) := hcell 1 (by omega)
        have z2 : wr.cell? ⟨g', j * 5 + 2, none⟩ = some (.int .i64 f.ref) := hcell 2 (by omega)
        have z3 : wr.cell? ⟨g', j * 5 + 3, none⟩ = some (.int .i64 f.lists) := hcell 3 (by omega)
        have z4 : wr.cell? ⟨g', j * 5 + 4, none⟩ = some (.int .u64 f.dflt) := hcell 4 (by omega)
        clear hcell hf hv hMF
        have hrowF := HF.out wr HXW.out
        have hgl := HGL.out
        have hg3 : g' ≠ g := fun h => row_other hrowF HSW.out.blk (by decide) (by rw [h]; rfl)
        have hg1 : w.heap.size ≠ g := by omega
        have hg2 : E ≠ g := by omega
        have hwO : w.heap.size + 1 + 1 + 1 + 1 < wr.heap.size := blk_lt HO.out
        have hgw : wr.heap.size ≠ g := by omega
        have hw1 : w.heap.size ≠ wr.heap.size := by omega
        have hw2 : E ≠ wr.heap.size := by have := blk_lt HRB.out; omega
        have hw3 : g' ≠ wr.heap.size := by omega
        have nw0 := World.new_ne wr _ s0
        have nw1 := World.new_ne wr _ r1
        have nw2 := World.new_ne wr _ z0
        have HCC := Lib.hid (show ∀ W3, Exc g wr.heap.size wr W3 → W3.cell? ⟨w.heap.size, 0, none⟩ = some (.slice (some ⟨gS, 0, none⟩) ss.length sc) ∧ W3.cell? ⟨w.heap.size, 1, none⟩ = some (.slice ea es.length ec) ∧ W3.cell? ⟨w.heap.size, 2, none⟩ = some (.int .i64 root) ∧ W3.cell? ⟨E, 1, none⟩ = some (.slice (some ⟨g', 0, none⟩) xs.length fc) ∧ W3.cell? ⟨g', j * 5, none⟩ = some (.string f.name) ∧ W3.cell? ⟨g', j * 5 + 1, none⟩ = some (.int .u8 f.kind) ∧ W3.cell? ⟨g', j * 5 + 2, none⟩ = some (.int .i64 f.ref) ∧ W3.cell? ⟨g', j * 5 + 3, none⟩ = some (.int .i64 f.lists) ∧ W3.cell? ⟨g', j * 5 + 4, none⟩ = some (.int .u64 f.dflt) from fun W3 hb3 => ⟨(hb3.cell (p := ⟨w.heap.size, 0, none⟩) (World.block_lt_of_cell? _ _ s0) hg1).trans s0, (hb3.cell (p := ⟨w.heap.size, 1, none⟩) (World.block_lt_of_cell? _ _ s1) hg1).trans s1, (hb3.cell (p := ⟨w.heap.size, 2, none⟩) (World.block_lt_of_cell? _ _ s2) hg1).trans s2, (hb3.cell (p := ⟨E, 1, none⟩) (World.block_lt_of_cell? _ _ r1) hg2).trans r1, (hb3.cell (p := ⟨g', j * 5, none⟩) (World.block_lt_of_cell? _ _ z0) hg3).trans z0, (hb3.cell (p := ⟨g', j * 5 + 1, none⟩) (World.block_lt_of_cell? _ _ z1) hg3).trans z1, (hb3.cell (p := ⟨g', j * 5 + 2, none⟩) (World.block_lt_of_cell? _ _ z2) hg3).trans z2, (hb3.cell (p := ⟨g', j * 5 + 3, none⟩) (World.block_lt_of_cell? _ _ z3) hg3).trans z3, (hb3.cell (p := ⟨g', j * 5 + 4, none⟩) (World.block_lt_of_cell? _ _ z4) hg3).trans z4⟩)
        have HV := Lib.hid (fun (W : World) (hb : Below wr.heap.size wr W) => HNXR.out f.kind f.ref f.lists f.dflt f.kind f.ref f.lists f.name false b g i2 bc a bs ss es (.slice (some ⟨gS, 0, none⟩) ss.length sc) (.slice ea es.length ec) root W HMJ.out.1 HMA.out (HSW.out.below hb) (fun W' hW' => HG.out W' (HXW.out.thenB (Nat.le_refl _) ((Exc.of_below hb).thenB (Nat.le_refl _) hW'))) HMJ.out.2.1 (fun h1 h2 => HMJ.out.2.2 h1 h2))
        clear hrowF hgl hwO hg1 hg2 hg3
        go_upto_region 27 with (fail)
        go_region_held3 (fun w' => w'.cell? ⟨w.heap.size, 0, none⟩ = some (.slice (some ⟨gS, 0, none⟩) ss.length sc) ∧ w'.cell? ⟨w.heap.size, 1, none⟩ = some (.slice ea es.length ec) ∧ w'.cell? ⟨w.heap.size, 2, none⟩ = some (.int .i64 root) ∧ w'.cell? ⟨E, 1, none⟩ = some (.slice (some ⟨g', 0, none⟩) xs.length fc) ∧ w'.cell? ⟨g', j * 5, none⟩ = some (.string f.name) ∧ w'.cell? ⟨g', j * 5 + 1, none⟩ = some (.int .u8 f.kind) ∧ w'.cell? ⟨g', j * 5 + 2, none⟩ = some (.int .i64 f.ref) ∧ w'.cell? ⟨g', j * 5 + 3, none⟩ = some (.int .i64 f.lists) ∧ w'.cell? ⟨g', j * 5 + 4, none⟩ = some (.int .u64 f.dflt)) (first | assumption | (with_reducible exact ⟨k0, k1, k2, k3, k4, k5, k6, k7, k8⟩) | (with_reducible exact ⟨keep4 k0 hw1, keep4 k1 hw1, keep4 k2 hw1, keep4 k3 hw2, keep4 k4 hw3, keep4 k5 hw3, keep4 k6 hw3, keep4 k7 hw3, keep4 k8 hw3⟩) | go_keep)
          (first | (go_at_call 44; (with_reducible refine (HV.out wr (Below.refl _ _)).mono ?_); rintro e W6 ⟨v6, val6, i3, rfl, hvh6, hft6, hss6, hi3, hs6, hx6'⟩; have hx6 : Exc g wr.heap.size wr W6 := hx6'; obtain ⟨k0, k1, k2, k3, k4, k5, k6, k7, k8⟩ := HCC.out W6 hx6; obtain ⟨ba, ka, bcc, kcc, rfl, _, _, _, _, _, _, _⟩ := IsV.form hvh6; clear hx6') | (go_at_call 44; (with_reducible refine (HV.out wr.drew (Below.refl _ _).drew).mono ?_); rintro e W6 ⟨v6, val6, i3, rfl, hvh6, hft6, hss6, hi3, hs6, hx6'⟩; have hx6 : Exc g wr.heap.size wr W6 := xfact_drew hx6'; obtain ⟨k0, k1, k2, k3, k4, k5, k6, k7, k8⟩ := HCC.out W6 hx6; obtain ⟨ba, ka, bcc, kcc, rfl, _, _, _, _, _, _, _⟩ := IsV.form hvh6; clear hx6') | (go_at_call 44; (with_reducible refine (HV.out (wr.alloc (.cells #[.int .u64 0, .slice none 0 0, .slice none 0 0, .bool false] 40)) ((Below.refl _ _).alloc (Nat.le_refl _) _)).mono ?_); rintro e W6 ⟨v6, val6, i3, rfl, hvh6, hft6, hss6, hi3, hs6, hx6'⟩; have hx6 : Exc g wr.heap.size wr W6 := xfact hx6'; obtain ⟨k0, k1, k2, k3, k4, k5, k6, k7, k8⟩ := HCC.out W6 hx6; obtain ⟨ba, ka, bcc, kcc, rfl, _, _, _, _, _, _, _⟩ := IsV.form hvh6; have hVB := xblk hx6' hgw; have HVB := Lib.hid hVB; obtain ⟨_, n0, n1, n2, n3⟩ := blk4p hVB; have m0 := blk_frozen hVB 0; have m1 := blk_frozen hVB 1; have m2 := blk_frozen hVB 2; have m3 := blk_frozen hVB 3; clear hVB; clear hx6') | (go_at_call 44; (with_reducible refine (HV.out (wr.alloc (.cells #[.int .u64 0, .slice none 0 0, .slice none 0 0, .bool false] 40)).drew ((Below.refl _ _).alloc (Nat.le_refl _) _).drew).mono ?_); rintro e W6 ⟨v6, val6, i3, rfl, hvh6, hft6, hss6, hi3, hs6, hx6'⟩; have hx6 : Exc g wr.heap.size wr W6 := xfact_alloc_drew hx6'; obtain ⟨k0, k1, k2, k3, k4, k5, k6, k7, k8⟩ := HCC.out W6 hx6; obtain ⟨ba, ka, bcc, kcc, rfl, _, _, _, _, _, _, _⟩ := IsV.form hvh6; have hVB := xblk_drew hx6' hgw; have HVB := Lib.hid hVB; obtain ⟨_, n0, n1, n2, n3⟩ := blk4p hVB; have m0 := blk_frozen hVB 0; have m1 := blk_frozen hVB 1; have m2 := blk_frozen hVB 2; have m3 := blk_frozen hVB 3; clear hVB; clear hx6') | (go_at_call 44; (with_reducible refine (HV.out (wr.drew.alloc (.cells #[.int .u64 0, .slice none 0 0, .slice none 0 0, .bool false] 40)) ((Below.refl _ _).drew.alloc (Nat.le_refl _) _)).mono ?_); rintro e W6 ⟨v6, val6, i3, rfl, hvh6, hft6, hss6, hi3, hs6, hx6'⟩; have hx6 : Exc g wr.heap.size wr W6 := xfact_drew (xfact hx6'); obtain ⟨k0, k1, k2, k3, k4, k5, k6, k7, k8⟩ := HCC.out W6 hx6; obtain ⟨ba, ka, bcc, kcc, rfl, _, _, _, _, _, _, _⟩ := IsV.form hvh6; have hVB := xblk hx6' hgw; have HVB := Lib.hid hVB; obtain ⟨_, n0, n1, n2, n3⟩ := blk4p hVB; have m0 := blk_frozen hVB 0; have m1 := blk_frozen hVB 1; have m2 := blk_frozen hVB 2; have m3 := blk_frozen hVB 3; clear hVB; clear hx6'))
        · have q1 : Exc g wr.heap.size wr (W6.alloc (.cells #[.int .u64 v6.num, .slice ba v6.bytes.length bcc, .slice ka v6.kids.length kcc, .bool v6.has] 40)) := hx6.alloc hx6.size _
          have q2 : VH (newS wr.heap.size) (W6.alloc (.cells #[.int .u64 v6.num, .slice ba v6.bytes.length bcc, .slice ka v6.kids.length kcc, .bool v6.has] 40)) v6 (.agg #[.int .u64 v6.num, .slice ba v6.bytes.length bcc, .slice ka v6.kids.length kcc, .bool v6.has]) := VH.alloc (show VH (newS wr.heap.size) W6 v6 (.agg #[.int .u64 v6.num, .slice ba v6.bytes.length bcc, .slice ka v6.kids.length kcc, .bool v6.has]) from hvh6) _
          have q3 : (W6.alloc (.cells #[.int .u64 v6.num, .slice ba v6.bytes.length bcc, .slice ka v6.kids.length kcc, .bool v6.has] 40)).heap[W6.heap.size]? = some (.cells #[.int .u64 v6.num, .slice ba v6.bytes.length bcc, .slice ka v6.kids.length kcc, .bool v6.has] 40 (0, 0)) := heap_alloc_new W6 _
          have q4 : Src g a bs bc (W6.alloc (.cells #[.int .u64 v6.num, .slice ba v6.bytes.length bcc, .slice ka v6.kids.length kcc, .bool v6.has] 40)) i3 := hs6.below ((Below.refl _ _).alloc (Nat.le_refl _) _)
          generalize W6.alloc (.cells #[.int .u64 v6.num, .slice ba v6.bytes.length bcc, .slice ka v6.kids.length kcc, .bool v6.has] 40) = W7 at *
          generalize W6.heap.size = V at *
          have HSN2 := Lib.hid (HSN.out ⟨v6, .int .u64 v6.num, .slice ba v6.bytes.length bcc, .slice ka v6.kids.length kcc, .bool v6.has⟩ hft6.1)
          have HSM := Lib.hid (KidsSW.snoc (q := ⟨v6, .int .u64 v6.num, .slice ba v6.bytes.length bcc, .slice ka v6.kids.length kcc, .bool v6.has⟩) HKF.out.2 hft6.2 (.inl rfl) hi3)
          have hgl := HGL.out
          have HX7 := Lib.hid (HXW.out.thenB (Nat.le_refl _) q1)
          have HO7 := Lib.hid (blk_exc HO.out q1 (blk_lt HO.out) (by omega))
          have HROW7 := Lib.hid (q1.ownsRow HROW.out (fun e => by have := (ownsRow_lt HROW.out g e).1; omega))
          have HR7 := Lib.hid (blk_exc HR.out q1 (blk_lt HR.out) (by omega))
          have HSB7 := Lib.hid (blk_exc HSB.out q1 (blk_lt HSB.out) (by omega))
          have HRB7 := Lib.hid (blk_exc HRB.out q1 (blk_lt HRB.out) (by have := HEO.out; omega))
          have HBN := Lib.hid (heap_alloc_new W7 (.cells #[.int .u64 v6.num, .slice ba v6.bytes.length bcc, .slice ka v6.kids.length kcc, .bool v6.has] 40))
          have HBA := Lib.hid ((Below.refl W7.heap.size W7).alloc (Nat.le_refl _) (.cells #[.int .u64 v6.num, .slice ba v6.bytes.length bcc, .slice ka v6.kids.length kcc, .bool v6.has] 40))
          have hO1 := blk_lt HO7.out
          have hjj : j ≤ 1000 := by have := HJJ.out; omega
          obtain ⟨_, v0, v1, v2, v3⟩ := blk4p HO7.out
          obtain ⟨_, w0, w1, w2, w3⟩ := blk4p q3
          obtain ⟨i0, hi0, hzz0, hzz1, hzz2⟩ := info_parts val_info2
          have I1 := Lib.hid hi0
          have I2 := Lib.hid hzz0
          have I3 := Lib.hid hzz1
          have I4 := Lib.hid hzz2
          have Q1 := Lib.hid q1
          have Q2 := Lib.hid q2
          have Q4 := Lib.hid q4
          have hOw : w.heap.size + 1 + 1 + 1 + 1 < wr.heap.size := blk_lt HO.out
          have HOW := Lib.hid hOw
          have HGW := Lib.hid hgl
          clear q1 q2 q3 q4 hi0 hzz0 hzz1 hzz2 hvh6 hft6 hss6 hs6 hx6 hgl hOw
          simp only [Exit.then]
          go_wp2_with (at_builtin; refine wpList_append_own_at _ rfl (.tmp 157) (.tmp 159) 38 rfl (w.heap.size + 1 + 1 + 1 + 1 + 1) 40 i0 _ 4 64 Tryz.underlying38 I1.out I2.out I3.out I4.out rfl (by decide) _ j (kvsCells l) rfl (row_keep HBA.out HROW7.out) _ 1 1 [.int .u64 v6.num, .slice ba v6.bytes.length bcc, .slice ka v6.kids.length kcc, .bool v6.has] rfl rfl (World.news_of_block HBN.out) (by intro u hu; simp at hu; rcases hu with rfl | rfl | rfl | rfl <;> rfl) (by unfold maxLen; omega) (by omega) (by simp; omega) ?_; intro v4 W8 hown4 hg4 hx hat4; clear hx; obtain ⟨a4, m4, rfl⟩ := ownsRow_form hown4; obtain ⟨s1, s2, s3, s4, s5⟩ := stepV 2 HX7.out (show w.heap.size ≤ w.heap.size + 1 + 1 + 1 + 1 by omega) HO7.out HROW7.out HBA.out hg4 hown4; have hkk := kids_step (q := ⟨v6, .int .u64 v6.num, .slice ba v6.bytes.length bcc, .slice ka v6.kids.length kcc, .bool v6.has⟩) HKI.out Q1.out (show g ≤ w.heap.size + 1 + 1 + 1 + 1 by have := HGW.out; omega) HOW.out (fun k hk => (ownsRow_lt HROW.out k hk).2) Q2.out HBA.out hg4 hat4 (Nat.le_refl _) 2 (.slice a4 (j + 1) m4); have hE8 := ((hg4.block E (by have := blk_lt HRB7.out; simp; omega) (fun h => row_other HROW7.out HRB7.out (by decide) h.symm)).trans (HBA.out.block E (blk_lt HRB7.out))).trans HRB7.out; have HE8 := Lib.hid hE8; clear hE8; obtain ⟨_, d0, d1, d2, d3⟩ := blk4p s4; have e1 := blk_frozen s4 2; have S1 := Lib.hid s1; have S2 := Lib.hid s2; have S3 := Lib.hid s3; have S5 := Lib.hid s5; have HKK := Lib.hid hkk; clear s1 s2 s3 s4 s5 hkk hown4 hg4 hat4)
          go_roundw
          case rel =>
            have hgl := HGL.out
            exact ⟨j + 1, i3, a4, m4, l ++ [⟨v6, .int .u64 v6.num, .slice ba v6.bytes.length bcc, .slice ka v6.kids.length kcc, .bool v6.has⟩], by omega, by go_num, S2.out.trans rfl, by rw [kvsCells_snoc]; exact S3.out, HKK.out, ⟨HSN2.out, HSM.out⟩, (S5.out _ (by omega)).trans HR7.out, (S5.out _ (by omega)).trans HSB7.out, (Below.heap_setCell _ _ _ _ (by have := HEO.out; show E ≠ w.heap.size + 1 + 1 + 1 + 1; omega)).trans HE8.out, HS0.out.at S1.out Q4.out (S5.out g (by omega)), by omega, S1.out⟩
          case measure => simp [intOf]; omega
        · have q1 : Exc g wr.heap.size wr ((((W6.setCell ⟨wr.heap.size, 0, none⟩ (.int .u64 v6.num)).setCell ⟨wr.heap.size, 1, none⟩ (.slice ba v6.bytes.length bcc)).setCell ⟨wr.heap.size, 2, none⟩ (.slice ka v6.kids.length kcc)).setCell ⟨wr.heap.size, 3, none⟩ (.bool v6.has)) := exc_put4 hx6 (Nat.le_refl _) _ _ _ _
          have q2 : VH (newS wr.heap.size) ((((W6.setCell ⟨wr.heap.size, 0, none⟩ (.int .u64 v6.num)).setCell ⟨wr.heap.size, 1, none⟩ (.slice ba v6.bytes.length bcc)).setCell ⟨wr.heap.size, 2, none⟩ (.slice ka v6.kids.length kcc)).setCell ⟨wr.heap.size, 3, none⟩ (.bool v6.has)) v6 (.agg #[.int .u64 v6.num, .slice ba v6.bytes.length bcc, .slice ka v6.kids.length kcc, .bool v6.has]) := vh_new hvh6 (by simp) (by simp [World.setCell]) (fun k hk hB => set4_blk W6 (by simp at hB; omega) _ _ _ _)
          have q3 : ((((W6.setCell ⟨wr.heap.size, 0, none⟩ (.int .u64 v6.num)).setCell ⟨wr.heap.size, 1, none⟩ (.slice ba v6.bytes.length bcc)).setCell ⟨wr.heap.size, 2, none⟩ (.slice ka v6.kids.length kcc)).setCell ⟨wr.heap.size, 3, none⟩ (.bool v6.has)).heap[wr.heap.size]? = some (.cells #[.int .u64 v6.num, .slice ba v6.bytes.length bcc, .slice ka v6.kids.length kcc, .bool v6.has] 40 (0, 0)) := blk_set4 HVB.out _ _ _ _
          have q4 : Src g a bs bc ((((W6.setCell ⟨wr.heap.size, 0, none⟩ (.int .u64 v6.num)).setCell ⟨wr.heap.size, 1, none⟩ (.slice ba v6.bytes.length bcc)).setCell ⟨wr.heap.size, 2, none⟩ (.slice ka v6.kids.length kcc)).setCell ⟨wr.heap.size, 3, none⟩ (.bool v6.has)) i3 := HS0.out.at (HXW.out.thenB (Nat.le_refl _) q1) hs6 (set4_blk W6 (fun h => hgw h.symm) _ _ _ _)
          generalize ((((W6.setCell ⟨wr.heap.size, 0, none⟩ (.int .u64 v6.num)).setCell ⟨wr.heap.size, 1, none⟩ (.slice ba v6.bytes.length bcc)).setCell ⟨wr.heap.size, 2, none⟩ (.slice ka v6.kids.length kcc)).setCell ⟨wr.heap.size, 3, none⟩ (.bool v6.has)) = W7 at *
          generalize wr.heap.size = V at q3 ⊢
          have HSN2 := Lib.hid (HSN.out ⟨v6, .int .u64 v6.num, .slice ba v6.bytes.length bcc, .slice ka v6.kids.length kcc, .bool v6.has⟩ hft6.1)
          have HSM := Lib.hid (KidsSW.snoc (q := ⟨v6, .int .u64 v6.num, .slice ba v6.bytes.length bcc, .slice ka v6.kids.length kcc, .bool v6.has⟩) HKF.out.2 hft6.2 (.inl rfl) hi3)
          have hgl := HGL.out
          have HX7 := Lib.hid (HXW.out.thenB (Nat.le_refl _) q1)
          have HO7 := Lib.hid (blk_exc HO.out q1 (blk_lt HO.out) (by omega))
          have HROW7 := Lib.hid (q1.ownsRow HROW.out (fun e => by have := (ownsRow_lt HROW.out g e).1; omega))
          have HR7 := Lib.hid (blk_exc HR.out q1 (blk_lt HR.out) (by omega))
          have HSB7 := Lib.hid (blk_exc HSB.out q1 (blk_lt HSB.out) (by omega))
          have HRB7 := Lib.hid (blk_exc HRB.out q1 (blk_lt HRB.out) (by have := HEO.out; omega))
          have HBN := Lib.hid (heap_alloc_new W7 (.cells #[.int .u64 v6.num, .slice ba v6.bytes.length bcc, .slice ka v6.kids.length kcc, .bool v6.has] 40))
          have HBA := Lib.hid ((Below.refl W7.heap.size W7).alloc (Nat.le_refl _) (.cells #[.int .u64 v6.num, .slice ba v6.bytes.length bcc, .slice ka v6.kids.length kcc, .bool v6.has] 40))
          have hO1 := blk_lt HO7.out
          have hjj : j ≤ 1000 := by have := HJJ.out; omega
          obtain ⟨_, v0, v1, v2, v3⟩ := blk4p HO7.out
          obtain ⟨_, w0, w1, w2, w3⟩ := blk4p q3
          obtain ⟨i0, hi0, hzz0, hzz1, hzz2⟩ := info_parts val_info2
          have I1 := Lib.hid hi0
          have I2 := Lib.hid hzz0
          have I3 := Lib.hid hzz1
          have I4 := Lib.hid hzz2
          have Q1 := Lib.hid q1
          have Q2 := Lib.hid q2
          have Q4 := Lib.hid q4
          have hOw : w.heap.size + 1 + 1 + 1 + 1 < wr.heap.size := blk_lt HO.out
          have HOW := Lib.hid hOw
          have HGW := Lib.hid hgl
          clear q1 q2 q3 q4 hi0 hzz0 hzz1 hzz2 hvh6 hft6 hss6 hs6 hx6 hgl hOw
          simp only [Exit.then]
          go_wp2_with (at_builtin; refine wpList_append_own_at _ rfl (.tmp 157) (.tmp 159) 38 rfl (w.heap.size + 1 + 1 + 1 + 1 + 1) 40 i0 _ 4 64 Tryz.underlying38 I1.out I2.out I3.out I4.out rfl (by decide) _ j (kvsCells l) rfl (row_keep HBA.out HROW7.out) _ 1 1 [.int .u64 v6.num, .slice ba v6.bytes.length bcc, .slice ka v6.kids.length kcc, .bool v6.has] rfl rfl (World.news_of_block HBN.out) (by intro u hu; simp at hu; rcases hu with rfl | rfl | rfl | rfl <;> rfl) (by unfold maxLen; omega) (by omega) (by simp; omega) ?_; intro v4 W8 hown4 hg4 hx hat4; clear hx; obtain ⟨a4, m4, rfl⟩ := ownsRow_form hown4; obtain ⟨s1, s2, s3, s4, s5⟩ := stepV 2 HX7.out (show w.heap.size ≤ w.heap.size + 1 + 1 + 1 + 1 by omega) HO7.out HROW7.out HBA.out hg4 hown4; have hkk := kids_step (q := ⟨v6, .int .u64 v6.num, .slice ba v6.bytes.length bcc, .slice ka v6.kids.length kcc, .bool v6.has⟩) HKI.out Q1.out (show g ≤ w.heap.size + 1 + 1 + 1 + 1 by have := HGW.out; omega) HOW.out (fun k hk => (ownsRow_lt HROW.out k hk).2) Q2.out HBA.out hg4 hat4 (Nat.le_refl _) 2 (.slice a4 (j + 1) m4); have hE8 := ((hg4.block E (by have := blk_lt HRB7.out; simp; omega) (fun h => row_other HROW7.out HRB7.out (by decide) h.symm)).trans (HBA.out.block E (blk_lt HRB7.out))).trans HRB7.out; have HE8 := Lib.hid hE8; clear hE8; obtain ⟨_, d0, d1, d2, d3⟩ := blk4p s4; have e1 := blk_frozen s4 2; have S1 := Lib.hid s1; have S2 := Lib.hid s2; have S3 := Lib.hid s3; have S5 := Lib.hid s5; have HKK := Lib.hid hkk; clear s1 s2 s3 s4 s5 hkk hown4 hg4 hat4)
          go_roundw
          case rel =>
            have hgl := HGL.out
            exact ⟨j + 1, i3, a4, m4, l ++ [⟨v6, .int .u64 v6.num, .slice ba v6.bytes.length bcc, .slice ka v6.kids.length kcc, .bool v6.has⟩], by omega, by go_num, S2.out.trans rfl, by rw [kvsCells_snoc]; exact S3.out, HKK.out, ⟨HSN2.out, HSM.out⟩, (S5.out _ (by omega)).trans HR7.out, (S5.out _ (by omega)).trans HSB7.out, (Below.heap_setCell _ _ _ _ (by have := HEO.out; show E ≠ w.heap.size + 1 + 1 + 1 + 1; omega)).trans HE8.out, HS0.out.at S1.out Q4.out (S5.out g (by omega)), by omega, S1.out⟩
          case measure => simp [intOf]; omega
      · obtain rfl : j = xs.length := by omega
        obtain ⟨_, u0, u1, u2, u3⟩ := blk4p HR.out
        obtain ⟨_, v0, v1, v2, v3⟩ := blk4p HO.out
        have p0 := blk_frozen HR.out 0
        have p1 := blk_frozen HR.out 1
        have p2 := blk_frozen HR.out 2
        have p3 := blk_frozen HR.out 3
        go_wp2
        refine post_gen (fun Wf => Wf.heap[w.heap.size + 1 + 1 + 1]? = some (.cells #[.int .u64 0, .slice none 0 0, .slice A xs.length cap, .bool true] 40 (0, 0)) ∧ Exc g w.heap.size w Wf ∧ Src g a bs bc Wf i2 ∧ Wf.ownsRow (w.heap.size + 1 + 1 + 1 + 1 + 1) 40 4 (.slice A xs.length cap) xs.length (kvsCells l) ∧ KidsIn (rowS (w.heap.size + 1 + 1 + 1 + 1 + 1) (.slice A xs.length cap)) Wf l) ⟨?_, ?_, ?_, ?_, ?_⟩ ?_
        · exact blk_set4 HR.out _ _ _ _
        · exact exc_put4 HXW.out (Nat.le_succ_of_le (Nat.le_succ_of_le (Nat.le_succ _))) _ _ _ _
        · have hgl := HGL.out
          exact HS0.out.at (exc_put4 HXW.out (Nat.le_succ_of_le (Nat.le_succ_of_le (Nat.le_succ _))) _ _ _ _) HSW.out (set4_blk _ (by omega) _ _ _ _)
        · exact own_set4 HROW.out (by omega) _ _ _ _
        · exact HKI.out.step (by simp [World.setCell]) (fun k hk hS => ⟨hS, set4_blk wr (by have := (rowS_no.1 hS).1; omega) _ _ _ _⟩)
        · rintro Wf ⟨e1, e2, e3, e4, e5⟩
          obtain ⟨_, d0, d1, d2, d3⟩ := blk4p e1
          exact bodyPost_ret (v := .agg #[.int .u64 0, .slice none 0 0, .slice A xs.length cap, .bool true]) (by simp [results, Tryz.results44, go_sem, d0, d1, d2, d3]) rfl ⟨.mk 0 [] (l.map KV.v) true, _, i2, rfl, vh_kids e4 e5 (fun k hS => by have := (rowS_no.1 hS).1; unfold newS; simp; omega) (fun k hk => by unfold newS; simp; omega) true, ⟨HEND.out l (kv_len e4) HKF.out.1, HKF.out.2.val (by have := kv_len e4; have := HMF.out.1; omega) hi1 HMORE.out (by first | exact .inl rfl | exact .inr (by simpa using HGO.out)) true⟩, fun _ _ _ _ => rfl, by omega, e3, e2⟩
end Go.Proofs.YtiknhkkeifemcaaGreatDoor
