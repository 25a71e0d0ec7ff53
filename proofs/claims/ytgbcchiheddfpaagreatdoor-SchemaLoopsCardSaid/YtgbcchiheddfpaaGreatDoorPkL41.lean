/-
  The package schema's maker: its second step, all structs. Conditions: those that each theorem names.
-/
import Derived.Test.YtgbcchiheddfpaaGreatDoorPkL21
import Derived.Test.YtgbcchiheddfpaaGreatDoorPkL40
import Derived.Deep.CutRange
import Derived.Deep.RegionHeld3
namespace Go.Proofs.YtgbcchiheddfpaaGreatDoor
open Go.ChangeShapes Go.WideShapes Go.ChangeAt Go.RowKit Go.Shelf

theorem recs_step (i : Nat) (m : List NEnt) (l : List RRec) (k : Nat) (hk : k < l.length) : recsM i m (l.drop k) = (recM i m l[k]).bind fun m' => recsM (i + 1) m' (l.drop (k + 1)) := by
  rw [List.drop_eq_getElem_cons hk]
  rfl
theorem recM_13 {k : Nat} {m : List NEnt} {q : RRec} (h : (lookN m (strOfNums q.name)).isSome = true) : recM k m q = .no 13 q.place := by
  unfold recM
  rw [if_pos h]
theorem recM_16 {k : Nat} {m : List NEnt} {q : RRec} (h : (lookN m (strOfNums q.name)).isSome = false) (h2 : false = decide (k < 16 ∧ 1 ≤ q.fields.length ∧ q.fields.length ≤ 16)) : recM k m q = .no 16 q.place := by
  unfold recM
  rw [if_neg (by rw [h]; decide), if_neg (of_decide_eq_false h2.symm)]
theorem recM_dup {k j : Nat} {m : List NEnt} {q : RRec} (h : (lookN m (strOfNums q.name)).isSome = false) (h2 : true = decide (k < 16 ∧ 1 ≤ q.fields.length ∧ q.fields.length ≤ 16)) (hd : dup (q.fields.map fldT) = some j) (hj : j < q.fields.length) : recM k m q = .no 13 q.fields[j].place := by
  unfold recM
  rw [if_neg (by rw [h]; decide), if_pos (of_decide_eq_true h2.symm), hd]
  show MRes.no 13 (q.fields.getD j noField).place = _
  rw [List.getD, List.getElem?_eq_getElem hj]
  rfl
theorem recM_ok {k : Nat} {m : List NEnt} {q : RRec} (h : (lookN m (strOfNums q.name)).isSome = false) (h2 : true = decide (k < 16 ∧ 1 ≤ q.fields.length ∧ q.fields.length ≤ 16)) (hd : dup (q.fields.map fldT) = none) : recM k m q = .ok (m ++ [⟨strOfNums q.name, 13, k⟩]) := by
  unfold recM
  rw [if_neg (by rw [h]; decide), if_pos (of_decide_eq_true h2.symm), hd]
def rec0 (x : RRec) : SRec × Value := (⟨strOfNums x.name, []⟩, .slice none 0 0)
def rec0p (p : RRec × Value) : SRec × Value := rec0 p.1
def StAt (w : World) (M b : Nat) (a : Option Addr) (c : Nat) (ev rv esv : Value) (root : Nat) (xs : List (RRec × Value)) (m0 : List NEnt) (cf : Act) (wr : World) : Prop :=
  ∃ (k : Nat) (m : List NEnt) (ssv : Value), k ≤ xs.length ∧ StO M w.heap.size a xs.length c k cf ∧ MAt wr M b (.slice a xs.length c) ev rv m ssv esv root ∧ Ex2 M b w.heap.size w wr ∧ wr.heap[w.heap.size]? = some (.cells #[.int .i64 0, .int .i64 0] 125 (0, 0)) ∧
    wr.ownsRow (w.heap.size + 1) 67 2 ssv k (srecsCells ((xs.take k).map rec0p)) ∧ recsM 0 m0 (xs.map Prod.fst) = recsM k m ((xs.drop k).map Prod.fst)
def StPost (w : World) (M b : Nat) (sv ev rv esv : Value) (root : Nat) (xs : List (RRec × Value)) (m0 : List NEnt) (e : Ending) (w' : World) : Prop :=
  Ex2 M b w.heap.size w w' ∧ match recsM 0 m0 (xs.map Prod.fst) with
  | .no c p => e = .returned (.agg #[.int .i64 c, .int .i64 (p : Nat)])
  | .ok m => e = .returned (.agg #[.int .i64 0, .int .i64 0]) ∧ ∃ ssv, MAt w' M b sv ev rv m ssv esv root ∧ w'.ownsRow w.heap.size 67 2 ssv xs.length (srecsCells (xs.map rec0p))
theorem st_fault {w w' : World} {M b : Nat} {sv ev rv esv : Value} {root : Nat} {xs : List (RRec × Value)} {m0 : List NEnt} {c : Int} {p : Nat} (h : recsM 0 m0 (xs.map Prod.fst) = .no c p) (hx : Ex2 M b w.heap.size w w') :
    StPost w M b sv ev rv esv root xs m0 (.returned (.agg #[.int .i64 c, .int .i64 (p : Nat)])) w' := by
  unfold StPost
  rw [h]
  exact ⟨hx, rfl⟩
theorem st_more {w w5 W2 W8 : World} {M b root n : Nat} {sv ev rv ssv esv v4 : Value} {m : List NEnt} {cs cs' : List Value} (hMw : M < w.heap.size) (hbw : b < w.heap.size) (hne : M ≠ b) (hx : Ex2 M b w.heap.size w w5) (hR : w5.heap[w.heap.size]? = some (.cells #[.int .i64 0, .int .i64 0] 125 (0, 0)))
    (hrows : w5.ownsRow (w.heap.size + 1) 67 2 ssv n cs) (hMB : w5.heap[M]? = some (.cells #[sv, ev, rv, .map (some b), ssv, esv, .int .i64 root] 244 (0, 0))) (hmp : MapAt w5 b (m.map entP))
    (h2 : Below w5.heap.size w5 W2) (hg : W2.grownBy W8 ssv.ownBlock) (ho : W8.ownsRow (w.heap.size + 1) 67 2 v4 (n + 1) cs') :
    W8.heap[M]? = some (.cells #[sv, ev, rv, .map (some b), ssv, esv, .int .i64 root] 244 (0, 0)) ∧ MAt (W8.setCell ⟨M, 4, none⟩ v4) M b sv ev rv m v4 esv root ∧ Ex2 M b w.heap.size w (W8.setCell ⟨M, 4, none⟩ v4) ∧
    (W8.setCell ⟨M, 4, none⟩ v4).heap[w.heap.size]? = some (.cells #[.int .i64 0, .int .i64 0] 125 (0, 0)) ∧ (W8.setCell ⟨M, 4, none⟩ v4).ownsRow (w.heap.size + 1) 67 2 v4 (n + 1) cs' := by
  have hlow : ∀ k, ssv.ownBlock = some k → w.heap.size + 1 ≤ k := fun k hk => (ownsRow_lt hrows k hk).1
  have h2s := h2.size
  have hxs := hx.size
  have hbk : ∀ k, k < w.heap.size + 1 → k < w5.heap.size → W8.heap[k]? = w5.heap[k]? := fun k hk hk5 => (hg.block k (by omega) (fun e => by have := hlow k e.symm; omega)).trans (h2.block k hk5)
  have hRl := blk_lt hR
  have hM8 := (hbk M (by omega) (by omega)).trans hMB
  refine ⟨hM8, ⟨(blk_set hM8 4 v4).trans rfl, ?_, hne⟩, ?_, ?_, ownsRow_setCell_below ho (by show M < w.heap.size + 1; omega) _⟩
  · exact (hmp.of_block (hbk b (by omega) (by omega))).setCell (p := ⟨M, 4, none⟩) hne v4
  · exact ((hx.trans (.of_below (h2.mono hxs))).grown hg (by omega) (fun k hk => .inl (by have := hlow k hk; omega))).setCell (p := ⟨M, 4, none⟩) (.inl rfl) v4
  · exact blk_set_ne ((hbk w.heap.size (by omega) hRl).trans hR) (by show M ≠ _; omega) v4
set_option linter.unusedSimpArgs false in
set_option maxRecDepth 100000 in
set_option maxHeartbeats 8000000 in
theorem structs_any (w : World) (M b : Nat) (sv ev rv esv : Value) (root : Nat) (xs : List (RRec × Value)) (m0 : List NEnt) (rb : Nat) (hM : MAt w M b sv ev rv m0 (.slice none 0 0) esv root)
    (hraw : ∀ W, Ex2 M b w.heap.size w W → W.ownsRow rb 298 3 sv xs.length (recsCells xs) ∧ ∀ p ∈ xs, W.ownsRow rb 303 8 p.2 p.1.fields.length (fieldsCells p.1.fields))
    (hsz : ∀ p ∈ xs, p.1.name.length ≤ 100) :
    Calls Tryz.prog 122 #[.pointer (some ⟨M, 0, none⟩)] w (StPost w M b sv ev rv esv root xs m0) := by
  have HRAW := Lib.hid hraw
  have HSZ := Lib.hid hsz
  obtain ⟨sva, svc, rfl⟩ := ownsRow_form (hraw w (Ex2.refl _ _ _ _)).1
  have hfew := row_few (hraw w (Ex2.refl _ _ _ _)).1
  have hb0 : Below w.heap.size w (w.alloc (.cells #[.int .i64 0, .int .i64 0] 125)) := (Below.refl _ _).alloc (Nat.le_refl _) _
  have HX0 := Lib.hid (Ex2.of_below (R := M) (S := b) hb0)
  have HM0 := Lib.hid (hM.fell hb0)
  have HR0 := Lib.hid (heap_alloc_new w (.cells #[.int .i64 0, .int .i64 0] 125))
  have hMw : M < w.heap.size := blk_lt hM.blk
  have hbw : b < w.heap.size := hM.map.lt
  have hMb := hM.ne
  clear hraw hsz hb0 hM
  go_enter Tryz.func122, Tryz.ntmps122
  go_upto_region 1 with (fail)
  generalize w.alloc (.cells #[.int .i64 0, .int .i64 0] 125) = W0 at *
  obtain ⟨_, z0, z1, z2, z3, z4, z5, z6, _⟩ := HM0.out.cells
  go_wp2_with fail
  clear z0 z1 z2 z3 z4 z5 z6
  refine wp_loop (StAt w M b sva svc ev rv esv root xs m0) (fun c' _ => xs.length - (intOf (c'.tmps.getD 14 undef)).toNat) ⟨0, m0, _, Nat.zero_le _, ⟨rfl, rfl, rfl, rfl, rfl, rfl, rfl⟩, HM0.out, HX0.out, HR0.out, World.ownsRow_nil _ _ _ _, rfl⟩ ?_
  clear HX0 HM0 HR0
  rintro cf wr ⟨k, m, ssv, hk, hcf, hM, hx, hR, hrows, hch⟩
  · obtain ⟨u, rfl⟩ := hcf.lit
    clear hcf
    conv => arg 2; whnf
    by_cases hkl : k < xs.length
    · obtain ⟨hraw, hnames⟩ := HRAW.out wr hx
      obtain ⟨g, cc, hv, hcc, hg, hcell⟩ := row_el recCells 3 (fun _ => rfl) hraw k hkl
      obtain ⟨rfl, rfl⟩ := slice_inj hv
      have hn := hnames _ (List.getElem_mem hkl)
      obtain ⟨na, nc, hnv⟩ := ownsRow_form hn
      have x0 : wr.cell? ⟨g, k * 3, none⟩ = some (.string (strOfNums xs[k].1.name)) := hcell 0 (by omega)
      have x1 : wr.cell? ⟨g, k * 3 + 1, none⟩ = some (.int .i64 xs[k].1.place) := hcell 1 (by omega)
      have x2 : wr.cell? ⟨g, k * 3 + 2, none⟩ = some (.slice na xs[k].1.fields.length nc) := by rw [← hnv]; exact hcell 2 (by omega)
      rw [hnv] at hn
      have hnall : ∀ W, Ex2 M b w.heap.size w W → W.ownsRow rb 303 8 (.slice na xs[k].1.fields.length nc) xs[k].1.fields.length (fieldsCells xs[k].1.fields) := fun W hW => by rw [← hnv]; exact (HRAW.out W hW).2 _ (List.getElem_mem hkl)
      have hst : recsM 0 m0 (xs.map Prod.fst) = (recM k m xs[k].1).bind fun m' => recsM (k + 1) m' ((xs.drop (k + 1)).map Prod.fst) := by
        rw [hch, List.map_drop, List.map_drop, recs_step k m (xs.map Prod.fst) k (by simpa using hkl)]
        simp
      have hsn : (xs.take (k + 1)).map rec0p = (xs.take k).map rec0p ++ [rec0 xs[k].1] := by rw [List.take_succ_eq_append_getElem hkl, List.map_append]; rfl
      have hsz1 := HSZ.out _ (List.getElem_mem hkl)
      generalize xs[k].1 = q at *
      have HST := Lib.hid hst
      have HSN := Lib.hid hsn
      have HNR := Lib.hid hn
      have HN := Lib.hid hnall
      have HM := Lib.hid hM
      have HX := Lib.hid hx
      have HR := Lib.hid hR
      have HROWS := Lib.hid hrows
      have hfewn := row_few hn
      have hxs := hx.size
      have hMr : M < wr.heap.size := by omega
      obtain ⟨hb1, hq4, hq5⟩ := two_blk wr #[.string (strOfNums q.name), .int .i64 q.place, .slice na q.fields.length nc] #[.int .u8 13, .int .i64 k, .int .i64 0] 298 62
      have HB1 := Lib.hid hb1
      have HQ4 := Lib.hid hq4
      have HQ5 := Lib.hid hq5
      have hkb : k ≤ 9223372036854775807 := by omega
      clear hst hsn hn hM hx hR hrows hch hcell hv hraw hnames hnv hb1 hq4 hq5 hnall
      go_upto_region 5 with (fail)
      generalize ((wr.alloc (.cells #[.string (strOfNums q.name), .int .i64 q.place, .slice na q.fields.length nc] 298)).alloc (.cells #[.int .u8 13, .int .i64 k, .int .i64 0] 62)) = W1 at *
      obtain ⟨_, y0, y1, y2, _⟩ := blk3 HQ4.out
      obtain ⟨_, t0, t1, t2, _⟩ := blk3 HQ5.out
      have hl1 := IntWalk.i64_in ((q.fields.length : Int) - 1) (by omega)
      have HM1 := Lib.hid (HM.out.fell HB1.out)
      have HM1D := Lib.hid (show MAt W1.drew M b (.slice (some ⟨g, 0, none⟩) xs.length svc) ev rv m ssv esv root from ⟨HM1.out.blk, HM1.out.map, HM1.out.ne⟩)
      have HM1A := Lib.hid (HM1.out.fell ((Below.refl _ _).alloc (Nat.le_refl _) (.cells #[.int .i64 0, .int .i64 0] 125)))
      have HM1AD := Lib.hid (show MAt (W1.alloc (.cells #[.int .i64 0, .int .i64 0] 125)).drew M b (.slice (some ⟨g, 0, none⟩) xs.length svc) ev rv m ssv esv root from ⟨HM1A.out.blk, HM1A.out.map, HM1A.out.ne⟩)
      have hbw1 : wr.heap.size + 1 < W1.heap.size := blk_lt HQ5.out
      have hbW : b < W1.heap.size := by omega
      have hn4 : wr.heap.size ≠ W1.heap.size := by omega
      have hn5 : wr.heap.size + 1 ≠ W1.heap.size := by omega
      have HCC := Lib.hid (show ∀ W3, Exc b W1.heap.size W1 W3 → W3.cell? ⟨wr.heap.size, 0, none⟩ = some (.string (strOfNums q.name)) ∧ W3.cell? ⟨wr.heap.size, 1, none⟩ = some (.int .i64 q.place) ∧ W3.cell? ⟨wr.heap.size, 2, none⟩ = some (.slice na q.fields.length nc) ∧ W3.cell? ⟨wr.heap.size + 1, 0, none⟩ = some (.int .u8 13) ∧ W3.cell? ⟨wr.heap.size + 1, 1, none⟩ = some (.int .i64 k) ∧ W3.cell? ⟨wr.heap.size + 1, 2, none⟩ = some (.int .i64 0) from fun W3 h3 => ⟨(h3.cell (p := ⟨wr.heap.size, 0, none⟩) (by show wr.heap.size < _; omega) (by show wr.heap.size ≠ b; omega)).trans y0, (h3.cell (p := ⟨wr.heap.size, 1, none⟩) (by show wr.heap.size < _; omega) (by show wr.heap.size ≠ b; omega)).trans y1, (h3.cell (p := ⟨wr.heap.size, 2, none⟩) (by show wr.heap.size < _; omega) (by show wr.heap.size ≠ b; omega)).trans y2, (h3.cell (p := ⟨wr.heap.size + 1, 0, none⟩) (by show wr.heap.size + 1 < _; omega) (by show wr.heap.size + 1 ≠ b; omega)).trans t0, (h3.cell (p := ⟨wr.heap.size + 1, 1, none⟩) (by show wr.heap.size + 1 < _; omega) (by show wr.heap.size + 1 ≠ b; omega)).trans t1, (h3.cell (p := ⟨wr.heap.size + 1, 2, none⟩) (by show wr.heap.size + 1 < _; omega) (by show wr.heap.size + 1 ≠ b; omega)).trans t2⟩)
      go_cut [6, 14] from 14 to 68 (DecIn W1 b k m (strOfNums q.name) q.place 13 16 q.fields.length 16)
      case first =>
        by_cases hk8 : (k : Int) < 16
        · obtain ⟨c, hc⟩ : ∃ c, decide (0 ≤ (q.fields.length : Int) - 1 ∧ (q.fields.length : Int) - 1 < 16) = c := ⟨_, rfl⟩
          have HSA := Lib.hid (fun W => samong_still _ _ c hc W)
          have HC := Lib.hid (show c = decide (k < 16 ∧ 1 ≤ q.fields.length ∧ q.fields.length ≤ 16) by rw [← hc]; exact decide_eq_decide.2 ⟨fun h => by omega, fun h => by omega⟩)
          clear hc
          have hd8 : decide ((k : Int) < 16) = true := decide_eq_true hk8
          go_region_held3 (fun w' => w'.cell? ⟨wr.heap.size, 0, none⟩ = some (.string (strOfNums q.name)) ∧ w'.cell? ⟨wr.heap.size, 1, none⟩ = some (.int .i64 q.place) ∧ w'.cell? ⟨wr.heap.size, 2, none⟩ = some (.slice na q.fields.length nc) ∧ w'.cell? ⟨wr.heap.size + 1, 0, none⟩ = some (.int .u8 13) ∧ w'.cell? ⟨wr.heap.size + 1, 1, none⟩ = some (.int .i64 k) ∧ w'.cell? ⟨wr.heap.size + 1, 2, none⟩ = some (.int .i64 0)) (first | assumption | (with_reducible exact ⟨keep2 k0 hn4, keep2 k1 hn4, keep2 k2 hn4, keep2 k3 hn5, keep2 k4 hn5, keep2 k5 hn5⟩) | go_keep) (first | (go_at_call 50; refine (HSA.out _).mono ?_; rintro e w' ⟨rfl, rfl⟩) | (go_at_call 160; (with_reducible refine (declare_s _ _ 13 k 13 rfl c W1 HM1.out).mono ?_); rintro e W3 ⟨code, pl, rfl, hx3, hd3, hm3⟩; have hxW : Exc b W1.heap.size W1 W3 := id hx3; obtain ⟨k0, k1, k2, k3, k4, k5⟩ := HCC.out W3 hxW; have HD3 := Lib.hid hd3; have HM3 := Lib.hid hm3; clear hd3 hm3) | (go_at_call 160; (with_reducible refine (declare_s _ _ 13 k 13 rfl c W1.drew HM1D.out).mono ?_); rintro e W3 ⟨code, pl, rfl, hx3, hd3, hm3⟩; have hxW : Exc b W1.heap.size W1 W3 := exc_drew hx3; obtain ⟨k0, k1, k2, k3, k4, k5⟩ := HCC.out W3 hxW; have HD3 := Lib.hid hd3; have HM3 := Lib.hid hm3; clear hd3 hm3) | (go_at_call 160; (with_reducible refine (declare_s _ _ 13 k 13 rfl c (W1.alloc (.cells #[.int .i64 0, .int .i64 0] 125)) HM1A.out).mono ?_); rintro e W3 ⟨code, pl, rfl, hx3, hd3, hm3⟩; have hxW : Exc b W1.heap.size W1 W3 := exc_alloc hx3; obtain ⟨k0, k1, k2, k3, k4, k5⟩ := HCC.out W3 hxW; have HD3 := Lib.hid hd3; have HM3 := Lib.hid hm3; have hG := exc_alloc_blk hx3 hbW; have HG := Lib.hid hG; obtain ⟨_, g0, g1, g2, g3⟩ := blk2 hG; clear hG; clear hd3 hm3) | (go_at_call 160; (with_reducible refine (declare_s _ _ 13 k 13 rfl c (W1.alloc (.cells #[.int .i64 0, .int .i64 0] 125)).drew HM1AD.out).mono ?_); rintro e W3 ⟨code, pl, rfl, hx3, hd3, hm3⟩; have hxW : Exc b W1.heap.size W1 W3 := exc_alloc (exc_drew hx3); obtain ⟨k0, k1, k2, k3, k4, k5⟩ := HCC.out W3 hxW; have HD3 := Lib.hid hd3; have HM3 := Lib.hid hm3; have hG := exc_alloc_blk (exc_drew hx3) hbW; have HG := Lib.hid hG; obtain ⟨_, g0, g1, g2, g3⟩ := blk2 hG; clear hG; clear hd3 hm3))
          all_goals
            simp only [Exit.then]
            go_wp2_with fail
            go_meet
            case rel => exact ⟨c, HC.out, by first | exact dec_late hxW HD3.out HM3.out | exact dec_early hxW hbW HG.out HD3.out HM3.out⟩
        · have HC := Lib.hid (show false = decide (k < 16 ∧ 1 ≤ q.fields.length ∧ q.fields.length ≤ 16) from (decide_eq_false (fun h => hk8 (by omega))).symm)
          have hd8 : decide ((k : Int) < 16) = false := decide_eq_false hk8
          refine wp_region_held_drew (S := (fun w' => w'.cell? ⟨wr.heap.size, 0, none⟩ = some (.string (strOfNums q.name)) ∧ w'.cell? ⟨wr.heap.size, 1, none⟩ = some (.int .i64 q.place) ∧ w'.cell? ⟨wr.heap.size, 2, none⟩ = some (.slice na q.fields.length nc) ∧ w'.cell? ⟨wr.heap.size + 1, 0, none⟩ = some (.int .u8 13) ∧ w'.cell? ⟨wr.heap.size + 1, 1, none⟩ = some (.int .i64 k) ∧ w'.cell? ⟨wr.heap.size + 1, 2, none⟩ = some (.int .i64 0))) (by kernel_rfl) ⟨y0, y1, y2, t0, t1, t2⟩ ?_
          intro hS
          refine wpAnyH_take (i := 0) (v := .pointer (some ⟨M, 0, none⟩)) rfl (by kernel_rfl) (by kernel_rfl) (by kernel_rfl) (fun _ _ _ h => h) (Or.inl ⟨by rfl, ?_⟩) hS ?_
          · intro w' hSw
            obtain ⟨s0, s1, s2, s3, s4, s5⟩ := hSw
            go_simp
          simp only [Act.put, List.setIfInBounds_toArray, List.set_cons_zero, List.set_cons_succ]
          refine wpAnyH_take (i := 1) (v := .pointer (some ⟨wr.heap.size, 0, none⟩)) rfl (by kernel_rfl) (by kernel_rfl) (by kernel_rfl) (fun _ _ _ h => h) (Or.inl ⟨by rfl, ?_⟩) hS ?_
          · intro w' hSw
            obtain ⟨s0, s1, s2, s3, s4, s5⟩ := hSw
            go_simp
          simp only [Act.put, List.setIfInBounds_toArray, List.set_cons_zero, List.set_cons_succ]
          refine wpAnyH_take (i := 2) (v := .string (strOfNums q.name)) rfl (by kernel_rfl) (by kernel_rfl) (by kernel_rfl) (fun _ _ _ h => h) (Or.inl ⟨by rfl, ?_⟩) hS ?_
          · intro w' hSw
            obtain ⟨s0, s1, s2, s3, s4, s5⟩ := hSw
            go_simp
          simp only [Act.put, List.setIfInBounds_toArray, List.set_cons_zero, List.set_cons_succ]
          refine wpAnyH_take (i := 3) (v := .pointer (some ⟨wr.heap.size, 1, none⟩)) rfl (by kernel_rfl) (by kernel_rfl) (by kernel_rfl) (fun _ _ _ h => h) (Or.inl ⟨by rfl, ?_⟩) hS ?_
          · intro w' hSw
            obtain ⟨s0, s1, s2, s3, s4, s5⟩ := hSw
            go_simp
          simp only [Act.put, List.setIfInBounds_toArray, List.set_cons_zero, List.set_cons_succ]
          refine wpAnyH_take (i := 4) (v := .int .i64 q.place) rfl (by kernel_rfl) (by kernel_rfl) (by kernel_rfl) (fun _ _ _ h => h) (Or.inl ⟨by rfl, ?_⟩) hS ?_
          · intro w' hSw
            obtain ⟨s0, s1, s2, s3, s4, s5⟩ := hSw
            go_simp
          simp only [Act.put, List.setIfInBounds_toArray, List.set_cons_zero, List.set_cons_succ]
          refine wpAnyH_take (i := 5) (v := .agg #[.int .u8 13, .int .i64 k, .int .i64 0]) rfl (by kernel_rfl) (by kernel_rfl) (by kernel_rfl) (fun _ _ _ h => h) (Or.inl ⟨by rfl, ?_⟩) hS ?_
          · intro w' hSw
            obtain ⟨s0, s1, s2, s3, s4, s5⟩ := hSw
            go_simp
          simp only [Act.put, List.setIfInBounds_toArray, List.set_cons_zero, List.set_cons_succ]
          refine wpAnyH_take (i := 6) (v := .int .i64 k) rfl (by kernel_rfl) (by kernel_rfl) (by kernel_rfl) (fun _ _ _ h => h) (Or.inl ⟨by rfl, ?_⟩) hS ?_
          · intro w' hSw
            obtain ⟨s0, s1, s2, s3, s4, s5⟩ := hSw
            go_simp
          simp only [Act.put, List.setIfInBounds_toArray, List.set_cons_zero, List.set_cons_succ]
          refine wpAnyH_take (i := 7) (v := .bool false) rfl (by kernel_rfl) (by kernel_rfl) (by kernel_rfl) (fun _ _ _ h => h) (Or.inl ⟨by rfl, ?_⟩) hS ?_
          · intro w' hSw
            obtain ⟨s0, s1, s2, s3, s4, s5⟩ := hSw
            go_simp
          simp only [Act.put, List.setIfInBounds_toArray, List.set_cons_zero, List.set_cons_succ]
          refine wpAnyH_take (i := 8) (v := .bool false) rfl (by kernel_rfl) (by kernel_rfl) (by kernel_rfl) (fun _ _ _ h => h) (Or.inl ⟨by rfl, ?_⟩) hS ?_
          · intro w' hSw
            obtain ⟨s0, s1, s2, s3, s4, s5⟩ := hSw
            go_simp
          simp only [Act.put, List.setIfInBounds_toArray, List.set_cons_zero, List.set_cons_succ]
          refine wpAnyH_take (i := 9) (v := undef) rfl (by kernel_rfl) (by kernel_rfl) (by kernel_rfl) (fun _ _ _ h => h) (Or.inr ⟨by kernel_rfl, rfl⟩) hS ?_
          simp only [Act.put, List.setIfInBounds_toArray, List.set_cons_zero, List.set_cons_succ]
          refine wpAnyH_take (i := 10) (v := undef) rfl (by kernel_rfl) (by kernel_rfl) (by kernel_rfl) (fun _ _ _ h => h) (Or.inr ⟨by kernel_rfl, rfl⟩) hS ?_
          simp only [Act.put, List.setIfInBounds_toArray, List.set_cons_zero, List.set_cons_succ]
          refine wpAnyH_take (i := 11) (v := undef) rfl (by kernel_rfl) (by kernel_rfl) (by kernel_rfl) (fun _ _ _ h => h) (Or.inr ⟨by kernel_rfl, rfl⟩) hS ?_
          simp only [Act.put, List.setIfInBounds_toArray, List.set_cons_zero, List.set_cons_succ]
          refine wpAnyH_take (i := 12) (v := undef) rfl (by kernel_rfl) (by kernel_rfl) (by kernel_rfl) (fun _ _ _ h => h) (Or.inr ⟨by kernel_rfl, rfl⟩) hS ?_
          simp only [Act.put, List.setIfInBounds_toArray, List.set_cons_zero, List.set_cons_succ]
          refine wpAnyH_take (i := 13) (v := undef) rfl (by kernel_rfl) (by kernel_rfl) (by kernel_rfl) (fun _ _ _ h => h) (Or.inr ⟨by kernel_rfl, rfl⟩) hS ?_
          simp only [Act.put, List.setIfInBounds_toArray, List.set_cons_zero, List.set_cons_succ]
          refine wpAnyH_take (i := 14) (v := .bool false) rfl (by kernel_rfl) (by kernel_rfl) (by kernel_rfl) (fun _ _ _ h => h) (Or.inl ⟨by rfl, ?_⟩) hS ?_
          · intro w' hSw
            obtain ⟨s0, s1, s2, s3, s4, s5⟩ := hSw
            go_simp
          simp only [Act.put, List.setIfInBounds_toArray, List.set_cons_zero, List.set_cons_succ]
          refine wpAnyH_ready (rs := [15, 16]) (by kernel_rfl) (by decide) (AllReadyH.cons rfl (fun K hK => ?_) (AllReadyH.cons rfl (fun K hK => ?_) AllReadyH.nil))
          · rw [if_pos (by kernel_rfl)]
            go_simp
            refine (declare_s _ _ 13 k 13 rfl false W1.drew HM1D.out).mono ?_
            rintro e W3 ⟨code, pl, rfl, hx3, hd3, hm3⟩
            have hxW : Exc b W1.heap.size W1 W3 := exc_drew hx3
            obtain ⟨k0, k1, k2, k3, k4, k5⟩ := HCC.out W3 hxW
            have HD3 := Lib.hid hd3
            have HM3 := Lib.hid hm3
            have hxs3 := hxW.size
            clear hd3 hm3
            refine hK.out _ _ (by first | exact ⟨k0, k1, k2, k3, k4, k5⟩ | go_keep) (fun hS => ?_)
            clear hK K
            refine wpAnyH_ready (rs := [16]) (by kernel_rfl) (by decide) (AllReadyH.cons rfl (fun K hK => ?_) AllReadyH.nil)
            rw [if_pos (by kernel_rfl)]
            go_simp
            refine hK.out _ _ (by first | exact ⟨(World.cell?_alloc_lt _ _ _ (by show wr.heap.size < _; omega)).trans k0, (World.cell?_alloc_lt _ _ _ (by show wr.heap.size < _; omega)).trans k1, (World.cell?_alloc_lt _ _ _ (by show wr.heap.size < _; omega)).trans k2, (World.cell?_alloc_lt _ _ _ (by show wr.heap.size + 1 < _; omega)).trans k3, (World.cell?_alloc_lt _ _ _ (by show wr.heap.size + 1 < _; omega)).trans k4, (World.cell?_alloc_lt _ _ _ (by show wr.heap.size + 1 < _; omega)).trans k5⟩ | go_keep) (fun hS => ?_)
            clear hK K
            refine wpAnyH_ready (rs := [17]) (by kernel_rfl) (by decide) (AllReadyH.cons rfl (fun K hK => ?_) AllReadyH.nil)
            rw [if_pos (by kernel_rfl)]
            go_simp
            refine hK.out _ _ (by first | exact ⟨(World.cell?_alloc_lt _ _ _ (by show wr.heap.size < _; omega)).trans k0, (World.cell?_alloc_lt _ _ _ (by show wr.heap.size < _; omega)).trans k1, (World.cell?_alloc_lt _ _ _ (by show wr.heap.size < _; omega)).trans k2, (World.cell?_alloc_lt _ _ _ (by show wr.heap.size + 1 < _; omega)).trans k3, (World.cell?_alloc_lt _ _ _ (by show wr.heap.size + 1 < _; omega)).trans k4, (World.cell?_alloc_lt _ _ _ (by show wr.heap.size + 1 < _; omega)).trans k5⟩ | go_keep) (fun hS => ?_)
            clear hK K
            refine wpAnyH_done (by kernel_rfl) ?_ _
            simp only [Exit.then]
            go_wp2_with fail
            go_meet
            case rel => exact ⟨false, HC.out, by first | exact dec_late hxW HD3.out HM3.out | exact dec_early hxW hbW HG.out HD3.out HM3.out⟩
          · rw [if_pos (by kernel_rfl)]
            go_simp
            refine hK.out _ _ (by first | exact ⟨(World.cell?_alloc_lt _ _ _ (by show wr.heap.size < _; omega)).trans y0, (World.cell?_alloc_lt _ _ _ (by show wr.heap.size < _; omega)).trans y1, (World.cell?_alloc_lt _ _ _ (by show wr.heap.size < _; omega)).trans y2, (World.cell?_alloc_lt _ _ _ (by show wr.heap.size + 1 < _; omega)).trans t0, (World.cell?_alloc_lt _ _ _ (by show wr.heap.size + 1 < _; omega)).trans t1, (World.cell?_alloc_lt _ _ _ (by show wr.heap.size + 1 < _; omega)).trans t2⟩ | go_keep) (fun hS => ?_)
            clear hK K
            refine wpAnyH_ready (rs := [15]) (by kernel_rfl) (by decide) (AllReadyH.cons rfl (fun K hK => ?_) AllReadyH.nil)
            rw [if_pos (by kernel_rfl)]
            go_simp
            refine (declare_s _ _ 13 k 13 rfl false (W1.alloc (.cells #[.int .i64 0, .int .i64 0] 125)).drew HM1AD.out).mono ?_
            rintro e W3 ⟨code, pl, rfl, hx3, hd3, hm3⟩
            have hxW : Exc b W1.heap.size W1 W3 := exc_alloc (exc_drew hx3)
            obtain ⟨k0, k1, k2, k3, k4, k5⟩ := HCC.out W3 hxW
            have HD3 := Lib.hid hd3
            have HM3 := Lib.hid hm3
            have hG := exc_alloc_blk (exc_drew hx3) hbW
            have HG := Lib.hid hG
            obtain ⟨_, g0, g1, g2, g3⟩ := blk2 hG
            clear hG hd3 hm3
            refine hK.out _ _ (by first | exact ⟨k0, k1, k2, k3, k4, k5⟩ | go_keep) (fun hS => ?_)
            clear hK K
            refine wpAnyH_ready (rs := [17]) (by kernel_rfl) (by decide) (AllReadyH.cons rfl (fun K hK => ?_) AllReadyH.nil)
            rw [if_pos (by kernel_rfl)]
            go_simp
            refine hK.out _ _ (by first | exact ⟨keep2 k0 hn4, keep2 k1 hn4, keep2 k2 hn4, keep2 k3 hn5, keep2 k4 hn5, keep2 k5 hn5⟩ | go_keep) (fun hS => ?_)
            clear hK K
            refine wpAnyH_done (by kernel_rfl) ?_ _
            simp only [Exit.then]
            go_wp2_with fail
            go_meet
            case rel => exact ⟨false, HC.out, by first | exact dec_late hxW HD3.out HM3.out | exact dec_early hxW hbW HG.out HD3.out HM3.out⟩
      case rest =>
        obtain ⟨few, hfw, hi, T6, code, pl, ht, hT6, hF6, hx6, hds, hms⟩ := hcut
        subst hi ht
        have hw1 := HB1.out.size
        have hT4 : wr.heap.size + 1 < W1.heap.size := blk_lt HQ5.out
        have HX6 := Lib.hid ((HX.out.trans (.of_below (HB1.out.mono hxs))).trans (.of_exc2 (hx6.mono (by omega : w.heap.size ≤ W1.heap.size))))
        have HR6 := Lib.hid (blk_exc (blk_below HR.out HB1.out (blk_lt HR.out)) hx6 (by omega) (by omega : w.heap.size ≠ b))
        have hq6 := blk_exc HQ4.out hx6 (by omega) (by omega)
        have HROW6 := Lib.hid ((Ex2.of_exc2 (R := M) (S := b) hx6).rowB (row_keep HB1.out HROWS.out) (by omega) (by omega))
        have HMB6 := Lib.hid (blk_exc HM1.out.blk hx6 (by omega) HM1.out.ne)
        have HQ6 := Lib.hid hq6
        have HF6 := Lib.hid hF6
        have hT6l := blk_lt hF6
        have hwc := hx6.size
        clear hx6 y0 y1 y2 t0 t1 t2 HM1D HM1A HM1AD HCC hn4 hn5
        obtain ⟨_, f0, f1, _⟩ := blk2 hF6
        obtain ⟨_, r0, r1, p0, p1⟩ := blk2 HR6.out
        obtain ⟨_, y0, y1, y2, _⟩ := blk3 hq6
        clear hF6 hq6
        rcases hds with ⟨rfl, hl, rfl⟩ | ⟨rfl, hl, rfl, rfl⟩ | ⟨rfl, hl, rfl⟩
        · have HS1 : Hid (recsM 0 m0 (xs.map Prod.fst) = .no 13 q.place) := Lib.hid (by rw [HST.out, recM_13 hl]; rfl)
          clear hl hfw hms
          go_wp2
          refine post_gen (fun Wf => Wf.heap[w.heap.size]? = some (.cells #[.int .i64 13, .int .i64 q.place] 125 (0, 0)) ∧ Ex2 M b w.heap.size w Wf) ⟨blk_set2 HR6.out _ _, (HX6.out.setCell (p := ⟨w.heap.size, 0, none⟩) (.inr (.inr (Nat.le_refl _))) _).setCell (p := ⟨w.heap.size, 1, none⟩) (.inr (.inr (Nat.le_refl _))) _⟩ ?_
          rintro Wf ⟨e1, e2⟩
          obtain ⟨_, c0, c1, _⟩ := blk2 e1
          exact bodyPost_ret (v := .agg #[.int .i64 13, .int .i64 q.place]) (by simp [results, Tryz.results122, go_sem, c0, c1]) rfl (st_fault HS1.out e2)
        · have HS1 : Hid (recsM 0 m0 (xs.map Prod.fst) = .no 16 q.place) := Lib.hid (by rw [HST.out, recM_16 hl hfw]; rfl)
          clear hl hfw hms
          go_wp2
          refine post_gen (fun Wf => Wf.heap[w.heap.size]? = some (.cells #[.int .i64 16, .int .i64 q.place] 125 (0, 0)) ∧ Ex2 M b w.heap.size w Wf) ⟨blk_set2 HR6.out _ _, (HX6.out.setCell (p := ⟨w.heap.size, 0, none⟩) (.inr (.inr (Nat.le_refl _))) _).setCell (p := ⟨w.heap.size, 1, none⟩) (.inr (.inr (Nat.le_refl _))) _⟩ ?_
          rintro Wf ⟨e1, e2⟩
          obtain ⟨_, c0, c1, _⟩ := blk2 e1
          exact bodyPost_ret (v := .agg #[.int .i64 16, .int .i64 q.place]) (by simp [results, Tryz.results122, go_sem, c0, c1]) rfl (st_fault HS1.out e2)
        · have HL := Lib.hid hl
          have HFW := Lib.hid hfw
          have HMS := Lib.hid (hms rfl)
          clear hl hfw hms
          go_wp2_with fail
          refine (again_fld q.fields _ rb _ (HN.out _ HX6.out)).mono ?_
          rintro e W5 ⟨rfl, hb5⟩
          have HX7 := Lib.hid (HX6.out.trans (.of_below (hb5.mono (by omega))))
          have HR7 := Lib.hid (blk_below HR6.out hb5 (blk_lt HR6.out))
          have hq7 := blk_below HQ6.out hb5 (blk_lt HQ6.out)
          have HROW7 := Lib.hid (row_keep hb5 HROW6.out)
          have HMB7 := Lib.hid (blk_below HMB6.out hb5 (blk_lt HMB6.out))
          have HMP7 := Lib.hid (HMS.out.below hb5 HMS.out.lt)
          have hw5 := hb5.size
          clear f0 f1 r0 r1 p0 p1 y0 y1 y2 hb5 HX6 HR6 HQ6 HROW6 HMB6 HMS HF6
          obtain ⟨_, r0, r1, p0, p1⟩ := blk2 HR7.out
          obtain ⟨_, y0, y1, y2, _⟩ := blk3 hq7
          have HQ7 := Lib.hid hq7
          clear hq7
          cases hd : dup (q.fields.map fldT) with
          | some j =>
            have hj : j < q.fields.length := by have := dup_lt hd; simpa using this
            obtain ⟨gn, cn, hvn, hcn, hgn, hcelln⟩ := row_el fieldCells 8 (fun _ => rfl) (HN.out _ HX7.out) j hj
            obtain ⟨rfl, rfl⟩ := slice_inj hvn
            have x2 : W5.cell? ⟨gn, j * 8 + 1, none⟩ = some (.int .i64 q.fields[j].place) := hcelln 1 (by omega)
            have hst := recM_dup HL.out HFW.out hd hj
            generalize q.fields[j].place = pj at *
            have HCD := Lib.hid hst
            have hji : (j : Int) < q.fields.length := by omega
            clear hd hvn hcelln hst
            simp only [dupI]
            have HS1 : Hid (recsM 0 m0 (xs.map Prod.fst) = .no 13 pj) := Lib.hid (by rw [HST.out, HCD.out]; rfl)
            go_wp2
            refine post_gen (fun Wf => Wf.heap[w.heap.size]? = some (.cells #[.int .i64 13, .int .i64 pj] 125 (0, 0)) ∧ Ex2 M b w.heap.size w Wf) ⟨blk_set2 HR7.out _ _, (HX7.out.setCell (p := ⟨w.heap.size, 0, none⟩) (.inr (.inr (Nat.le_refl _))) _).setCell (p := ⟨w.heap.size, 1, none⟩) (.inr (.inr (Nat.le_refl _))) _⟩ ?_
            rintro Wf ⟨e1, e2⟩
            obtain ⟨_, c0, c1, _⟩ := blk2 e1
            exact bodyPost_ret (v := .agg #[.int .i64 13, .int .i64 pj]) (by simp [results, Tryz.results122, go_sem, c0, c1]) rfl (st_fault HS1.out e2)
          | none =>
            have HST7 := Lib.hid (HST.out.trans (by rw [recM_ok HL.out HFW.out hd, mbind_ok]))
            clear hd
            simp only [dupI]
            obtain ⟨hM5, z0, z1, z2, z3, z4, z5, z6, zf⟩ := maker_cells HMB7.out
            obtain ⟨ssa, ssc, rfl⟩ := ownsRow_form HROW7.out
            obtain ⟨i0, hi0, hzz0, hzz1, hzz2⟩ := info_parts srec_info
            have I1 := Lib.hid hi0
            have I2 := Lib.hid hzz0
            have I3 := Lib.hid hzz1
            have I4 := Lib.hid hzz2
            have HTS := Lib.hid (show (strOfNums q.name).size ≤ 281474976710656 by rw [strOfNums_size]; omega)
            have hk16 : k < 16 := (of_decide_eq_true HFW.out.symm).1
            have hT45 : wr.heap.size < W5.heap.size := blk_lt HQ7.out
            clear hi0 hzz0 hzz1 hzz2 r0 r1 p0 p1
            go_upto_region 11 with (fail)
            refine wp_region_noPanic ?_
            go_region_law (first | (go_simp; go_at_call 163; (with_reducible refine (clone_any (strOfNums q.name) W5.drew HTS.out).mono ?_); rintro e Wc ⟨rfl, hbc⟩; have hBC : Below W5.heap.size W5 Wc := drew_below hbc; have HBC := Lib.hid hBC; obtain ⟨_, q0, q1, q2, q3, q4, q5, q6, k4, k5, k6⟩ := maker_cells (blk_below HMB7.out hBC hM5); obtain ⟨_, n0, n1, n2, _⟩ := blk3 (blk_below HQ7.out hBC hT45); clear hbc hBC) | (refine step_append_lies _ rfl (.tmp 58) (.tmp 63) 27 rfl (w.heap.size + 1) 67 i0 _ 2 40 Tryz.underlying27 I1.out I2.out I3.out I4.out rfl (by decide) _ k (srecsCells ((xs.take k).map rec0p)) rfl (row_keep (HBC.out.alloc HBC.out.size _) HROW7.out) _ 1 1 [.string (strOfNums q.name), .slice none 0 0] rfl rfl (World.news_of_block (heap_alloc_new _ _)) (by intro u hu; simp at hu; rcases hu with rfl | rfl <;> rfl) (by decide) (by unfold maxLen; omega) (by omega) (by simp; omega) _ rfl ?_; rintro g4 c4 W8 hown4 hg4 hat4 hlt4; obtain ⟨s4, s5, s6, s7, s8⟩ := st_more hMw hbw hMb HX7.out HR7.out HROW7.out HMB7.out HMP7.out (HBC.out.alloc HBC.out.size _) hg4 hown4; obtain ⟨_, d0, d1, d2, d3, d4, d5, d6, e4, e5, e6⟩ := maker_cells s4; have S5 := Lib.hid s5; have S6 := Lib.hid s6; have S7 := Lib.hid s7; have S8 := Lib.hid s8; clear s4 s5 s6 s7 s8 hown4 hg4 hat4))
            all_goals
              refine NoPanic.normal ?_
              simp only [Exit.inBlock, Exit.then]
              apply_assumption
              go_wp2
              refine ⟨⟨k + 1, _, _, by omega, ⟨rfl, rfl, rfl, rfl, rfl, rfl, rfl⟩, S5.out, S6.out, S7.out, by rw [HSN.out, srecsCells_snoc]; exact S8.out, HST7.out⟩, ?_⟩
              show xs.length - (intOf (.int .i64 ((k : Int) + 1))).toNat < xs.length - (intOf (.int .i64 (k : Int))).toNat
              simp [intOf]; omega
    · obtain rfl : k = xs.length := by omega
      have HD : Hid (recsM 0 m0 (xs.map Prod.fst) = .ok m) := Lib.hid (by rw [hch, List.drop_length]; rfl)
      have HM := Lib.hid hM
      have HX := Lib.hid hx
      have HR := Lib.hid hR
      have HROWS := Lib.hid hrows
      have hxs := hx.size
      obtain ⟨_, r0, r1, p0, p1⟩ := blk2 hR
      clear hM hx hR hrows hch hkl
      go_wp2
      refine post_gen (fun Wf => Wf.heap[w.heap.size]? = some (.cells #[.int .i64 0, .int .i64 0] 125 (0, 0)) ∧ Ex2 M b w.heap.size w Wf ∧ MAt Wf M b (.slice sva xs.length svc) ev rv m ssv esv root ∧ Wf.ownsRow w.heap.size 67 2 ssv xs.length (srecsCells (xs.map rec0p))) ⟨blk_set2 HR.out _ _, (HX.out.setCell (p := ⟨w.heap.size, 0, none⟩) (.inr (.inr (Nat.le_refl _))) _).setCell (p := ⟨w.heap.size, 1, none⟩) (.inr (.inr (Nat.le_refl _))) _, ?_, ?_⟩ ?_
      · exact ⟨blk_set_ne (blk_set_ne HM.out.blk (by show w.heap.size ≠ M; omega) _) (by show w.heap.size ≠ M; omega) _, (HM.out.map.setCell (p := ⟨w.heap.size, 0, none⟩) (by show w.heap.size ≠ b; omega) _).setCell (p := ⟨w.heap.size, 1, none⟩) (by show w.heap.size ≠ b; omega) _, HM.out.ne⟩
      · have h := HROWS.out
        rw [List.take_length] at h
        exact ownsRow_base (ownsRow_setCell_below (ownsRow_setCell_below h (Nat.lt_succ_self _) _) (Nat.lt_succ_self _) _) (Nat.le_succ _)
      · rintro Wf ⟨e1, e2, e3, e4⟩
        obtain ⟨_, c0, c1, _⟩ := blk2 e1
        exact bodyPost_ret (v := .agg #[.int .i64 0, .int .i64 0]) (by simp [results, Tryz.results122, go_sem, c0, c1]) rfl (by unfold StPost; rw [HD.out]; exact ⟨e2, rfl, ssv, e3, e4⟩)
end Go.Proofs.YtgbcchiheddfpaaGreatDoor
