/-
  The document's own def: the number that a token says as a type's default. Conditions: those that each theorem names.
-/
import Derived.Test.YtleclhnlojalbaaGreatDoorPkL1
import Derived.Test.YtleclhnlojalbaaGreatDoorPkL8
import Derived.Test.YtleclhnlojalbaaGreatDoorPkL15
import Derived.Test.YtleclhnlojalbaaGreatDoorPkL25
import Derived.Deep.QuietTactic
import Derived.BigQuiet
import Derived.Deep.Cut
import Derived.Deep.RegionHeld3
namespace Go.Proofs.YtleclhnlojalbaaGreatDoor
open Go.ChangeShapes Go.WideShapes Go.ChangeAt Go.RowKit Go.Shelf

def choNms (re : List (RCho × Value)) : List ByteArray := (re.map Prod.fst).map choNm
def recNms (rs : List (RRec × Value)) : List ByteArray := (rs.map Prod.fst).map recNm
theorem choNms_len (re : List (RCho × Value)) : (choNms re).length = re.length := by simp [choNms]
theorem recNms_len (rs : List (RRec × Value)) : (recNms rs).length = rs.length := by simp [recNms]
theorem choNms_at (re : List (RCho × Value)) (k : Nat) (hk : k < re.length) : (choNms re)[k]'(by rw [choNms_len]; exact hk) = strOfNums re[k].1.name := by simp [choNms, choNm]
theorem recNms_at (rs : List (RRec × Value)) (k : Nat) (hk : k < rs.length) : (recNms rs)[k]'(by rw [recNms_len]; exact hk) = strOfNums rs[k].1.name := by simp [recNms, recNm]
theorem tri_blk (w : World) (a b c : Array Value) (s t u : TypeId) : Below w.heap.size w (((w.alloc (.cells a s)).alloc (.cells b t)).alloc (.cells c u)) ∧ (((w.alloc (.cells a s)).alloc (.cells b t)).alloc (.cells c u)).heap[w.heap.size]? = some (.cells a s (0, 0)) ∧
    (((w.alloc (.cells a s)).alloc (.cells b t)).alloc (.cells c u)).heap[w.heap.size + 1]? = some (.cells b t (0, 0)) ∧ (((w.alloc (.cells a s)).alloc (.cells b t)).alloc (.cells c u)).heap[w.heap.size + 2]? = some (.cells c u (0, 0)) := by
  have h2 : ((w.alloc (.cells a s)).alloc (.cells b t)).heap[w.heap.size + 1]? = some (.cells b t (0, 0)) := by
    have := heap_alloc_new (w.alloc (.cells a s)) (.cells b t)
    rwa [World.size_alloc] at this
  have h3 := heap_alloc_new ((w.alloc (.cells a s)).alloc (.cells b t)) (.cells c u)
  have hb : Below w.heap.size w ((w.alloc (.cells a s)).alloc (.cells b t)) := ((Below.refl _ _).alloc (Nat.le_refl _) _).alloc (by simp) _
  refine ⟨hb.alloc hb.size _, blk_alloc (blk_alloc (heap_alloc_new w _) _) _, blk_alloc h2 _, by simpa using h3⟩
def kindRes : Option (Nat × Nat) → Nat → Value
  | some q, ls => .tuple #[.agg #[.int .u8 (q.1 : Nat), .int .i64 (q.2 : Nat), .int .i64 (ls : Nat)], .bool true]
  | none, _ => .tuple #[.agg #[.int .u8 0, .int .i64 0, .int .i64 0], .bool false]
theorem kindD_basic {es ss : List ByteArray} {s : ByteArray} (h : basicK s ≠ 0) : kindD es ss s = some (basicK s, 0) := by rw [kindD, if_pos h]
theorem kindD_enum {es ss : List ByteArray} {s : ByteArray} {k : Nat} (h : basicK s = 0) (hi : idx es s = some k) : kindD es ss s = some (10, k) := by rw [kindD, if_neg (fun e => e h), hi]
theorem kindD_rec {es ss : List ByteArray} {s : ByteArray} {k : Nat} (h : basicK s = 0) (hi : idx es s = none) (hj : idx ss s = some k) : kindD es ss s = some (13, k) := by rw [kindD, if_neg (fun e => e h), hi, hj]
theorem kindD_none {es ss : List ByteArray} {s : ByteArray} (h : basicK s = 0) (hi : idx es s = none) (hj : idx ss s = none) : kindD es ss s = none := by rw [kindD, if_neg (fun e => e h), hi, hj]
theorem kd_end {w W : World} {g : Nat} {a b c : Value} {t : TypeId} (h : W.heap[g]? = some (.cells #[a, b, c] t (0, 0))) (hb : Below w.heap.size w W) (hg : w.heap.size ≤ g) (x y z : Value) :
    (((W.setCell ⟨g, 0, none⟩ x).setCell ⟨g, 1, none⟩ y).setCell ⟨g, 2, none⟩ z).heap[g]? = some (.cells #[x, y, z] t (0, 0)) ∧ Below w.heap.size w (((W.setCell ⟨g, 0, none⟩ x).setCell ⟨g, 1, none⟩ y).setCell ⟨g, 2, none⟩ z) :=
  ⟨blk_set3 h _ _ _, ((hb.setCell (p := ⟨g, 0, none⟩) hg x).setCell (p := ⟨g, 1, none⟩) hg y).setCell (p := ⟨g, 2, none⟩) hg z⟩
set_option maxRecDepth 100000 in
set_option maxHeartbeats 4000000 in
theorem rkind_any (w : World) {rb : Nat} {rs : List (RRec × Value)} {re : List (RCho × Value)} {rt : List Tok} {sv ev rv : Value} (h : RawRows rb w rs re rt sv ev rv) (y : RTy) :
    Calls Tryz.prog 66 #[.agg #[sv, ev, rv], .agg #[.string (strOfNums y.name), .int .i64 y.lists, .int .i64 y.place]] w fun e w' => e = .returned (kindRes (kindD (choNms re) (recNms rs) (strOfNums y.name)) y.lists) ∧ Below w.heap.size w w' := by
  obtain ⟨hb, hq0, hq1, hq2⟩ := tri_blk w #[sv, ev, rv] #[.string (strOfNums y.name), .int .i64 y.lists, .int .i64 y.place] #[.int .u8 0, .int .i64 0, .int .i64 0] 69 133 53
  have hf1 := row_few h.structs
  have hf2 := row_few h.enums
  obtain ⟨r, hr⟩ : ∃ r, kindD (choNms re) (recNms rs) (strOfNums y.name) = r := ⟨_, rfl⟩
  rw [hr]
  generalize hs : strOfNums y.name = s at *
  have HR := Lib.hid hr
  have HRAW := Lib.hid (h.below hb)
  have HB := Lib.hid hb
  have HQ0 := Lib.hid hq0
  have HQ1 := Lib.hid hq1
  have HQ2 := Lib.hid hq2
  obtain ⟨sa, sc, ea, ec, ra, rc, rfl, rfl, rfl⟩ := h.forms
  clear h hb hq0 hq1 hq2 hr hs
  go_enter Tryz.func66, Tryz.ntmps66
  go_upto_region 1 with (fail)
  generalize (((w.alloc (.cells #[.slice sa rs.length sc, .slice ea re.length ec, .slice ra rt.length rc] 69)).alloc (.cells #[.string s, .int .i64 y.lists, .int .i64 y.place] 133)).alloc (.cells #[.int .u8 0, .int .i64 0, .int .i64 0] 53)) = W0 at *
  obtain ⟨_, y0, _⟩ := blk3 HQ1.out
  go_wp2_with fail
  refine (rbasic_any s W0).mono ?_
  rintro e W1 ⟨rfl, hb1⟩
  have HB1 := Lib.hid (HB.out.trans (hb1.mono HB.out.size))
  have HRAW1 := Lib.hid (HRAW.out.below hb1)
  have HP0 := Lib.hid (blk_below HQ0.out hb1 (blk_lt HQ0.out))
  have HP1 := Lib.hid (blk_below HQ1.out hb1 (blk_lt HQ1.out))
  have HP2 := Lib.hid (blk_below HQ2.out hb1 (blk_lt HQ2.out))
  clear hb1 y0 HRAW HQ0 HQ1 HQ2 HB
  by_cases hk : basicK s = 0
  · rw [hk]
    have HK := Lib.hid hk
    clear hk
    go_wp2
    go_loopw [7] (fun i wr => Below W1.heap.size W1 wr ∧ ∃ k : Nat, k ≤ re.length ∧ i = .int .i64 k ∧ hasS ((choNms re).take k) s = false) (fun i _ => re.length - (intOf i).toNat)
    case atStart => exact ⟨Below.refl _ _, 0, Nat.zero_le _, rfl, rfl⟩
    case round =>
      obtain ⟨hb, k, hkl, rfl, hi⟩ := hrel
      have HB2 := Lib.hid (HB1.out.trans (hb.mono HB1.out.size))
      have HBW := Lib.hid hb
      obtain ⟨_, p0, p1, _⟩ := blk3 (blk_below HP0.out hb (blk_lt HP0.out))
      obtain ⟨_, q0, q1, _⟩ := blk3 (blk_below HP1.out hb (blk_lt HP1.out))
      have HP2' := Lib.hid (blk_below HP2.out hb (blk_lt HP2.out))
      obtain ⟨hTl, _, _, _, f0, f1, f2⟩ := blk3 HP2'.out
      clear hb
      by_cases hlt : k < re.length
      · obtain ⟨g, c, hv, hc, hg, hcell⟩ := row_el choCells 3 (fun _ => rfl) (HRAW1.out.below HBW.out).enums k hlt
        obtain ⟨rfl, rfl⟩ := slice_inj hv
        have x0 : wr.cell? ⟨g, k * 3, none⟩ = some (.string (strOfNums re[k].1.name)) := hcell 0 (by omega)
        have hst := has_take_succ (choNms re) s k (by rw [choNms_len]; exact hlt)
        have HD := Lib.hid (idx_at (choNms re) s k (by rw [choNms_len]; exact hlt) hi)
        rw [choNms_at re k hlt] at hst HD
        generalize strOfNums re[k].1.name = q at *
        have hki : (k : Int) < re.length := by omega
        by_cases hq : q = s
        · have HE := Lib.hid (HR.out.symm.trans (kindD_enum HK.out (HD.out hq)))
          have t3 : (q.toList == s.toList) = true := ba_yes hq
          clear hq hi hst hcell hv
          go_wp2_with fail
          go_quiet (fail)
          go_wp2_with fail
          refine post_gen (fun Wf => Wf.heap[w.heap.size + 2]? = some (.cells #[.int .u8 10, .int .i64 k, .int .i64 y.lists] 53 (0, 0)) ∧ Below w.heap.size w Wf) (kd_end (blk_below HP2'.out (bel_drewN (Below.refl _ _) nq) (blk_lt HP2'.out)) (bel_drewN HB2.out nq) (Nat.le_add_right _ _) _ _ _) ?_
          rintro Wf ⟨e1, e2⟩
          obtain ⟨_, c0, c1, c2, _⟩ := blk3 e1
          exact bodyPost_ret (v := .tuple #[.agg #[.int .u8 10, .int .i64 k, .int .i64 y.lists], .bool true]) (by simp [results, Tryz.results66, go_sem, c0, c1, c2]) rfl ⟨by rw [HE.out]; rfl, e2⟩
        · have HI := Lib.hid (show hasS ((choNms re).take (k + 1)) s = false by rw [hst, hi, Bool.false_or]; exact decide_eq_false fun e => hq e.symm)
          have t3 : (q.toList == s.toList) = false := ba_no hq
          clear hq hi hst hcell hv
          go_wp2_with fail
          go_quiet (fail)
          go_wp2_with fail
          go_roundw
          case rel => exact ⟨bel_drewN HBW.out _, k + 1, by omega, by go_num, HI.out⟩
          case measure => simp [intOf]; omega
      · obtain rfl : k = re.length := by omega
        have HN10 := Lib.hid (idx_no (choNms re) s (by rw [← hi, ← choNms_len, List.take_length]))
        clear hi
        have HBX := HBW
        clear HB2 HBW HP2'
        go_wp2
        clear p0 p1 q0 q1 f0 f1 f2 hTl
        go_loopw [8] (fun i wr => Below W1.heap.size W1 wr ∧ ∃ k : Nat, k ≤ rs.length ∧ i = .int .i64 k ∧ hasS ((recNms rs).take k) s = false) (fun i _ => rs.length - (intOf i).toNat)
        case atStart => exact ⟨HBX.out, 0, Nat.zero_le _, rfl, rfl⟩
        case round =>
          obtain ⟨hb, k, hkl, rfl, hi⟩ := hrel
          have HB2 := Lib.hid (HB1.out.trans (hb.mono HB1.out.size))
          have HBW := Lib.hid hb
          obtain ⟨_, p0, p1, _⟩ := blk3 (blk_below HP0.out hb (blk_lt HP0.out))
          obtain ⟨_, q0, q1, _⟩ := blk3 (blk_below HP1.out hb (blk_lt HP1.out))
          have HP2' := Lib.hid (blk_below HP2.out hb (blk_lt HP2.out))
          obtain ⟨hTl, _, _, _, f0, f1, f2⟩ := blk3 HP2'.out
          clear hb
          by_cases hlt : k < rs.length
          · obtain ⟨g, c, hv, hc, hg, hcell⟩ := row_el recCells 3 (fun _ => rfl) (HRAW1.out.below HBW.out).structs k hlt
            obtain ⟨rfl, rfl⟩ := slice_inj hv
            have x0 : wr.cell? ⟨g, k * 3, none⟩ = some (.string (strOfNums rs[k].1.name)) := hcell 0 (by omega)
            have hst := has_take_succ (recNms rs) s k (by rw [recNms_len]; exact hlt)
            have HD := Lib.hid (idx_at (recNms rs) s k (by rw [recNms_len]; exact hlt) hi)
            rw [recNms_at rs k hlt] at hst HD
            generalize strOfNums rs[k].1.name = q at *
            have hki : (k : Int) < rs.length := by omega
            by_cases hq : q = s
            · have HE := Lib.hid (HR.out.symm.trans (kindD_rec HK.out HN10.out (HD.out hq)))
              have t3 : (q.toList == s.toList) = true := ba_yes hq
              clear hq hi hst hcell hv
              go_wp2_with fail
              go_quiet (fail)
              go_wp2_with fail
              refine post_gen (fun Wf => Wf.heap[w.heap.size + 2]? = some (.cells #[.int .u8 13, .int .i64 k, .int .i64 y.lists] 53 (0, 0)) ∧ Below w.heap.size w Wf) (kd_end (blk_below HP2'.out (bel_drewN (Below.refl _ _) nq) (blk_lt HP2'.out)) (bel_drewN HB2.out nq) (Nat.le_add_right _ _) _ _ _) ?_
              rintro Wf ⟨e1, e2⟩
              obtain ⟨_, c0, c1, c2, _⟩ := blk3 e1
              exact bodyPost_ret (v := .tuple #[.agg #[.int .u8 13, .int .i64 k, .int .i64 y.lists], .bool true]) (by simp [results, Tryz.results66, go_sem, c0, c1, c2]) rfl ⟨by rw [HE.out]; rfl, e2⟩
            · have HI := Lib.hid (show hasS ((recNms rs).take (k + 1)) s = false by rw [hst, hi, Bool.false_or]; exact decide_eq_false fun e => hq e.symm)
              have t3 : (q.toList == s.toList) = false := ba_no hq
              clear hq hi hst hcell hv
              go_wp2_with fail
              go_quiet (fail)
              go_wp2_with fail
              go_roundw
              case rel => exact ⟨bel_drewN HBW.out _, k + 1, by omega, by go_num, HI.out⟩
              case measure => simp [intOf]; omega
          · obtain rfl : k = rs.length := by omega
            have HN13 := Lib.hid (idx_no (recNms rs) s (by rw [← hi, ← recNms_len, List.take_length]))
            clear hi
            have HE := Lib.hid (HR.out.symm.trans (kindD_none HK.out HN10.out HN13.out))
            go_wp2
            refine post_gen (fun Wf => Wf.heap[w.heap.size + 2]? = some (.cells #[.int .u8 0, .int .i64 0, .int .i64 0] 53 (0, 0)) ∧ Below w.heap.size w Wf) (kd_end HP2'.out HB2.out (Nat.le_add_right _ _) _ _ _) ?_
            rintro Wf ⟨e1, e2⟩
            obtain ⟨_, c0, c1, c2, _⟩ := blk3 e1
            exact bodyPost_ret (v := .tuple #[.agg #[.int .u8 0, .int .i64 0, .int .i64 0], .bool false]) (by simp [results, Tryz.results66, go_sem, c0, c1, c2]) rfl ⟨by rw [HE.out]; rfl, e2⟩
  · have HE := Lib.hid (HR.out.symm.trans (kindD_basic hk))
    have t1 : ((basicK s : Int) == 0) = false := by simp; omega
    have t2 : ((basicK s : Int) != 0) = true := by simp; omega
    obtain ⟨_, q0, q1, _⟩ := blk3 HP1.out
    obtain ⟨hTl, _, _, _, f0, f1, f2⟩ := blk3 HP2.out
    generalize basicK s = kk at *
    clear hk
    go_wp2_with fail
    refine post_gen (fun Wf => Wf.heap[w.heap.size + 2]? = some (.cells #[.int .u8 (kk : Nat), .int .i64 0, .int .i64 y.lists] 53 (0, 0)) ∧ Below w.heap.size w Wf) (kd_end HP2.out HB1.out (Nat.le_add_right _ _) _ _ _) ?_
    rintro Wf ⟨e1, e2⟩
    obtain ⟨_, c0, c1, c2, _⟩ := blk3 e1
    exact bodyPost_ret (v := .tuple #[.agg #[.int .u8 (kk : Nat), .int .i64 0, .int .i64 y.lists], .bool true]) (by simp [results, Tryz.results66, go_sem, c0, c1, c2]) rfl ⟨by rw [HE.out]; rfl, e2⟩
end Go.Proofs.YtleclhnlojalbaaGreatDoor
namespace Go.Proofs.YtleclhnlojalbaaGreatDoor
open Go.ChangeShapes Go.WideShapes Go.ChangeAt Go.RowKit Go.Shelf

def DefPost (r : Option Nat) (w : World) (e : Ending) (w' : World) : Prop := ∃ x : Int, e = .returned (.tuple #[.int .u64 x, .bool r.isSome]) ∧ (∀ n, r = some n → x = n) ∧ Below w.heap.size w w'
theorem def_none {w w' : World} {r : Option Nat} (x : Int) (h : r = none) (hb : Below w.heap.size w w') : DefPost r w (.returned (.tuple #[.int .u64 x, .bool false])) w' := by
  subst h
  exact ⟨x, rfl, fun n hn => (by cases hn), hb⟩
theorem def_some {w w' : World} {r : Option Nat} {x : Int} {n : Nat} (h : r = some n) (hx : x = n) (hb : Below w.heap.size w w') : DefPost r w (.returned (.tuple #[.int .u64 x, .bool true])) w' := by
  subst h
  exact ⟨x, rfl, fun n hn => (by cases hn; exact hx), hb⟩
theorem valueM_not {es : List RCho} {k r ls : Nat} {t : Tok} (h0 : t.kind ≠ 0) (h : isNumP k ls = false) : valueM es k r ls t = none := by
  unfold valueM
  rw [if_neg h0]
  by_cases hl : ls = 0
  · have hk : ¬ 0 < kSize k := by
      intro hk
      rw [isNumP, decide_eq_true hl, decide_eq_true hk] at h
      cases h
    rw [if_neg (fun e => e hl)]
    have h1 : k ≠ 1 := by
      rintro rfl
      exact hk (by decide)
    have h10 : k ≠ 10 := by
      rintro rfl
      exact hk (by decide)
    rw [if_neg h1, if_neg h10]
    split
    · refine numV_bad3 (fun hs => hk ?_)
      omega
    · rfl
  · rw [if_pos hl]
theorem valueM_is {es : List RCho} {k r ls : Nat} {t : Tok} (h0 : t.kind ≠ 0) (h : isNumP k ls = true) :
    valueM es k r ls t = if k = 1 then chooseM t falseTrue else if k = 10 then chooseM t (chosenM es r) else if t.kind = 2 then numV (bts (tokT t)) (kSize k) (kSign k) else none := by
  unfold isNumP at h
  rw [Bool.and_eq_true, decide_eq_true_iff, decide_eq_true_iff] at h
  unfold valueM
  rw [if_neg h0, if_neg (fun e => e h.1)]
theorem list_true : (⟨#[116, 114, 117, 101]⟩ : ByteArray).toList = [116, 114, 117, 101] := by rw [ByteArray.toList_eq]
theorem list_false : (⟨#[102, 97, 108, 115, 101]⟩ : ByteArray).toList = [102, 97, 108, 115, 101] := by rw [ByteArray.toList_eq]
theorem choose_no {t : Tok} {l : List ByteArray} (h : t.kind ≠ 1) : chooseM t l = none := by rw [chooseM, if_neg h]
theorem choose_yes {t : Tok} {l : List ByteArray} (h : t.kind = 1) : chooseM t l = idx l (tokT t) := by rw [chooseM, if_pos h]
set_option maxRecDepth 100000 in
set_option maxHeartbeats 4000000 in
theorem rdef_any (w : World) {rb : Nat} {rs : List (RRec × Value)} {re : List (RCho × Value)} {rt : List Tok} {sv ev rv : Value} (h : RawRows rb w rs re rt sv ev rv) (k r ls : Nat) (t : Tok) (h0 : t.kind ≠ 0) (hk : k ≤ 13) (hr : k = 10 → r < re.length) (hs : (tokT t).size ≤ 281474976710656) :
    Calls Tryz.prog 67 #[.agg #[sv, ev, rv], .agg #[.int .u8 (k : Nat), .int .i64 (r : Nat), .int .i64 (ls : Nat)], .agg #[.int .i64 t.kind, .string (tokT t), .int .i64 t.place]] w (DefPost (valueM (re.map Prod.fst) k r ls t) w) := by
  obtain ⟨hb, hq0, hq1, hq2⟩ := tri_blk w #[sv, ev, rv] #[.int .u8 (k : Nat), .int .i64 (r : Nat), .int .i64 (ls : Nat)] #[.int .i64 t.kind, .string (tokT t), .int .i64 t.place] 69 53 109
  have hf2 := row_few h.enums
  have HNO := Lib.hid (fun h => valueM_not (es := re.map Prod.fst) (k := k) (r := r) (ls := ls) (t := t) h0 h)
  have HIS := Lib.hid (fun h => valueM_is (es := re.map Prod.fst) (k := k) (r := r) (ls := ls) (t := t) h0 h)
  have HC1 := Lib.hid (fun (l : List ByteArray) => choose_no (t := t) (l := l))
  have HC2 := Lib.hid (fun (l : List ByteArray) => choose_yes (t := t) (l := l))
  have HCH := Lib.hid (show k = 10 → ∀ hr : r < re.length, chosenM (re.map Prod.fst) r = re[r].1.names.map tokT from fun _ hr => by
    rw [chosenM, List.getD_eq_getElem?_getD, List.getElem?_map, List.getElem?_eq_getElem hr]; rfl)
  generalize valueM (re.map Prod.fst) k r ls t = res at *
  have HRAW := Lib.hid (h.below hb)
  have HB := Lib.hid hb
  have HQ0 := Lib.hid hq0
  have HQ1 := Lib.hid hq1
  have HQ2 := Lib.hid hq2
  have HRL := Lib.hid hr
  obtain ⟨sa, sc, ea, ec, ra, rc, rfl, rfl, rfl⟩ := h.forms
  generalize tokT t = s at *
  generalize t.kind = tk at *
  clear h hb hq0 hq1 hq2 hr
  go_enter Tryz.func67, Tryz.ntmps67
  go_upto_region 1 with (fail)
  generalize (((w.alloc (.cells #[.slice sa rs.length sc, .slice ea re.length ec, .slice ra rt.length rc] 69)).alloc (.cells #[.int .u8 (k : Nat), .int .i64 (r : Nat), .int .i64 (ls : Nat)] 53)).alloc (.cells #[.int .i64 tk, .string s, .int .i64 t.place] 109)) = W0 at *
  obtain ⟨_, y0, y1, y2, _⟩ := blk3 HQ1.out
  go_wp2_with fail
  refine (isnum_any k r ls W0 (by omega)).mono ?_
  rintro e W1 ⟨rfl, hb1⟩
  have HB1 := Lib.hid (HB.out.trans (hb1.mono HB.out.size))
  have HRAW1 := Lib.hid (HRAW.out.below hb1)
  obtain ⟨_, p0, p1, p2, _⟩ := blk3 (blk_below HQ0.out hb1 (blk_lt HQ0.out))
  obtain ⟨_, q0, q1, q2, _⟩ := blk3 (blk_below HQ1.out hb1 (blk_lt HQ1.out))
  obtain ⟨_, z0, z1, z2, _⟩ := blk3 (blk_below HQ2.out hb1 (blk_lt HQ2.out))
  have HP0 := Lib.hid (blk_below HQ0.out hb1 (blk_lt HQ0.out))
  have HP1 := Lib.hid (blk_below HQ1.out hb1 (blk_lt HQ1.out))
  have HP2 := Lib.hid (blk_below HQ2.out hb1 (blk_lt HQ2.out))
  clear hb1 y0 y1 y2 HRAW HQ0 HQ1 HQ2 HB
  cases hn : isNumP k ls
  · have HE := Lib.hid (HNO.out hn)
    clear hn
    go_wp2
    go_ret2
    exact def_none 0 HE.out HB1.out
  have HV := Lib.hid (HIS.out hn)
  clear hn HNO HIS
  by_cases hk1 : k = 1
  · subst hk1
    have HV1 := Lib.hid (HV.out.trans (if_pos rfl))
    clear HV HCH HRL
    by_cases ht : tk = 1
    · have HV2 := Lib.hid (HV1.out.trans (HC2.out falseTrue ht))
      subst ht
      clear HV1 HC1 HC2
      by_cases hst : s = ⟨#[116, 114, 117, 101]⟩
      · have t1 : (s.toList == [116, 114, 117, 101]) = true := by rw [← list_true]; exact ba_yes hst
        have HE := Lib.hid (show res = some 1 by rw [HV2.out, hst]; rfl)
        clear hst HV2
        go_wp2
        go_ret2
        exact def_some HE.out rfl HB1.out
      · have t1 : (s.toList == [116, 114, 117, 101]) = false := by rw [← list_true]; exact ba_no hst
        by_cases hsf : s = ⟨#[102, 97, 108, 115, 101]⟩
        · have t2 : (s.toList == [102, 97, 108, 115, 101]) = true := by rw [← list_false]; exact ba_yes hsf
          have HE := Lib.hid (show res = some 0 by rw [HV2.out, hsf]; rfl)
          clear hst hsf HV2
          go_wp2_with fail
          go_quiet (fail)
          go_wp2
          go_ret2
          exact def_some HE.out rfl (bel_drewN HB1.out _)
        · have t2 : (s.toList == [102, 97, 108, 115, 101]) = false := by rw [← list_false]; exact ba_no hsf
          have HE := Lib.hid (show res = none by
            rw [HV2.out]
            simp only [falseTrue, idx]
            rw [if_neg (fun e => hsf e.symm), if_neg (fun e => hst e.symm)]
            rfl)
          clear hst hsf HV2
          go_wp2_with fail
          go_quiet (fail)
          go_wp2
          go_ret2
          exact def_none 0 HE.out (bel_drewN HB1.out _)
    · have HE := Lib.hid (HV1.out.trans (HC1.out falseTrue ht))
      have t1 : (tk == 1) = false := by simp; exact ht
      clear ht HV1 HC1 HC2
      go_wp2_with fail
      go_quiet (fail)
      go_wp2
      go_ret2
      exact def_none 0 HE.out (bel_drewN HB1.out _)
  have HV1 := Lib.hid (HV.out.trans (if_neg hk1))
  have t1 : ((k : Int) == 1) = false := by simp; omega
  clear HV
  by_cases hk10 : k = 10
  · have hrl := HRL.out hk10
    have HV2 := Lib.hid (show res = chooseM t (re[r].1.names.map tokT) by rw [HV1.out, if_pos hk10, HCH.out hk10 hrl])
    subst hk10
    clear HV1 HCH HRL
    obtain ⟨g, c, hv, hc, hg, hcell⟩ := row_el choCells 3 (fun _ => rfl) HRAW1.out.enums r hrl
    obtain ⟨rfl, rfl⟩ := slice_inj hv
    have HNM := Lib.hid (HRAW1.out.names _ (List.getElem_mem hrl))
    have x2 : W1.cell? ⟨g, r * 3 + 2, none⟩ = some re[r].2 := hcell 2 (by omega)
    obtain ⟨na, nc, hna⟩ := ownsRow_form HNM.out
    rw [hna] at x2 HNM
    have hnf := row_few HNM.out
    have hgl : g < W1.heap.size := hg
    have hri : (r : Int) < re.length := by omega
    generalize re[r].1.names = L at *
    clear hv hcell hna p0 p1 p2 q0 q1 q2 z0 z1 z2
    have HX2 := Lib.hid x2
    clear x2
    obtain ⟨_, p0, p1, p2, _⟩ := blk3 HP0.out
    obtain ⟨_, q0, q1, q2, _⟩ := blk3 HP1.out
    go_wp2
    clear p0 p1 p2 q0 q1 q2
    go_loopw [8] (fun i wr => Below W1.heap.size W1 wr ∧ ∃ j : Nat, j ≤ L.length ∧ i = .int .i64 j ∧ (tk = 1 → hasS ((L.map tokT).take j) s = false)) (fun i _ => L.length - (intOf i).toNat)
    case atStart => exact ⟨Below.refl _ _, 0, Nat.zero_le _, rfl, fun _ => rfl⟩
    case round =>
      obtain ⟨hb, j, hjl, rfl, hi⟩ := hrel
      have HI := Lib.hid hi
      have HB2 := Lib.hid (HB1.out.trans (hb.mono HB1.out.size))
      have HBW := Lib.hid hb
      obtain ⟨_, p0, p1, p2, _⟩ := blk3 (blk_below HP0.out hb (blk_lt HP0.out))
      obtain ⟨_, q0, q1, q2, _⟩ := blk3 (blk_below HP1.out hb (blk_lt HP1.out))
      obtain ⟨_, z0, z1, z2, _⟩ := blk3 (blk_below HP2.out hb (blk_lt HP2.out))
      have x2 := (hb.cell (p := ⟨g, r * 3 + 2, none⟩) hgl).trans HX2.out
      have HNR := Lib.hid (row_keep hb HNM.out)
      clear hb hi
      by_cases hlt : j < L.length
      · obtain ⟨gn, cn, hvn, hcn, hgn, hcelln⟩ := row_el tokCells 3 (fun _ => rfl) HNR.out j hlt
        obtain ⟨rfl, rfl⟩ := slice_inj hvn
        have y1 : wr.cell? ⟨gn, j * 3 + 1, none⟩ = some (.string (tokT L[j])) := hcelln 1 (by omega)
        have hmj : (L.map tokT)[j]'(by rw [List.length_map]; exact hlt) = tokT L[j] := by rw [List.getElem_map]
        have hst := has_take_succ (L.map tokT) s j (by rw [List.length_map]; exact hlt)
        have HD := Lib.hid (idx_at (L.map tokT) s j (by rw [List.length_map]; exact hlt))
        rw [hmj] at hst HD
        generalize tokT L[j] = q at *
        have hji : (j : Int) < L.length := by omega
        by_cases ht : tk = 1
        · have hi := HI.out ht
          by_cases hq : q = s
          · have HE := Lib.hid (show res = some j by rw [HV2.out, HC2.out _ ht, HD.out hi hq])
            have t3 : (q.toList == s.toList) = true := ba_yes hq
            have hwj : IntKind.u64.wrap (j : Int) = j := IntWalk.u64_in _ (by omega)
            subst ht
            clear hq hi hst hmj hcelln hvn HV2 HC1 HC2 HD HI
            go_wp2_with fail
            go_quiet (fail)
            go_wp2
            go_ret2
            exact def_some HE.out rfl (bel_drewN HB2.out _)
          · have HIN := Lib.hid (show hasS ((L.map tokT).take (j + 1)) s = false by rw [hst, hi, Bool.false_or]; exact decide_eq_false fun e => hq e.symm)
            have t3 : (q.toList == s.toList) = false := ba_no hq
            subst ht
            clear hq hi hst hmj hcelln hvn HD HI
            go_wp2_with fail
            go_quiet (fail)
            go_wp2_with fail
            go_roundw
            case rel => exact ⟨bel_drewN HBW.out _, j + 1, by omega, by go_num, fun _ => HIN.out⟩
            case measure => simp [intOf]; omega
        · have tt : (tk == 1) = false := by simp; exact ht
          have HT := Lib.hid ht
          clear ht hst hmj hcelln hvn HD HI
          go_wp2_with fail
          go_quiet (fail)
          go_wp2_with fail
          go_roundw
          case rel => exact ⟨bel_drewN HBW.out _, j + 1, by omega, by go_num, fun h => absurd h HT.out⟩
          case measure => simp [intOf]; omega
      · obtain rfl : j = L.length := by omega
        have HE : Hid (res = none) := Lib.hid (by
          rw [HV2.out]
          by_cases ht : tk = 1
          · rw [HC2.out _ ht]
            exact idx_no _ _ (by have := HI.out ht; rwa [← List.length_map (f := tokT), List.take_length] at this)
          · exact HC1.out _ ht)
        clear HV2 HC1 HC2 HI
        go_wp2
        go_ret2
        exact def_none 0 HE.out HB2.out
  have HV2 := Lib.hid (HV1.out.trans (if_neg hk10))
  have t10 : ((k : Int) == 10) = false := by simp; omega
  clear HV1 HCH HRL hk1 hk10
  by_cases ht : tk = 2
  · have HE := Lib.hid (HV2.out.trans (if_pos ht))
    subst ht
    have hwk : IntKind.i64.wrap (k : Int) = k := IntWalk.i64_in _ (by omega)
    clear HV2
    go_upto_region 16 with (fail)
    obtain ⟨_, k0, _, _, _⟩ := blk3 HP1.out
    go_region_held3 (fun w' => w'.cell? ⟨w.heap.size + 2, 1, none⟩ = some (.string s) ∧ w'.cell? ⟨w.heap.size + 1, 0, none⟩ = some (.int .u8 (k : Nat))) (first | assumption | go_keep) (first | (go_at_call 62; refine (rsize_any _ _).mono ?_; rintro e W2 ⟨rfl, rfl⟩) | (go_at_call 63; refine (rsign_any _ _).mono ?_; rintro e W2 ⟨rfl, rfl⟩) | (go_at_call 90; refine (rnumber_any s _ _ _ hs).mono ?_; rintro e W3 ⟨x, rfl, hx, rfl⟩))
    all_goals
      go_wp2
      go_ret2
      rw [HE.out]
      first
        | exact ⟨x, rfl, hx, HB1.out⟩
        | exact ⟨x, rfl, hx, HB1.out.drew⟩
        | exact ⟨x, rfl, hx, HB1.out.drew.drew⟩
        | exact ⟨x, rfl, hx, HB1.out.drew.drew.drew⟩
  · have HE := Lib.hid (HV2.out.trans (if_neg ht))
    have t2 : (tk == 2) = false := by simp; exact ht
    clear ht HV2
    go_wp2
    go_ret2
    exact def_none 0 HE.out HB1.out
end Go.Proofs.YtleclhnlojalbaaGreatDoor
