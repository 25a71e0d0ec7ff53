/-
  The hand's Made: of each plan the schema, or false. Conditions: those that each theorem names.
-/
import Derived.Test.YtiknhkkeifemcaaGreatDoorPkN25
namespace Go.Proofs.YtiknhkkeifemcaaGreatDoor
open Go.ChangeShapes Go.WideShapes Go.ChangeAt Go.RowKit Go.Shelf

def MadePost (p : Plan) (w : World) (e : Ending) (w' : World) : Prop :=
  Below w.heap.size w w' ∧ ((planOk p ∧ ∃ ss es sv ev, e = .returned (.tuple #[.agg #[sv, ev, .int .i64 (p.root % p.structs.length : Nat)], .bool true]) ∧ ss.map Prod.fst = recsP p p.structs.length ∧ es.map Prod.fst = chosP p p.enums.length ∧ SchRows w.heap.size w' ss es sv ev) ∨
    (¬ planOk p ∧ e = .returned (.tuple #[.agg #[.slice none 0 0, .slice none 0 0, .int .i64 0], .bool false])))
theorem made_no {p : Plan} {w w' : World} (h : ¬ planOk p) (hb : Below w.heap.size w w') : MadePost p w (.returned (.tuple #[.agg #[.slice none 0 0, .slice none 0 0, .int .i64 0], .bool false])) w' := ⟨hb, .inr ⟨h, rfl⟩⟩
theorem lens_ok {p : Plan} (h1 : 1 ≤ p.structs.length) (h2 : p.structs.length ≤ 16) (h3 : p.enums.length ≤ 8) (h : LensOk p p.structs.length) : planOk p := by
  refine ⟨h1, h2, h3, fun l hl => ?_⟩
  obtain ⟨j, hj, rfl⟩ := List.getElem_of_mem hl
  have := h j hj
  rwa [List.getD, List.getElem?_eq_getElem hj] at this
theorem lens_bad {p : Plan} {j : Nat} (hj : j < p.structs.length) (h : ¬ (1 ≤ (p.structs.getD j []).length ∧ (p.structs.getD j []).length ≤ 16)) : ¬ planOk p := by
  intro ho
  apply h
  rw [List.getD, List.getElem?_eq_getElem hj]
  exact ho.2.2.2 _ (List.getElem_mem hj)
set_option maxRecDepth 100000 in
set_option maxHeartbeats 4000000 in
theorem made_bad (p : Plan) (w : World) {a0 a1 : Option Addr} {n0 e0 n1 c1 : Nat} (hp : IsPlan w p a0 n0 e0 a1 n1 c1) (hg : ¬ (1 ≤ n1 ∧ n1 ≤ 16 ∧ n0 ≤ 8)) :
    Calls Tryz.prog 15 #[.agg #[.slice a0 n0 e0, .slice a1 n1 c1, .int .u8 p.root, .bool p.tree]] w (MadePost p w) := by
  obtain ⟨hb, hz1, hz2⟩ := two_start w #[.slice a0 n0 e0, .slice a1 n1 c1, .int .u8 p.root, .bool p.tree] #[.slice none 0 0, .slice none 0 0, .int .i64 0] 25 30
  have HP := Lib.hid hp
  have HB := Lib.hid hb
  have HZ1 := Lib.hid hz1
  have HZ2 := Lib.hid hz2
  have hrt := hp.rt
  have hcaps : n0 ≤ 9223372036854775807 ∧ n1 ≤ 9223372036854775807 := by
    have h1 := hp.e_cap
    have h2 := hp.s_cap
    unfold maxLen at h1 h2
    omega
  obtain ⟨hn0, hn1⟩ := hcaps
  have y0 := (blk_cell hz1 0).trans rfl
  have y1 := (blk_cell hz1 1).trans rfl
  have y2 := (blk_cell hz1 2).trans rfl
  obtain ⟨_, _, _, _, s0, s1, s2⟩ := blk3 hz2
  clear hp hb hz1 hz2
  have HNO : Hid (¬ planOk p) := Lib.hid (fun ho => hg ⟨by rw [← HP.out.s_len]; exact ho.1, by rw [← HP.out.s_len]; exact ho.2.1, by rw [← HP.out.e_len]; exact ho.2.2.1⟩)
  by_cases g1 : n1 < 1
  · have t1 : decide ((n1 : Int) < 1) = true := decide_eq_true (by omega)
    clear hg
    go_enter Tryz.func15, Tryz.ntmps15
    go_wp2
    refine post_gen (fun Wf => Wf.heap[w.heap.size + 1]? = some (.cells #[.slice none 0 0, .slice none 0 0, .int .i64 0] 30 (0, 0)) ∧ Below w.heap.size w Wf) ⟨?_, ?_⟩ ?_
    · first
        | exact HZ2.out
        | exact blk_set3 HZ2.out _ _ _
    · first
        | exact HB.out
        | exact ((HB.out.setCell (p := ⟨w.heap.size + 1, 0, none⟩) (Nat.le_succ _) _).setCell (p := ⟨w.heap.size + 1, 1, none⟩) (Nat.le_succ _) _).setCell (p := ⟨w.heap.size + 1, 2, none⟩) (Nat.le_succ _) _
    · rintro Wf ⟨e1, e2⟩
      obtain ⟨_, d0, d1, d2, _⟩ := blk3 e1
      exact bodyPost_ret (v := .tuple #[.agg #[.slice none 0 0, .slice none 0 0, .int .i64 0], .bool false]) (by simp [results, Tryz.results15, go_sem, d0, d1, d2]) rfl (made_no (HNO.out) e2)
  · by_cases g2 : 16 < n1
    · have t1 : decide ((n1 : Int) < 1) = false := decide_eq_false (by omega)
      have t2 : decide ((16 : Int) < n1) = true := decide_eq_true (by omega)
      clear hg
      go_enter Tryz.func15, Tryz.ntmps15
      go_wp2
      refine post_gen (fun Wf => Wf.heap[w.heap.size + 1]? = some (.cells #[.slice none 0 0, .slice none 0 0, .int .i64 0] 30 (0, 0)) ∧ Below w.heap.size w Wf) ⟨?_, ?_⟩ ?_
      · first
        | exact HZ2.out
        | exact blk_set3 HZ2.out _ _ _
      · first
        | exact HB.out
        | exact ((HB.out.setCell (p := ⟨w.heap.size + 1, 0, none⟩) (Nat.le_succ _) _).setCell (p := ⟨w.heap.size + 1, 1, none⟩) (Nat.le_succ _) _).setCell (p := ⟨w.heap.size + 1, 2, none⟩) (Nat.le_succ _) _
      · rintro Wf ⟨e1, e2⟩
        obtain ⟨_, d0, d1, d2, _⟩ := blk3 e1
        exact bodyPost_ret (v := .tuple #[.agg #[.slice none 0 0, .slice none 0 0, .int .i64 0], .bool false]) (by simp [results, Tryz.results15, go_sem, d0, d1, d2]) rfl (made_no (HNO.out) e2)
    · have g3 : 8 < n0 := by omega
      have t1 : decide ((n1 : Int) < 1) = false := decide_eq_false (by omega)
      have t2 : decide ((16 : Int) < n1) = false := decide_eq_false (by omega)
      have t3 : decide ((8 : Int) < n0) = true := decide_eq_true (by omega)
      clear hg
      go_enter Tryz.func15, Tryz.ntmps15
      go_wp2
      refine post_gen (fun Wf => Wf.heap[w.heap.size + 1]? = some (.cells #[.slice none 0 0, .slice none 0 0, .int .i64 0] 30 (0, 0)) ∧ Below w.heap.size w Wf) ⟨?_, ?_⟩ ?_
      · first
        | exact HZ2.out
        | exact blk_set3 HZ2.out _ _ _
      · first
        | exact HB.out
        | exact ((HB.out.setCell (p := ⟨w.heap.size + 1, 0, none⟩) (Nat.le_succ _) _).setCell (p := ⟨w.heap.size + 1, 1, none⟩) (Nat.le_succ _) _).setCell (p := ⟨w.heap.size + 1, 2, none⟩) (Nat.le_succ _) _
      · rintro Wf ⟨e1, e2⟩
        obtain ⟨_, d0, d1, d2, _⟩ := blk3 e1
        exact bodyPost_ret (v := .tuple #[.agg #[.slice none 0 0, .slice none 0 0, .int .i64 0], .bool false]) (by simp [results, Tryz.results15, go_sem, d0, d1, d2]) rfl (made_no (HNO.out) e2)
end Go.Proofs.YtiknhkkeifemcaaGreatDoor
namespace Go.Proofs.YtiknhkkeifemcaaGreatDoor
open Go.ChangeShapes Go.WideShapes Go.ChangeAt Go.RowKit Go.Shelf

set_option maxRecDepth 100000 in
set_option maxHeartbeats 4000000 in
theorem made_any (p : Plan) (w : World) {a0 a1 : Option Addr} {n0 e0 n1 c1 : Nat} (hp : IsPlan w p a0 n0 e0 a1 n1 c1) :
    Calls Tryz.prog 15 #[.agg #[.slice a0 n0 e0, .slice a1 n1 c1, .int .u8 p.root, .bool p.tree]] w (MadePost p w) := by
  obtain ⟨hb, hz1, hz2⟩ := two_start w #[.slice a0 n0 e0, .slice a1 n1 c1, .int .u8 p.root, .bool p.tree] #[.slice none 0 0, .slice none 0 0, .int .i64 0] 25 30
  have HP := Lib.hid hp
  have HB := Lib.hid hb
  have HZ1 := Lib.hid hz1
  have HZ2 := Lib.hid hz2
  have hrt := hp.rt
  have hcaps : n0 ≤ 9223372036854775807 ∧ n1 ≤ 9223372036854775807 := by
    have h1 := hp.e_cap
    have h2 := hp.s_cap
    unfold maxLen at h1 h2
    omega
  obtain ⟨hn0, hn1⟩ := hcaps
  have y0 := (blk_cell hz1 0).trans rfl
  have y1 := (blk_cell hz1 1).trans rfl
  have y2 := (blk_cell hz1 2).trans rfl
  obtain ⟨_, _, _, _, s0, s1, s2⟩ := blk3 hz2
  clear hp hb hz1 hz2
  by_cases hg : 1 ≤ n1 ∧ n1 ≤ 16 ∧ n0 ≤ 8
  · obtain ⟨g1, g2, g3⟩ := hg
    have hmod : (p.root : Int) % (n1 : Int) = ((p.root % n1 : Nat) : Int) := (Int.natCast_emod _ _).symm
    have hz0 : (n1 : Int) ≠ 0 := by omega
    have HRT : Hid (p.root % n1 = p.root % p.structs.length) := Lib.hid (by rw [HP.out.s_len])
    generalize p.root % n1 = rt at *
    have hsz : ((w.alloc (.cells #[.slice a0 n0 e0, .slice a1 n1 c1, .int .u8 p.root, .bool p.tree] 25)).alloc (.cells #[.slice none 0 0, .slice none 0 0, .int .i64 0] 30)).heap.size = w.heap.size + 2 := by simp
    have HSZ := Lib.hid hsz
    clear hsz
    go_enter Tryz.func15, Tryz.ntmps15
    go_upto_region 4 with (fail)
    generalize (w.alloc (.cells #[.slice a0 n0 e0, .slice a1 n1 c1, .int .u8 p.root, .bool p.tree] 25)).alloc (.cells #[.slice none 0 0, .slice none 0 0, .int .i64 0] 30) = W0 at *
    have hba : Below W0.heap.size W0 (W0.alloc (.cells #[.slice none 0 0, .slice none 0 0, .int .i64 rt] 30)) := (Below.refl _ _).alloc (Nat.le_refl _) _
    have hba2 := hba
    rw [HSZ.out] at hba2
    have HK1 : Hid (MKeeps w w.heap.size (.slice a0 n0 e0) (.slice a1 n1 c1) p.root p.tree (W0.alloc (.cells #[.slice none 0 0, .slice none 0 0, .int .i64 rt] 30))) := Lib.hid ⟨rfl, blk_below HZ1.out hba (blk_lt HZ1.out), blk_below HZ2.out hba (blk_lt HZ2.out), HB.out.trans (hba.mono HB.out.size)⟩
    have hnew := heap_alloc_new W0 (.cells #[.slice none 0 0, .slice none 0 0, .int .i64 rt] 30)
    rw [HSZ.out] at hnew
    have HS1 : Hid (SchAt (w.heap.size + 2) (W0.alloc (.cells #[.slice none 0 0, .slice none 0 0, .int .i64 rt] 30)) [] [] (.slice none 0 0) (.slice none 0 0) rt) := Lib.hid ⟨hnew, World.ownsRow_nil _ _ _ _, World.ownsRow_nil _ _ _ _, (fun q hq => by cases hq), (fun q hq => by cases hq)⟩
    clear hba hba2 hnew y0 y1 y2 s0 s1 s2
    generalize W0.alloc (.cells #[.slice none 0 0, .slice none 0 0, .int .i64 rt] 30) = W1 at *
    go_wp2_with fail
    refine enums_wp HP.out g3 ⟨rfl, rfl, rfl, rfl, rfl, rfl, rfl⟩ HK1.out HS1.out ?_
    intro c2 w2 es ev hf hk hs hes
    have HK2 := Lib.hid hk
    have HS2 := Lib.hid hs
    have HES := Lib.hid hes
    obtain ⟨u, rfl⟩ := fra_lit hf
    clear hf hk hs hes
    simp only [Exit.inBlock, Exit.then]
    apply_assumption
    go_wp2_with fail
    refine recs_wp HP.out g3 g2 ⟨rfl, rfl, rfl, rfl, rfl, rfl, rfl⟩ HK2.out HS2.out HES.out ?_ ?_
    · intro c3 w3 ss sv hf hk hs hss hlen
      have HK3 := Lib.hid hk
      have HS3 := Lib.hid hs
      have HOK : Hid (planOk p) := Lib.hid (lens_ok (by rw [HP.out.s_len]; exact g1) (by rw [HP.out.s_len]; exact g2) (by rw [HP.out.e_len]; exact g3) (by rw [HP.out.s_len]; exact hlen))
      have HSS := Lib.hid hss
      obtain ⟨_, o0, o1, o2, _⟩ := blk3 hs.blk
      obtain ⟨_, r0, r1, r2, q0, q1, q2⟩ := blk3 hk.res
      obtain ⟨u3, rfl⟩ := frc_lit hf
      obtain ⟨sva, svc, eva, evc, rfl, rfl⟩ := hs.rows.forms
      clear hf hk hs hss hlen
      simp only [Exit.inBlock, Exit.then]
      apply_assumption
      go_wp2
      refine post_gen (fun Wf => Wf.heap[w.heap.size + 1]? = some (.cells #[.slice sva ss.length svc, .slice eva es.length evc, .int .i64 rt] 30 (0, 0)) ∧ Below w.heap.size w Wf ∧ SchRows w.heap.size Wf ss es (.slice sva ss.length svc) (.slice eva es.length evc)) ⟨?_, ?_, ?_⟩ ?_
      · exact blk_set3 HK3.out.res _ _ _
      · exact ((HK3.out.bel.setCell (p := ⟨w.heap.size + 1, 0, none⟩) (Nat.le_succ _) _).setCell (p := ⟨w.heap.size + 1, 1, none⟩) (Nat.le_succ _) _).setCell (p := ⟨w.heap.size + 1, 2, none⟩) (Nat.le_succ _) _
      · have hr := HS3.out.rows
        have key : ∀ {e : TypeId} {s : Nat} {v : Value} {n : Nat} {xs : List Value}, w3.ownsRow (w.heap.size + 2 + 1) e s v n xs → World.ownsRow (((w3.setCell ⟨w.heap.size + 1, 0, none⟩ (.slice sva ss.length svc)).setCell ⟨w.heap.size + 1, 1, none⟩ (.slice eva es.length evc)).setCell ⟨w.heap.size + 1, 2, none⟩ (.int .i64 rt)) w.heap.size e s v n xs := fun ho =>
          ownsRow_base (ownsRow_setCell_below (ownsRow_setCell_below (ownsRow_setCell_below ho (by show w.heap.size + 1 < _; omega) _) (by show w.heap.size + 1 < _; omega) _) (by show w.heap.size + 1 < _; omega) _) (by omega)
        exact ⟨key hr.structs, key hr.enums, fun q hq => key (hr.fields q hq), fun q hq => key (hr.names q hq)⟩
      · rintro Wf ⟨e1, e2, e3⟩
        obtain ⟨_, d0, d1, d2, _⟩ := blk3 e1
        refine bodyPost_ret (v := .tuple #[.agg #[.slice sva ss.length svc, .slice eva es.length evc, .int .i64 rt], .bool true]) (by simp [results, Tryz.results15, go_sem, d0, d1, d2]) rfl ⟨e2, .inl ⟨HOK.out, ss, es, _, _, ?_, ?_, ?_, e3⟩⟩
        · rw [HRT.out]
        · rw [HP.out.s_len]; exact HSS.out
        · rw [HP.out.e_len]; exact HES.out
    · intro c3 w3 j hf hres hbel hj hbad
      have HNO : Hid (¬ planOk p) := Lib.hid (lens_bad (by rw [HP.out.s_len]; exact hj) hbad)
      have HRE := Lib.hid hres
      have HBE := Lib.hid hbel
      obtain ⟨u3, rfl⟩ := frc_lit hf
      clear hf hres hbel hj hbad
      simp only [Exit.inBlock, Exit.then]
      refine post_gen (fun Wf => Wf.heap[w.heap.size + 1]? = some (.cells #[.slice none 0 0, .slice none 0 0, .int .i64 0] 30 (0, 0)) ∧ Below w.heap.size w Wf) ⟨HRE.out, HBE.out⟩ ?_
      rintro Wf ⟨e1, e2⟩
      obtain ⟨_, d0, d1, d2, _⟩ := blk3 e1
      exact bodyPost_ret (v := .tuple #[.agg #[.slice none 0 0, .slice none 0 0, .int .i64 0], .bool false]) (by simp [results, Tryz.results15, go_sem, d0, d1, d2]) rfl (made_no HNO.out e2)
  · exact made_bad p w HP.out hg
end Go.Proofs.YtiknhkkeifemcaaGreatDoor
