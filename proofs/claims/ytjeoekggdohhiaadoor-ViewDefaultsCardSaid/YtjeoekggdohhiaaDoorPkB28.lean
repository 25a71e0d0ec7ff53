/-
  The hand's Made: of each plan the schema, or false. Conditions: those that each theorem names.
-/
import Derived.Test.YtjeoekggdohhiaaDoorPkB27
namespace Go.Proofs.YtjeoekggdohhiaaDoor
open Go.ChangeShapes Go.WideShapes Go.ChangeAt Go.RowKit Go.Shelf

def MadePost (p : Plan) (w : World) (e : Ending) (w' : World) : Prop :=
  Below w.heap.size w w' ∧ ((planOk p ∧ ∃ ss es sv ev, e = .returned (.tuple #[.agg #[sv, ev, .int .i64 (p.root % p.structs.length : Nat)], .bool true]) ∧ ss.map Prod.fst = recsP p p.structs.length ∧ es.map Prod.fst = chosP p p.enums.length ∧ SchRows w.heap.size w' ss es sv ev) ∨
    (¬ planOk p ∧ e = .returned (.tuple #[.agg #[.slice none 0 0, .slice none 0 0, .int .i64 0], .bool false])))
theorem made_no {p : Plan} {w w' : World} (h : ¬ planOk p) (hb : Below w.heap.size w w') : MadePost p w (.returned (.tuple #[.agg #[.slice none 0 0, .slice none 0 0, .int .i64 0], .bool false])) w' := ⟨hb, .inr ⟨h, rfl⟩⟩
theorem lens_ok {p : Plan} (h1 : 1 ≤ p.structs.length) (h2 : p.structs.length ≤ 16) (h3 : p.enums.length ≤ 8) (h : LensOk p p.structs.length) : planOk p := by
  refine ⟨h1, h2, h3, fun l hl => ?_⟩
  obtain ⟨j, hj, rfl⟩ := List.getElem_of_mem hl
  have := h j hj
  rwa [List.getD, List.getElem?_eq_getElem hj] at this
theorem lens_bad {p : Plan} {j : Nat} (hj : j < p.structs.length) (h : ¬ (1 ≤ (p.structs.getD j []).length ∧ (p.structs.getD j []).length ≤ 16)) : ¬ planOk p := by
  intro ho
  apply h
  rw [List.getD, List.getElem?_eq_getElem hj]
  exact ho.2.2.2 _ (List.getElem_mem hj)
set_option maxRecDepth 100000 in
set_option maxHeartbeats 4000000 in
theorem made_bad (p : Plan) (w : World) {a0 a1 : Option Addr} {n0 e0 n1 c1 : Nat} (hp : IsPlan w p a0 n0 e0 a1 n1 c1) (hg : ¬ (1 ≤ n1 ∧ n1 ≤ 16 ∧ n0 ≤ 8)) :
    Calls Tryd.prog 9 #[.agg #[.slice a0 n0 e0, .slice a1 n1 c1, .int .u8 p.root, .bool p.tree]] w (MadePost p w) := by
  obtain ⟨hb, hz1, hz2⟩ := two_start w #[.slice a0 n0 e0, .slice a1 n1 c1, .int .u8 p.root, .bool p.tree] #[.slice none 0 0, .slice none 0 0, .int .i64 0] 25 30
  have HP := Lib.hid hp
  have HB := Lib.hid hb
  have HZ1 := Lib.hid hz1
  have HZ2 := Lib.hid hz2
  have hrt := hp.rt
  have hcaps : n0 ≤ 9223372036854775807 ∧ n1 ≤ 9223372036854775807 := by
    have h1 := hp.e_cap
    have h2 := hp.s_cap
    unfold maxLen at h1 h2
    omega
  obtain ⟨hn0, hn1⟩ := hcaps
  have y0 := (blk_cell hz1 0).trans rfl
  have y1 := (blk_cell hz1 1).trans rfl
  have y2 := (blk_cell hz1 2).trans rfl
  obtain ⟨_, _, _, _, s0, s1, s2⟩ := blk3 hz2
  clear hp hb hz1 hz2
  have HNO : Hid (¬ planOk p) := Lib.hid (fun ho => hg ⟨by rw [← HP.out.s_len]; exact ho.1, by rw [← HP.out.s_len]; exact ho.2.1, by rw [← HP.out.e_len]; exact ho.2.2.1⟩)
  by_cases g1 : n1 < 1
  · have t1 : decide ((n1 : Int) < 1) = true := decide_eq_true (by omega)
    clear hg
    go_enter Tryd.func9, Tryd.ntmps9
    go_wp2
    refine post_gen (fun Wf => Wf.heap[w.heap.size + 1]? = some (.cells #[.slice none 0 0, .slice none 0 0, .int .i64 0] 30 (0, 0)) ∧ Below w.heap.size w Wf) ⟨?_, ?_⟩ ?_
    · first
        | exact HZ2.out
        | exact blk_set3 HZ2.out _ _ _
    · first
        | exact HB.out
        | exact ((HB.out.setCell (p := ⟨w.heap.size + 1, 0, none⟩) (Nat.le_succ _) _).setCell (p := ⟨w.heap.size + 1, 1, none⟩) (Nat.le_succ _) _).setCell (p := ⟨w.heap.size + 1, 2, none⟩) (Nat.le_succ _) _
    · rintro Wf ⟨e1, e2⟩
      obtain ⟨_, d0, d1, d2, _⟩ := blk3 e1
      exact bodyPost_ret (v := .tuple #[.agg #[.slice none 0 0, .slice none 0 0, .int .i64 0], .bool false]) (by simp [results, Tryd.results9, go_sem, d0, d1, d2]) rfl (made_no (HNO.out) e2)
  · by_cases g2 : 16 < n1
    · have t1 : decide ((n1 : Int) < 1) = false := decide_eq_false (by omega)
      have t2 : decide ((16 : Int) < n1) = true := decide_eq_true (by omega)
      clear hg
      go_enter Tryd.func9, Tryd.ntmps9
      go_wp2
      refine post_gen (fun Wf => Wf.heap[w.heap.size + 1]? = some (.cells #[.slice none 0 0, .slice none 0 0, .int .i64 0] 30 (0, 0)) ∧ Below w.heap.size w Wf) ⟨?_, ?_⟩ ?_
      · first
        | exact HZ2.out
        | exact blk_set3 HZ2.out _ _ _
      · first
        | exact HB.out
        | exact ((HB.out.setCell (p := ⟨w.heap.size + 1, 0, none⟩) (Nat.le_succ _) _).setCell (p := ⟨w.heap.size + 1, 1, none⟩) (Nat.le_succ _) _).setCell (p := ⟨w.heap.size + 1, 2, none⟩) (Nat.le_succ _) _
      · rintro Wf ⟨e1, e2⟩
        obtain ⟨_, d0, d1, d2, _⟩ := blk3 e1
        exact bodyPost_ret (v := .tuple #[.agg #[.slice none 0 0, .slice none 0 0, .int .i64 0], .bool false]) (by simp [results, Tryd.results9, go_sem, d0, d1, d2]) rfl (made_no (HNO.out) e2)
    · have g3 : 8 < n0 := by omega
      have t1 : decide ((n1 : Int) < 1) = false := decide_eq_false (by omega)
      have t2 : decide ((16 : Int) < n1) = false := decide_eq_false (by omega)
      have t3 : decide ((8 : Int) < n0) = true := decide_eq_true (by omega)
      clear hg
      go_enter Tryd.func9, Tryd.ntmps9
      go_wp2
      refine post_gen (fun Wf => Wf.heap[w.heap.size + 1]? = some (.cells #[.slice none 0 0, .slice none 0 0, .int .i64 0] 30 (0, 0)) ∧ Below w.heap.size w Wf) ⟨?_, ?_⟩ ?_
      · first
        | exact HZ2.out
        | exact blk_set3 HZ2.out _ _ _
      · first
        | exact HB.out
        | exact ((HB.out.setCell (p := ⟨w.heap.size + 1, 0, none⟩) (Nat.le_succ _) _).setCell (p := ⟨w.heap.size + 1, 1, none⟩) (Nat.le_succ _) _).setCell (p := ⟨w.heap.size + 1, 2, none⟩) (Nat.le_succ _) _
      · rintro Wf ⟨e1, e2⟩
        obtain ⟨_, d0, d1, d2, _⟩ := blk3 e1
        exact bodyPost_ret (v := .tuple #[.agg #[.slice none 0 0, .slice none 0 0, .int .i64 0], .bool false]) (by simp [results, Tryd.results9, go_sem, d0, d1, d2]) rfl (made_no (HNO.out) e2)
end Go.Proofs.YtjeoekggdohhiaaDoor
