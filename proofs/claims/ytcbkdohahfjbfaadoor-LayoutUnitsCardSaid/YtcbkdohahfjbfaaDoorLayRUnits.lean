/-
  The document's own Units. Conditions: those that each theorem names.
-/
import Derived.Test.YtcbkdohahfjbfaaDoorLayUnits
import Derived.Test.YtcbkdohahfjbfaaDoorLayMake
namespace Go.Proofs.YtcbkdohahfjbfaaDoor
open Go.ChangeShapes Go.WideShapes Go.ChangeAt Go.RowKit Go.Shelf

set_option maxRecDepth 100000 in
set_option maxHeartbeats 4000000 in
theorem runits_any (s : ByteArray) (w : World) (hs : s.size ≤ 1000000000) :
    Calls Tryd.prog 25 #[.string s] w (UPost s 3 .i64 w) := by
  go_enter Tryd.func25, Tryd.ntmps25
  go_wp2
  go_loopw [3] (fun v wr => UAt w s 3 .i64 v wr) (fun _ wr => s.size - wr.iterPos w.heap.size)
  case atStart => exact ⟨0, s.size, [], World.iter_heap w s 0, (Below.refl _ w).alloc (Nat.le_refl _) _, World.ownsRow_nil _ _ _ _, rfl, by omega, by simp⟩
  case round =>
    obtain ⟨pos, fuel, acc, hit, hb, hrow, hacc, hfu, hal⟩ := hrel
    have hsz : w.heap.size < wr.heap.size := (Array.getElem?_eq_some_iff.1 hit).1
    have HROW := Lib.hid hrow
    have HACC := Lib.hid hacc
    have HB := Lib.hid hb
    have HIT := Lib.hid hit
    have HIP : Hid (wr.iterPos w.heap.size = pos) := Lib.hid (by simp only [World.iterPos, hit])
    obtain ⟨va, vc, rfl⟩ := ownsRow_form hrow
    clear hrow hacc hb hit
    by_cases hp : pos < s.size
    · have hnx : ∀ ty, (Instr.next (.pointer (some ⟨w.heap.size, 0, none⟩)) true ty).run Tryd.prog wr = _ := fun ty => Lib.run_next_any_at wr w.heap.size s pos ty HIT.out hp
      have hwd := width_pos s pos hp
      have hd1 : (Utf8.decode s pos).1 ≤ 1114111 := Lib.rune_le s pos
      obtain ⟨f, rfl⟩ : ∃ f, fuel = f + 1 := ⟨fuel - 1, by omega⟩
      have HST := Lib.hid (runesL_step s f pos hp)
      have HIT2 := Lib.hid (Lib.iterAt_heap wr w.heap.size s pos (pos + (Utf8.decode s pos).2) HIT.out)
      have HB2 := Lib.hid (Lib.below_iterAt HB.out (k := w.heap.size) (by omega) s (pos + (Utf8.decode s pos).2))
      have hsz2 : w.heap.size + 1 ≤ (wr.iterAt w.heap.size s (pos + (Utf8.decode s pos).2)).heap.size := by rw [Lib.iterAt_size]; omega
      have HROW2 := Lib.hid (row_iter HROW.out s (pos + (Utf8.decode s pos).2))
      generalize wr.iterAt w.heap.size s (pos + (Utf8.decode s pos).2) = W1 at *
      generalize (Utf8.decode s pos).2 = wid at *
      generalize (Utf8.decode s pos).1 = c at *
      clear HIT HB HROW
      by_cases hc : (c : Int) < 65536
      · have HU := Lib.hid (unitR_small c hc)
        have k1 := IntWalk.i64_in (c : Int) (by omega)
        have hd : decide ((65535 : Int) < (c : Int)) = false := decide_eq_false (by omega)
        obtain ⟨i0, hi0, hz0, hz1, hz2⟩ := info_parts int_info
        have I1 := Lib.hid hi0
        have I2 := Lib.hid hz0
        have I3 := Lib.hid hz1
        have I4 := Lib.hid hz2
        have HBN := Lib.hid (heap_alloc_new W1 (.cells #[.int .i64 c] 3))
        have HUA := Lib.hid (row_keep ((Below.refl _ W1).alloc (Nat.le_refl _) (.cells #[.int .i64 c] 3)) HROW2.out)
        have HFIN := Lib.hid (fun (v' : Value) (W2 : World) (hown : W2.ownsRow (w.heap.size + 1) 3 1 v' (acc.length + 1) (acc.map (Value.int .i64) ++ [.int .i64 c])) (hg : (W1.alloc (.cells #[.int .i64 c] 3)).grownBy W2 (Value.slice va acc.length vc).ownBlock) =>
          uat_app (w := w) (s := s) (u := [(c : Int)]) (f := f) HIT2.out HB2.out HROW2.out hsz2 (by rw [List.append_assoc, ← HACC.out, HST.out, List.flatMap_cons, HU.out]) (by omega) (by rw [List.length_append]; simp; omega) (by rw [List.length_append, List.map_append]; exact hown) hg)
        clear hi0 hz0 hz1 hz2 HACC HST HU HIT2 HB2
        go_upto_region 8 with (fail)
        clear hnx
        go_wp2_with (at_builtin; refine wpList_append_own _ rfl (.tmp 27) (.tmp 29) 37 rfl (w.heap.size + 1) 3 i0 _ 1 8 Tryd.underlying37 I1.out I2.out I3.out I4.out rfl (by decide) (.slice va acc.length vc) acc.length (acc.map (Value.int .i64)) rfl HUA.out _ 1 1 [.int .i64 c] rfl rfl (World.news_of_block HBN.out) (by intro u hu; simp at hu; subst hu; rfl) (by unfold maxLen; omega) (by omega) (by rw [World.size_alloc]; omega) ?_; intro v4 W8 hown4 hg4 hx; clear hx; have HF2 := Lib.hid (HFIN.out v4 W8 hown4 hg4); clear hown4 hg4)
        go_roundw
        case rel => exact HF2.out.1
        case measure => rw [HF2.out.2, HIP.out]; omega
      · have HU := Lib.hid (unitR_great c hc)
        have hd : decide ((65535 : Int) < (c : Int)) = true := decide_eq_true (by omega)
        have hd2 : (65535 : Int) < (c : Int) := by omega
        have k1 := IntWalk.i64_in (c : Int) (by omega)
        obtain ⟨x, hx⟩ : ∃ x, (c : Int) - 65536 = x := ⟨_, rfl⟩
        have hx0 : 0 ≤ x := by omega
        have hx1 : x ≤ 1048575 := by omega
        rw [hx] at HU
        have k2 : IntKind.i64.wrap ((c : Int) - 65536) = x := by rw [hx]; exact IntWalk.i64_in _ (by omega)
        have k3 : x.tmod 1024 = x % 1024 := Int.tmod_eq_emod_of_nonneg hx0
        have k9 : x.tdiv 1024 = x / 1024 := Int.tdiv_eq_ediv_of_nonneg hx0
        have q0 : 0 ≤ x / 1024 := by omega
        have q1 : x / 1024 ≤ 1023 := by omega
        have r0 : 0 ≤ x % 1024 := by omega
        have r1 : x % 1024 ≤ 1023 := by omega
        have k6 := IntWalk.i64_in (55296 + x / 1024) (by omega)
        have k7 := IntWalk.i64_in (56320 + x % 1024) (by omega)
        go_upto_region 7 with (fail)
        clear hnx
        obtain ⟨i0, hi0, hz0, hz1, hz2⟩ := info_parts int_info
        have I1 := Lib.hid hi0
        have I2 := Lib.hid hz0
        have I3 := Lib.hid hz1
        have I4 := Lib.hid hz2
        have HBN := Lib.hid (heap_alloc_new W1 (.cells #[.int .i64 (55296 + x / 1024), .int .i64 (56320 + x % 1024)] 3))
        have HUA := Lib.hid (row_keep ((Below.refl _ W1).alloc (Nat.le_refl _) (.cells #[.int .i64 (55296 + x / 1024), .int .i64 (56320 + x % 1024)] 3)) HROW2.out)
        have HFIN := Lib.hid (fun (v' : Value) (W2 : World) (hown : W2.ownsRow (w.heap.size + 1) 3 1 v' (acc.length + 2) (acc.map (Value.int .i64) ++ [.int .i64 (55296 + x / 1024), .int .i64 (56320 + x % 1024)])) (hg : (W1.alloc (.cells #[.int .i64 (55296 + x / 1024), .int .i64 (56320 + x % 1024)] 3)).grownBy W2 (Value.slice va acc.length vc).ownBlock) =>
          uat_app (w := w) (s := s) (u := [55296 + x / 1024, 56320 + x % 1024]) (f := f) HIT2.out HB2.out HROW2.out hsz2 (by rw [List.append_assoc, ← HACC.out, HST.out, List.flatMap_cons, HU.out]) (by omega) (by rw [List.length_append]; simp; omega) (by rw [List.length_append, List.map_append]; exact hown) hg)
        clear hi0 hz0 hz1 hz2 HACC HST HU HIT2 HB2
        go_wp2_with (at_builtin; refine wpList_append_own _ rfl (.tmp 16) (.tmp 25) 37 rfl (w.heap.size + 1) 3 i0 _ 1 8 Tryd.underlying37 I1.out I2.out I3.out I4.out rfl (by decide) (.slice va acc.length vc) acc.length (acc.map (Value.int .i64)) rfl HUA.out _ 2 2 [.int .i64 (55296 + x / 1024), .int .i64 (56320 + x % 1024)] rfl rfl (World.news_of_block HBN.out) (by intro u hu; simp at hu; rcases hu with rfl | rfl <;> rfl) (by unfold maxLen; omega) (by omega) (by rw [World.size_alloc]; omega) ?_; intro v4 W8 hown4 hg4 hx; clear hx; have HF2 := Lib.hid (HFIN.out v4 W8 hown4 hg4); clear hown4 hg4)
        go_roundw
        case rel => exact HF2.out.1
        case measure => rw [HF2.out.2, HIP.out]; omega
    · have hnx : ∀ ty, (Instr.next (.pointer (some ⟨w.heap.size, 0, none⟩)) true ty).run Tryd.prog wr = _ := fun ty => Lib.run_next_end_at wr w.heap.size s pos ty HIT.out hp
      have hend := runesL_end s fuel pos hp
      have hall : acc = unitsP s := by have h := HACC.out; rw [hend] at h; simpa using h
      have HALL := Lib.hid hall
      clear hend hall
      go_wp2
      go_ret
      refine ⟨_, rfl, ?_, HB.out⟩
      rw [← HALL.out]
      exact ownsRow_base HROW.out (Nat.le_succ _)
end Go.Proofs.YtcbkdohahfjbfaaDoor
