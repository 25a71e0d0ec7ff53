/-
  The package layout's Units, and the document's own. Conditions: those that each theorem names.
-/
import Derived.Test.YtdlfndjgncdgfaaDoorLayUP
import Derived.Deep.Cut
import Derived.Deep.AppendLies
import Derived.OwnWalk
namespace Go.Proofs.YtdlfndjgncdgfaaDoor
open Go.ChangeShapes Go.WideShapes Go.ChangeAt Go.RowKit Go.Shelf

theorem u16_info : (Tryd.prog.info? 115).map (fun i => (i.zero, i.size, i.bytes)) = some (some (.int .u16 0), 1, 2) := by kernel_rfl
theorem row_iter {W : World} {base : Nat} {e : TypeId} {size : Nat} {v : Value} {n : Nat} {xs : List Value} (h : W.ownsRow (base + 1) e size v n xs) (s : ByteArray) (pos : Nat) : (W.iterAt base s pos).ownsRow (base + 1) e size v n xs := by
  obtain ⟨hl, h'⟩ := h
  refine ⟨hl, ?_⟩
  rcases h' with h1 | ⟨g', cap', cur, hv, h1, hg', h2⟩
  · exact .inl h1
  · exact .inr ⟨g', cap', cur, hv, h1, (Lib.iterAt_other W base g' s pos (by omega)).trans hg', h2⟩
/-- Where a loop over a text's runes is that gathers units in a row. -/
def UAt (w : World) (s : ByteArray) (e : TypeId) (k : IntKind) (v : Value) (W : World) : Prop :=
  ∃ (pos fuel : Nat) (acc : List Int), W.heap[w.heap.size]? = some (.stringIter s pos) ∧ Below w.heap.size w W ∧ W.ownsRow (w.heap.size + 1) e 1 v acc.length (acc.map (Value.int k)) ∧ acc ++ (runesL s fuel pos).flatMap unitR = unitsP s ∧ s.size ≤ pos + fuel ∧ acc.length ≤ 2 * pos
/-- Behind an append onto the row. -/
theorem uat_app {w W1 W2 : World} {s : ByteArray} {e : TypeId} {k : IntKind} {v v' : Value} {pos f n : Nat} {acc u : List Int} {o : Obj} (hit : W1.heap[w.heap.size]? = some (.stringIter s pos)) (hb : Below w.heap.size w W1) (hrow : W1.ownsRow (w.heap.size + 1) e 1 v n (acc.map (Value.int k))) (hlt : w.heap.size + 1 ≤ W1.heap.size)
    (hacc : (acc ++ u) ++ (runesL s f pos).flatMap unitR = unitsP s) (hf : s.size ≤ pos + f) (hl : (acc ++ u).length ≤ 2 * pos) (hown : W2.ownsRow (w.heap.size + 1) e 1 v' (acc ++ u).length ((acc ++ u).map (Value.int k))) (hg : (W1.alloc o).grownBy W2 v.ownBlock) : UAt w s e k v' W2 ∧ W2.iterPos w.heap.size = pos := by
  have hit2 : W2.heap[w.heap.size]? = some (.stringIter s pos) := by
    refine (hg.block w.heap.size (by rw [World.size_alloc]; omega) (fun he => ?_)).trans (blk_alloc hit o)
    have := (ownsRow_lt hrow _ he.symm).1
    omega
  refine ⟨⟨pos, f, acc ++ u, hit2, ?_, hown, hacc, hf, hl⟩, by simp only [World.iterPos, hit2]⟩
  exact (hb.alloc (by omega) o).grown hg (by rw [World.size_alloc]; omega) (fun q hq => by have := (ownsRow_lt hrow _ hq).1; omega)
/-- What Units hands back. -/
def UPost (s : ByteArray) (e : TypeId) (k : IntKind) (w : World) (en : Ending) (w' : World) : Prop :=
  ∃ v, en = .returned v ∧ w'.ownsRow w.heap.size e 1 v (unitsP s).length ((unitsP s).map (Value.int k)) ∧ Below w.heap.size w w'
set_option maxRecDepth 100000 in
set_option maxHeartbeats 4000000 in
theorem lunits_any (s : ByteArray) (w : World) (hs : s.size ≤ 1000000000) :
    Calls Tryd.prog 32 #[.string s] w (UPost s 115 .u16 w) := by
  go_enter Tryd.func32, Tryd.ntmps32
  go_wp2
  go_loopw [3] (fun v wr => UAt w s 115 .u16 v wr) (fun _ wr => s.size - wr.iterPos w.heap.size)
  case atStart => exact ⟨0, s.size, [], World.iter_heap w s 0, (Below.refl _ w).alloc (Nat.le_refl _) _, World.ownsRow_nil _ _ _ _, rfl, by omega, by simp⟩
  case round =>
    obtain ⟨pos, fuel, acc, hit, hb, hrow, hacc, hfu, hal⟩ := hrel
    have hsz : w.heap.size < wr.heap.size := (Array.getElem?_eq_some_iff.1 hit).1
    have HROW := Lib.hid hrow
    have HACC := Lib.hid hacc
    have HB := Lib.hid hb
    have HIT := Lib.hid hit
    have HIP : Hid (wr.iterPos w.heap.size = pos) := Lib.hid (by simp only [World.iterPos, hit])
    obtain ⟨va, vc, rfl⟩ := ownsRow_form hrow
    clear hrow hacc hb hit
    by_cases hp : pos < s.size
    · have hnx : ∀ ty, (Instr.next (.pointer (some ⟨w.heap.size, 0, none⟩)) true ty).run Tryd.prog wr = _ := fun ty => Lib.run_next_any_at wr w.heap.size s pos ty HIT.out hp
      have hwd := width_pos s pos hp
      have hd1 : (Utf8.decode s pos).1 ≤ 1114111 := Lib.rune_le s pos
      obtain ⟨f, rfl⟩ : ∃ f, fuel = f + 1 := ⟨fuel - 1, by omega⟩
      have HST := Lib.hid (runesL_step s f pos hp)
      have HIT2 := Lib.hid (Lib.iterAt_heap wr w.heap.size s pos (pos + (Utf8.decode s pos).2) HIT.out)
      have HB2 := Lib.hid (Lib.below_iterAt HB.out (k := w.heap.size) (by omega) s (pos + (Utf8.decode s pos).2))
      have hsz2 : w.heap.size + 1 ≤ (wr.iterAt w.heap.size s (pos + (Utf8.decode s pos).2)).heap.size := by rw [Lib.iterAt_size]; omega
      have HROW2 := Lib.hid (row_iter HROW.out s (pos + (Utf8.decode s pos).2))
      generalize wr.iterAt w.heap.size s (pos + (Utf8.decode s pos).2) = W1 at *
      generalize (Utf8.decode s pos).2 = wid at *
      generalize (Utf8.decode s pos).1 = c at *
      clear HIT HB HROW
      by_cases hc : (c : Int) < 65536
      · have HU := Lib.hid (unitR_small c hc)
        have k1 : IntKind.u16.wrap (c : Int) = c := by simp only [IntKind.wrap, IntKind.bits, IntKind.signed]; simp; omega
        obtain ⟨i0, hi0, hz0, hz1, hz2⟩ := info_parts u16_info
        have I1 := Lib.hid hi0
        have I2 := Lib.hid hz0
        have I3 := Lib.hid hz1
        have I4 := Lib.hid hz2
        have HBN := Lib.hid (heap_alloc_new W1 (.cells #[.int .u16 c] 115))
        have HUA := Lib.hid (row_keep ((Below.refl _ W1).alloc (Nat.le_refl _) (.cells #[.int .u16 c] 115)) HROW2.out)
        have HFIN := Lib.hid (fun (v' : Value) (W2 : World) (hown : W2.ownsRow (w.heap.size + 1) 115 1 v' (acc.length + 1) (acc.map (Value.int .u16) ++ [.int .u16 c])) (hg : (W1.alloc (.cells #[.int .u16 c] 115)).grownBy W2 (Value.slice va acc.length vc).ownBlock) =>
          uat_app (w := w) (s := s) (u := [(c : Int)]) (f := f) HIT2.out HB2.out HROW2.out hsz2 (by rw [List.append_assoc, ← HACC.out, HST.out, List.flatMap_cons, HU.out]) (by omega) (by rw [List.length_append]; simp; omega) (by rw [List.length_append, List.map_append]; exact hown) hg)
        clear hi0 hz0 hz1 hz2 HACC HST HU HIT2 HB2
        go_upto_region 6 with (fail)
        clear hnx
        go_wp2_with (at_builtin; refine wpList_append_own _ rfl (.tmp 14) (.tmp 17) 79 rfl (w.heap.size + 1) 115 i0 _ 1 2 Tryd.underlying79 I1.out I2.out I3.out I4.out rfl (by decide) (.slice va acc.length vc) acc.length (acc.map (Value.int .u16)) rfl HUA.out _ 1 1 [.int .u16 c] rfl rfl (World.news_of_block HBN.out) (by intro u hu; simp at hu; subst hu; rfl) (by unfold maxLen; omega) (by omega) (by rw [World.size_alloc]; omega) ?_; intro v4 W8 hown4 hg4 hx; clear hx; have HF2 := Lib.hid (HFIN.out v4 W8 hown4 hg4); clear hown4 hg4)
        go_roundw
        case rel => exact HF2.out.1
        case measure => rw [HF2.out.2, HIP.out]; omega
      · have HU := Lib.hid (unitR_great c hc)
        have hd : decide ((c : Int) < 65536) = false := decide_eq_false hc
        obtain ⟨x, hx⟩ : ∃ x, (c : Int) - 65536 = x := ⟨_, rfl⟩
        have hx0 : 0 ≤ x := by omega
        have hx1 : x ≤ 1048575 := by omega
        rw [hx] at HU
        have k2 : IntKind.i32.wrap ((c : Int) - 65536) = x := by rw [hx]; simp only [IntKind.wrap, IntKind.bits, IntKind.signed]; simp; omega
        have k3 : x.tmod 1024 = x % 1024 := Int.tmod_eq_emod_of_nonneg hx0
        have q0 : 0 ≤ x / 1024 := by omega
        have q1 : x / 1024 ≤ 1023 := by omega
        have r0 : 0 ≤ x % 1024 := by omega
        have r1 : x % 1024 ≤ 1023 := by omega
        have k4 : IntKind.u16.wrap (55296 + x / 1024) = 55296 + x / 1024 := by simp only [IntKind.wrap, IntKind.bits, IntKind.signed]; simp; omega
        have k5 : IntKind.u16.wrap (56320 + x % 1024) = 56320 + x % 1024 := by simp only [IntKind.wrap, IntKind.bits, IntKind.signed]; simp; omega
        have k6 : IntKind.i32.wrap (55296 + x / 1024) = 55296 + x / 1024 := by simp only [IntKind.wrap, IntKind.bits, IntKind.signed]; simp; omega
        have k7 : IntKind.i32.wrap (56320 + x % 1024) = 56320 + x % 1024 := by simp only [IntKind.wrap, IntKind.bits, IntKind.signed]; simp; omega
        have k8 : (Op.shift .shr .i32 x .u64 10) = pure (.int .i32 (x / 1024)) := shift_shr_any (k := .i32) (yk := .u64) x 10 (by decide)
        clear hx
        go_upto_region 8 with (fail)
        clear hnx k2
        obtain ⟨i0, hi0, hz0, hz1, hz2⟩ := info_parts u16_info
        have I1 := Lib.hid hi0
        have I2 := Lib.hid hz0
        have I3 := Lib.hid hz1
        have I4 := Lib.hid hz2
        have HBN := Lib.hid (heap_alloc_new W1 (.cells #[.int .u16 (55296 + x / 1024), .int .u16 (56320 + x % 1024)] 115))
        have HUA := Lib.hid (row_keep ((Below.refl _ W1).alloc (Nat.le_refl _) (.cells #[.int .u16 (55296 + x / 1024), .int .u16 (56320 + x % 1024)] 115)) HROW2.out)
        have HFIN := Lib.hid (fun (v' : Value) (W2 : World) (hown : W2.ownsRow (w.heap.size + 1) 115 1 v' (acc.length + 2) (acc.map (Value.int .u16) ++ [.int .u16 (55296 + x / 1024), .int .u16 (56320 + x % 1024)])) (hg : (W1.alloc (.cells #[.int .u16 (55296 + x / 1024), .int .u16 (56320 + x % 1024)] 115)).grownBy W2 (Value.slice va acc.length vc).ownBlock) =>
          uat_app (w := w) (s := s) (u := [55296 + x / 1024, 56320 + x % 1024]) (f := f) HIT2.out HB2.out HROW2.out hsz2 (by rw [List.append_assoc, ← HACC.out, HST.out, List.flatMap_cons, HU.out]) (by omega) (by rw [List.length_append]; simp; omega) (by rw [List.length_append, List.map_append]; exact hown) hg)
        clear hi0 hz0 hz1 hz2 HACC HST HU HIT2 HB2
        go_wp2_with (at_builtin; refine wpList_append_own _ rfl (.tmp 21) (.tmp 30) 79 rfl (w.heap.size + 1) 115 i0 _ 1 2 Tryd.underlying79 I1.out I2.out I3.out I4.out rfl (by decide) (.slice va acc.length vc) acc.length (acc.map (Value.int .u16)) rfl HUA.out _ 2 2 [.int .u16 (55296 + x / 1024), .int .u16 (56320 + x % 1024)] rfl rfl (World.news_of_block HBN.out) (by intro u hu; simp at hu; rcases hu with rfl | rfl <;> rfl) (by unfold maxLen; omega) (by omega) (by rw [World.size_alloc]; omega) ?_; intro v4 W8 hown4 hg4 hx; clear hx; have HF2 := Lib.hid (HFIN.out v4 W8 hown4 hg4); clear hown4 hg4)
        go_roundw
        case rel => exact HF2.out.1
        case measure => rw [HF2.out.2, HIP.out]; omega
    · have hnx : ∀ ty, (Instr.next (.pointer (some ⟨w.heap.size, 0, none⟩)) true ty).run Tryd.prog wr = _ := fun ty => Lib.run_next_end_at wr w.heap.size s pos ty HIT.out hp
      have hend := runesL_end s fuel pos hp
      have hall : acc = unitsP s := by have h := HACC.out; rw [hend] at h; simpa using h
      have HALL := Lib.hid hall
      clear hend hall
      go_wp2
      go_ret
      refine ⟨_, rfl, ?_, HB.out⟩
      rw [← HALL.out]
      exact ownsRow_base HROW.out (Nat.le_succ _)
end Go.Proofs.YtdlfndjgncdgfaaDoor
