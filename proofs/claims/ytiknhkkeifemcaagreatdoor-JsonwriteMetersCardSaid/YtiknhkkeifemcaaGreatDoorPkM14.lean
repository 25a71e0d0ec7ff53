/-
  The library's sort that keeps the order of what is alike, of fewer than twenty numbers: they come out in their order. Conditions: those that each theorem names.
-/
import Derived.Test.YtiknhkkeifemcaaGreatDoorPkM1
import Derived.Test.YtiknhkkeifemcaaGreatDoorPkM5
import Derived.Test.YtiknhkkeifemcaaGreatDoorPkM11
import Derived.Test.YtiknhkkeifemcaaGreatDoorPkM13
import Derived.Deep.Cut
import Derived.Deep.AppendLies
import Derived.OwnWalk
import Derived.BigQuiet
import Derived.BigRegion
import Derived.Deep.QuietTactic
namespace Go.Proofs.YtiknhkkeifemcaaGreatDoor
open Go.ChangeShapes Go.WideShapes Go.ChangeAt Go.RowKit Go.Shelf

def cntE (es : List SCho) (ref : Nat) : Nat := (es.getD ref ⟨⟨#[]⟩, []⟩).names.length
structure NumTy (es : List SCho) (kind ref : Nat) : Prop where
  lo : 1 ≤ kind
  hi : kind ≤ 10
  en : kind = 10 → ref < es.length ∧ 1 ≤ cntE es ref
theorem sgn_keep (M m : Int) (hM : M = 128 ∨ M = 32768 ∨ M = 2147483648) (h0 : 0 ≤ m) (h1 : m < 2 * M) : sgn M (sgn M m).toNat = (sgn M m).toNat := by
  unfold sgn
  rcases hM with rfl | rfl | rfl
  all_goals
    rw [Int.emod_eq_of_lt h0 h1]
    split
    · rw [Int.toNat_of_nonneg h0, Int.emod_eq_of_lt h0 h1]
      split <;> omega
    · rw [Int.toNat_of_nonneg (by omega)]
      split <;> omega
theorem fits_signed (es : List SCho) (k : Nat) (ref : Int) (x : Nat) (h1 : numTB k 0 = true) (h2 : k ≠ 1) (h3 : k ≠ 10) (h4 : kSign k = true) : fitsT es k ref 0 x = decide (sgnOf x (kSize k) = x) := by
  unfold fitsT
  rw [if_neg (by rw [h1]; decide), if_neg h2, if_neg h3, if_pos h4]
theorem num_fits {es : List SCho} {kind ref n : Nat} (h : NumTy es kind ref) (hn : n ≤ 18446744073709551615) : fitsT es kind ref 0 (numP (cntE es ref) kind n) = true := by
  obtain ⟨h1, h2, h3⟩ := h
  have hk : kind = 1 ∨ kind = 2 ∨ kind = 3 ∨ kind = 4 ∨ kind = 5 ∨ kind = 6 ∨ kind = 7 ∨ kind = 8 ∨ kind = 9 ∨ kind = 10 := by omega
  obtain ⟨p1, p2, p3, p4, p5, p6, p7, p8⟩ := number_plain (cntE es ref) n
  rcases hk with rfl | rfl | rfl | rfl | rfl | rfl | rfl | rfl | rfl | rfl
  · show decide (n % 2 ≤ 1) = true
    exact decide_eq_true (by omega)
  · rw [p1]
    have hs : ∀ z, sgnOf z 1 = sgn 128 z := fun z => by unfold sgnOf; simp
    have hm : (0 : Int) ≤ (n % 256 : Nat) ∧ ((n % 256 : Nat) : Int) < 2 * 128 := by omega
    rw [hs]
    generalize ((n % 256 : Nat) : Int) = m at *
    have hkp := sgn_keep 128 m (.inl rfl) hm.1 hm.2
    generalize (sgn 128 m).toNat = x at *
    rw [fits_signed es 2 ref x (by decide) (by decide) (by decide) (by decide), show kSize ((2 : Nat) : Int) = 1 by decide, hs]
    exact decide_eq_true hkp
  · rw [p2]
    have hs : ∀ z, sgnOf z 2 = sgn 32768 z := fun z => by unfold sgnOf; simp
    have hm : (0 : Int) ≤ (n % 65536 : Nat) ∧ ((n % 65536 : Nat) : Int) < 2 * 32768 := by omega
    rw [hs]
    generalize ((n % 65536 : Nat) : Int) = m at *
    have hkp := sgn_keep 32768 m (.inr (.inl rfl)) hm.1 hm.2
    generalize (sgn 32768 m).toNat = x at *
    rw [fits_signed es 3 ref x (by decide) (by decide) (by decide) (by decide), show kSize ((3 : Nat) : Int) = 2 by decide, hs]
    exact decide_eq_true hkp
  · rw [p3]
    have hs : ∀ z, sgnOf z 4 = sgn 2147483648 z := fun z => by unfold sgnOf; simp
    have hm : (0 : Int) ≤ (n % 4294967296 : Nat) ∧ ((n % 4294967296 : Nat) : Int) < 2 * 2147483648 := by omega
    rw [hs]
    generalize ((n % 4294967296 : Nat) : Int) = m at *
    have hkp := sgn_keep 2147483648 m (.inr (.inr rfl)) hm.1 hm.2
    generalize (sgn 2147483648 m).toNat = x at *
    rw [fits_signed es 4 ref x (by decide) (by decide) (by decide) (by decide), show kSize ((4 : Nat) : Int) = 4 by decide, hs]
    exact decide_eq_true hkp
  · show decide (sgnOf _ 8 = _) = true
    exact decide_eq_true (sgnOf_else _ 8 (by decide) (by decide) (by decide))
  · rw [p5]
    show decide ((n % 256) / 256 = 0) = true
    exact decide_eq_true (by omega)
  · rw [p6]
    show decide ((n % 65536) / 65536 = 0) = true
    exact decide_eq_true (by omega)
  · rw [p7]
    show decide ((n % 4294967296) / 4294967296 = 0) = true
    exact decide_eq_true (by omega)
  · rw [p8]
    show decide (n / 18446744073709551616 = 0) = true
    exact decide_eq_true (by omega)
  · obtain ⟨h4, h5⟩ := h3 rfl
    show (decide (0 ≤ (ref : Int) ∧ (ref : Int) < es.length) && decide (n % cntE es ref < (es.getD (ref : Int).toNat ⟨⟨#[]⟩, []⟩).names.length)) = true
    rw [decide_eq_true ⟨by omega, by omega⟩, Int.toNat_natCast]
    exact decide_eq_true (Nat.mod_lt _ h5)
end Go.Proofs.YtiknhkkeifemcaaGreatDoor
namespace Go.Proofs.YtiknhkkeifemcaaGreatDoor
open Go.ChangeShapes Go.WideShapes Go.ChangeAt Go.RowKit Go.Shelf

theorem u16_info : (Tryz.prog.info? 240).map (fun i => (i.zero, i.size, i.bytes)) = some (some (.int .u16 0), 1, 2) := by kernel_rfl
theorem row_iter {W : World} {base : Nat} {e : TypeId} {size : Nat} {v : Value} {n : Nat} {xs : List Value} (h : W.ownsRow (base + 1) e size v n xs) (s : ByteArray) (pos : Nat) : (W.iterAt base s pos).ownsRow (base + 1) e size v n xs := by
  obtain ⟨hl, h'⟩ := h
  refine ⟨hl, ?_⟩
  rcases h' with h1 | ⟨g', cap', cur, hv, h1, hg', h2⟩
  · exact .inl h1
  · exact .inr ⟨g', cap', cur, hv, h1, (Lib.iterAt_other W base g' s pos (by omega)).trans hg', h2⟩
def UAt (w : World) (s : ByteArray) (e : TypeId) (k : IntKind) (v : Value) (W : World) : Prop :=
  ∃ (pos fuel : Nat) (acc : List Int), W.heap[w.heap.size]? = some (.stringIter s pos) ∧ Below w.heap.size w W ∧ W.ownsRow (w.heap.size + 1) e 1 v acc.length (acc.map (Value.int k)) ∧ acc ++ (runesL s fuel pos).flatMap unitR = unitsP s ∧ s.size ≤ pos + fuel ∧ acc.length ≤ 2 * pos
theorem uat_app {w W1 W2 : World} {s : ByteArray} {e : TypeId} {k : IntKind} {v v' : Value} {pos f n : Nat} {acc u : List Int} {o : Obj} (hit : W1.heap[w.heap.size]? = some (.stringIter s pos)) (hb : Below w.heap.size w W1) (hrow : W1.ownsRow (w.heap.size + 1) e 1 v n (acc.map (Value.int k))) (hlt : w.heap.size + 1 ≤ W1.heap.size)
    (hacc : (acc ++ u) ++ (runesL s f pos).flatMap unitR = unitsP s) (hf : s.size ≤ pos + f) (hl : (acc ++ u).length ≤ 2 * pos) (hown : W2.ownsRow (w.heap.size + 1) e 1 v' (acc ++ u).length ((acc ++ u).map (Value.int k))) (hg : (W1.alloc o).grownBy W2 v.ownBlock) : UAt w s e k v' W2 ∧ W2.iterPos w.heap.size = pos := by
  have hit2 : W2.heap[w.heap.size]? = some (.stringIter s pos) := by
    refine (hg.block w.heap.size (by rw [World.size_alloc]; omega) (fun he => ?_)).trans (blk_alloc hit o)
    have := (ownsRow_lt hrow _ he.symm).1
    omega
  refine ⟨⟨pos, f, acc ++ u, hit2, ?_, hown, hacc, hf, hl⟩, by simp only [World.iterPos, hit2]⟩
  exact (hb.alloc (by omega) o).grown hg (by rw [World.size_alloc]; omega) (fun q hq => by have := (ownsRow_lt hrow _ hq).1; omega)
def UPost (s : ByteArray) (e : TypeId) (k : IntKind) (w : World) (en : Ending) (w' : World) : Prop :=
  ∃ v, en = .returned v ∧ w'.ownsRow w.heap.size e 1 v (unitsP s).length ((unitsP s).map (Value.int k)) ∧ Below w.heap.size w w'
set_option maxRecDepth 100000 in
set_option maxHeartbeats 4000000 in
theorem lunits_any (s : ByteArray) (w : World) (hs : s.size ≤ 1000000000) :
    Calls Tryz.prog 152 #[.string s] w (UPost s 240 .u16 w) := by
  go_enter Tryz.func152, Tryz.ntmps152
  go_wp2
  go_loopw [3] (fun v wr => UAt w s 240 .u16 v wr) (fun _ wr => s.size - wr.iterPos w.heap.size)
  case atStart => exact ⟨0, s.size, [], World.iter_heap w s 0, (Below.refl _ w).alloc (Nat.le_refl _) _, World.ownsRow_nil _ _ _ _, rfl, by omega, by simp⟩
  case round =>
    obtain ⟨pos, fuel, acc, hit, hb, hrow, hacc, hfu, hal⟩ := hrel
    have hsz : w.heap.size < wr.heap.size := (Array.getElem?_eq_some_iff.1 hit).1
    have HROW := Lib.hid hrow
    have HACC := Lib.hid hacc
    have HB := Lib.hid hb
    have HIT := Lib.hid hit
    have HIP : Hid (wr.iterPos w.heap.size = pos) := Lib.hid (by simp only [World.iterPos, hit])
    obtain ⟨va, vc, rfl⟩ := ownsRow_form hrow
    clear hrow hacc hb hit
    by_cases hp : pos < s.size
    · have hnx : ∀ ty, (Instr.next (.pointer (some ⟨w.heap.size, 0, none⟩)) true ty).run Tryz.prog wr = _ := fun ty => Lib.run_next_any_at wr w.heap.size s pos ty HIT.out hp
      have hwd := width_pos s pos hp
      have hd1 : (Utf8.decode s pos).1 ≤ 1114111 := Lib.rune_le s pos
      obtain ⟨f, rfl⟩ : ∃ f, fuel = f + 1 := ⟨fuel - 1, by omega⟩
      have HST := Lib.hid (runesL_step s f pos hp)
      have HIT2 := Lib.hid (Lib.iterAt_heap wr w.heap.size s pos (pos + (Utf8.decode s pos).2) HIT.out)
      have HB2 := Lib.hid (Lib.below_iterAt HB.out (k := w.heap.size) (by omega) s (pos + (Utf8.decode s pos).2))
      have hsz2 : w.heap.size + 1 ≤ (wr.iterAt w.heap.size s (pos + (Utf8.decode s pos).2)).heap.size := by rw [Lib.iterAt_size]; omega
      have HROW2 := Lib.hid (row_iter HROW.out s (pos + (Utf8.decode s pos).2))
      generalize wr.iterAt w.heap.size s (pos + (Utf8.decode s pos).2) = W1 at *
      generalize (Utf8.decode s pos).2 = wid at *
      generalize (Utf8.decode s pos).1 = c at *
      clear HIT HB HROW
      by_cases hc : (c : Int) < 65536
      · have HU := Lib.hid (unitR_small c hc)
        have k1 : IntKind.u16.wrap (c : Int) = c := by simp only [IntKind.wrap, IntKind.bits, IntKind.signed]; simp; omega
        obtain ⟨i0, hi0, hz0, hz1, hz2⟩ := info_parts u16_info
        have I1 := Lib.hid hi0
        have I2 := Lib.hid hz0
        have I3 := Lib.hid hz1
        have I4 := Lib.hid hz2
        have HBN := Lib.hid (heap_alloc_new W1 (.cells #[.int .u16 c] 240))
        have HUA := Lib.hid (row_keep ((Below.refl _ W1).alloc (Nat.le_refl _) (.cells #[.int .u16 c] 240)) HROW2.out)
        have HFIN := Lib.hid (fun (v' : Value) (W2 : World) (hown : W2.ownsRow (w.heap.size + 1) 240 1 v' (acc.length + 1) (acc.map (Value.int .u16) ++ [.int .u16 c])) (hg : (W1.alloc (.cells #[.int .u16 c] 240)).grownBy W2 (Value.slice va acc.length vc).ownBlock) =>
          uat_app (w := w) (s := s) (u := [(c : Int)]) (f := f) HIT2.out HB2.out HROW2.out hsz2 (by rw [List.append_assoc, ← HACC.out, HST.out, List.flatMap_cons, HU.out]) (by omega) (by rw [List.length_append]; simp; omega) (by rw [List.length_append, List.map_append]; exact hown) hg)
        clear hi0 hz0 hz1 hz2 HACC HST HU HIT2 HB2
        go_upto_region 6 with (fail)
        clear hnx
        go_wp2_with (at_builtin; refine wpList_append_own _ rfl (.tmp 14) (.tmp 17) 236 rfl (w.heap.size + 1) 240 i0 _ 1 2 Tryz.underlying236 I1.out I2.out I3.out I4.out rfl (by decide) (.slice va acc.length vc) acc.length (acc.map (Value.int .u16)) rfl HUA.out _ 1 1 [.int .u16 c] rfl rfl (World.news_of_block HBN.out) (by intro u hu; simp at hu; subst hu; rfl) (by unfold maxLen; omega) (by omega) (by rw [World.size_alloc]; omega) ?_; intro v4 W8 hown4 hg4 hx; clear hx; have HF2 := Lib.hid (HFIN.out v4 W8 hown4 hg4); clear hown4 hg4)
        go_roundw
        case rel => exact HF2.out.1
        case measure => rw [HF2.out.2, HIP.out]; omega
      · have HU := Lib.hid (unitR_great c hc)
        have hd : decide ((c : Int) < 65536) = false := decide_eq_false hc
        obtain ⟨x, hx⟩ : ∃ x, (c : Int) - 65536 = x := ⟨_, rfl⟩
        have hx0 : 0 ≤ x := by omega
        have hx1 : x ≤ 1048575 := by omega
        rw [hx] at HU
        have k2 : IntKind.i32.wrap ((c : Int) - 65536) = x := by rw [hx]; simp only [IntKind.wrap, IntKind.bits, IntKind.signed]; simp; omega
        have k3 : x.tmod 1024 = x % 1024 := Int.tmod_eq_emod_of_nonneg hx0
        have q0 : 0 ≤ x / 1024 := by omega
        have q1 : x / 1024 ≤ 1023 := by omega
        have r0 : 0 ≤ x % 1024 := by omega
        have r1 : x % 1024 ≤ 1023 := by omega
        have k4 : IntKind.u16.wrap (55296 + x / 1024) = 55296 + x / 1024 := by simp only [IntKind.wrap, IntKind.bits, IntKind.signed]; simp; omega
        have k5 : IntKind.u16.wrap (56320 + x % 1024) = 56320 + x % 1024 := by simp only [IntKind.wrap, IntKind.bits, IntKind.signed]; simp; omega
        have k6 : IntKind.i32.wrap (55296 + x / 1024) = 55296 + x / 1024 := by simp only [IntKind.wrap, IntKind.bits, IntKind.signed]; simp; omega
        have k7 : IntKind.i32.wrap (56320 + x % 1024) = 56320 + x % 1024 := by simp only [IntKind.wrap, IntKind.bits, IntKind.signed]; simp; omega
        have k8 : (Op.shift .shr .i32 x .u64 10) = pure (.int .i32 (x / 1024)) := shift_shr_any (k := .i32) (yk := .u64) x 10 (by decide)
        clear hx
        go_upto_region 8 with (fail)
        clear hnx k2
        obtain ⟨i0, hi0, hz0, hz1, hz2⟩ := info_parts u16_info
        have I1 := Lib.hid hi0
        have I2 := Lib.hid hz0
        have I3 := Lib.hid hz1
        have I4 := Lib.hid hz2
        have HBN := Lib.hid (heap_alloc_new W1 (.cells #[.int .u16 (55296 + x / 1024), .int .u16 (56320 + x % 1024)] 240))
        have HUA := Lib.hid (row_keep ((Below.refl _ W1).alloc (Nat.le_refl _) (.cells #[.int .u16 (55296 + x / 1024), .int .u16 (56320 + x % 1024)] 240)) HROW2.out)
        have HFIN := Lib.hid (fun (v' : Value) (W2 : World) (hown : W2.ownsRow (w.heap.size + 1) 240 1 v' (acc.length + 2) (acc.map (Value.int .u16) ++ [.int .u16 (55296 + x / 1024), .int .u16 (56320 + x % 1024)])) (hg : (W1.alloc (.cells #[.int .u16 (55296 + x / 1024), .int .u16 (56320 + x % 1024)] 240)).grownBy W2 (Value.slice va acc.length vc).ownBlock) =>
          uat_app (w := w) (s := s) (u := [55296 + x / 1024, 56320 + x % 1024]) (f := f) HIT2.out HB2.out HROW2.out hsz2 (by rw [List.append_assoc, ← HACC.out, HST.out, List.flatMap_cons, HU.out]) (by omega) (by rw [List.length_append]; simp; omega) (by rw [List.length_append, List.map_append]; exact hown) hg)
        clear hi0 hz0 hz1 hz2 HACC HST HU HIT2 HB2
        go_wp2_with (at_builtin; refine wpList_append_own _ rfl (.tmp 21) (.tmp 30) 236 rfl (w.heap.size + 1) 240 i0 _ 1 2 Tryz.underlying236 I1.out I2.out I3.out I4.out rfl (by decide) (.slice va acc.length vc) acc.length (acc.map (Value.int .u16)) rfl HUA.out _ 2 2 [.int .u16 (55296 + x / 1024), .int .u16 (56320 + x % 1024)] rfl rfl (World.news_of_block HBN.out) (by intro u hu; simp at hu; rcases hu with rfl | rfl <;> rfl) (by unfold maxLen; omega) (by omega) (by rw [World.size_alloc]; omega) ?_; intro v4 W8 hown4 hg4 hx; clear hx; have HF2 := Lib.hid (HFIN.out v4 W8 hown4 hg4); clear hown4 hg4)
        go_roundw
        case rel => exact HF2.out.1
        case measure => rw [HF2.out.2, HIP.out]; omega
    · have hnx : ∀ ty, (Instr.next (.pointer (some ⟨w.heap.size, 0, none⟩)) true ty).run Tryz.prog wr = _ := fun ty => Lib.run_next_end_at wr w.heap.size s pos ty HIT.out hp
      have hend := runesL_end s fuel pos hp
      have hall : acc = unitsP s := by have h := HACC.out; rw [hend] at h; simpa using h
      have HALL := Lib.hid hall
      clear hend hall
      go_wp2
      go_ret
      refine ⟨_, rfl, ?_, HB.out⟩
      rw [← HALL.out]
      exact ownsRow_base HROW.out (Nat.le_succ _)
end Go.Proofs.YtiknhkkeifemcaaGreatDoor
namespace Go.Proofs.YtiknhkkeifemcaaGreatDoor
open Go.ChangeShapes Go.WideShapes Go.ChangeAt Go.RowKit Go.Shelf

theorem ret_i64 {a b : Int} (h : a = b) : Ending.returned (Value.int .i64 a) = .returned (.int .i64 b) := by rw [h]
def cmpZ (x y : Int) : Int := if x < y then -1 else if y < x then 1 else 0
theorem isnan_any (x : Int) (w : World) : Calls Tryz.prog 197 #[.int .u16 x] w fun e w' => e = .returned (.bool false) ∧ w = w' := by
  go_enter Tryz.func197, Tryz.ntmps197
  go_wp2
  go_ret
  exact ⟨by simp, rfl⟩
theorem cmp16_any (x y : Int) (w : World) : Calls Tryz.prog 178 #[.int .u16 x, .int .u16 y] w fun e w' => e = .returned (.int .i64 (cmpZ x y)) ∧ w = w' := by
  have HE : Hid (cmpZ x y = if x < y then -1 else if y < x then 1 else 0) := Lib.hid rfl
  generalize cmpZ x y = c at HE ⊢
  by_cases h1 : x < y
  · have HE2 := Lib.hid (HE.out.trans (if_pos h1))
    go_enter Tryz.func178, Tryz.ntmps178
    go_wp2_with (go_at_call 197; refine (isnan_any _ _).mono ?_; rintro e w' ⟨rfl, rfl⟩)
    go_ret
    exact ⟨ret_i64 HE2.out.symm, rfl⟩
  · by_cases h2 : y < x
    · have HE2 := Lib.hid ((HE.out.trans (if_neg h1)).trans (if_pos h2))
      go_enter Tryz.func178, Tryz.ntmps178
      go_wp2_with (go_at_call 197; refine (isnan_any _ _).mono ?_; rintro e w' ⟨rfl, rfl⟩)
      go_ret
      exact ⟨ret_i64 HE2.out.symm, rfl⟩
    · have HE2 := Lib.hid ((HE.out.trans (if_neg h1)).trans (if_neg h2))
      go_enter Tryz.func178, Tryz.ntmps178
      go_wp2_with (go_at_call 197; refine (isnan_any _ _).mono ?_; rintro e w' ⟨rfl, rfl⟩)
      go_ret
      exact ⟨ret_i64 HE2.out.symm, rfl⟩
theorem u16_at {w : World} {b : Nat} {v : Value} {l : List Int} (h : w.ownsRow b 240 1 v l.length (u16s l)) : ∃ A c, v = .slice A l.length c ∧ ∀ k, k < l.length → ∃ g, A = some ⟨g, 0, none⟩ ∧ g < w.heap.size ∧ w.cell? ⟨g, k, none⟩ = some (.int .u16 (l.getD k 0)) := by
  rcases h.2 with ⟨rfl, h0⟩ | ⟨g, cap, cur, rfl, hB, hg, hnc, hm, hs, ht⟩
  · rw [h0]
    exact ⟨none, 0, rfl, fun k hk => absurd hk (Nat.not_lt_zero k)⟩
  · refine ⟨_, cap, rfl, fun k hk => ⟨g, rfl, blk_lt hg, ?_⟩⟩
    rw [blk_cell hg k]
    have h1 : cur[k]? = (cur.toList.take (l.length * 1))[k]? := by
      rw [List.getElem?_take, if_pos (by omega), Array.getElem?_toList]
    rw [h1, ht]
    simp [u16s, List.getD, hk]
set_option maxRecDepth 100000 in
set_option maxHeartbeats 2000000 in
theorem compare_any {w : World} {b1 b2 : Nat} {v1 v2 : Value} {l1 l2 : List Int} (h1 : w.ownsRow b1 240 1 v1 l1.length (u16s l1)) (h2 : w.ownsRow b2 240 1 v2 l2.length (u16s l2)) (hl1 : l1.length ≤ 1000000) :
    Calls Tryz.prog 155 #[v1, v2] w fun e w' => e = .returned (.int .i64 (cmpU l1 l2)) ∧ w = w' := by
  obtain ⟨A1, c1, rfl, x1⟩ := u16_at h1
  obtain ⟨A2, c2, rfl, x2⟩ := u16_at h2
  have X1 := Lib.hid x1
  have X2 := Lib.hid x2
  obtain ⟨r, hr⟩ : ∃ r, cmpU l1 l2 = r := ⟨_, rfl⟩
  rw [hr]
  have HR : Hid (cmpU (l1.drop 0) (l2.drop 0) = r) := Lib.hid hr
  have HEND := Lib.hid (cmpU_end l1 l2)
  have HOUT := Lib.hid (cmpU_out l1 l2)
  have HDR := Lib.hid (cmpU_drop l1 l2)
  obtain ⟨n1, hn1⟩ : ∃ n1, l1.length = n1 := ⟨_, rfl⟩
  obtain ⟨n2, hn2⟩ : ∃ n2, l2.length = n2 := ⟨_, rfl⟩
  rw [hn1] at X1 HEND HOUT HDR hl1 ⊢
  rw [hn2] at X2 HEND HOUT HDR ⊢
  clear h1 h2 x1 x2 hr hn1 hn2
  go_enter Tryz.func155, Tryz.ntmps155
  go_wp2
  go_loopw [11] (fun i wr => ∃ k : Nat, k ≤ n1 ∧ k ≤ n2 ∧ i = .int .i64 k ∧ wr = w ∧ Hid (cmpU (l1.drop k) (l2.drop k) = r)) (fun i _ => n1 - (intOf i).toNat)
  case atStart => exact ⟨0, Nat.zero_le _, Nat.zero_le _, rfl, rfl, HR⟩
  case round =>
    obtain ⟨k, hk1, hk2, rfl, rfl, HK⟩ := hrel
    by_cases hlt : k < n1
    · have hki : (k : Int) < n1 := by omega
      obtain ⟨g1, rfl, hg1, y1⟩ := X1.out k hlt
      by_cases hlt2 : k < n2
      · have hki2 : ¬ (n2 : Int) ≤ k := by omega
        have hki3 : (k : Int) < n2 := by omega
        obtain ⟨g2, rfl, hg2, y2⟩ := X2.out k hlt2
        have HD := Lib.hid (HDR.out k hlt hlt2)
        generalize l1.getD k 0 = a at *
        generalize l2.getD k 0 = c at *
        go_wp2_with fail
        refine (cmp16_any a c wr).mono ?_
        rintro e w1 ⟨rfl, rfl⟩
        have HZ : Hid (cmpZ a c = if a < c then -1 else if c < a then 1 else 0) := Lib.hid rfl
        generalize cmpZ a c = z at *
        by_cases h1 : a < c
        · obtain rfl : z = -1 := HZ.out.trans (if_pos h1)
          have HE := Lib.hid ((HK.out.symm.trans HD.out).trans (if_pos h1))
          clear HZ h1
          go_wp2
          go_ret
          exact ⟨ret_i64 HE.out.symm, rfl⟩
        · by_cases h2 : c < a
          · obtain rfl : z = 1 := (HZ.out.trans (if_neg h1)).trans (if_pos h2)
            have HE := Lib.hid (((HK.out.symm.trans HD.out).trans (if_neg h1)).trans (if_pos h2))
            clear HZ h1 h2
            go_wp2
            go_ret
            exact ⟨ret_i64 HE.out.symm, rfl⟩
          · obtain rfl : z = 0 := (HZ.out.trans (if_neg h1)).trans (if_neg h2)
            have HE := Lib.hid ((HD.out.trans ((if_neg h1).trans (if_neg h2))).symm.trans HK.out)
            clear HZ h1 h2
            go_wp2
            go_roundw
            case rel => exact ⟨k + 1, hlt, hlt2, by go_num, trivial, HE⟩
            case measure => simp [intOf]; omega
      · have hki2 : (n2 : Int) ≤ k := by omega
        have HE := Lib.hid (HK.out.symm.trans (HOUT.out k hlt (by omega)))
        go_wp2
        go_ret
        exact ⟨ret_i64 HE.out.symm, rfl⟩
    · obtain rfl : k = n1 := by omega
      have hki : ¬ (k : Int) < k := by omega
      have HE := Lib.hid (HK.out.symm.trans (HEND.out k rfl hk2))
      by_cases h3 : k < n2
      · have h3i : (k : Int) < n2 := by omega
        have HE2 := Lib.hid (HE.out.trans (if_pos h3))
        go_wp2
        go_ret
        exact ⟨ret_i64 HE2.out.symm, rfl⟩
      · have h3i : ¬ (k : Int) < n2 := by omega
        have HE2 := Lib.hid (HE.out.trans (if_neg h3))
        go_wp2
        go_ret
        exact ⟨ret_i64 HE2.out.symm, rfl⟩
end Go.Proofs.YtiknhkkeifemcaaGreatDoor
namespace Go.Proofs.YtiknhkkeifemcaaGreatDoor
open Go.ChangeShapes Go.WideShapes Go.ChangeAt Go.RowKit Go.Shelf

def natC (l : List Nat) : List Value := l.map fun n : Nat => Value.int .i64 (n : Int)
def RowN (w : World) (g : Nat) (l : List Nat) : Prop := w.heap[g]? = some (.cells (natC l).toArray 3 (0, 0))
theorem RowN.at {w : World} {g : Nat} {l : List Nat} (h : RowN w g l) (k : Nat) (hk : k < l.length) : w.cell? ⟨g, k, none⟩ = some (.int .i64 (l[k] : Nat)) ∧ w.frozen? ⟨g, k, none⟩ = false := by
  refine ⟨?_, blk_frozen h k⟩
  rw [blk_cell h k]
  simp [natC, hk]
theorem RowN.set {w : World} {g : Nat} {l : List Nat} (h : RowN w g l) (k x : Nat) : RowN (w.setCell ⟨g, k, none⟩ (.int .i64 (x : Int))) g (l.set k x) := by
  refine (blk_set h k _).trans ?_
  simp [natC, List.map_set]
structure CmpQ (g n : Nat) (w : World) (gf : FuncId) (lb : Array Value) (cf : Nat → Nat → Int) : Prop where
  enters : ∀ args w, (callFunc gf args).run Tryz.prog w = .ok (.enter gf args) w
  gives : ∀ (W : World) (a b : Nat), a < n → b < n → Exc g w.heap.size w W → Calls Tryz.prog gf (#[.int .i64 (a : Int), .int .i64 (b : Int)] ++ lb) W fun e w' => e = .returned (.int .i64 (cf a b)) ∧ ∃ q, w' = W.drewN q
theorem exc_drewN {R B : Nat} {w W : World} (h : Exc R B w W) (q : Nat) : Exc R B w (W.drewN q) := ⟨h.os, h.tape, h.output, h.size, h.block⟩
structure InsI (lt : Nat → Nat → Bool) (n i : Nat) (pre post l : List Nat) : Prop where
  sort : pre ++ post = sortD lt i
  past : ∀ p ∈ post, lt i p = true
  is : l = pre ++ i :: (post ++ List.range' (i + 1) (n - (i + 1)))
theorem InsI.len {lt : Nat → Nat → Bool} {n i : Nat} {pre post l : List Nat} (h : InsI lt n i pre post l) (hi : i < n) : l.length = n := by
  have h1 := congrArg List.length h.sort
  rw [sortD_len, List.length_append] at h1
  rw [h.is]
  simp
  omega
theorem InsI.small {lt : Nat → Nat → Bool} {n i : Nat} {pre post l : List Nat} (h : InsI lt n i pre post l) : ∀ p ∈ pre, p < i := fun p hp => (sortD_mem lt i p).1 (by rw [← h.sort]; exact List.mem_append_left _ hp)
theorem ins_start (lt : Nat → Nat → Bool) {n i : Nat} (hi : i < n) : InsI lt n i (sortD lt i) [] (sortD lt i ++ List.range' i (n - i)) := by
  refine ⟨by simp, fun p hp => (by cases hp), ?_⟩
  rw [show n - i = (n - (i + 1)) + 1 by omega, List.range'_succ]
  rfl
theorem ins_go {lt : Nat → Nat → Bool} {n i y : Nat} {pre post l : List Nat} (h : InsI lt n i (pre ++ [y]) post l) (hl : lt i y = true) : InsI lt n i pre (y :: post) ((l.set (pre.length + 1) y).set pre.length i) := by
  refine ⟨by rw [← h.sort]; simp, fun p hp => ?_, ?_⟩
  · rcases List.mem_cons.1 hp with rfl | hp
    · exact hl
    · exact h.past p hp
  · rw [h.is, List.append_assoc, List.set_append_right _ _ (by omega), List.set_append_right _ _ (Nat.le_refl _)]
    simp
theorem ins_end {lt : Nat → Nat → Bool} (hO : OrdL lt) {n i : Nat} {pre post l : List Nat} (h : InsI lt n i pre post l) (hs : pre = [] ∨ ∃ p2 y, pre = p2 ++ [y] ∧ lt i y = false) : l = sortD lt (i + 1) ++ List.range' (i + 1) (n - (i + 1)) := by
  have hpre : ∀ p ∈ pre, lt i p = false := by
    rcases hs with rfl | ⟨p2, y, rfl, hy⟩
    · intro p hp; cases hp
    · have hu := sortD_up hO i
      rw [← h.sort, List.append_assoc] at hu
      exact up_stop hO hu hy
  have h1 := insD_split lt i pre post hpre h.past
  rw [h.sort] at h1
  rw [sortD, h1, h.is]
  simp
theorem snoc_of {l : List Nat} (h : 0 < l.length) : ∃ p y, l = p ++ [y] ∧ p.length = l.length - 1 := by
  refine ⟨l.dropLast, l.getLast (List.ne_nil_of_length_pos h), (List.dropLast_concat_getLast _).symm, List.length_dropLast⟩
set_option maxRecDepth 1000000 in
set_option maxHeartbeats 4000000 in
theorem insn_any {w : World} {g n cap : Nat} {gf : FuncId} {lb : Array Value} {cf : Nat → Nat → Int} {lt : Nat → Nat → Bool} (hlt : ∀ a b, lt a b = decide (cf a b < 0)) (hO : OrdL lt) (hrow : RowN w g (List.range n)) (hc : CmpQ g n w gf lb cf) (hn : n ≤ 1000000) :
    Calls Tryz.prog 195 #[.slice (some ⟨g, 0, none⟩) n cap, .int .i64 0, .int .i64 n, .func (.func gf) #[] lb] w fun e w' => e = .returned (.tuple #[]) ∧ RowN w' g (sortD lt n) ∧ Exc g w.heap.size w w' := by
  have he1 := hc.enters
  have HC := Lib.hid hc.gives
  have HO := Lib.hid hO
  have HLT := Lib.hid hlt
  have HST : Hid (RowN w g (sortD lt 0 ++ List.range' 0 (n - 0))) := Lib.hid (by rw [Nat.sub_zero, ← List.range_eq_range']; exact hrow)
  have hgl : g < w.heap.size := blk_lt hrow
  clear hc hO hlt hrow
  rcases Nat.lt_or_ge 0 n with hn0 | hn0
  · have HS1 : Hid (RowN w g (sortD lt 1 ++ List.range' 1 (n - 1))) := Lib.hid (by
      have h := HST.out
      rw [show n - 0 = (n - 1) + 1 by omega, List.range'_succ] at h
      exact h)
    go_enter Tryz.func195, Tryz.ntmps195
    go_wp2
    go_loopw [8] (fun vi wr => ∃ i : Nat, 1 ≤ i ∧ i ≤ n ∧ vi = .int .i64 i ∧ RowN wr g (sortD lt i ++ List.range' i (n - i)) ∧ Exc g w.heap.size w wr) (fun vi _ => n - (intOf vi).toNat)
    case atStart => exact ⟨1, Nat.le_refl _, hn0, by go_num, HS1.out, Exc.refl _ _ _⟩
    case round =>
      obtain ⟨i, hi1, hin, rfl, hrw, hx⟩ := hrel
      have HRW := Lib.hid hrw
      have HX := Lib.hid hx
      clear hrw hx HS1 HST
      by_cases hlt : i < n
      · have hltz : (i : Int) < (n : Int) := by omega
        obtain ⟨WO, rfl⟩ : ∃ WO, WO = wr := ⟨_, rfl⟩
        go_wp2
        go_loopw [9] (fun vj wr2 => ∃ pre post l : List Nat, vj = .int .i64 (pre.length : Nat) ∧ InsI lt n i pre post l ∧ RowN wr2 g l ∧ Exc g w.heap.size w wr2) (fun vj _ => (intOf vj).toNat)
        case atStart => exact ⟨sortD lt i, [], _, by rw [sortD_len], ins_start lt hlt, HRW.out, HX.out⟩
        case round =>
          obtain ⟨pre, post, l, rfl, hI, hrw2, hx2⟩ := hrel
          have HI := Lib.hid hI
          have HRW2 := Lib.hid hrw2
          have HX2 := Lib.hid hx2
          have hll := hI.len hlt
          clear hI hrw2 hx2
          rcases Nat.eq_zero_or_pos pre.length with hp0 | hp0
          · have hE := Lib.hid (ins_end HO.out HI.out (.inl (List.eq_nil_of_length_eq_zero hp0)))
            rw [hp0]
            have hg : decide (((0 : Nat) : Int) > 0) = false := by decide
            have HD : Hid (∀ q, RowN (wr.drewN q) g l ∧ Exc g w.heap.size w (wr.drewN q)) := Lib.hid (fun q => ⟨HRW2.out, exc_drewN HX2.out q⟩)
            generalize wr = wq at *
            go_wp2_with fail
            go_region
            all_goals go_wp2
            go_roundw
            case rel => exact ⟨i + 1, by omega, hlt, by go_num, by rw [← hE.out]; exact HRW2.out, ⟨HX2.out.os, HX2.out.tape, HX2.out.output, HX2.out.size, HX2.out.block⟩⟩
            case measure => simp [intOf] <;> omega
          · obtain ⟨p2, y, rfl, hp2⟩ := snoc_of hp0
            have hpl : (p2 ++ [y]).length = p2.length + 1 := by simp
            have hyi := HI.out.small y (by simp)
            have hLi : l[p2.length + 1]? = some i := by rw [HI.out.is]; simp
            have hLy : l[p2.length]? = some y := by rw [HI.out.is]; simp
            obtain ⟨jp, hjp⟩ : ∃ jp, p2.length = jp := ⟨_, rfl⟩
            have hjl : jp + 1 < l.length := by
              rw [hjp] at hLi
              rcases Nat.lt_or_ge (jp + 1) l.length with h | h
              · exact h
              · rw [List.getElem?_eq_none h] at hLi; cases hLi
            rw [hjp] at hLi hLy
            obtain ⟨c1, f1⟩ := HRW2.out.at (jp + 1) hjl
            obtain ⟨c0, f0⟩ := HRW2.out.at jp (by omega)
            have e1 : l[jp + 1] = i := by rw [List.getElem?_eq_getElem hjl] at hLi; exact Option.some.inj hLi
            have e0 : l[jp]'(by omega) = y := by rw [List.getElem?_eq_getElem (by omega : jp < l.length)] at hLy; exact Option.some.inj hLy
            rw [e1] at c1
            rw [e0] at c0
            rw [hpl, hjp]
            have HG := Lib.hid (fun W hW => HC.out W i y hlt (by omega) hW)
            have hc : ∀ k, Calls Tryz.prog gf (#[.int .i64 (i : Int), .int .i64 (y : Int)] ++ lb) (wr.drewN k) fun e w' => e = .returned (.int .i64 (cf i y)) ∧ ∃ q, w' = (wr.drewN k).drewN q := fun k => HG.out _ (exc_drewN HX2.out k)
            have HJP := Lib.hid hjp
            have hjz : (jp : Int) + 1 < (n : Int) := by omega
            have hjz1 : (jp : Int) < (n : Int) := by omega
            have hja : (0 : Int) < ((jp + 1 : Nat) : Int) := by omega
            have hcast : ((jp + 1 : Nat) : Int) = (jp : Int) + 1 := by omega
            have HLTY := Lib.hid (HLT.out i y)
            have ej : ((jp : Int) + 1).toNat = jp + 1 := by omega
            clear hjp hLi hLy hpl e1 e0
            rw [hcast]
            have hg : (jp : Int) + 1 > 0 := by omega
            have hg2 : (0 : Int) ≤ (jp : Int) + 1 := by omega
            obtain ⟨cv, hcv⟩ : ∃ cv, cf i y = cv := ⟨_, rfl⟩
            rw [hcv] at hc HLTY
            clear hcv hcast hja
            by_cases hlv : cv < 0
            · have HT : Hid (lt i y = true) := Lib.hid (HLTY.out.trans (decide_eq_true hlv))
              go_wp2_with fail
              go_quiet (first | (go_at_fn gf; refine Calls.quiet_of (hc _)))
              go_wp2_with fail
              have HRW3 : Hid (RowN (wr.drewN nq) g l) := Lib.hid HRW2.out
              have HX3 : Hid (Exc g w.heap.size w (wr.drewN nq)) := Lib.hid (exc_drewN HX2.out nq)
              have c1' : (wr.drewN nq).cell? ⟨g, jp + 1, none⟩ = some (.int .i64 (i : Int)) := c1
              have c0' : (wr.drewN nq).cell? ⟨g, jp, none⟩ = some (.int .i64 (y : Int)) := c0
              have f1' : (wr.drewN nq).frozen? ⟨g, jp + 1, none⟩ = false := f1
              have f0' : (wr.drewN nq).frozen? ⟨g, jp, none⟩ = false := f0
              clear c1 c0 f1 f0 hc
              generalize wr.drewN nq = wq at *
              obtain ⟨j1, hj1⟩ : ∃ j1, j1 = jp + 1 := ⟨_, rfl⟩
              rw [← hj1] at c1' f1' ej
              have J1 := Lib.hid hj1
              clear hj1
              go_region
              all_goals go_wp2
              go_roundw
              case measure => simp [intOf] <;> omega
              case rel =>
                refine ⟨p2, y :: post, _, by rw [HJP.out], ins_go HI.out HT.out, ?_, ?_⟩
                · rw [HJP.out, ← J1.out]
                  exact (RowN.set (HRW3.out) j1 y).set jp i
                · exact ((exc_drewN HX3.out 1).setCell (p := ⟨g, j1, none⟩) (.inl rfl) _).setCell (p := ⟨g, jp, none⟩) (.inl rfl) _
            · have HE := Lib.hid (ins_end HO.out HI.out (.inr ⟨p2, y, rfl, HLTY.out.trans (decide_eq_false hlv)⟩))
              go_wp2_with fail
              go_quiet (first | (go_at_fn gf; refine Calls.quiet_of (hc _)))
              go_wp2
              go_roundw
              case rel => exact ⟨i + 1, by omega, hlt, by go_num, by rw [← HE.out]; exact HRW2.out, exc_drewN HX2.out _⟩
              case measure => simp [intOf] <;> omega
      · obtain rfl : i = n := by omega
        have hltz : ¬ ((i : Nat) : Int) < i := by omega
        have HF : Hid (RowN wr g (sortD lt i)) := Lib.hid (by have h := HRW.out; rw [Nat.sub_self] at h; simpa using h)
        go_wp2
        go_end0
        exact ⟨rfl, HF.out, HX.out⟩
  · obtain rfl : n = 0 := by omega
    have HF : Hid (RowN w g (sortD lt 0)) := Lib.hid HST.out
    go_enter Tryz.func195, Tryz.ntmps195
    go_wp2
    go_loopw [8] (fun vi wr => vi = .int .i64 1 ∧ wr = w) (fun _ _ => 0)
    case atStart => exact ⟨by go_num, rfl⟩
    case round =>
      obtain ⟨rfl, rfl⟩ := hrel
      go_wp2
      go_end0
      exact ⟨rfl, HF.out, Exc.refl _ _ _⟩
end Go.Proofs.YtiknhkkeifemcaaGreatDoor
