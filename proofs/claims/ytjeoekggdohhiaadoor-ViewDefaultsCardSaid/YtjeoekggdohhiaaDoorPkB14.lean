/-
  The hand's Made: what its loops keep in memory; the loop over an enum's values. Conditions: those that each theorem names.
-/
import Derived.Test.YtjeoekggdohhiaaDoorPkB13
import Derived.Deep.Cut
import Derived.Deep.AppendLies
import Derived.OwnWalk
namespace Go.Proofs.YtjeoekggdohhiaaDoor
open Go.ChangeShapes Go.WideShapes Go.ChangeAt Go.RowKit Go.Shelf

theorem rws_ne {w : World} {b b' : Nat} {e e' : TypeId} {s s' : Nat} {v v' : Value} {n n' : Nat} {xs xs' : List Value} (h : w.ownsRow b e s v n xs) (h' : w.ownsRow b' e' s' v' n' xs') (hne : e ≠ e') : ∀ k, v.ownBlock = some k → v'.ownBlock ≠ some k := by
  intro k hk hk'
  rcases h.2 with ⟨rfl, _⟩ | ⟨g, cap, cur, rfl, _, hg, _⟩
  · simp [Value.ownBlock] at hk
  rcases h'.2 with ⟨rfl, _⟩ | ⟨g', cap', cur', rfl, _, hg', _⟩
  · simp [Value.ownBlock] at hk'
  simp [Value.ownBlock] at hk hk'
  subst hk
  subst hk'
  rw [hg] at hg'
  injection hg' with hg'
  injection hg' with _ ht
  exact hne ht
theorem rws_other {w w' : World} {row : Option Nat} (hg : w.grownBy w' row) {b : Nat} {e : TypeId} {s : Nat} {v : Value} {n : Nat} {xs : List Value} (h : w.ownsRow b e s v n xs) (hne : ∀ k, v.ownBlock = some k → row ≠ some k) : w'.ownsRow b e s v n xs := by
  obtain ⟨hl, h'⟩ := h
  refine ⟨hl, ?_⟩
  rcases h' with h1 | ⟨g', cap', cur, hv, h1, hg', h2⟩
  · exact .inl h1
  · have hlt := blk_lt hg'
    subst hv
    exact .inr ⟨g', cap', cur, rfl, h1, (hg.block g' hlt (fun e => hne g' (by simp [Value.ownBlock]) e.symm)).trans hg', h2⟩
theorem step2 {C : Nat} {w0 wr W2 W8 : World} {nm nv v4 : Value} {ty e : TypeId} {sz n m : Nat} {xs xs' : List Value} (hb : Below C w0 wr) (hC : wr.heap[C]? = some (.cells #[nm, nv] ty (0, 0))) (hrow : wr.ownsRow (C + 1) e sz nv n xs) (h2 : Below wr.heap.size wr W2)
    (hg : W2.grownBy W8 nv.ownBlock) (ho : W8.ownsRow (C + 1) e sz v4 m xs') :
    Below C w0 (W8.setCell ⟨C, 1, none⟩ v4) ∧ (W8.setCell ⟨C, 1, none⟩ v4).heap[C]? = some (.cells #[nm, v4] ty (0, 0)) ∧ (W8.setCell ⟨C, 1, none⟩ v4).ownsRow (C + 1) e sz v4 m xs' ∧ W8.heap[C]? = some (.cells #[nm, nv] ty (0, 0)) := by
  have hlt := blk_lt hC
  have hC8 : W8.heap[C]? = some (.cells #[nm, nv] ty (0, 0)) := (hg.block C (Nat.lt_of_lt_of_le hlt h2.size) (fun e => by have := (ownsRow_lt hrow C e.symm).1; omega)).trans ((h2.block C hlt).trans hC)
  exact ⟨((hb.trans (h2.mono (Nat.le_of_lt hlt))).grown hg (by have := h2.size; omega) (fun k hk => by have := (ownsRow_lt hrow k hk).1; omega)).setCell (Nat.le_refl _) v4, (blk_set hC8 1 v4).trans rfl, ownsRow_setCell_below ho (Nat.lt_succ_self C) v4, hC8⟩
theorem two_str (W : World) (x y : Int) : (convert 22 9 (.slice (some ⟨W.heap.size, 0, none⟩) 2 2)).run Tryd.prog (W.alloc (.cells #[.int .u8 x, .int .u8 y] 5)) = .ok (.string (strOfNums [x, y])) (W.alloc (.cells #[.int .u8 x, .int .u8 y] 5)) := by
  refine run_convert_bytes_arg (P := Tryd.prog) _ 22 5 Tryd.underlying22 Tryd.underlying5 W.heap.size 0 2 2 [x, y] rfl (fun k hk => ?_) 9 Tryd.underlying9
  have : k = 0 ∨ k = 1 := by omega
  rcases this with rfl | rfl
  · rw [cell_of_row _ _ _ _ _ (0, 0) (heap_alloc_new W _)]
    rfl
  · rw [cell_of_row _ _ _ _ _ (0, 0) (heap_alloc_new W _)]
    rfl
def valsL (k : Nat) : List ByteArray := (List.range k).map valName
theorem valsL_succ (k : Nat) : valsL (k + 1) = valsL k ++ [valName k] := by simp [valsL, List.range_succ]
theorem valsL_length (k : Nat) : (valsL k).length = k := by simp [valsL]
theorem strsCells_succ (k : Nat) : strsCells (valsL (k + 1)) = strsCells (valsL k) ++ [.string (valName k)] := by rw [valsL_succ, strsCells_snoc]; rfl
set_option maxRecDepth 100000 in
theorem vals_wp {Q : Exit → Act → World → Prop} {c : Act} {w0 : World} {b i C n0 c0 z B off : Nat} {x1 x2 x3 nm : Value} (hc : FrB b i C 0 c) (hbox : w0.heap[b]? = some (.cells #[.slice (some ⟨B, off, none⟩) n0 c0, x1, x2, x3] 25 (0, 0))) (hbC : b < C) (hBC : B < C)
    (hz : w0.cell? ⟨B, off + i, none⟩ = some (.int .u8 z)) (hz2 : z ≤ 255) (hi : i < n0) (hC : w0.heap[C]? = some (.cells #[nm, .slice none 0 0] 64 (0, 0)))
    (hQ : ∀ c' w' nv, FrB b i C (z % 32 + 1) c' → Below C w0 w' → w'.heap[C]? = some (.cells #[nm, nv] 64 (0, 0)) → w'.ownsRow (C + 1) 9 1 nv (z % 32 + 1) (strsCells (valsL (z % 32 + 1))) → Q (.exit 2) c' w') :
    Code.wp Tryd.prog (Code.loop (madeLoop 1)) Q c w0 := by
  refine wp_loop (fun c' w' => ∃ (k : Nat) (nv : Value), k ≤ z % 32 + 1 ∧ FrB b i C k c' ∧ Below C w0 w' ∧ w'.heap[C]? = some (.cells #[nm, nv] 64 (0, 0)) ∧ w'.ownsRow (C + 1) 9 1 nv k (strsCells (valsL k)))
    (fun c' _ => z % 32 + 2 - (intOf (c'.tmps.getD 7 undef)).toNat) ⟨0, _, Nat.zero_le _, hc, Below.refl _ _, hC, World.ownsRow_nil _ _ _ _⟩ ?_
  clear hc hC
  rintro c wr ⟨k, nv, hk, hc, hb, hC, hrow⟩
  have HB := Lib.hid hb
  have HQ := Lib.hid hQ
  have HCB := Lib.hid hC
  have HROW := Lib.hid hrow
  obtain ⟨u, rfl⟩ := frb_lit hc
  have hbx := blk_below hbox hb hbC
  have y0 := (blk_cell hbx 0).trans rfl
  have hq := (hb.cell (p := ⟨B, off + i, none⟩) hBC).trans hz
  have hmod : (z : Int) % 32 = ((z % 32 : Nat) : Int) := by omega
  have hz32 : z % 32 < 32 := by omega
  obtain ⟨nva, nvc, rfl⟩ := ownsRow_form hrow
  obtain ⟨hCl, c0', c1', f0, f1⟩ := blk2 hC
  obtain ⟨i0, hi0, hzz0, hzz1, hzz2⟩ := info_parts str_info
  have I1 := Lib.hid hi0
  have I2 := Lib.hid hzz0
  have I3 := Lib.hid hzz1
  have I4 := Lib.hid hzz2
  have kc := two_str
  generalize z % 32 = cn at *
  clear hc hQ hb hC hrow hbx hz hbox hi0 hzz0 hzz1 hzz2
  conv => arg 2; whnf
  by_cases hkl : k ≤ cn
  · have hsz : ¬ 9223372036854775807 < 1 + (strOfNums [97 + (k : Int) % 26, 97 + (k : Int) / 26]).size := by rw [strOfNums_size]; simp
    obtain ⟨hb2, hB1, hB2⟩ := two_start wr #[.int .u8 (97 + (k : Int) % 26), .int .u8 (97 + (k : Int) / 26)] #[.string (valName k)] 5 9
    have HB2 := Lib.hid hb2
    have HBB := Lib.hid hB2
    clear hb2 hB1 hB2
    go_wp2_with (at_builtin; refine wpList_append_own _ rfl (.tmp 65) (.tmp 77) 62 rfl (C + 1) 9 i0 _ 1 16 Tryd.underlying62 I1.out I2.out I3.out I4.out rfl (by decide) _ k (strsCells (valsL k)) rfl (row_keep HB2.out HROW.out) _ 1 1 [.string (valName k)] rfl rfl (World.news_of_block HBB.out) (by intro u hu; rw [List.mem_singleton.1 hu]; rfl) (by unfold maxLen; omega) (by omega) (by simp; omega) ?_; intro v4 W8 hown4 hg4 hx; clear hx; obtain ⟨s1, s2, s3, s4⟩ := step2 HB.out HCB.out HROW.out HB2.out hg4 hown4; obtain ⟨_, d0, d1, e0, e1⟩ := blk2 s4; have S1 := Lib.hid s1; have S2 := Lib.hid s2; have S3 := Lib.hid s3; obtain ⟨a4, m4, rfl⟩ := ownsRow_form hown4; clear s1 s2 s3 s4 hown4 hg4)
    refine ⟨⟨k + 1, _, by omega, ⟨rfl, rfl, rfl, rfl, rfl, rfl, rfl, rfl, rfl⟩, S1.out, S2.out, by rw [strsCells_succ]; exact S3.out⟩, ?_⟩
    show cn + 2 - (intOf (.int .i64 ((k : Int) + 1))).toNat < cn + 2 - (intOf (.int .i64 (k : Int))).toNat
    simp [intOf]; omega
  · obtain rfl : k = cn + 1 := by omega
    clear hkl
    go_wp2
    exact HQ.out _ _ _ ⟨rfl, rfl, rfl, rfl, rfl, rfl, rfl, rfl, rfl⟩ HB.out HCB.out HROW.out
end Go.Proofs.YtjeoekggdohhiaaDoor
