/-
  The law ArenaPlays returns true for every bound and all calls: a walk over the callees' contracts. No conditions but that what came in can be read.
-/
import Derived.Test.YtennhmaiecfgpaaPlayRound
namespace Go.Proofs.Ytennhmaiecfgpaa
open Go.ChangeShapes Go.WideShapes Go.ChangeAt Go.RowKit

set_option maxRecDepth 100000 in
theorem loop_wp {Q : Exit → Act → World → Prop} {c : Act} {w0 w : World} {most : Int} {a : Option Addr} {len cap ar : Nat} {L : Int}
    (hc : Fr0 most a len cap w0.heap.size ar 0 c) (hp : Play w w0.heap.size ar L [] false none 0 none 0) (hb : Below w0.heap.size w0 w) (hz : ∀ r, r < len → ∃ K N S U D dl dc Z, ActAt w0 a r K N S U D dl dc Z) (hL0 : 0 ≤ L) (hL1 : L ≤ 9223372036854775807)
    (hQ : ∀ k c' w', Fr0 most a len cap w0.heap.size ar k c' → Below w0.heap.size w0 w' → Q (.exit 0) c' w') : Code.wp Try.prog (Code.loop playBody) Q c w := by
  refine wp_loop (fun c' w' => ∃ (k : Nat) (zs : List Int) (over : Bool) (B : Option Addr) (cb : Nat) (A : Option Addr) (ca : Nat), Fr0 most a len cap w0.heap.size ar k c' ∧ k ≤ len ∧ zs.length ≤ 5000 * k ∧ Play w' w0.heap.size ar L zs over B cb A ca ∧ Below w0.heap.size w0 w')
    (fun c' _ => len - (intOf (c'.tmps.getD 8 undef)).toNat) ⟨0, [], false, none, 0, none, 0, hc, Nat.zero_le _, Nat.le_refl _, hp, hb⟩ ?_
  clear hc hp hb
  rintro c w ⟨k, zs, over, B, cb, A, ca, hc, hk, hzs, hp, hb⟩
  by_cases hgo : k < len ∧ (k : Int) < 200
  · obtain ⟨hlt, hlt2⟩ := hgo
    obtain ⟨K, N, S, U, D, dl, dc, Z, ha⟩ := hz k hlt
    refine round_wp hc hp ha hb hlt hlt2 hzs hL0 hL1 ?_
    intro c' w' zs' over' B' cb' A' ca' hf hp' hb' hl'
    refine ⟨⟨k + 1, zs', over', B', cb', A', ca', hf, hlt, hl', hp', hb.trans hb'⟩, ?_⟩
    simp only [hf.s8, hc.s8, intOf, Int.toNat_natCast]
    omega
  · have HQ := Lib.hid (fun c' w' => hQ k c' w')
    have HC := Lib.hid hc
    have HB := Lib.hid hb
    clear hQ hp hz
    obtain ⟨u, rfl⟩ := fr0_lit hc
    clear hc hb
    conv => arg 2; whnf
    by_cases hlt : k < len
    · have hlt2 : ¬ (k : Int) < 200 := fun h => hgo ⟨hlt, h⟩
      clear hgo
      go_wp2
      exact HQ.out _ _ ⟨rfl, rfl, rfl, rfl, rfl, rfl, rfl, rfl, rfl⟩ HB.out
    · clear hgo
      go_wp2
      exact HQ.out _ _ ⟨rfl, rfl, rfl, rfl, rfl, rfl, rfl, rfl, rfl⟩ HB.out
set_option maxRecDepth 100000 in
theorem arenaPlays_walk (most : Int) (a : Option Addr) (len cap : Nat) (_zs : Unit) (w : World) (hm : (Lit.int .i64 most).wf = true) (hz : IsActs w a len) :
    Calls Try.prog 3 #[.int .i64 most, .slice a len cap] w fun e w' => e = .returned (.bool true) ∧ Below w.heap.size w w' := by
  obtain ⟨hl, hp⟩ := hz
  unfold maxLen at hl
  have bm := bounds_i64 hm
  have HP := Lib.hid hp
  clear hp hm
  have HC0 := Lib.hid (show ∀ o, (w.alloc o).heap.size = w.heap.size + 1 from fun o => by simp)
  have HC1 := Lib.hid (show (w.alloc (.cells #[.int .i64 most] 3)).heap[w.heap.size]? = some (.cells #[.int .i64 most] 3 (0, 0)) from heap_alloc_new w _)
  go_enter Try.func3, Try.ntmps3
  go_wp2_with fail
  refine (awake_any _).mono ?_
  rintro e w1 ⟨rfl, hb⟩
  have hs1 := hb.size
  rw [HC0.out] at hs1
  have hb1 := (hb.block w.heap.size (by rw [HC0.out]; omega)).trans HC1.out
  have B1 := Lib.hid (((Below.refl w.heap.size w).alloc (Nat.le_refl _) (.cells #[.int .i64 most] 3)).trans (hb.mono (by rw [HC0.out]; omega)))
  have c1 := cell_of_one hb1
  have f1 := free_of_one hb1
  have HB1 := Lib.hid hb1
  clear hb hb1
  go_wp2_with fail
  refine (new_any _ _).mono ?_
  rintro e w2 ⟨rfl, hw2⟩
  have hs2 : w2.heap.size = w1.heap.size + 1 := by rw [hw2]; simp
  have hb2 : w2.heap[w.heap.size]? = some (.cells #[.int .i64 most] 3 (0, 0)) := by rw [hw2]; exact (Below.heap_alloc _ _ _ (by omega)).trans HB1.out
  have c2 := cell_of_one hb2
  have f2 := free_of_one hb2
  have ha2 := new_arena most w1 w.heap.size (by omega)
  rw [← hw2] at ha2
  have A2 := Lib.hid ha2
  have HB2 := Lib.hid hb2
  have B2 := Lib.hid (show Below w.heap.size w w2 by rw [hw2]; exact B1.out.alloc (by omega) _)
  have HS1 := Lib.hid hs1
  clear hw2 ha2 hb2 c1 f1 hs1
  generalize w1.heap.size = ar at *
  have HS2 := Lib.hid hs2
  by_cases h0 : 0 ≤ most
  · obtain ⟨hP, hPB⟩ := play_start (L := most) HB2.out HS2.out A2.out (by have := HS1.out; omega)
    have HP0 := Lib.hid hP
    have HPB := Lib.hid (B2.out.trans hPB)
    clear hP hPB
    go_wp2_with fail
    refine loop_wp (ar := ar) (L := most) ⟨rfl, rfl, rfl, rfl, rfl, rfl, rfl, rfl, rfl⟩ HP0.out HPB.out HP.out (by omega) (by omega) ?_
    intro k c' w' hf hb'
    have HB' := Lib.hid hb'
    obtain ⟨u, rfl⟩ := fr0_lit hf
    clear hf hb'
    simp only [Exit.inBlock, Exit.then]
    apply_assumption
    go_wp2
    go_ret
    exact ⟨rfl, HB'.out⟩
  · obtain ⟨hP, hPB⟩ := play_start (L := 0) HB2.out HS2.out (by have h := A2.out; rw [show atMost most = atMost 0 by unfold atMost; omega] at h; exact h) (by have := HS1.out; omega)
    have HP0 := Lib.hid hP
    have HPB := Lib.hid (B2.out.trans hPB)
    clear hP hPB
    go_wp2_with fail
    refine loop_wp (ar := ar) (L := 0) ⟨rfl, rfl, rfl, rfl, rfl, rfl, rfl, rfl, rfl⟩ HP0.out HPB.out HP.out (by omega) (by omega) ?_
    intro k c' w' hf hb'
    have HB' := Lib.hid hb'
    obtain ⟨u, rfl⟩ := fr0_lit hf
    clear hf hb'
    simp only [Exit.inBlock, Exit.then]
    apply_assumption
    go_wp2
    go_ret
    exact ⟨rfl, HB'.out⟩
end Go.Proofs.Ytennhmaiecfgpaa
