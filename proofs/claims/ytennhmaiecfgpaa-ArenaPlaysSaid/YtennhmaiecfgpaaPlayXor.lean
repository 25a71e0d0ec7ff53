/-
  The last loop of a round of ArenaPlays: every byte that Bytes handed out is turned, and nothing that was there before. Conditions: those that each theorem names.
-/
import Derived.Test.YtennhmaiecfgpaaPlayFrames2
namespace Go.Proofs.Ytennhmaiecfgpaa
open Go.ChangeShapes Go.WideShapes Go.ChangeAt Go.RowKit

set_option maxRecDepth 100000 in
theorem xor_wp {Q : Exit → Act → World → Prop} {c : Act} {w : World} {most : Int} {a : Option Addr} {len cap base ar k y n B0 : Nat} {zs : List Int} (hc : Fr3 most a len cap base ar k y n 0 c) (ho : OwnR w B0 5 y n n zs) (hn : n ≤ 2147483647)
    (hQ : ∀ c' w', Fr0 most a len cap base ar k c' → Below y w w' → Q .normal c' w') : Code.wp Try.prog playXor Q c w := by
  have HQ := Lib.hid hQ
  clear hQ
  obtain ⟨u0, hu0⟩ := fr3_lit hc
  subst hu0
  conv => arg 2; whnf
  go_wp2_with fail
  refine wp_loop (fun c' w' => ∃ (j : Nat) (zs' : List Int), j ≤ n ∧ Fr3 most a len cap base ar k y n j c' ∧ OwnR w' B0 5 y n n zs' ∧ Below y w w') (fun c' _ => n - (intOf (c'.tmps.getD 241 undef)).toNat) ⟨0, zs, Nat.zero_le _, hc, ho, Below.refl _ _⟩ ?_
  clear hc ho
  rintro c w1 ⟨j, zs', hj, hc, ho, hb⟩
  obtain ⟨u, hu⟩ := fr3_lit hc
  subst hu
  have HO := Lib.hid ho
  have HB := Lib.hid hb
  clear hc hb ho
  by_cases hlt : j < n
  · obtain ⟨hl, _, _, _, _, hcell, hfz⟩ := HO.out.facts
    have c1 := hcell j (by omega)
    have f1 := hfz j
    clear hcell hfz hl
    go_wp2
    refine ⟨⟨j + 1, _, by omega, ⟨rfl, rfl, rfl, rfl, rfl, rfl, rfl, rfl, rfl, rfl, rfl, rfl⟩, HO.out.set j _, HB.out.setCell (Nat.le_refl _) _⟩, ?_⟩
    show n - (intOf (.int .i64 ((j : Int) + 1))).toNat < n - (intOf (.int .i64 (j : Int))).toNat
    simp [intOf]; omega
  · go_wp2
    exact HQ.out _ _ ⟨rfl, rfl, rfl, rfl, rfl, rfl, rfl, rfl, rfl⟩ HB.out
end Go.Proofs.Ytennhmaiecfgpaa
