/-
  One round of ArenaPlays, from the loop's head to the next one. Conditions: those that the theorem names.
-/
import Derived.Test.YtennhmaiecfgpaaPlayMem
import Derived.Test.YtennhmaiecfgpaaPlaySwitch
import Derived.Test.YtennhmaiecfgpaaPlayTail
import Derived.Deep.Cut
import Derived.Deep.CutBlock
namespace Go.Proofs.Ytennhmaiecfgpaa
open Go.ChangeShapes Go.WideShapes Go.ChangeAt Go.RowKit

set_option maxRecDepth 100000 in
set_option maxHeartbeats 1000000 in
theorem round_wp {K : Act → World → Prop} {Q : Exit → Act → World → Prop} {c : Act} {w0 w : World} {most : Int} {a : Option Addr} {len cap ar k : Nat} {L Kd N S U : Int} {D : Option Addr} {dl dc : Nat} {zs Z : List Int} {over : Bool} {B : Option Addr} {cb : Nat} {A : Option Addr} {ca : Nat}
    (hc : Fr0 most a len cap w0.heap.size ar k c) (hp : Play w w0.heap.size ar L zs over B cb A ca) (ha : ActAt w0 a k Kd N S U D dl dc Z) (hb0 : Below w0.heap.size w0 w) (hk : k < len) (hk2 : (k : Int) < 200) (hzs : zs.length ≤ 5000 * k) (hL0 : 0 ≤ L) (hL1 : L ≤ 9223372036854775807)
    (hK : ∀ c' w' zs' over' B' cb' A' ca', Fr0 most a len cap w0.heap.size ar (k + 1) c' → Play w' w0.heap.size ar L zs' over' B' cb' A' ca' → Below w0.heap.size w w' → zs'.length ≤ 5000 * (k + 1) → K c' w') :
    Code.wp Try.prog playBody (Exit.then K Q) c w := by
  obtain ⟨u, rfl⟩ := fr0_lit hc
  obtain ⟨b, off, rfl, hbs, a0, a1, a2, a3, a4, wK, wN, wS, wU, hrow⟩ := ha
  have HK := Lib.hid hK
  have HP := Lib.hid hp
  have HB0 := Lib.hid hb0
  have HROW := Lib.hid hrow
  have bK := bounds_i64 wK
  have bN := bounds_i64 wN
  have b0 := (hb0.cell (p := ⟨b, off + k * 5, none⟩) hbs).trans a0
  have b1 := (hb0.cell (p := ⟨b, off + k * 5 + 1, none⟩) hbs).trans a1
  have b2 := (hb0.cell (p := ⟨b, off + k * 5 + 2, none⟩) hbs).trans a2
  have b3 := (hb0.cell (p := ⟨b, off + k * 5 + 3, none⟩) hbs).trans a3
  have b4 := (hb0.cell (p := ⟨b, off + k * 5 + 4, none⟩) hbs).trans a4
  clear hc hK hp hb0 hrow a0 a1 a2 a3 a4 wK wN wS wU
  conv => arg 2; whnf
  go_upto_region 11 with fail
  obtain ⟨w1, hw1⟩ : ∃ w1, w.alloc (.cells #[.int .i64 Kd, .int .i64 N, .int .i64 S, .int .u64 U, .slice D dl dc] 29) = w1 := ⟨_, rfl⟩
  rw [hw1]
  have hnew : w1.heap[w.heap.size]? = some (.cells #[.int .i64 Kd, .int .i64 N, .int .i64 S, .int .u64 U, .slice D dl dc] 29 (0, 0)) := by rw [← hw1]; exact heap_alloc_new w _
  have d0 : w1.cell? ⟨w.heap.size, 0, none⟩ = some (.int .i64 Kd) := by simp [World.cell?, hnew]
  have d1 : w1.cell? ⟨w.heap.size, 1, none⟩ = some (.int .i64 N) := by simp [World.cell?, hnew]
  have d4 : w1.cell? ⟨w.heap.size, 4, none⟩ = some (.slice D dl dc) := by simp [World.cell?, hnew]
  have hbw1 : Below w.heap.size w w1 := by rw [← hw1]; exact (Below.refl _ _).alloc (Nat.le_refl _) _
  have hp1 := HP.out.below hbw1
  have cL := cell_of_one hp1.hm
  have HP1 := Lib.hid hp1
  have HW1 := Lib.hid hw1
  have HBW1 := Lib.hid hbw1
  obtain ⟨r, hr⟩ : ∃ r, Kd.tmod 5 = r := ⟨_, rfl⟩
  clear hw1 hnew hbw1 hp1 b0 b1 b2 b3 b4
  refine wp_cut (fun c' w' => w' = w1 ∧ ∃ sk : Bool, Fr1 most (some ⟨b, off, none⟩) len cap w0.heap.size ar k w.heap.size sk c' ∧ (sk = false → dl ≤ 500 ∧ (r = 0 → N ≤ 5000 ∨ L < N) ∧ (r = 3 → N ≤ 5000 ∨ L ≤ 5000))) ?rest ?first
  case first =>
    intro J K' hJ hM
    have HM := Lib.hid (fun c' w' h => hM c' w' (Met.intro (hJ c' w' h)))
    clear hM hJ
    by_cases h1 : 500 < (dl : Int)
    · go_wp2
      exact HM.out _ _ ⟨rfl, true, ⟨rfl, rfl, rfl, rfl, rfl, rfl, rfl, rfl, rfl, rfl, rfl⟩, fun h => by cases h⟩
    by_cases h0 : r = 0
    · subst h0
      by_cases h2 : 5000 < N
      · by_cases h3 : N ≤ L
        · go_wp2
          exact HM.out _ _ ⟨rfl, true, ⟨rfl, rfl, rfl, rfl, rfl, rfl, rfl, rfl, rfl, rfl, rfl⟩, fun h => by cases h⟩
        · go_wp2
          exact HM.out _ _ ⟨rfl, false, ⟨rfl, rfl, rfl, rfl, rfl, rfl, rfl, rfl, rfl, rfl, rfl⟩, fun _ => ⟨by omega, fun _ => .inr (by omega), fun h => by omega⟩⟩
      · go_wp2
        exact HM.out _ _ ⟨rfl, false, ⟨rfl, rfl, rfl, rfl, rfl, rfl, rfl, rfl, rfl, rfl, rfl⟩, fun _ => ⟨by omega, fun _ => .inl (by omega), fun h => by omega⟩⟩
    by_cases h3 : r = 3
    · subst h3
      by_cases h2 : 5000 < N
      · by_cases h4 : 5000 < L
        · go_wp2
          exact HM.out _ _ ⟨rfl, true, ⟨rfl, rfl, rfl, rfl, rfl, rfl, rfl, rfl, rfl, rfl, rfl⟩, fun h => by cases h⟩
        · go_wp2
          exact HM.out _ _ ⟨rfl, false, ⟨rfl, rfl, rfl, rfl, rfl, rfl, rfl, rfl, rfl, rfl, rfl⟩, fun _ => ⟨by omega, fun h => by omega, fun _ => .inr (by omega)⟩⟩
      · go_wp2
        exact HM.out _ _ ⟨rfl, false, ⟨rfl, rfl, rfl, rfl, rfl, rfl, rfl, rfl, rfl, rfl, rfl⟩, fun _ => ⟨by omega, fun h => by omega, fun _ => .inl (by omega)⟩⟩
    have e0 : (r == 0) = false := by simp [h0]
    have e3 : (r == 3) = false := by simp [h3]
    go_wp2
    exact HM.out _ _ ⟨rfl, false, ⟨rfl, rfl, rfl, rfl, rfl, rfl, rfl, rfl, rfl, rfl, rfl⟩, fun _ => ⟨by omega, fun h => absurd h h0, fun h => absurd h h3⟩⟩
  case rest =>
    rintro c' w' ⟨rfl, sk, hfr, hsk⟩
    obtain ⟨u1, rfl⟩ := fr1_lit hfr
    clear hfr
    cases sk with
    | true =>
      clear hsk
      go_wp2
      exact HK.out _ _ zs over B cb A ca ⟨rfl, rfl, rfl, rfl, rfl, rfl, rfl, rfl, rfl⟩ HP1.out (HBW1.out.mono (by have := HP.out.o1; have := HP.out.o2; omega)) (by omega)
    | false =>
      obtain ⟨g1, g2, g3⟩ := hsk rfl
      have G1 := Lib.hid g1
      have G2 := Lib.hid g2
      have G3 := Lib.hid g3
      have hs1 : w'.heap.size = w.heap.size + 1 := by rw [← HW1.out]; simp
      have dA : ∀ o1 o2, ((w'.alloc o1).alloc o2).cell? ⟨w.heap.size, 0, none⟩ = some (.int .i64 Kd) := fun o1 o2 => by
        have h1 : (w'.alloc o1).heap.size = w.heap.size + 2 := by simp [hs1]
        exact (World.cell?_of_block (w := w') (a := ⟨w.heap.size, 0, none⟩) ((Below.heap_alloc (w'.alloc o1) o2 _ (by show w.heap.size < _; omega)).trans (Below.heap_alloc w' o1 _ (by show w.heap.size < _; omega)))).trans d0
      clear hsk g1 g2 g3 d0
      go_upto_block 2 with fail
      obtain ⟨w3, hw3⟩ : ∃ w3, (w'.alloc (.cells #[.int .i64 0] 3)).alloc (.cells #[.bool false] 4) = w3 := ⟨_, rfl⟩
      rw [hw3]
      obtain ⟨hr3, hb3⟩ := HP.out.rnd Kd N S U D dl dc (w3 := w3) (by rw [HW1.out, hw3])
      have hnl : (Z.take dl).length = dl := by have h1 := HROW.out.1; have h2 := HROW.out.2.2.1; simp; omega
      refine switch_wp (news := Z.take dl) ⟨rfl, rfl, rfl, rfl, rfl, rfl, rfl, rfl, rfl, rfl, rfl, rfl, rfl, rfl, rfl, rfl⟩ hr3 hL0 hL1 (by omega) bN.2 (fun w'' hb => HROW.out.src (HB0.out.trans (hb3.trans hb))) hnl G1.out G2.out G3.out ?_
      have HB3 := Lib.hid hb3
      clear hw3 hr3 hnl hb3
      intro c2 w2 p q zs' over' B' cb' A' ca' hfr hrnd hbel hlen'
      have HB4 := Lib.hid (HB3.out.trans hbel)
      apply_assumption
      refine tail_wp hfr hrnd (by omega) ?_
      intro c4 w4 hf4 hr4 hb4
      have HB5 := Lib.hid (HB4.out.trans hb4)
      have H4 := Lib.hid hr4.play
      clear hr4 hb4 hrnd hbel hfr HB4 HB3
      obtain ⟨u2, rfl⟩ := fr0_lit hf4
      clear hf4
      simp only [Exit.inBlock, Exit.then]
      apply_assumption
      go_wp2
      exact HK.out _ _ zs' over' B' cb' A' ca' ⟨rfl, rfl, rfl, rfl, rfl, rfl, rfl, rfl, rfl⟩ H4.out HB5.out (by omega)
end Go.Proofs.Ytennhmaiecfgpaa
