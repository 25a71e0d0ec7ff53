/-
  The switch of ArenaPlays, calls of the kinds Room and Put: each way from its head to what follows. Conditions: those that each theorem names.
-/
import Derived.Test.YtennhmaiecfgpaaPlayFrames
import Derived.StillTailTactics
namespace Go.Proofs.Ytennhmaiecfgpaa
open Go.ChangeShapes Go.WideShapes Go.ChangeAt Go.RowKit

/-- What follows the switch may be gone into from wherever a way through it ends. -/
def After (K : Act → World → Prop) (w : World) (most : Int) (a : Option Addr) (len cap base ar k x : Nat) (r L Kd N S U : Int) (D : Option Addr) (dl dc : Nat) (zs : List Int) : Prop :=
  ∀ (c' : Act) (w' : World) (p : Int) (q : Bool) (zs' : List Int) (over' : Bool) (B' : Option Addr) (cb' : Nat) (A' : Option Addr) (ca' : Nat),
    Fr2 most a len cap base ar k x r (.int .i64 p) (.bool q) c' → Rnd w' base ar x L Kd N S U D dl dc zs' over' B' cb' zs' over' A' ca' p q → Below base w w' → zs'.length ≤ zs.length + 5000 → K c' w'
section
variable {K : Act → World → Prop} {Q : Exit → Act → World → Prop} {c : Act} {w : World} {most : Int} {a : Option Addr} {len cap base ar k x : Nat} {r L Kd N S U : Int} {D : Option Addr} {dl dc : Nat} {zs : List Int} {over : Bool} {B : Option Addr} {cb : Nat} {A : Option Addr} {ca : Nat}
set_option maxRecDepth 100000 in
theorem sw_room_over (hc : Fr2 most a len cap base ar k x 0 (.int .i64 0) (.bool false) c) (h : Rnd w base ar x L Kd N S U D dl dc zs true B cb zs true A ca 0 false) (hK : After K w most a len cap base ar k x 0 L Kd N S U D dl dc zs) :
    Code.wp Try.prog playSwitch (Exit.then K Q) c w := by
  obtain ⟨u, rfl⟩ := fr2_lit hc
  have HK := Lib.hid hK
  have H := Lib.hid h
  have cN : w.cell? ⟨x, 1, none⟩ = some (.int .i64 N) := by simp [World.cell?, h.hx]
  have HR := Lib.hid (room_no (n := N) h.arena (.inl rfl))
  clear hc hK h
  conv => arg 2; whnf
  go_wp2_with fail
  refine HR.out.mono ?_
  rintro e w1 ⟨rfl, hst⟩
  obtain ⟨hb1, A1, ca1, h1⟩ := H.out.stepped hst
  have H1 := Lib.hid h1
  have HB1 := Lib.hid hb1
  have cN1 : w1.cell? ⟨x, 1, none⟩ = some (.int .i64 N) := by simp [World.cell?, h1.hx]
  clear hst hb1 h1 cN
  go_wp2_with fail
  refine (grow_over H1.out N).mono ?_
  rintro e w2 ⟨rfl, rfl⟩
  go_wp2
  exact HK.out _ _ 0 false zs true B cb A1 ca1 ⟨rfl, rfl, rfl, rfl, rfl, rfl, rfl, rfl, rfl, rfl, rfl, rfl, rfl, rfl, rfl, rfl⟩ H1.out HB1.out (by omega)
set_option maxRecDepth 100000 in
theorem sw_room_no (hc : Fr2 most a len cap base ar k x 0 (.int .i64 0) (.bool false) c) (h : Rnd w base ar x L Kd N S U D dl dc zs false B cb zs false A ca 0 false) (hL0 : 0 ≤ L) (hL1 : L ≤ 9223372036854775807) (hzs : zs.length ≤ 1000000) (hN : N < 0 ∨ L - zs.length < N) (hg : N ≤ 5000 ∨ L < N) (hK : After K w most a len cap base ar k x 0 L Kd N S U D dl dc zs) :
    Code.wp Try.prog playSwitch (Exit.then K Q) c w := by
  obtain ⟨u, rfl⟩ := fr2_lit hc
  have HK := Lib.hid hK
  have H := Lib.hid h
  have cN : w.cell? ⟨x, 1, none⟩ = some (.int .i64 N) := by simp [World.cell?, h.hx]
  have HR := Lib.hid (room_no (n := N) h.arena (.inr (by unfold atMost; omega)))
  have HN := Lib.hid hN
  clear hc hK h hN hg
  conv => arg 2; whnf
  go_wp2_with fail
  refine HR.out.mono ?_
  rintro e w1 ⟨rfl, hst⟩
  obtain ⟨hb1, A1, ca1, h1⟩ := H.out.stepped hst
  have H1 := Lib.hid h1
  have HB1 := Lib.hid hb1
  have cN1 : w1.cell? ⟨x, 1, none⟩ = some (.int .i64 N) := by simp [World.cell?, h1.hx]
  clear hst hb1 h1 cN
  go_wp2_with fail
  refine (grow_no H1.out N hL0 hL1 (by omega) HN.out).mono ?_
  rintro e w2 ⟨rfl, hb2, h2⟩
  have H2 := Lib.hid h2
  have HB2 := Lib.hid (HB1.out.trans hb2)
  clear hb2 h2
  go_wp2
  exact HK.out _ _ 0 false zs true B cb A1 ca1 ⟨rfl, rfl, rfl, rfl, rfl, rfl, rfl, rfl, rfl, rfl, rfl, rfl, rfl, rfl, rfl, rfl⟩ H2.out HB2.out (by omega)
set_option maxRecDepth 100000 in
theorem sw_room_yes (hc : Fr2 most a len cap base ar k x 0 (.int .i64 0) (.bool false) c) (h : Rnd w base ar x L Kd N S U D dl dc zs false B cb zs false A ca 0 false) (hL0 : 0 ≤ L) (hL1 : L ≤ 9223372036854775807) (hzs : zs.length ≤ 1000000) (hN0 : 0 ≤ N) (hN : N ≤ L - zs.length) (hg : N ≤ 5000 ∨ L < N) (hK : After K w most a len cap base ar k x 0 L Kd N S U D dl dc zs) :
    Code.wp Try.prog playSwitch (Exit.then K Q) c w := by
  obtain ⟨u, rfl⟩ := fr2_lit hc
  have HK := Lib.hid hK
  have H := Lib.hid h
  have cN : w.cell? ⟨x, 1, none⟩ = some (.int .i64 N) := by simp [World.cell?, h.hx]
  have hN5 : N ≤ 5000 := by omega
  have HR := Lib.hid (room_yes (n := N) h.arena hN0 (by unfold atMost; omega) (by have := h.o1; have := h.o2; have := h.o3; omega))
  have HN := Lib.hid hN
  clear hc hK h hN hg
  conv => arg 2; whnf
  go_wp2_with fail
  refine HR.out.mono ?_
  rintro e w1 ⟨rfl, hst⟩
  obtain ⟨hb1, A1, ca1, h1⟩ := H.out.stepped hst
  have H1 := Lib.hid h1
  have HB1 := Lib.hid hb1
  have cN1 : w1.cell? ⟨x, 1, none⟩ = some (.int .i64 N) := by simp [World.cell?, h1.hx]
  clear hst hb1 h1 cN
  go_wp2_with fail
  refine (grow_yes H1.out N hL1 hN0 HN.out (by omega)).mono ?_
  rintro e w2 ⟨rfl, hb2, B2, cb2, h2⟩
  have H2 := Lib.hid h2
  have HB2 := Lib.hid (HB1.out.trans hb2)
  clear hb2 h2
  go_wp2
  exact HK.out _ _ zs.length true _ false B2 cb2 A1 ca1 ⟨rfl, rfl, rfl, rfl, rfl, rfl, rfl, rfl, rfl, rfl, rfl, rfl, rfl, rfl, rfl, rfl⟩ H2.out HB2.out (by rw [List.length_append]; simp [zeros]; omega)
end
end Go.Proofs.Ytennhmaiecfgpaa
