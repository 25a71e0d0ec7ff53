/-
  The switch of ArenaPlays, calls of the kind Set: each way from its head to what follows. Conditions: those that each theorem names.
-/
import Derived.Test.YtennhmaiecfgpaaPlaySw3
namespace Go.Proofs.Ytennhmaiecfgpaa
open Go.ChangeShapes Go.WideShapes Go.ChangeAt Go.RowKit

section
variable {K : Act → World → Prop} {Q : Exit → Act → World → Prop} {c : Act} {w : World} {most : Int} {a : Option Addr} {len cap base ar k x : Nat} {r L Kd N S U : Int} {D : Option Addr} {dl dc : Nat} {zs news : List Int} {over : Bool} {B : Option Addr} {cb : Nat} {A : Option Addr} {ca : Nat}
set_option maxRecDepth 100000 in
set_option maxHeartbeats 400000 in
theorem sw_set_over (hc : Fr2 most a len cap base ar k x r (.int .i64 0) (.bool false) c) (h : Rnd w base ar x L Kd N S U D dl dc zs true B cb zs true A ca 0 false) (e0 : (r == 0) = false) (e1 : (r == 1) = false) (e2 : (r == 2) = false) (e3 : (r == 3) = false) (hK : After K w most a len cap base ar k x r L Kd N S U D dl dc zs) :
    Code.wp Try.prog playSwitch (Exit.then K Q) c w := by
  obtain ⟨u, rfl⟩ := fr2_lit hc
  have HK := Lib.hid hK
  have H := Lib.hid h
  have cN : w.cell? ⟨x, 1, none⟩ = some (.int .i64 N) := by simp [World.cell?, h.hx]
  have cS : w.cell? ⟨x, 2, none⟩ = some (.int .i64 S) := by simp [World.cell?, h.hx]
  have cU : w.cell? ⟨x, 3, none⟩ = some (.int .u64 U) := by simp [World.cell?, h.hx]
  have cB := cell_of_one h.hb
  have cV := cell_of_one h.hv
  have cI := cell_of_one h.hi
  have fI := free_of_one h.hi
  clear hc hK h
  conv => arg 2; whnf
  go_wp2_with fail
  refine (set_no H.out.arena (.inl rfl)).mono ?_
  rintro e w1 ⟨rfl, rfl⟩
  go_wp2
  have hs := H.out.setIs false
  exact HK.out _ _ 0 false zs true B cb A ca ⟨rfl, rfl, rfl, rfl, rfl, rfl, rfl, rfl, rfl, rfl, rfl, rfl, rfl, rfl, rfl, rfl⟩ hs.2 hs.1 (by omega)
set_option maxRecDepth 100000 in
set_option maxHeartbeats 400000 in
theorem sw_set_unsized (hc : Fr2 most a len cap base ar k x r (.int .i64 0) (.bool false) c) (h : Rnd w base ar x L Kd N S U D dl dc zs false B cb zs false A ca 0 false) (e0 : (r == 0) = false) (e1 : (r == 1) = false) (e2 : (r == 2) = false) (e3 : (r == 3) = false) (hS : ¬ (S = 1 ∨ S = 2 ∨ S = 4 ∨ S = 8)) (hK : After K w most a len cap base ar k x r L Kd N S U D dl dc zs) :
    Code.wp Try.prog playSwitch (Exit.then K Q) c w := by
  obtain ⟨u, rfl⟩ := fr2_lit hc
  have HK := Lib.hid hK
  have H := Lib.hid h
  have cN : w.cell? ⟨x, 1, none⟩ = some (.int .i64 N) := by simp [World.cell?, h.hx]
  have cS : w.cell? ⟨x, 2, none⟩ = some (.int .i64 S) := by simp [World.cell?, h.hx]
  have cU : w.cell? ⟨x, 3, none⟩ = some (.int .u64 U) := by simp [World.cell?, h.hx]
  have cB := cell_of_one h.hb
  have cV := cell_of_one h.hv
  have cI := cell_of_one h.hi
  have fI := free_of_one h.hi
  have HS := Lib.hid hS
  clear hS
  clear hc hK h
  conv => arg 2; whnf
  go_wp2_with fail
  refine (set_no H.out.arena (.inr (.inl HS.out))).mono ?_
  rintro e w1 ⟨rfl, rfl⟩
  go_wp2_with fail
  refine (rsized_no _ _ HS.out).mono ?_
  rintro e w1 ⟨rfl, rfl⟩
  go_wp2
  have hs := H.out.setIs false
  exact HK.out _ _ 0 false zs false B cb A ca ⟨rfl, rfl, rfl, rfl, rfl, rfl, rfl, rfl, rfl, rfl, rfl, rfl, rfl, rfl, rfl, rfl⟩ hs.2 hs.1 (by omega)
set_option maxRecDepth 100000 in
set_option maxHeartbeats 400000 in
theorem sw_set_out (hc : Fr2 most a len cap base ar k x r (.int .i64 0) (.bool false) c) (h : Rnd w base ar x L Kd N S U D dl dc zs false B cb zs false A ca 0 false) (e0 : (r == 0) = false) (e1 : (r == 1) = false) (e2 : (r == 2) = false) (e3 : (r == 3) = false) (hS : S = 1 ∨ S = 2 ∨ S = 4 ∨ S = 8) (hzs : zs.length ≤ 1000000) (hN : N < 0 ∨ (zs.length : Int) < N ∨ zs.length - N < S) (hK : After K w most a len cap base ar k x r L Kd N S U D dl dc zs) :
    Code.wp Try.prog playSwitch (Exit.then K Q) c w := by
  obtain ⟨u, rfl⟩ := fr2_lit hc
  have HK := Lib.hid hK
  have H := Lib.hid h
  have cN : w.cell? ⟨x, 1, none⟩ = some (.int .i64 N) := by simp [World.cell?, h.hx]
  have cS : w.cell? ⟨x, 2, none⟩ = some (.int .i64 S) := by simp [World.cell?, h.hx]
  have cU : w.cell? ⟨x, 3, none⟩ = some (.int .u64 U) := by simp [World.cell?, h.hx]
  have cB := cell_of_one h.hb
  have cV := cell_of_one h.hv
  have cI := cell_of_one h.hi
  have fI := free_of_one h.hi
  have HS := Lib.hid hS
  have HN := Lib.hid hN
  clear hS hN
  clear hc hK h
  conv => arg 2; whnf
  go_wp2_with fail
  refine (set_no H.out.arena (.inr (.inr HN.out))).mono ?_
  rintro e w1 ⟨rfl, rfl⟩
  go_wp2_with fail
  refine (rsized_yes _ _ HS.out).mono ?_
  rintro e w1 ⟨rfl, rfl⟩
  go_wp2_with fail
  refine (rwithin_no _ _ _ _ (by omega) (by omega) (by rcases HN.out with h | h | h; exact .inl h; exact .inr (.inr (.inl h)); exact .inr (.inr (.inr h)))).mono ?_
  rintro e w1 ⟨rfl, rfl⟩
  go_wp2
  have hs := H.out.setIs false
  exact HK.out _ _ 0 false zs false B cb A ca ⟨rfl, rfl, rfl, rfl, rfl, rfl, rfl, rfl, rfl, rfl, rfl, rfl, rfl, rfl, rfl, rfl⟩ hs.2 hs.1 (by omega)
set_option maxRecDepth 100000 in
set_option maxHeartbeats 400000 in
theorem sw_set_yes (hc : Fr2 most a len cap base ar k x r (.int .i64 0) (.bool false) c) (h : Rnd w base ar x L Kd N S U D dl dc zs false B cb zs false A ca 0 false) (e0 : (r == 0) = false) (e1 : (r == 1) = false) (e2 : (r == 2) = false) (e3 : (r == 3) = false) (hS : S = 1 ∨ S = 2 ∨ S = 4 ∨ S = 8) (hzs : zs.length ≤ 1000000) (hN0 : 0 ≤ N) (hN : S ≤ zs.length - N) (hK : After K w most a len cap base ar k x r L Kd N S U D dl dc zs) :
    Code.wp Try.prog playSwitch (Exit.then K Q) c w := by
  obtain ⟨u, rfl⟩ := fr2_lit hc
  have HK := Lib.hid hK
  have H := Lib.hid h
  have hS0 : 0 ≤ S := by omega
  have hS8 : S ≤ 8 := by omega
  have hS1 : 1 ≤ S := by omega
  obtain ⟨s, rfl⟩ := Int.eq_ofNat_of_zero_le hS0
  obtain ⟨n, rfl⟩ := Int.eq_ofNat_of_zero_le hN0
  have cN : w.cell? ⟨x, 1, none⟩ = some (.int .i64 (n : Int)) := by simp [World.cell?, h.hx]
  have cS : w.cell? ⟨x, 2, none⟩ = some (.int .i64 (s : Int)) := by simp [World.cell?, h.hx]
  have cU : w.cell? ⟨x, 3, none⟩ = some (.int .u64 U) := by simp [World.cell?, h.hx]
  have HS := Lib.hid hS
  have HN := Lib.hid hN
  have HR := Lib.hid (set_yes (n := U) h.arena hN0 (by omega) hN hS)
  simp only [Int.toNat_natCast] at HR
  clear hc hK h hS
  conv => arg 2; whnf
  go_wp2_with fail
  refine HR.out.mono ?_
  rintro e w1 ⟨rfl, hst⟩
  obtain ⟨hb1, A1, ca1, h1⟩ := H.out.stepped hst
  have H1 := Lib.hid h1
  have HB1 := Lib.hid hb1
  have cN1 : w1.cell? ⟨x, 1, none⟩ = some (.int .i64 (n : Int)) := by simp [World.cell?, h1.hx]
  have cS1 : w1.cell? ⟨x, 2, none⟩ = some (.int .i64 (s : Int)) := by simp [World.cell?, h1.hx]
  have cB1 := cell_of_one h1.hb
  have cV1 := cell_of_one h1.hv
  have cI1 := cell_of_one h1.hi
  have fI1 := free_of_one h1.hi
  clear hst hb1 h1 cN cS cU
  go_wp2_with fail
  refine (rsized_yes _ _ HS.out).mono ?_
  rintro e w2 ⟨rfl, rfl⟩
  go_wp2_with fail
  refine (rwithin_yes _ _ _ _ (by omega) (by omega) (by omega) HN.out).mono ?_
  rintro e w2 ⟨rfl, rfl⟩
  obtain ⟨hb2, h2⟩ := H1.out.setIs true
  have HB2 := Lib.hid (HB1.out.trans hb2)
  have cI2 := cell_of_one h2.hi
  rcases h2.own.nil_or with ⟨rfl, rfl, hz⟩ | ⟨g, rfl, hr⟩
  · rw [hz] at hN; simp at hN; omega
  have hcp := hr.facts.2.2.2.1
  have hlt : n < cb := by omega
  have H2 := Lib.hid h2
  have h2d := h2.below ((Below.refl (w1.setCell ⟨x + 2, 0, none⟩ (.bool true)).heap.size _).drew)
  have H2D := Lib.hid h2d
  have k0 := h2.cells
  have k0d := h2d.cells
  have HP := Lib.hid (fun v hv => rput_any v.heap.size U s v hv (by omega))
  have i1 : (0 : Int) ≤ (n : Int) := by omega
  have i2 : (n : Int) ≤ (zs.length : Int) := by omega
  have HF1 := Lib.hid (show n + s ≤ zs.length by omega)
  have HF2 := Lib.hid (show s ≤ zs.length - n by omega)
  have hne1 : ¬ cb = n := by omega
  have hne2 : ¬ n = cb := by omega
  clear hb2 h2 h2d hr hcp HR hN
  go_upto_region 18 with fail
  go_region_held3 (fun w' => w'.cell? ⟨ar + 1, 0, none⟩ = some (.slice (some ⟨g, 0, none⟩) zs.length cb) ∧ w'.cell? ⟨x + 1, 0, none⟩ = some (.int .i64 0) ∧ w'.cell? ⟨x, 1, none⟩ = some (.int .i64 (n : Int)) ∧ w'.cell? ⟨x, 2, none⟩ = some (.int .i64 (s : Int)) ∧ w'.cell? ⟨x, 3, none⟩ = some (.int .u64 U)) (first | assumption | go_keep)
    (first | (go_at_call 13; refine (HP.out _ (Nat.le_refl _)).mono ?_; rintro e wp ⟨gP, rfl, hownP, hbP⟩; have k1 := (H2D.out.below hbP).cells; obtain ⟨wq, hrun, hbq, hq⟩ := H2D.out.put_copy (p := n) (dlen := zs.length - n) hbP hownP HF1.out HF2.out (cb - n); have k2 := hq.cells; rw [laidOver_length] at k2))
  all_goals
    show K _ _
    exact HK.out _ _ 0 true (laidOver zs n U s) false (some ⟨g, 0, none⟩) cb A1 ca1 ⟨rfl, rfl, rfl, rfl, rfl, rfl, rfl, rfl, rfl, rfl, rfl, rfl, rfl, rfl, rfl, rfl⟩ hq ((HB2.out.drew).trans hbq) (by rw [laidOver_length]; omega)
end
end Go.Proofs.Ytennhmaiecfgpaa
