/-
  The switch of ArenaPlays, calls of the kind Num: each way from its head to what follows. Conditions: those that each theorem names.
-/
import Derived.Test.YtennhmaiecfgpaaPlaySw1
import Derived.Deep.Cut
import Derived.Deep.RegionHeld3
namespace Go.Proofs.Ytennhmaiecfgpaa
open Go.ChangeShapes Go.WideShapes Go.ChangeAt Go.RowKit

section
variable {K : Act → World → Prop} {Q : Exit → Act → World → Prop} {c : Act} {w : World} {most : Int} {a : Option Addr} {len cap base ar k x : Nat} {r L Kd N S U : Int} {D : Option Addr} {dl dc : Nat} {zs news : List Int} {over : Bool} {B : Option Addr} {cb : Nat} {A : Option Addr} {ca : Nat}
/-- The cells that a copy of a number's bytes into the law's row reads. -/
theorem Rnd.cells {zb za : List Int} {ob oa is : Bool} {want : Int} (h : Rnd w base ar x L Kd N S U D dl dc zb ob B cb za oa A ca want is) :
    w.cell? ⟨ar + 1, 0, none⟩ = some (.slice B zb.length cb) ∧ w.cell? ⟨x + 1, 0, none⟩ = some (.int .i64 want) ∧ w.cell? ⟨x, 1, none⟩ = some (.int .i64 N) ∧ w.cell? ⟨x, 2, none⟩ = some (.int .i64 S) ∧ w.cell? ⟨x, 3, none⟩ = some (.int .u64 U) :=
  ⟨cell_of_one h.hb, cell_of_one h.hw, by simp [World.cell?, h.hx], by simp [World.cell?, h.hx], by simp [World.cell?, h.hx]⟩
/-- The document's bytes of a number copied into the law's row. -/
theorem Rnd.put_copy {zb za : List Int} {ob oa is : Bool} {want : Int} {g gP B0 p s dlen : Nat} {wp : World} (h : Rnd w base ar x L Kd N S U D dl dc zb ob (some ⟨g, 0, none⟩) cb za oa A ca want is) (hb : Below w.heap.size w wp)
    (hP : OwnR wp B0 5 gP s s (laidOver (zeros s) 0 U s)) (hfit : p + s ≤ zb.length) (hd : s ≤ dlen) (dc' : Nat) :
    ∃ wq, (Builtin.copy_ #[26, 26] 3 #[.slice (some ⟨g, p, none⟩) dlen dc', .slice (some ⟨gP, 0, none⟩) s s]).run Try.prog wp = .ok (goInt s) wq ∧ Below base w wq ∧ Rnd wq base ar x L Kd N S U D dl dc (laidOver zb p U s) ob (some ⟨g, 0, none⟩) cb za oa A ca want is := by
  have hp := h.below hb
  have hbase : base ≤ w.heap.size := by have := h.o1; have := h.o2; have := h.o3; omega
  rcases hp.own.nil_or with ⟨h0, _⟩ | ⟨g', hg', hr⟩
  · cases h0
  cases hg'
  have hl : (laidOver (zeros s) 0 U s).length = s := by rw [laidOver_length]; simp [zeros]
  obtain ⟨wq, hrun, hoq, hgq⟩ := copy_src (ty := 3) (a := p) hr (S := some ⟨gP, 0, none⟩) (c := s) (m := s) ⟨laid_len s U, u8s_one _, .inr ⟨_, rfl, laid_src hP⟩⟩ hfit (some ⟨g, p, none⟩) dlen dc' hd (.inr rfl)
  rw [splice_laid _ _ _ _ hfit] at hoq
  have := hp.copied rfl (laidOver_length zb p U s) hoq hgq
  exact ⟨wq, hrun, (hb.mono hbase).trans this.1, this.2⟩
set_option maxRecDepth 100000 in
theorem sw_num_unsized (hc : Fr2 most a len cap base ar k x 2 (.int .i64 0) (.bool false) c) (h : Rnd w base ar x L Kd N S U D dl dc zs over B cb zs over A ca 0 false) (hS : ¬ (S = 1 ∨ S = 2 ∨ S = 4 ∨ S = 8)) (hK : After K w most a len cap base ar k x 2 L Kd N S U D dl dc zs) :
    Code.wp Try.prog playSwitch (Exit.then K Q) c w := by
  obtain ⟨u, rfl⟩ := fr2_lit hc
  have HK := Lib.hid hK
  have H := Lib.hid h
  have cS : w.cell? ⟨x, 2, none⟩ = some (.int .i64 S) := by simp [World.cell?, h.hx]
  have cU : w.cell? ⟨x, 3, none⟩ = some (.int .u64 U) := by simp [World.cell?, h.hx]
  have HSZ := Lib.hid hS
  have cI := cell_of_one h.hi
  clear hc hK h hS
  conv => arg 2; whnf
  go_wp2_with fail
  refine (num_unsized HSZ.out _).mono ?_
  rintro e w1 ⟨rfl, rfl⟩
  go_wp2_with fail
  refine (rsized_no _ _ HSZ.out).mono ?_
  rintro e w1 ⟨rfl, rfl⟩
  go_wp2
  exact HK.out _ _ 0 false zs over B cb A ca ⟨rfl, rfl, rfl, rfl, rfl, rfl, rfl, rfl, rfl, rfl, rfl, rfl, rfl, rfl, rfl, rfl⟩ H.out (Below.refl _ _) (by omega)
set_option maxRecDepth 100000 in
theorem sw_num_over (hc : Fr2 most a len cap base ar k x 2 (.int .i64 0) (.bool false) c) (h : Rnd w base ar x L Kd N S U D dl dc zs true B cb zs true A ca 0 false) (hS : S = 1 ∨ S = 2 ∨ S = 4 ∨ S = 8) (hK : After K w most a len cap base ar k x 2 L Kd N S U D dl dc zs) :
    Code.wp Try.prog playSwitch (Exit.then K Q) c w := by
  obtain ⟨u, rfl⟩ := fr2_lit hc
  have HK := Lib.hid hK
  have H := Lib.hid h
  have cS : w.cell? ⟨x, 2, none⟩ = some (.int .i64 S) := by simp [World.cell?, h.hx]
  have cU : w.cell? ⟨x, 3, none⟩ = some (.int .u64 U) := by simp [World.cell?, h.hx]
  have HSZ := Lib.hid hS
  have HR := Lib.hid (num_no (n := U) h.arena hS (.inl rfl))
  clear hc hK h hS
  conv => arg 2; whnf
  go_wp2_with fail
  refine HR.out.mono ?_
  rintro e w1 ⟨rfl, hst⟩
  obtain ⟨hb1, A1, ca1, h1⟩ := H.out.stepped hst
  have H1 := Lib.hid h1
  have HB1 := Lib.hid hb1
  have cS1 : w1.cell? ⟨x, 2, none⟩ = some (.int .i64 S) := by simp [World.cell?, h1.hx]
  clear hst hb1 h1 cS cU
  go_wp2_with fail
  refine (rsized_yes _ _ HSZ.out).mono ?_
  rintro e w2 ⟨rfl, rfl⟩
  go_wp2_with fail
  refine (grow_over H1.out S).mono ?_
  rintro e w2 ⟨rfl, rfl⟩
  have cI := cell_of_one H1.out.hi
  go_wp2
  exact HK.out _ _ 0 false zs true B cb A1 ca1 ⟨rfl, rfl, rfl, rfl, rfl, rfl, rfl, rfl, rfl, rfl, rfl, rfl, rfl, rfl, rfl, rfl⟩ H1.out HB1.out (by omega)
set_option maxRecDepth 100000 in
theorem sw_num_no (hc : Fr2 most a len cap base ar k x 2 (.int .i64 0) (.bool false) c) (h : Rnd w base ar x L Kd N S U D dl dc zs false B cb zs false A ca 0 false) (hS : S = 1 ∨ S = 2 ∨ S = 4 ∨ S = 8) (hL0 : 0 ≤ L) (hL1 : L ≤ 9223372036854775807) (hzs : zs.length ≤ 1000000) (hN : L - zs.length < S) (hK : After K w most a len cap base ar k x 2 L Kd N S U D dl dc zs) :
    Code.wp Try.prog playSwitch (Exit.then K Q) c w := by
  obtain ⟨u, rfl⟩ := fr2_lit hc
  have HK := Lib.hid hK
  have H := Lib.hid h
  have cS : w.cell? ⟨x, 2, none⟩ = some (.int .i64 S) := by simp [World.cell?, h.hx]
  have cU : w.cell? ⟨x, 3, none⟩ = some (.int .u64 U) := by simp [World.cell?, h.hx]
  have HSZ := Lib.hid hS
  have HR := Lib.hid (num_no (n := U) h.arena hS (.inr (by unfold atMost; omega)))
  have HN := Lib.hid hN
  clear hc hK h hS hN
  conv => arg 2; whnf
  go_wp2_with fail
  refine HR.out.mono ?_
  rintro e w1 ⟨rfl, hst⟩
  obtain ⟨hb1, A1, ca1, h1⟩ := H.out.stepped hst
  have H1 := Lib.hid h1
  have HB1 := Lib.hid hb1
  have cS1 : w1.cell? ⟨x, 2, none⟩ = some (.int .i64 S) := by simp [World.cell?, h1.hx]
  clear hst hb1 h1 cS cU
  go_wp2_with fail
  refine (rsized_yes _ _ HSZ.out).mono ?_
  rintro e w2 ⟨rfl, rfl⟩
  go_wp2_with fail
  refine (grow_no H1.out S hL0 hL1 (by omega) (.inr HN.out)).mono ?_
  rintro e w2 ⟨rfl, hb2, h2⟩
  have H2 := Lib.hid h2
  have HB2 := Lib.hid (HB1.out.trans hb2)
  have cI := cell_of_one h2.hi
  clear hb2 h2
  go_wp2
  exact HK.out _ _ 0 false zs true B cb A1 ca1 ⟨rfl, rfl, rfl, rfl, rfl, rfl, rfl, rfl, rfl, rfl, rfl, rfl, rfl, rfl, rfl, rfl⟩ H2.out HB2.out (by omega)
set_option maxRecDepth 100000 in
theorem sw_num_yes (hc : Fr2 most a len cap base ar k x 2 (.int .i64 0) (.bool false) c) (h : Rnd w base ar x L Kd N S U D dl dc zs false B cb zs false A ca 0 false) (hS : S = 1 ∨ S = 2 ∨ S = 4 ∨ S = 8) (hL0 : 0 ≤ L) (hL1 : L ≤ 9223372036854775807) (hzs : zs.length ≤ 1000000) (hN : S ≤ L - zs.length) (hK : After K w most a len cap base ar k x 2 L Kd N S U D dl dc zs) :
    Code.wp Try.prog playSwitch (Exit.then K Q) c w := by
  obtain ⟨u, rfl⟩ := fr2_lit hc
  have HK := Lib.hid hK
  have H := Lib.hid h
  have hS0 : 0 ≤ S := by omega
  have hS8 : S ≤ 8 := by omega
  have hS1 : 1 ≤ S := by omega
  obtain ⟨s, rfl⟩ := Int.eq_ofNat_of_zero_le hS0
  have cS : w.cell? ⟨x, 2, none⟩ = some (.int .i64 (s : Int)) := by simp [World.cell?, h.hx]
  have cU : w.cell? ⟨x, 3, none⟩ = some (.int .u64 U) := by simp [World.cell?, h.hx]
  have HSZ := Lib.hid hS
  have HR := Lib.hid (num_yes (n := U) h.arena hS (by unfold atMost; omega) (by have := h.o1; have := h.o2; have := h.o3; omega))
  simp only [Int.toNat_natCast] at HR
  have HN := Lib.hid hN
  clear hc hK h hS hN
  conv => arg 2; whnf
  go_wp2_with fail
  refine HR.out.mono ?_
  rintro e w1 ⟨rfl, hst⟩
  obtain ⟨hb1, A1, ca1, h1⟩ := H.out.stepped hst
  have H1 := Lib.hid h1
  have HB1 := Lib.hid hb1
  have cS1 : w1.cell? ⟨x, 2, none⟩ = some (.int .i64 (s : Int)) := by simp [World.cell?, h1.hx]
  clear hst hb1 h1 cS cU
  go_wp2_with fail
  refine (rsized_yes _ _ HSZ.out).mono ?_
  rintro e w2 ⟨rfl, rfl⟩
  go_wp2_with fail
  refine (grow_yes H1.out s hL1 hS0 HN.out (by omega)).mono ?_
  rintro e w2 ⟨rfl, hb2, B2, cb2, h2⟩
  rw [Int.toNat_natCast] at h2
  have HB2 := Lib.hid (HB1.out.trans hb2)
  have hll : (zs ++ zeros s).length = zs.length + s := by simp [zeros]
  rcases h2.own.nil_or with ⟨rfl, rfl, hz⟩ | ⟨g, rfl, hr⟩
  · rw [hz] at hll; simp at hll; omega
  have hcp := hr.facts.2.2.2.1
  rw [hll] at hcp
  have hlt : zs.length < cb2 := by omega
  have cI := cell_of_one h2.hi
  have H2 := Lib.hid h2
  have h2d := h2.below ((Below.refl w2.heap.size w2).drew)
  have H2D := Lib.hid h2d
  have k0 := h2.cells
  have k0d := h2d.cells
  rw [hll] at k0 k0d
  have HLL := Lib.hid hll
  have HP := Lib.hid (fun v hv => rput_any v.heap.size U s v hv (by omega))
  have sz2 : w2.heap.size ≤ w2.drew.heap.size := Nat.le_refl _
  clear hb2 h2 h2d hr hcp hll cS1 HR
  have i1 : (0 : Int) ≤ (zs.length : Int) := by omega
  have i2 : (zs.length : Int) ≤ (zs.length : Int) + (s : Int) := by omega
  have i3 : (zs.length : Int) ≤ ((zs.length + s : Nat) : Int) := by omega
  have hne1 : ¬ cb2 = zs.length := by omega
  have hne2 : ¬ zs.length = cb2 := by omega
  go_upto_region 32 with fail
  go_region_held3 (fun w' => w'.cell? ⟨ar + 1, 0, none⟩ = some (.slice (some ⟨g, 0, none⟩) (zs.length + s) cb2) ∧ w'.cell? ⟨x + 1, 0, none⟩ = some (.int .i64 zs.length) ∧ w'.cell? ⟨x, 1, none⟩ = some (.int .i64 N) ∧ w'.cell? ⟨x, 2, none⟩ = some (.int .i64 (s : Int)) ∧ w'.cell? ⟨x, 3, none⟩ = some (.int .u64 U)) (first | assumption | go_keep)
    (first | (go_at_call 13; refine (HP.out _ (Nat.le_refl _)).mono ?_; rintro e wp ⟨gP, rfl, hownP, hbP⟩; have k1 := (H2D.out.below hbP).cells; rw [HLL.out] at k1; obtain ⟨wq, hrun, hbq, hq⟩ := H2D.out.put_copy (p := zs.length) (dlen := s) hbP hownP (by rw [HLL.out]; exact Nat.le_refl _) (Nat.le_refl _) (cb2 - zs.length); have k2 := hq.cells; rw [laidOver_length, HLL.out] at k2))
  all_goals
    show K _ _
    exact HK.out _ _ zs.length true (laidOver (zs ++ zeros s) zs.length U s) false (some ⟨g, 0, none⟩) cb2 A1 ca1 ⟨rfl, rfl, rfl, rfl, rfl, rfl, rfl, rfl, rfl, rfl, rfl, rfl, rfl, rfl, rfl, rfl⟩ hq ((HB2.out.drew).trans hbq) (by rw [laidOver_length, HLL.out]; omega)
end
end Go.Proofs.Ytennhmaiecfgpaa
