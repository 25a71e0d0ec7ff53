/-
  The switch of ArenaPlays, calls of the kind Put: each way from its head to what follows. Conditions: those that each theorem names.
-/
import Derived.Test.YtennhmaiecfgpaaPlaySw1
import Derived.BigRegion
import Derived.Deep.Cut
namespace Go.Proofs.Ytennhmaiecfgpaa
open Go.ChangeShapes Go.WideShapes Go.ChangeAt Go.RowKit

section
variable {K : Act → World → Prop} {Q : Exit → Act → World → Prop} {c : Act} {w : World} {most : Int} {a : Option Addr} {len cap base ar k x : Nat} {r L Kd N S U : Int} {D : Option Addr} {dl dc : Nat} {zs news : List Int} {over : Bool} {B : Option Addr} {cb : Nat} {A : Option Addr} {ca : Nat}
set_option maxRecDepth 100000 in
theorem sw_put_over (hc : Fr2 most a len cap base ar k x 1 (.int .i64 0) (.bool false) c) (h : Rnd w base ar x L Kd N S U D dl dc zs true B cb zs true A ca 0 false) (hD : ∀ w', Below base w w' → SrcRow w' D dl dc (u8s news)) (hnl : news.length = dl) (hdl : dl ≤ 500) (hK : After K w most a len cap base ar k x 1 L Kd N S U D dl dc zs) :
    Code.wp Try.prog playSwitch (Exit.then K Q) c w := by
  obtain ⟨u, rfl⟩ := fr2_lit hc
  have HK := Lib.hid hK
  have H := Lib.hid h
  obtain ⟨i0, hi0, hz0, hz1, hz2⟩ := info_parts u8_info
  have I1 := Lib.hid hi0
  have I2 := Lib.hid hz0
  have I3 := Lib.hid hz1
  have I4 := Lib.hid hz2
  clear hi0 hz0 hz1 hz2
  have cD : w.cell? ⟨x, 4, none⟩ = some (.slice D dl dc) := by simp [World.cell?, h.hx]
  have hbase : base ≤ w.heap.size := by have := h.o1; have := h.o2; have := h.o3; omega
  have cDa : ∀ o, (w.alloc o).cell? ⟨x, 4, none⟩ = some (.slice D dl dc) := fun o => (World.cell?_of_block (w := w) (a := ⟨x, 4, none⟩) (Below.heap_alloc w o x (by have := h.o3; omega))).trans cD
  have HD := Lib.hid hD
  have HNL := Lib.hid hnl
  clear hc hK h hD hnl
  conv => arg 2; whnf
  go_wp2_with (at_builtin; refine wpList_app_u8 rfl (.tmp 130) (.tmp 132) 26 26 rfl w.heap.size 5 i0 (.int .u8 0) Try.underlying26 I1.out I2.out I3.out I4.out rfl w.heap.size 0 0 [] rfl (World.ownsRow_made w #[] 0 (Nat.le_refl _) (Nat.zero_le _) rfl) (.slice D dl dc) dl news rfl ((HD.out _ ((Below.refl _ _).alloc hbase _)).toSrc Try.underlying26) (by omega) (by simp) ?_; intro g2 c2 w2 hown2 hb2)
  rw [Nat.zero_add, List.nil_append] at hown2
  have hbb := ((Below.refl w.heap.size w).alloc (Nat.le_refl _) (.cells #[] 5)).trans hb2
  have h2 := H.out.below hbb
  have H2 := Lib.hid h2
  have HO := Lib.hid hown2
  have HB2 := Lib.hid (hbb.mono hbase)
  have HBB := Lib.hid hbb
  refine (put_no h2.arena _ dl c2 (.inl rfl)).mono ?_
  rintro e w3 ⟨rfl, hst⟩
  obtain ⟨hb3, A3, ca3, h3⟩ := h2.stepped hst
  have H3 := Lib.hid h3
  have HB3 := Lib.hid (HB2.out.trans hb3)
  have cD3 : w3.cell? ⟨x, 4, none⟩ = some (.slice D dl dc) := by simp [World.cell?, h3.hx]
  clear hst hb3 h3 h2 hown2 hbb hb2 cD cDa
  go_wp2_with fail
  refine (grow_over H3.out dl).mono ?_
  rintro e w4 ⟨rfl, rfl⟩
  have cI := cell_of_one H3.out.hi
  go_wp2
  exact HK.out _ _ 0 false zs true B cb A3 ca3 ⟨rfl, rfl, rfl, rfl, rfl, rfl, rfl, rfl, rfl, rfl, rfl, rfl, rfl, rfl, rfl, rfl⟩ H3.out HB3.out (by omega)
set_option maxRecDepth 100000 in
theorem sw_put_no (hc : Fr2 most a len cap base ar k x 1 (.int .i64 0) (.bool false) c) (h : Rnd w base ar x L Kd N S U D dl dc zs false B cb zs false A ca 0 false) (hD : ∀ w', Below base w w' → SrcRow w' D dl dc (u8s news)) (hnl : news.length = dl) (hdl : dl ≤ 500) (hL0 : 0 ≤ L) (hL1 : L ≤ 9223372036854775807) (hzs : zs.length ≤ 1000000) (hN : L - zs.length < dl) (hK : After K w most a len cap base ar k x 1 L Kd N S U D dl dc zs) :
    Code.wp Try.prog playSwitch (Exit.then K Q) c w := by
  obtain ⟨u, rfl⟩ := fr2_lit hc
  have HK := Lib.hid hK
  have H := Lib.hid h
  obtain ⟨i0, hi0, hz0, hz1, hz2⟩ := info_parts u8_info
  have I1 := Lib.hid hi0
  have I2 := Lib.hid hz0
  have I3 := Lib.hid hz1
  have I4 := Lib.hid hz2
  clear hi0 hz0 hz1 hz2
  have cD : w.cell? ⟨x, 4, none⟩ = some (.slice D dl dc) := by simp [World.cell?, h.hx]
  have hbase : base ≤ w.heap.size := by have := h.o1; have := h.o2; have := h.o3; omega
  have cDa : ∀ o, (w.alloc o).cell? ⟨x, 4, none⟩ = some (.slice D dl dc) := fun o => (World.cell?_of_block (w := w) (a := ⟨x, 4, none⟩) (Below.heap_alloc w o x (by have := h.o3; omega))).trans cD
  have HD := Lib.hid hD
  have HNL := Lib.hid hnl
  have HN := Lib.hid hN
  clear hN
  clear hc hK h hD hnl
  conv => arg 2; whnf
  go_wp2_with (at_builtin; refine wpList_app_u8 rfl (.tmp 130) (.tmp 132) 26 26 rfl w.heap.size 5 i0 (.int .u8 0) Try.underlying26 I1.out I2.out I3.out I4.out rfl w.heap.size 0 0 [] rfl (World.ownsRow_made w #[] 0 (Nat.le_refl _) (Nat.zero_le _) rfl) (.slice D dl dc) dl news rfl ((HD.out _ ((Below.refl _ _).alloc hbase _)).toSrc Try.underlying26) (by omega) (by simp) ?_; intro g2 c2 w2 hown2 hb2)
  rw [Nat.zero_add, List.nil_append] at hown2
  have hbb := ((Below.refl w.heap.size w).alloc (Nat.le_refl _) (.cells #[] 5)).trans hb2
  have h2 := H.out.below hbb
  have H2 := Lib.hid h2
  have HO := Lib.hid hown2
  have HB2 := Lib.hid (hbb.mono hbase)
  have HBB := Lib.hid hbb
  refine (put_no h2.arena _ dl c2 (.inr (by have := HN.out; unfold atMost; omega))).mono ?_
  rintro e w3 ⟨rfl, hst⟩
  obtain ⟨hb3, A3, ca3, h3⟩ := h2.stepped hst
  have H3 := Lib.hid h3
  have HB3 := Lib.hid (HB2.out.trans hb3)
  have cD3 : w3.cell? ⟨x, 4, none⟩ = some (.slice D dl dc) := by simp [World.cell?, h3.hx]
  clear hst hb3 h3 h2 hown2 hbb hb2 cD cDa
  go_wp2_with fail
  refine (grow_no H3.out dl hL0 hL1 (by omega) (.inr HN.out)).mono ?_
  rintro e w4 ⟨rfl, hb4, h4⟩
  have H4 := Lib.hid h4
  have HB4 := Lib.hid (HB3.out.trans hb4)
  have cI := cell_of_one h4.hi
  clear hb4 h4
  go_wp2
  exact HK.out _ _ 0 false zs true B cb A3 ca3 ⟨rfl, rfl, rfl, rfl, rfl, rfl, rfl, rfl, rfl, rfl, rfl, rfl, rfl, rfl, rfl, rfl⟩ H4.out HB4.out (by omega)
set_option maxRecDepth 100000 in
theorem sw_put_yes (hc : Fr2 most a len cap base ar k x 1 (.int .i64 0) (.bool false) c) (h : Rnd w base ar x L Kd N S U D dl dc zs false B cb zs false A ca 0 false) (hD : ∀ w', Below base w w' → SrcRow w' D dl dc (u8s news)) (hnl : news.length = dl) (hdl : dl ≤ 500) (hL0 : 0 ≤ L) (hL1 : L ≤ 9223372036854775807) (hzs : zs.length ≤ 1000000) (hN : dl ≤ L - zs.length) (hK : After K w most a len cap base ar k x 1 L Kd N S U D dl dc zs) :
    Code.wp Try.prog playSwitch (Exit.then K Q) c w := by
  obtain ⟨u, rfl⟩ := fr2_lit hc
  have HK := Lib.hid hK
  have H := Lib.hid h
  obtain ⟨i0, hi0, hz0, hz1, hz2⟩ := info_parts u8_info
  have I1 := Lib.hid hi0
  have I2 := Lib.hid hz0
  have I3 := Lib.hid hz1
  have I4 := Lib.hid hz2
  clear hi0 hz0 hz1 hz2
  have cD : w.cell? ⟨x, 4, none⟩ = some (.slice D dl dc) := by simp [World.cell?, h.hx]
  have hbase : base ≤ w.heap.size := by have := h.o1; have := h.o2; have := h.o3; omega
  have cDa : ∀ o, (w.alloc o).cell? ⟨x, 4, none⟩ = some (.slice D dl dc) := fun o => (World.cell?_of_block (w := w) (a := ⟨x, 4, none⟩) (Below.heap_alloc w o x (by have := h.o3; omega))).trans cD
  have HD := Lib.hid hD
  have HNL := Lib.hid hnl
  have HN := Lib.hid hN
  clear hN
  clear hc hK h hD hnl
  conv => arg 2; whnf
  go_wp2_with (at_builtin; refine wpList_app_u8 rfl (.tmp 130) (.tmp 132) 26 26 rfl w.heap.size 5 i0 (.int .u8 0) Try.underlying26 I1.out I2.out I3.out I4.out rfl w.heap.size 0 0 [] rfl (World.ownsRow_made w #[] 0 (Nat.le_refl _) (Nat.zero_le _) rfl) (.slice D dl dc) dl news rfl ((HD.out _ ((Below.refl _ _).alloc hbase _)).toSrc Try.underlying26) (by omega) (by simp) ?_; intro g2 c2 w2 hown2 hb2)
  rw [Nat.zero_add, List.nil_append] at hown2
  have hbb := ((Below.refl w.heap.size w).alloc (Nat.le_refl _) (.cells #[] 5)).trans hb2
  have h2 := H.out.below hbb
  have H2 := Lib.hid h2
  have HO := Lib.hid hown2
  have HB2 := Lib.hid (hbb.mono hbase)
  have HBB := Lib.hid hbb
  have hsrc : ∀ w', Moved w2 w' ar (rowOf A) → SrcRow w' (some ⟨g2, 0, none⟩) dl c2 (u8s news) := by
    intro w' hm
    have hf := HO.out.facts
    have hk := hm.block g2 hf.2.2.1 (by have := H.out.o2; have := H.out.o3; omega) (fun e => by have := (H.out.arena.own.row g2 e.symm).2; omega)
    exact ⟨by rw [length_u8s]; exact HNL.out, u8s_one _, .inr ⟨_, rfl, laid_src (HO.out.of_block hk)⟩⟩
  refine (put_yes h2.arena _ dl c2 (by have := HN.out; unfold atMost; omega) (Nat.le_trans hbase HBB.out.size) HNL.out hsrc).mono ?_
  rintro e w3 ⟨rfl, hst⟩
  obtain ⟨hb3, A3, ca3, h3⟩ := h2.stepped hst
  have H3 := Lib.hid h3
  have HB3 := Lib.hid (HB2.out.trans hb3)
  have cD3 : w3.cell? ⟨x, 4, none⟩ = some (.slice D dl dc) := by simp [World.cell?, h3.hx]
  clear hst hb3 h3 h2 hown2 hbb hb2 cD cDa hsrc
  go_wp2_with fail
  refine (grow_yes H3.out dl hL1 (by omega) HN.out (by omega)).mono ?_
  rintro e w4 ⟨rfl, hb4, B4, cb4, h4⟩
  rw [Int.toNat_natCast] at h4
  have H4 := Lib.hid h4
  have HB4 := Lib.hid (HB3.out.trans hb4)
  have cI := cell_of_one h4.hi
  have cW := cell_of_one h4.hw
  have cB := cell_of_one h4.hb
  have cD4 : w4.cell? ⟨x, 4, none⟩ = some (.slice D dl dc) := by simp [World.cell?, h4.hx]
  have hll : (zs ++ zeros dl).length = zs.length + dl := by simp [zeros]
  rw [hll] at cB
  have HLL := Lib.hid hll
  clear hb4 hll cD3
  by_cases h0 : dl = 0
  · subst h0
    have hn : news = [] := List.eq_nil_of_length_eq_zero HNL.out
    have hrun : ∀ (v : World) (dp : Option Addr) (l c : Nat), (Builtin.copy_ #[26, 26] 3 #[.slice dp l c, .slice D 0 dc]).run Try.prog v = .ok (goInt 0) v := fun v dp l c => run_copy_none (P := Try.prog) v 26 26 3 5 dp D l c 0 dc Try.underlying26 u8_size (Nat.zero_min l)
    have hfin : Rnd w4.drew base ar x L Kd N S U D 0 dc zs false B4 cb4 zs false A3 ca3 zs.length true := by
      have := h4.below ((Below.refl _ _).drew)
      rw [hn] at this
      simpa [zeros] using this
    have HF := Lib.hid hfin
    rcases h4.own.nil_or with ⟨rfl, rfl, hz⟩ | ⟨g, rfl, hr⟩
    · have hz0 : zs.length = 0 := by have := congrArg List.length hz; simp [zeros] at this; simp [this]
      rw [hz0, Nat.add_zero] at cB
      rw [hz0] at cW
      clear h4 hn hfin hz
      go_upto_region 26 with fail
      go_region
      show K _ _
      refine HK.out _ _ 0 true zs false none 0 A3 ca3 ⟨rfl, rfl, rfl, rfl, rfl, rfl, rfl, rfl, rfl, rfl, rfl, rfl, rfl, rfl, rfl, rfl⟩ ?_ (HB4.out.drew) (by omega)
      have := HF.out
      rw [hz0] at this
      exact this
    · have hcp := hr.facts.2.2.2.1
      rw [HLL.out] at hcp
      clear h4 hn hfin hr
      by_cases he : zs.length = cb4
      · go_upto_region 26 with fail
        go_region
        show K _ _
        refine HK.out _ _ cb4 true zs false (some ⟨g, 0, none⟩) cb4 A3 ca3 ⟨rfl, rfl, rfl, rfl, rfl, rfl, rfl, rfl, rfl, rfl, rfl, rfl, rfl, rfl, rfl, rfl⟩ ?_ (HB4.out.drew) (by omega)
        have := HF.out
        rw [he] at this
        exact this
      · have hlt : zs.length < cb4 := by omega
        clear he
        go_upto_region 26 with fail
        go_region
        show K _ _
        exact HK.out _ _ zs.length true zs false (some ⟨g, 0, none⟩) cb4 A3 ca3 ⟨rfl, rfl, rfl, rfl, rfl, rfl, rfl, rfl, rfl, rfl, rfl, rfl, rfl, rfl, rfl, rfl⟩ HF.out (HB4.out.drew) (by omega)
  · rcases h4.own.nil_or with ⟨rfl, rfl, hz⟩ | ⟨g, rfl, hr⟩
    · have := congrArg List.length hz
      simp [zeros] at this
      omega
    · have hcp := hr.facts.2.2.2.1
      rw [HLL.out] at hcp
      have hlt : zs.length < cb4 := by omega
      have hdr := (Below.refl w4.heap.size w4).drew
      have hro : OwnR w4.drew (ar + 3) 5 g (zs ++ zeros dl).length cb4 (zs ++ zeros dl) := hr.of_block (hdr.block g hr.facts.2.2.1)
      obtain ⟨w5, hrun, ho5, hg5⟩ := copy_src (ty := 3) (a := zs.length) hro (HD.out _ HB4.out.drew) (by rw [HLL.out]; exact Nat.le_refl _) (some ⟨g, zs.length, none⟩) dl (cb4 - zs.length) (Nat.le_refl _) (.inr rfl)
      have hsp := splice_end zs news
      rw [HNL.out] at hsp
      rw [hsp] at ho5
      have h5 := (h4.below hdr).copied rfl (by rw [HLL.out, List.length_append, HNL.out]) ho5 hg5
      have HF := Lib.hid h5.2
      have HB5 := Lib.hid (HB4.out.drew.trans h5.1)
      clear h4 hcp hdr hro ho5 hg5 hsp h5 hr
      go_upto_region 26 with fail
      go_region
      show K _ _
      exact HK.out _ _ zs.length true (zs ++ news) false (some ⟨g, 0, none⟩) cb4 A3 ca3 ⟨rfl, rfl, rfl, rfl, rfl, rfl, rfl, rfl, rfl, rfl, rfl, rfl, rfl, rfl, rfl, rfl⟩ HF.out HB5.out (by rw [List.length_append, HNL.out]; omega)
end
end Go.Proofs.Ytennhmaiecfgpaa
