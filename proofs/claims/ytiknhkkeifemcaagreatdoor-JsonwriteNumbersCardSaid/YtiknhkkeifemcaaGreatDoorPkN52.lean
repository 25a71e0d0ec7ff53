/-
  The fixed fact of the fifteenth chapter's example (the law's Awake) comes out true: its walk. Conditions: those that each theorem names.
-/
import Derived.Test.YtiknhkkeifemcaaGreatDoorPkN51
import Derived.Deep.RegionHeld3
import Derived.Lib.SlBytesConst
namespace Go.Proofs.YtiknhkkeifemcaaGreatDoor
open Go.ChangeShapes Go.WideShapes Go.ChangeAt Go.RowKit Go.Shelf

set_option maxRecDepth 100000 in
set_option maxHeartbeats 16000000 in
theorem awake15_any (w : World) (hT : PowT w) : Calls Tryz.prog 25 #[] w fun e w' => e = .returned (.bool true) ∧ Below w.heap.size w w' := by
  obtain ⟨hb, hq0, hq1, hq2⟩ := three_start w #[.string ⟨#[98]⟩, .int .u8 5, .int .i64 0, .int .i64 0, .int .u64 0, .string ⟨#[97]⟩, .int .u8 11, .int .i64 0, .int .i64 0, .int .u64 0] #[.string ⟨#[83]⟩, .slice (some ⟨w.heap.size, 0, none⟩) 2 2] #[.slice (some ⟨w.heap.size + 1, 0, none⟩) 1 1, .slice none 0 0, .int .i64 0] 60 63 30
  have HSR : Hid (SchRows w.heap.size (((w.alloc (.cells #[.string ⟨#[98]⟩, .int .u8 5, .int .i64 0, .int .i64 0, .int .u64 0, .string ⟨#[97]⟩, .int .u8 11, .int .i64 0, .int .i64 0, .int .u64 0] 60)).alloc (.cells #[.string ⟨#[83]⟩, .slice (some ⟨w.heap.size, 0, none⟩) 2 2] 63)).alloc (.cells #[.slice (some ⟨w.heap.size + 1, 0, none⟩) 1 1, .slice none 0 0, .int .i64 0] 30)) [(awR, .slice (some ⟨w.heap.size, 0, none⟩) 2 2)] [] (.slice (some ⟨w.heap.size + 1, 0, none⟩) 1 1) (.slice none 0 0)) := Lib.hid {
    structs := own_blk hq1 (by omega) (by decide) rfl
    enums := World.ownsRow_nil _ _ _ _
    fields := fun q hq => by rw [List.mem_singleton] at hq; subst hq; exact own_blk hq0 (Nat.le_refl _) (by decide) rfl
    names := fun q hq => by cases hq }
  have HB := Lib.hid hb
  have HQ : Hid ((((w.alloc (.cells #[.string ⟨#[98]⟩, .int .u8 5, .int .i64 0, .int .i64 0, .int .u64 0, .string ⟨#[97]⟩, .int .u8 11, .int .i64 0, .int .i64 0, .int .u64 0] 60)).alloc (.cells #[.string ⟨#[83]⟩, .slice (some ⟨w.heap.size, 0, none⟩) 2 2] 63)).alloc (.cells #[.slice (some ⟨w.heap.size + 1, 0, none⟩) 1 1, .slice none 0 0, .int .i64 0] 30)).heap[w.heap.size + 1 + 1]? = some (.cells #[.slice (some ⟨w.heap.size + 1, 0, none⟩) 1 1, .slice none 0 0, .int .i64 0] 30 (0, 0))) := Lib.hid hq2
  have HT := Lib.hid (hT.below hb)
  clear hT hb hq0 hq1 hq2
  go_enter Tryz.func25, Tryz.ntmps25
  go_upto_region 2 with (fail)
  generalize (((w.alloc (.cells #[.string ⟨#[98]⟩, .int .u8 5, .int .i64 0, .int .i64 0, .int .u64 0, .string ⟨#[97]⟩, .int .u8 11, .int .i64 0, .int .i64 0, .int .u64 0] 60)).alloc (.cells #[.string ⟨#[83]⟩, .slice (some ⟨w.heap.size, 0, none⟩) 2 2] 63)).alloc (.cells #[.slice (some ⟨w.heap.size + 1, 0, none⟩) 1 1, .slice none 0 0, .int .i64 0] 30)) = W0 at *
  have HWR := Lib.hid (fun (V : World) (mk a b : Nat) (hb : Below W0.heap.size W0 V) (h0 : V.heap[a]? = some awB) (h1 : V.heap[b]? = some (awK a)) (hm : V.heap[mk]? = some (.cells #[.int .i64 1099511627776, .bool false] 152 (0, 0))) (hmk : W0.heap.size ≤ mk) => awJ_write HSR.out HT.out hb h0 h1 hm hmk)
  clear HSR HT
  obtain ⟨_, s0, s1, s2, _⟩ := blk3 HQ.out
  refine wp_region_noPanic ?_
  refine wp_region_held_drew (S := (fun w' => w'.cell? ⟨w.heap.size + 1 + 1, 0, none⟩ = some (.slice (some ⟨w.heap.size + 1, 0, none⟩) 1 1) ∧ w'.cell? ⟨w.heap.size + 1 + 1, 1, none⟩ = some (.slice none 0 0) ∧ w'.cell? ⟨w.heap.size + 1 + 1, 2, none⟩ = some (.int .i64 0))) (by kernel_rfl) ⟨s0, s1, s2⟩ ?_
  intro hS
  have hx0 : Below W0.heap.size W0 W0.drew := (Below.refl _ _).drew
  have HX0 := Lib.hid hx0
  clear hx0
  generalize W0.drew = V0 at *
  refine wpAnyH_take (i := 0) (v := .agg #[.slice (some ⟨w.heap.size + 1, 0, none⟩) 1 1, .slice none 0 0, .int .i64 0]) rfl (by kernel_rfl) (by kernel_rfl) (by kernel_rfl) (fun _ _ _ h => h) (Or.inl ⟨by rfl, ?_⟩) hS ?_
  · intro w' hSw
    obtain ⟨s0, s1, s2⟩ := hSw
    go_simp
  simp only [Act.put, List.getElem_toArray, List.getElem_cons_zero, List.setIfInBounds_toArray, List.set_cons_zero, List.set_cons_succ]
  refine wpAnyH_take (i := 1) (v := .agg #[.int .u64 18446744073709551615, .slice none 0 0, .slice none 0 0, .bool false]) rfl (by kernel_rfl) (by kernel_rfl) (by kernel_rfl) (fun _ _ _ h => h) (Or.inl ⟨by rfl, ?_⟩) hS ?_
  · intro w' hSw
    obtain ⟨s0, s1, s2⟩ := hSw
    go_simp
  simp only [Act.put, List.getElem_toArray, List.getElem_cons_succ, List.getElem_cons_zero, List.setIfInBounds_toArray, List.set_cons_zero, List.set_cons_succ]
  refine wpAnyH_ready (rs := [2]) (by kernel_rfl) (by decide) (AllReadyH.cons rfl (fun K hK => ?_) AllReadyH.nil)
  rw [if_pos (by kernel_rfl)]
  go_simp
  have hy : Below W0.heap.size W0 (V0.alloc (.cells #[.int .u8 120, .int .u8 10] 5)) := HX0.out.alloc HX0.out.size _
  have hcv : (convert 22 22 (.slice (some ⟨V0.heap.size, 0, none⟩) 2 2)).run Tryz.prog (V0.alloc (.cells #[.int .u8 120, .int .u8 10] 5)) = .ok (.slice (some ⟨V0.heap.size, 0, none⟩) 2 2) (V0.alloc (.cells #[.int .u8 120, .int .u8 10] 5 (2, 3))) := Lib.run_convert_bytes_const (P := Tryz.prog) V0 22 5 #[.int .u8 120, .int .u8 10] 2 2 Tryz.underlying22 Tryz.underlying5
  have hqv := blk_below HQ.out hy (blk_lt HQ.out)
  refine hK.out _ _ ⟨(blk3 hqv).2.1, (blk3 hqv).2.2.1, (blk3 hqv).2.2.2.1⟩ (fun hS => ?_)
  clear hqv hK K hy
  refine wpAnyH_ready (rs := [3]) (by kernel_rfl) (by decide) (AllReadyH.cons rfl (fun K hK => ?_) AllReadyH.nil)
  rw [if_pos (by kernel_rfl)]
  go_simp
  have HA2 : Hid ((V0.alloc (.cells #[.int .u8 120, .int .u8 10] 5 (2, 3))).heap[V0.heap.size]? = some awB) := Lib.hid (heap_alloc_new _ _)
  have HX2 := Lib.hid (HX0.out.alloc HX0.out.size (.cells #[.int .u8 120, .int .u8 10] 5 (2, 3)))
  clear hcv
  have hqv := blk_below HQ.out HX2.out (blk_lt HQ.out)
  refine hK.out _ _ ⟨(blk3 hqv).2.1, (blk3 hqv).2.2.1, (blk3 hqv).2.2.2.1⟩ (fun hS => ?_)
  clear hqv hK K
  generalize V0.alloc (.cells #[.int .u8 120, .int .u8 10] 5 (2, 3)) = V2 at *
  refine wpAnyH_take (i := 4) (v := .agg #[.int .u64 0, .slice (some ⟨V0.heap.size, 0, none⟩) 2 2, .slice none 0 0, .bool false]) rfl (by kernel_rfl) (by kernel_rfl) (by kernel_rfl) (fun _ _ _ h => h) (Or.inl ⟨by rfl, ?_⟩) hS ?_
  · intro w' hSw
    obtain ⟨s0, s1, s2⟩ := hSw
    go_simp
  simp only [Act.put, List.getElem_toArray, List.getElem_cons_succ, List.getElem_cons_zero, List.setIfInBounds_toArray, List.set_cons_zero, List.set_cons_succ]
  refine wpAnyH_ready (rs := [5]) (by kernel_rfl) (by decide) (AllReadyH.cons rfl (fun K hK => ?_) AllReadyH.nil)
  rw [if_pos (by kernel_rfl)]
  go_simp
  have hy : Below V2.heap.size V2 (V2.alloc (.cells #[.int .u64 18446744073709551615, .slice none 0 0, .slice none 0 0, .bool false, .int .u64 0, .slice (some ⟨V0.heap.size, 0, none⟩) 2 2, .slice none 0 0, .bool false] 40)) := (Below.refl _ _).alloc (Nat.le_refl _) _
  have HK3 : Hid ((V2.alloc (.cells #[.int .u64 18446744073709551615, .slice none 0 0, .slice none 0 0, .bool false, .int .u64 0, .slice (some ⟨V0.heap.size, 0, none⟩) 2 2, .slice none 0 0, .bool false] 40)).heap[V2.heap.size]? = some (awK V0.heap.size)) := Lib.hid (heap_alloc_new _ _)
  have HA3 := Lib.hid (blk_below HA2.out hy (blk_lt HA2.out))
  have HX3 := Lib.hid (HX2.out.trans (hy.mono HX2.out.size))
  have hqv := blk_below HQ.out HX3.out (blk_lt HQ.out)
  refine hK.out _ _ ⟨(blk3 hqv).2.1, (blk3 hqv).2.2.1, (blk3 hqv).2.2.2.1⟩ (fun hS => ?_)
  clear hqv hK K
  generalize V2.alloc (.cells #[.int .u64 18446744073709551615, .slice none 0 0, .slice none 0 0, .bool false, .int .u64 0, .slice (some ⟨V0.heap.size, 0, none⟩) 2 2, .slice none 0 0, .bool false] 40) = V3 at *
  clear hy
  refine wpAnyH_take (i := 6) (v := .agg #[.int .u64 0, .slice none 0 0, .slice (some ⟨V2.heap.size, 0, none⟩) 2 2, .bool true]) rfl (by kernel_rfl) (by kernel_rfl) (by kernel_rfl) (fun _ _ _ h => h) (Or.inl ⟨by rfl, ?_⟩) hS ?_
  · intro w' hSw
    obtain ⟨s0, s1, s2⟩ := hSw
    go_simp
  simp only [Act.put, List.getElem_toArray, List.getElem_cons_succ, List.getElem_cons_zero, List.setIfInBounds_toArray, List.set_cons_zero, List.set_cons_succ]
  refine wpAnyH_ready (rs := [7]) (by kernel_rfl) (by decide) (AllReadyH.cons rfl (fun K hK => ?_) AllReadyH.nil)
  rw [if_pos (by kernel_rfl)]
  go_simp
  refine (of_any V3 awV _ (awJ_isV HA3.out HK3.out)).mono ?_
  rintro e V4 ⟨rfl, hy⟩
  have HX4 := Lib.hid (HX3.out.trans (hy.mono HX3.out.size))
  have HA4 := Lib.hid (blk_below HA3.out hy (blk_lt HA3.out))
  have HK4 := Lib.hid (blk_below HK3.out hy (blk_lt HK3.out))
  have hqv := blk_below HQ.out HX4.out (blk_lt HQ.out)
  refine hK.out _ _ ⟨(blk3 hqv).2.1, (blk3 hqv).2.2.1, (blk3 hqv).2.2.2.1⟩ (fun hS => ?_)
  clear hqv hK K
  clear hy
  refine wpAnyH_ready (rs := [8]) (by kernel_rfl) (by decide) (AllReadyH.cons rfl (fun K hK => ?_) AllReadyH.nil)
  rw [if_pos (by kernel_rfl)]
  go_simp
  refine (enough15_any V4).mono ?_
  rintro e V5 ⟨rfl, hm, hy⟩
  have HM5 := Lib.hid hm
  clear hm
  have HP5 : Hid (W0.heap.size ≤ V4.heap.size) := Lib.hid HX4.out.size
  have HX5 := Lib.hid (HX4.out.trans (hy.mono HX4.out.size))
  have HA5 := Lib.hid (blk_below HA4.out hy (blk_lt HA4.out))
  have HK5 := Lib.hid (blk_below HK4.out hy (blk_lt HK4.out))
  have hqv := blk_below HQ.out HX5.out (blk_lt HQ.out)
  refine hK.out _ _ ⟨(blk3 hqv).2.1, (blk3 hqv).2.2.1, (blk3 hqv).2.2.2.1⟩ (fun hS => ?_)
  clear hqv hK K
  clear hy
  refine wpAnyH_ready (rs := [9]) (by kernel_rfl) (by decide) (AllReadyH.cons rfl (fun K hK => ?_) AllReadyH.nil)
  rw [if_pos (by kernel_rfl)]
  go_simp
  refine (HWR.out V5 V4.heap.size V0.heap.size V2.heap.size HX5.out HA5.out HK5.out HM5.out HP5.out).mono ?_
  rintro e V6 ⟨g, rfl, ho, hy⟩
  have HO := Lib.hid ho
  have HE := Lib.hid (HB.out.trans (hy.mono HB.out.size))
  have HX6 := Lib.hid hy
  have hqv := blk_below HQ.out HX6.out (blk_lt HQ.out)
  refine hK.out _ _ ⟨(blk3 hqv).2.1, (blk3 hqv).2.2.1, (blk3 hqv).2.2.2.1⟩ (fun hS => ?_)
  clear hqv hK K
  clear hy ho
  refine wpAnyH_take (i := 10) (v := .tuple #[.slice (some ⟨g, 0, none⟩) 20 20, .int .i64 0]) rfl (by kernel_rfl) (by kernel_rfl) (by kernel_rfl) (fun _ _ _ h => h) (Or.inl ⟨by rfl, ?_⟩) hS ?_
  · intro w' hSw
    obtain ⟨s0, s1, s2⟩ := hSw
    go_simp
  simp only [Act.put, List.getElem_toArray, List.getElem_cons_succ, List.getElem_cons_zero, List.setIfInBounds_toArray, List.set_cons_zero, List.set_cons_succ]
  refine wpAnyH_take (i := 11) (v := .slice (some ⟨g, 0, none⟩) 20 20) rfl (by kernel_rfl) (by kernel_rfl) (by kernel_rfl) (fun _ _ _ h => h) (Or.inl ⟨by rfl, ?_⟩) hS ?_
  · intro w' hSw
    obtain ⟨s0, s1, s2⟩ := hSw
    go_simp
  simp only [Act.put, List.getElem_toArray, List.getElem_cons_succ, List.getElem_cons_zero, List.setIfInBounds_toArray, List.set_cons_zero, List.set_cons_succ]
  refine wpAnyH_take (i := 12) (v := .int .i64 0) rfl (by kernel_rfl) (by kernel_rfl) (by kernel_rfl) (fun _ _ _ h => h) (Or.inl ⟨by rfl, ?_⟩) hS ?_
  · intro w' hSw
    obtain ⟨s0, s1, s2⟩ := hSw
    go_simp
  simp only [Act.put, List.getElem_toArray, List.getElem_cons_succ, List.getElem_cons_zero, List.setIfInBounds_toArray, List.set_cons_zero, List.set_cons_succ]
  refine wpAnyH_take (i := 13) (v := .slice (some ⟨g, 0, none⟩) 20 20) rfl (by kernel_rfl) (by kernel_rfl) (by kernel_rfl) (fun _ _ _ h => h) (Or.inl ⟨by rfl, ?_⟩) hS ?_
  · intro w' hSw
    obtain ⟨s0, s1, s2⟩ := hSw
    go_simp
  simp only [Act.put, List.getElem_toArray, List.getElem_cons_succ, List.getElem_cons_zero, List.setIfInBounds_toArray, List.set_cons_zero, List.set_cons_succ]
  refine wpAnyH_take (i := 14) (v := .int .i64 0) rfl (by kernel_rfl) (by kernel_rfl) (by kernel_rfl) (fun _ _ _ h => h) (Or.inl ⟨by rfl, ?_⟩) hS ?_
  · intro w' hSw
    obtain ⟨s0, s1, s2⟩ := hSw
    go_simp
  simp only [Act.put, List.getElem_toArray, List.getElem_cons_succ, List.getElem_cons_zero, List.setIfInBounds_toArray, List.set_cons_zero, List.set_cons_succ]
  refine wpAnyH_done (by kernel_rfl) ?_ _
  refine NoPanic.normal ?_
  try simp only [Exit.then]
  have cv := HO.out.str (P := Tryz.prog) 22 9 Tryz.underlying22 Tryz.underlying5 Tryz.underlying9
  rw [show strOfNums awO = ⟨#[123, 34, 97, 34, 58, 34, 120, 92, 110, 34, 44, 34, 98, 34, 58, 34, 45, 49, 34, 125]⟩ from by kernel_rfl] at cv
  clear s0 s1 s2
  go_wp2
  go_ret
  exact ⟨rfl, HE.out⟩
end Go.Proofs.YtiknhkkeifemcaaGreatDoor
