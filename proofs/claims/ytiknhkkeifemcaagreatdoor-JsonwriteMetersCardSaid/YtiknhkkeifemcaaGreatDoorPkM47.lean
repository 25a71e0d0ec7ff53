/-
  The fixed fact of the fifteenth chapter's example (the law's Awake) comes out true: its walk. Conditions: those that each theorem names.
-/
import Derived.Test.YtiknhkkeifemcaaGreatDoorPkM2
import Derived.Test.YtiknhkkeifemcaaGreatDoorPkM20
import Derived.Test.YtiknhkkeifemcaaGreatDoorPkM46
import Derived.Deep.RegionHeld3
import Derived.Lib.SlBytesConst
namespace Go.Proofs.YtiknhkkeifemcaaGreatDoor
open Go.ChangeShapes Go.WideShapes Go.ChangeAt Go.RowKit Go.Shelf

def awR : SRec := ⟨⟨#[83]⟩, [⟨⟨#[98]⟩, 5, 0, 0, 0⟩, ⟨⟨#[97]⟩, 11, 0, 0, 0⟩]⟩
def awV : PV := .mk 0 [] [.mk 18446744073709551615 [] [] false, .mk 0 [120, 10] [] false] true
def awO : List Int := [123, 34, 97, 34, 58, 34, 120, 92, 110, 34, 44, 34, 98, 34, 58, 34, 45, 49, 34, 125]
theorem awJ_form : formJ [awR] [] 12 0 awV = awO := by kernel_rfl
theorem awJ_fits : fitsP [cR awR] [] 12 13 0 0 awV = true := by kernel_rfl
theorem awJ_ok (v : Value) : JwOk [(awR, v)] [] where
  few := ⟨show 1 ≤ 16 by decide, show 0 ≤ 1000 by decide⟩
  flds := fun q hq => by
    rw [List.mem_singleton] at hq
    subst hq
    refine ⟨show 2 ≤ 16 by decide, fun f hf => ?_, fun f hf => ?_⟩
    all_goals
      have h : f = ⟨⟨#[98]⟩, 5, 0, 0, 0⟩ ∨ f = ⟨⟨#[97]⟩, 11, 0, 0, 0⟩ := by simpa [awR] using hf
      rcases h with rfl | rfl
    · decide
    · decide
    · exact ⟨by decide, by decide, by decide, by decide, fun h => by cases h⟩
    · exact ⟨by decide, by decide, by decide, by decide, fun h => by cases h⟩
  nams := fun q hq => by cases hq
theorem awJ_small : SmallV awV := .mk _ _ _ _ (by decide) (by decide) (fun q hq => by
  have h : q = .mk 18446744073709551615 [] [] false ∨ q = .mk 0 [120, 10] [] false := by simpa using hq
  rcases h with rfl | rfl
  · exact .mk _ _ _ _ (by decide) (by decide) (fun q hq => by cases hq)
  · exact .mk _ _ _ _ (by decide) (by decide) (fun q hq => by cases hq))
def awB : Obj := .cells #[.int .u8 120, .int .u8 10] 5 (2, 3)
def awK (a : Nat) : Obj := .cells #[.int .u64 18446744073709551615, .slice none 0 0, .slice none 0 0, .bool false, .int .u64 0, .slice (some ⟨a, 0, none⟩) 2 2, .slice none 0 0, .bool false] 40 (0, 0)
theorem awJ_isV {V : World} {a b : Nat} (h0 : V.heap[a]? = some awB) (h1 : V.heap[b]? = some (awK a)) : IsV V awV (.agg #[.int .u64 0, .slice none 0 0, .slice (some ⟨b, 0, none⟩) 2 2, .bool true]) := by
  refine .mk 0 [] [.mk 18446744073709551615 [] [] false, .mk 0 [120, 10] [] false] true none (some ⟨b, 0, none⟩) 0 2 b 0 (fun i => if i = 0 then .int .u64 18446744073709551615 else .int .u64 0) (fun i => if i = 0 then .slice none 0 0 else .slice (some ⟨a, 0, none⟩) 2 2) (fun _ => .slice none 0 0) (fun _ => .bool false) (by decide) (bytes_nil V) (Nat.le_refl _) (by decide) (by decide) (by decide) (fun _ => rfl) (fun i hi => ?_) (fun i hi => ?_)
  · have hi2 : i < 2 := hi
    have hc : i = 0 ∨ i = 1 := by omega
    rcases hc with rfl | rfl
    · exact ⟨blk_cell h1 0, blk_cell h1 1, blk_cell h1 2, blk_cell h1 3⟩
    · exact ⟨blk_cell h1 4, blk_cell h1 5, blk_cell h1 6, blk_cell h1 7⟩
  · have hi2 : i < 2 := hi
    have hc : i = 0 ∨ i = 1 := by omega
    rcases hc with rfl | rfl
    · exact .mk _ [] [] false none none 0 0 0 0 (fun _ => .bool false) (fun _ => .bool false) (fun _ => .bool false) (fun _ => .bool false) (by decide) (bytes_nil V) (Nat.le_refl _) (by decide) (Nat.le_refl _) (by decide) (fun h => absurd rfl h) (fun i hi => absurd hi (Nat.not_lt_zero i)) (fun i hi => absurd hi (Nat.not_lt_zero i))
    · refine .mk 0 [120, 10] [] false (some ⟨a, 0, none⟩) none 2 0 0 0 (fun _ => .bool false) (fun _ => .bool false) (fun _ => .bool false) (fun _ => .bool false) (by decide) ⟨fun i => ?_, fun _ => ⟨a, 0, rfl, blk_lt h0, fun i hi => ?_⟩⟩ (Nat.le_refl _) (by decide) (Nat.le_refl _) (by decide) (fun h => absurd rfl h) (fun i hi => absurd hi (Nat.not_lt_zero i)) (fun i hi => absurd hi (Nat.not_lt_zero i))
      · rcases Nat.lt_or_ge i 2 with h | h
        · have hc : i = 0 ∨ i = 1 := by omega
          rcases hc with rfl | rfl <;> decide
        · rw [List.getD, List.getElem?_eq_none h]
          decide
      · have hi2 : i < 2 := hi
        have hc : i = 0 ∨ i = 1 := by omega
        rcases hc with rfl | rfl
        · exact cell_of_row V a 0 _ _ (2, 3) h0
        · exact cell_of_row V a 1 _ _ (2, 3) h0
def offS (m n : Nat) (j : Nat) : Bool := decide (j = m) || decide (n ≤ j)
theorem offS_low {m n j : Nat} (h : offS m n j = false) : j ≠ m ∧ j < n := by
  unfold offS at h
  rw [Bool.or_eq_false_iff] at h
  exact ⟨of_decide_eq_false h.1, Nat.lt_of_not_le (of_decide_eq_false h.2)⟩
theorem offS_no {m n j : Nat} (h1 : j ≠ m) (h2 : j < n) : offS m n j = false := by
  unfold offS
  rw [decide_eq_false h1, decide_eq_false (Nat.not_le_of_lt h2)]
  rfl
theorem awJ_write {W0 V : World} {base mk a b : Nat} {sv ev fv : Value} (h : SchRows base W0 [(awR, fv)] [] sv ev) (hT : PowT W0) (hb : Below W0.heap.size W0 V) (h0 : V.heap[a]? = some awB) (h1 : V.heap[b]? = some (awK a)) (hm : V.heap[mk]? = some (.cells #[.int .i64 1099511627776, .bool false] 152 (0, 0))) (hmk : W0.heap.size ≤ mk) :
    Calls Tryz.prog 26 #[.agg #[sv, ev, .int .i64 0], viewI (.agg #[.int .u64 0, .slice none 0 0, .slice (some ⟨b, 0, none⟩) 2 2, .bool true]), .pointer (some ⟨mk, 0, none⟩)] V fun e w' => ∃ g, e = .returned (.tuple #[.slice (some ⟨g, 0, none⟩) 20 20, .int .i64 0]) ∧ OwnR w' g 5 g 20 20 awO ∧ Below W0.heap.size W0 w' := by
  have na : a ≠ mk := fun e => by
    rw [e, hm] at h0
    have h2 := congrArg (fun x : Option Obj => match x with | some (.cells cs _ _) => cs.getD 0 undef | _ => undef) h0
    simp [awB] at h2
  have nb : b ≠ mk := fun e => by
    rw [e, hm] at h1
    have h2 := congrArg (fun x : Option Obj => match x with | some (.cells cs _ _) => cs.getD 0 undef | _ => undef) h1
    simp [awK] at h2
  have hv : IsV V awV (.agg #[.int .u64 0, .slice none 0 0, .slice (some ⟨b, 0, none⟩) 2 2, .bool true]) := awJ_isV h0 h1
  have hvh : VH (offS mk V.heap.size) V awV (.agg #[.int .u64 0, .slice none 0 0, .slice (some ⟨b, 0, none⟩) 2 2, .bool true]) :=
    awJ_isV (V := hideW (offS mk V.heap.size) V) ((hide_block _ _ _ (offS_no na (blk_lt h0))).trans h0) ((hide_block _ _ _ (offS_no nb (blk_lt h1))).trans h1)
  have hsh := (sees_all [cR awR] [] 12).2 (offS mk V.heap.size) V.heap.size V awV _ 13 0 0 (fun _ hj => (offS_low hj).2) (Nat.le_refl _) hvh awJ_small awJ_fits (by decide) rfl
  refine (jwrite_any (ss := [(awR, fv)]) (es := []) (root := 0) (r := 12) (Dv := NotS (offS mk V.heap.size)) (h.below hb) (awJ_ok fv) (by decide : 0 < 1) (hT.below hb) hm (by decide) (by decide) hsh (fun _ hj => (offS_low hj).2) (fun hd => (offS_low hd).1 rfl) (smallJ_of awJ_small hv)).mono ?_
  rintro e w' hw
  obtain ⟨v, n, rfl, hbw, hout⟩ := hw.to hb hmk
  rw [show formJ (List.map Prod.fst [(awR, fv)]) (List.map Prod.fst ([] : List (SCho × Value))) 12 0 awV = awO from awJ_form] at hout
  rcases hout with ⟨g, rfl, rfl, ho, _⟩ | ⟨_, _, h2⟩ | ⟨_, _, h2⟩
  · exact ⟨g, rfl, ho, hbw⟩
  · exact absurd h2 (by decide)
  · exact absurd h2 (by decide)
end Go.Proofs.YtiknhkkeifemcaaGreatDoor
namespace Go.Proofs.YtiknhkkeifemcaaGreatDoor
open Go.ChangeShapes Go.WideShapes Go.ChangeAt Go.RowKit Go.Shelf

set_option maxRecDepth 100000 in
set_option maxHeartbeats 16000000 in
theorem awake15_any (w : World) (hT : PowT w) : Calls Tryz.prog 25 #[] w fun e w' => e = .returned (.bool true) ∧ Below w.heap.size w w' := by
  obtain ⟨hb, hq0, hq1, hq2⟩ := three_start w #[.string ⟨#[98]⟩, .int .u8 5, .int .i64 0, .int .i64 0, .int .u64 0, .string ⟨#[97]⟩, .int .u8 11, .int .i64 0, .int .i64 0, .int .u64 0] #[.string ⟨#[83]⟩, .slice (some ⟨w.heap.size, 0, none⟩) 2 2] #[.slice (some ⟨w.heap.size + 1, 0, none⟩) 1 1, .slice none 0 0, .int .i64 0] 60 63 30
  have HSR : Hid (SchRows w.heap.size (((w.alloc (.cells #[.string ⟨#[98]⟩, .int .u8 5, .int .i64 0, .int .i64 0, .int .u64 0, .string ⟨#[97]⟩, .int .u8 11, .int .i64 0, .int .i64 0, .int .u64 0] 60)).alloc (.cells #[.string ⟨#[83]⟩, .slice (some ⟨w.heap.size, 0, none⟩) 2 2] 63)).alloc (.cells #[.slice (some ⟨w.heap.size + 1, 0, none⟩) 1 1, .slice none 0 0, .int .i64 0] 30)) [(awR, .slice (some ⟨w.heap.size, 0, none⟩) 2 2)] [] (.slice (some ⟨w.heap.size + 1, 0, none⟩) 1 1) (.slice none 0 0)) := Lib.hid {
    structs := own_blk hq1 (by omega) (by decide) rfl
    enums := World.ownsRow_nil _ _ _ _
    fields := fun q hq => by rw [List.mem_singleton] at hq; subst hq; exact own_blk hq0 (Nat.le_refl _) (by decide) rfl
    names := fun q hq => by cases hq }
  have HB := Lib.hid hb
  have HQ : Hid ((((w.alloc (.cells #[.string ⟨#[98]⟩, .int .u8 5, .int .i64 0, .int .i64 0, .int .u64 0, .string ⟨#[97]⟩, .int .u8 11, .int .i64 0, .int .i64 0, .int .u64 0] 60)).alloc (.cells #[.string ⟨#[83]⟩, .slice (some ⟨w.heap.size, 0, none⟩) 2 2] 63)).alloc (.cells #[.slice (some ⟨w.heap.size + 1, 0, none⟩) 1 1, .slice none 0 0, .int .i64 0] 30)).heap[w.heap.size + 1 + 1]? = some (.cells #[.slice (some ⟨w.heap.size + 1, 0, none⟩) 1 1, .slice none 0 0, .int .i64 0] 30 (0, 0))) := Lib.hid hq2
  have HT := Lib.hid (hT.below hb)
  clear hT hb hq0 hq1 hq2
  go_enter Tryz.func25, Tryz.ntmps25
  go_upto_region 2 with (fail)
  generalize (((w.alloc (.cells #[.string ⟨#[98]⟩, .int .u8 5, .int .i64 0, .int .i64 0, .int .u64 0, .string ⟨#[97]⟩, .int .u8 11, .int .i64 0, .int .i64 0, .int .u64 0] 60)).alloc (.cells #[.string ⟨#[83]⟩, .slice (some ⟨w.heap.size, 0, none⟩) 2 2] 63)).alloc (.cells #[.slice (some ⟨w.heap.size + 1, 0, none⟩) 1 1, .slice none 0 0, .int .i64 0] 30)) = W0 at *
  have HWR := Lib.hid (fun (V : World) (mk a b : Nat) (hb : Below W0.heap.size W0 V) (h0 : V.heap[a]? = some awB) (h1 : V.heap[b]? = some (awK a)) (hm : V.heap[mk]? = some (.cells #[.int .i64 1099511627776, .bool false] 152 (0, 0))) (hmk : W0.heap.size ≤ mk) => awJ_write HSR.out HT.out hb h0 h1 hm hmk)
  clear HSR HT
  obtain ⟨_, s0, s1, s2, _⟩ := blk3 HQ.out
  refine wp_region_noPanic ?_
  refine wp_region_held_drew (S := (fun w' => w'.cell? ⟨w.heap.size + 1 + 1, 0, none⟩ = some (.slice (some ⟨w.heap.size + 1, 0, none⟩) 1 1) ∧ w'.cell? ⟨w.heap.size + 1 + 1, 1, none⟩ = some (.slice none 0 0) ∧ w'.cell? ⟨w.heap.size + 1 + 1, 2, none⟩ = some (.int .i64 0))) (by kernel_rfl) ⟨s0, s1, s2⟩ ?_
  intro hS
  have hx0 : Below W0.heap.size W0 W0.drew := (Below.refl _ _).drew
  have HX0 := Lib.hid hx0
  clear hx0
  generalize W0.drew = V0 at *
  refine wpAnyH_take (i := 0) (v := .agg #[.slice (some ⟨w.heap.size + 1, 0, none⟩) 1 1, .slice none 0 0, .int .i64 0]) rfl (by kernel_rfl) (by kernel_rfl) (by kernel_rfl) (fun _ _ _ h => h) (Or.inl ⟨by rfl, ?_⟩) hS ?_
  · intro w' hSw
    obtain ⟨s0, s1, s2⟩ := hSw
    go_simp
  simp only [Act.put, List.getElem_toArray, List.getElem_cons_zero, List.setIfInBounds_toArray, List.set_cons_zero, List.set_cons_succ]
  refine wpAnyH_take (i := 1) (v := .agg #[.int .u64 18446744073709551615, .slice none 0 0, .slice none 0 0, .bool false]) rfl (by kernel_rfl) (by kernel_rfl) (by kernel_rfl) (fun _ _ _ h => h) (Or.inl ⟨by rfl, ?_⟩) hS ?_
  · intro w' hSw
    obtain ⟨s0, s1, s2⟩ := hSw
    go_simp
  simp only [Act.put, List.getElem_toArray, List.getElem_cons_succ, List.getElem_cons_zero, List.setIfInBounds_toArray, List.set_cons_zero, List.set_cons_succ]
  refine wpAnyH_ready (rs := [2]) (by kernel_rfl) (by decide) (AllReadyH.cons rfl (fun K hK => ?_) AllReadyH.nil)
  rw [if_pos (by kernel_rfl)]
  go_simp
  have hy : Below W0.heap.size W0 (V0.alloc (.cells #[.int .u8 120, .int .u8 10] 5)) := HX0.out.alloc HX0.out.size _
  have hcv : (convert 22 22 (.slice (some ⟨V0.heap.size, 0, none⟩) 2 2)).run Tryz.prog (V0.alloc (.cells #[.int .u8 120, .int .u8 10] 5)) = .ok (.slice (some ⟨V0.heap.size, 0, none⟩) 2 2) (V0.alloc (.cells #[.int .u8 120, .int .u8 10] 5 (2, 3))) := Lib.run_convert_bytes_const (P := Tryz.prog) V0 22 5 #[.int .u8 120, .int .u8 10] 2 2 Tryz.underlying22 Tryz.underlying5
  have hqv := blk_below HQ.out hy (blk_lt HQ.out)
  refine hK.out _ _ ⟨(blk3 hqv).2.1, (blk3 hqv).2.2.1, (blk3 hqv).2.2.2.1⟩ (fun hS => ?_)
  clear hqv hK K hy
  refine wpAnyH_ready (rs := [3]) (by kernel_rfl) (by decide) (AllReadyH.cons rfl (fun K hK => ?_) AllReadyH.nil)
  rw [if_pos (by kernel_rfl)]
  go_simp
  have HA2 : Hid ((V0.alloc (.cells #[.int .u8 120, .int .u8 10] 5 (2, 3))).heap[V0.heap.size]? = some awB) := Lib.hid (heap_alloc_new _ _)
  have HX2 := Lib.hid (HX0.out.alloc HX0.out.size (.cells #[.int .u8 120, .int .u8 10] 5 (2, 3)))
  clear hcv
  have hqv := blk_below HQ.out HX2.out (blk_lt HQ.out)
  refine hK.out _ _ ⟨(blk3 hqv).2.1, (blk3 hqv).2.2.1, (blk3 hqv).2.2.2.1⟩ (fun hS => ?_)
  clear hqv hK K
  generalize V0.alloc (.cells #[.int .u8 120, .int .u8 10] 5 (2, 3)) = V2 at *
  refine wpAnyH_take (i := 4) (v := .agg #[.int .u64 0, .slice (some ⟨V0.heap.size, 0, none⟩) 2 2, .slice none 0 0, .bool false]) rfl (by kernel_rfl) (by kernel_rfl) (by kernel_rfl) (fun _ _ _ h => h) (Or.inl ⟨by rfl, ?_⟩) hS ?_
  · intro w' hSw
    obtain ⟨s0, s1, s2⟩ := hSw
    go_simp
  simp only [Act.put, List.getElem_toArray, List.getElem_cons_succ, List.getElem_cons_zero, List.setIfInBounds_toArray, List.set_cons_zero, List.set_cons_succ]
  refine wpAnyH_ready (rs := [5]) (by kernel_rfl) (by decide) (AllReadyH.cons rfl (fun K hK => ?_) AllReadyH.nil)
  rw [if_pos (by kernel_rfl)]
  go_simp
  have hy : Below V2.heap.size V2 (V2.alloc (.cells #[.int .u64 18446744073709551615, .slice none 0 0, .slice none 0 0, .bool false, .int .u64 0, .slice (some ⟨V0.heap.size, 0, none⟩) 2 2, .slice none 0 0, .bool false] 40)) := (Below.refl _ _).alloc (Nat.le_refl _) _
  have HK3 : Hid ((V2.alloc (.cells #[.int .u64 18446744073709551615, .slice none 0 0, .slice none 0 0, .bool false, .int .u64 0, .slice (some ⟨V0.heap.size, 0, none⟩) 2 2, .slice none 0 0, .bool false] 40)).heap[V2.heap.size]? = some (awK V0.heap.size)) := Lib.hid (heap_alloc_new _ _)
  have HA3 := Lib.hid (blk_below HA2.out hy (blk_lt HA2.out))
  have HX3 := Lib.hid (HX2.out.trans (hy.mono HX2.out.size))
  have hqv := blk_below HQ.out HX3.out (blk_lt HQ.out)
  refine hK.out _ _ ⟨(blk3 hqv).2.1, (blk3 hqv).2.2.1, (blk3 hqv).2.2.2.1⟩ (fun hS => ?_)
  clear hqv hK K
  generalize V2.alloc (.cells #[.int .u64 18446744073709551615, .slice none 0 0, .slice none 0 0, .bool false, .int .u64 0, .slice (some ⟨V0.heap.size, 0, none⟩) 2 2, .slice none 0 0, .bool false] 40) = V3 at *
  clear hy
  refine wpAnyH_take (i := 6) (v := .agg #[.int .u64 0, .slice none 0 0, .slice (some ⟨V2.heap.size, 0, none⟩) 2 2, .bool true]) rfl (by kernel_rfl) (by kernel_rfl) (by kernel_rfl) (fun _ _ _ h => h) (Or.inl ⟨by rfl, ?_⟩) hS ?_
  · intro w' hSw
    obtain ⟨s0, s1, s2⟩ := hSw
    go_simp
  simp only [Act.put, List.getElem_toArray, List.getElem_cons_succ, List.getElem_cons_zero, List.setIfInBounds_toArray, List.set_cons_zero, List.set_cons_succ]
  refine wpAnyH_ready (rs := [7]) (by kernel_rfl) (by decide) (AllReadyH.cons rfl (fun K hK => ?_) AllReadyH.nil)
  rw [if_pos (by kernel_rfl)]
  go_simp
  refine (of_any V3 awV _ (awJ_isV HA3.out HK3.out)).mono ?_
  rintro e V4 ⟨rfl, hy⟩
  have HX4 := Lib.hid (HX3.out.trans (hy.mono HX3.out.size))
  have HA4 := Lib.hid (blk_below HA3.out hy (blk_lt HA3.out))
  have HK4 := Lib.hid (blk_below HK3.out hy (blk_lt HK3.out))
  have hqv := blk_below HQ.out HX4.out (blk_lt HQ.out)
  refine hK.out _ _ ⟨(blk3 hqv).2.1, (blk3 hqv).2.2.1, (blk3 hqv).2.2.2.1⟩ (fun hS => ?_)
  clear hqv hK K
  clear hy
  refine wpAnyH_ready (rs := [8]) (by kernel_rfl) (by decide) (AllReadyH.cons rfl (fun K hK => ?_) AllReadyH.nil)
  rw [if_pos (by kernel_rfl)]
  go_simp
  refine (enough15_any V4).mono ?_
  rintro e V5 ⟨rfl, hm, hy⟩
  have HM5 := Lib.hid hm
  clear hm
  have HP5 : Hid (W0.heap.size ≤ V4.heap.size) := Lib.hid HX4.out.size
  have HX5 := Lib.hid (HX4.out.trans (hy.mono HX4.out.size))
  have HA5 := Lib.hid (blk_below HA4.out hy (blk_lt HA4.out))
  have HK5 := Lib.hid (blk_below HK4.out hy (blk_lt HK4.out))
  have hqv := blk_below HQ.out HX5.out (blk_lt HQ.out)
  refine hK.out _ _ ⟨(blk3 hqv).2.1, (blk3 hqv).2.2.1, (blk3 hqv).2.2.2.1⟩ (fun hS => ?_)
  clear hqv hK K
  clear hy
  refine wpAnyH_ready (rs := [9]) (by kernel_rfl) (by decide) (AllReadyH.cons rfl (fun K hK => ?_) AllReadyH.nil)
  rw [if_pos (by kernel_rfl)]
  go_simp
  refine (HWR.out V5 V4.heap.size V0.heap.size V2.heap.size HX5.out HA5.out HK5.out HM5.out HP5.out).mono ?_
  rintro e V6 ⟨g, rfl, ho, hy⟩
  have HO := Lib.hid ho
  have HE := Lib.hid (HB.out.trans (hy.mono HB.out.size))
  have HX6 := Lib.hid hy
  have hqv := blk_below HQ.out HX6.out (blk_lt HQ.out)
  refine hK.out _ _ ⟨(blk3 hqv).2.1, (blk3 hqv).2.2.1, (blk3 hqv).2.2.2.1⟩ (fun hS => ?_)
  clear hqv hK K
  clear hy ho
  refine wpAnyH_take (i := 10) (v := .tuple #[.slice (some ⟨g, 0, none⟩) 20 20, .int .i64 0]) rfl (by kernel_rfl) (by kernel_rfl) (by kernel_rfl) (fun _ _ _ h => h) (Or.inl ⟨by rfl, ?_⟩) hS ?_
  · intro w' hSw
    obtain ⟨s0, s1, s2⟩ := hSw
    go_simp
  simp only [Act.put, List.getElem_toArray, List.getElem_cons_succ, List.getElem_cons_zero, List.setIfInBounds_toArray, List.set_cons_zero, List.set_cons_succ]
  refine wpAnyH_take (i := 11) (v := .slice (some ⟨g, 0, none⟩) 20 20) rfl (by kernel_rfl) (by kernel_rfl) (by kernel_rfl) (fun _ _ _ h => h) (Or.inl ⟨by rfl, ?_⟩) hS ?_
  · intro w' hSw
    obtain ⟨s0, s1, s2⟩ := hSw
    go_simp
  simp only [Act.put, List.getElem_toArray, List.getElem_cons_succ, List.getElem_cons_zero, List.setIfInBounds_toArray, List.set_cons_zero, List.set_cons_succ]
  refine wpAnyH_take (i := 12) (v := .int .i64 0) rfl (by kernel_rfl) (by kernel_rfl) (by kernel_rfl) (fun _ _ _ h => h) (Or.inl ⟨by rfl, ?_⟩) hS ?_
  · intro w' hSw
    obtain ⟨s0, s1, s2⟩ := hSw
    go_simp
  simp only [Act.put, List.getElem_toArray, List.getElem_cons_succ, List.getElem_cons_zero, List.setIfInBounds_toArray, List.set_cons_zero, List.set_cons_succ]
  refine wpAnyH_take (i := 13) (v := .slice (some ⟨g, 0, none⟩) 20 20) rfl (by kernel_rfl) (by kernel_rfl) (by kernel_rfl) (fun _ _ _ h => h) (Or.inl ⟨by rfl, ?_⟩) hS ?_
  · intro w' hSw
    obtain ⟨s0, s1, s2⟩ := hSw
    go_simp
  simp only [Act.put, List.getElem_toArray, List.getElem_cons_succ, List.getElem_cons_zero, List.setIfInBounds_toArray, List.set_cons_zero, List.set_cons_succ]
  refine wpAnyH_take (i := 14) (v := .int .i64 0) rfl (by kernel_rfl) (by kernel_rfl) (by kernel_rfl) (fun _ _ _ h => h) (Or.inl ⟨by rfl, ?_⟩) hS ?_
  · intro w' hSw
    obtain ⟨s0, s1, s2⟩ := hSw
    go_simp
  simp only [Act.put, List.getElem_toArray, List.getElem_cons_succ, List.getElem_cons_zero, List.setIfInBounds_toArray, List.set_cons_zero, List.set_cons_succ]
  refine wpAnyH_done (by kernel_rfl) ?_ _
  refine NoPanic.normal ?_
  try simp only [Exit.then]
  have cv := HO.out.str (P := Tryz.prog) 22 9 Tryz.underlying22 Tryz.underlying5 Tryz.underlying9
  rw [show strOfNums awO = ⟨#[123, 34, 97, 34, 58, 34, 120, 92, 110, 34, 44, 34, 98, 34, 58, 34, 45, 49, 34, 125]⟩ from by kernel_rfl] at cv
  clear s0 s1 s2
  go_wp2
  go_ret
  exact ⟨rfl, HE.out⟩
end Go.Proofs.YtiknhkkeifemcaaGreatDoor
