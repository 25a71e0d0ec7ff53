/-
  The document's IsDefault: of a field and a value in memory. Conditions: those that each theorem names.
-/
import Derived.Test.YtjeoekggdohhiaaDoorPkB19
import Derived.Test.YtjeoekggdohhiaaDoorPkB20
namespace Go.Proofs.YtjeoekggdohhiaaDoor
open Go.ChangeShapes Go.WideShapes Go.ChangeAt Go.RowKit Go.Shelf

set_option maxRecDepth 100000 in
set_option maxHeartbeats 8000000 in
theorem isdef_any (w : World) (name : ByteArray) (k : Nat) (ref lists : Int) (d : Nat) (hd : d ≤ 18446744073709551615) (v : PV) (val : Value) (hv : IsV w v val) :
    Calls Tryd.prog 21 #[.agg #[.string name, .int .u8 k, .int .i64 ref, .int .i64 lists, .int .u64 d], val] w fun e w' => SamePost v (numV d) e ∧ Below w.heap.size w w' := by
  have HV := Lib.hid hv
  obtain ⟨n, bs, ks, hh⟩ := v
  obtain ⟨ba, ka, bc, kc, rfl, hn, hby, hbl, hbm, hkl, hkm, hks⟩ := hv.form
  simp only [PV.num, PV.bytes, PV.kids, PV.has] at HV hn hby hbl hbm hkl hkm hks ⊢
  obtain ⟨hb, hq1, hq2⟩ := two_start w #[.string name, .int .u8 k, .int .i64 ref, .int .i64 lists, .int .u64 d] #[.int .u64 n, .slice ba bs.length bc, .slice ka ks.length kc, .bool hh] 57 36
  have HB := Lib.hid hb
  have HV1 := Lib.hid (HV.out.later hb)
  have HD := Lib.hid hd
  obtain ⟨_, y0, y1, y2, y3, y4, _⟩ := blk5 hq1
  obtain ⟨_, z0, z1, z2, z3⟩ := blk4p hq2
  clear hb hq1 hq2 hv HV hby hks hn hbl hbm hkl hkm hd
  go_enter Tryd.func21, Tryd.ntmps21
  go_upto_region 1 with (fail)
  generalize (w.alloc (.cells #[.string name, .int .u8 k, .int .i64 ref, .int .i64 lists, .int .u64 d] 57)).alloc (.cells #[.int .u64 n, .slice ba bs.length bc, .slice ka ks.length kc, .bool hh] 36) = W0 at *
  generalize w.heap.size + 1 = V at *
  refine wp_region_noPanic ?_
  refine wp_region_held_drew (S := (fun w' => w'.cell? ⟨w.heap.size, 0, none⟩ = some (.string name) ∧ w'.cell? ⟨w.heap.size, 1, none⟩ = some (.int .u8 k) ∧ w'.cell? ⟨w.heap.size, 2, none⟩ = some (.int .i64 ref) ∧ w'.cell? ⟨w.heap.size, 3, none⟩ = some (.int .i64 lists) ∧ w'.cell? ⟨w.heap.size, 4, none⟩ = some (.int .u64 d) ∧ w'.cell? ⟨V, 0, none⟩ = some (.int .u64 n) ∧ w'.cell? ⟨V, 1, none⟩ = some (.slice ba bs.length bc) ∧ w'.cell? ⟨V, 2, none⟩ = some (.slice ka ks.length kc) ∧ w'.cell? ⟨V, 3, none⟩ = some (.bool hh))) (by kernel_rfl) ⟨y0, y1, y2, y3, y4, z0, z1, z2, z3⟩ ?_
  intro hS
  refine wpAnyH_take (i := 0) (v := .agg #[.int .u64 n, .slice ba bs.length bc, .slice ka ks.length kc, .bool hh]) rfl (by kernel_rfl) (by kernel_rfl) (by kernel_rfl) (fun _ _ _ h => h) (Or.inl ⟨by rfl, ?_⟩) hS ?_
  · intro w' hSw
    obtain ⟨y0, y1, y2, y3, y4, z0, z1, z2, z3⟩ := hSw
    go_simp
  simp only [Act.put, List.getElem_toArray, List.getElem_cons_zero, List.setIfInBounds_toArray, List.set_cons_zero, List.set_cons_succ]
  refine wpAnyH_take (i := 1) (v := .agg #[.string name, .int .u8 k, .int .i64 ref, .int .i64 lists, .int .u64 d]) rfl (by kernel_rfl) (by kernel_rfl) (by kernel_rfl) (fun _ _ _ h => h) (Or.inl ⟨by rfl, ?_⟩) hS ?_
  · intro w' hSw
    obtain ⟨y0, y1, y2, y3, y4, z0, z1, z2, z3⟩ := hSw
    go_simp
  simp only [Act.put, List.getElem_toArray, List.getElem_cons_succ, List.getElem_cons_zero, List.setIfInBounds_toArray, List.set_cons_zero, List.set_cons_succ]
  refine wpAnyH_ready (rs := [2]) (by kernel_rfl) (by decide) (AllReadyH.cons rfl (fun K hK => ?_) AllReadyH.nil)
  rw [if_pos (by kernel_rfl)]
  go_simp
  refine (nothing_any W0.drew name k ref lists d).mono ?_
  rintro e W2 ⟨rfl, hb2⟩
  have hx2 : Below W0.heap.size W0 W2 := (Below.refl _ W0).drew.trans hb2
  have HB2 := Lib.hid (HB.out.trans (hx2.mono HB.out.size))
  have HV2 := Lib.hid (HV1.out.later hx2)
  have ay0 := cell_stays hx2 y0
  have ay1 := cell_stays hx2 y1
  have ay2 := cell_stays hx2 y2
  have ay3 := cell_stays hx2 y3
  have ay4 := cell_stays hx2 y4
  have az0 := cell_stays hx2 z0
  have az1 := cell_stays hx2 z1
  have az2 := cell_stays hx2 z2
  have az3 := cell_stays hx2 z3
  refine hK.out _ _ ⟨ay0, ay1, ay2, ay3, ay4, az0, az1, az2, az3⟩ (fun hS => ?_)
  clear hx2 hb2 hK y0 y1 y2 y3 y4 z0 z1 z2 z3
  refine wpAnyH_ready (rs := [3]) (by kernel_rfl) (by decide) (AllReadyH.cons rfl (fun K hK => ?_) AllReadyH.nil)
  rw [if_pos (by kernel_rfl)]
  go_simp
  refine (same_any _ W2 (numV d) _ _ HV2.out (isV_num W2 d HD.out)).mono ?_
  rintro e W3 ⟨⟨r, rfl, hiff⟩, hb3⟩
  have HB3 := Lib.hid (HB2.out.trans (hb3.mono HB2.out.size))
  have by0 := cell_stays hb3 ay0
  have by1 := cell_stays hb3 ay1
  have by2 := cell_stays hb3 ay2
  have by3 := cell_stays hb3 ay3
  have by4 := cell_stays hb3 ay4
  have bz0 := cell_stays hb3 az0
  have bz1 := cell_stays hb3 az1
  have bz2 := cell_stays hb3 az2
  have bz3 := cell_stays hb3 az3
  refine hK.out _ _ ⟨by0, by1, by2, by3, by4, bz0, bz1, bz2, bz3⟩ (fun hS => ?_)
  refine wpAnyH_take (i := 4) (v := .bool r) rfl (by kernel_rfl) (by kernel_rfl) (by kernel_rfl) (fun _ _ _ h => h) (Or.inl ⟨by rfl, ?_⟩) hS ?_
  · intro w' hSw
    obtain ⟨y0, y1, y2, y3, y4, z0, z1, z2, z3⟩ := hSw
    go_simp
  simp only [Act.put, List.getElem_toArray, List.getElem_cons_succ, List.getElem_cons_zero, List.setIfInBounds_toArray, List.set_cons_zero, List.set_cons_succ]
  refine wpAnyH_done (by kernel_rfl) ?_ _
  refine NoPanic.normal ?_
  simp only [Exit.then]
  go_wp2
  go_ret
  exact ⟨⟨r, rfl, hiff⟩, HB3.out⟩
end Go.Proofs.YtjeoekggdohhiaaDoor
