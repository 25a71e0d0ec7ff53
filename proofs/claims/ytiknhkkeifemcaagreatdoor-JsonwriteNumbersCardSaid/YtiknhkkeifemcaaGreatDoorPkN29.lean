/-
  Kids of values none of whose parts is long. Conditions: those that each theorem names.
-/
import Derived.Test.YtiknhkkeifemcaaGreatDoorPkN5
import Derived.Test.YtiknhkkeifemcaaGreatDoorPkN19
import Derived.Test.YtiknhkkeifemcaaGreatDoorPkN21
import Derived.Test.YtiknhkkeifemcaaGreatDoorPkN27
namespace Go.Proofs.YtiknhkkeifemcaaGreatDoor
open Go.ChangeShapes Go.WideShapes Go.ChangeAt Go.RowKit Go.Shelf

theorem u16s_info : (Tryz.prog.info? 236).map (fun i => (i.zero, i.size, i.bytes)) = some (some (.slice none 0 0), 1, 24) := by kernel_rfl
theorem made_u16s (n : Nat) : madeCells (Value.slice none 0 0).cells (n * 1) = (List.replicate n (Value.slice none 0 0)).toArray := by
  apply Array.ext'
  apply List.ext_getElem?
  intro k
  simp only [madeCells, Array.toList_map, Array.toList_range, Nat.mul_one, List.getElem?_map, List.getElem?_replicate]
  by_cases hk : k < n
  · rw [List.getElem?_range hk, if_pos hk, Option.map_some]
    show some (#[Value.slice none 0 0][k % 1]!) = _
    rw [Nat.mod_one]
    rfl
  · rw [List.getElem?_eq_none (by simp; omega), if_neg hk]
    rfl
theorem make_u16s (n : Nat) (hn : n ≤ 1000000) (W : World) : (Instr.makeSlice 235 (.int .i64 (n : Int)) (.int .i64 (n : Int))).run Tryz.prog W = .ok (.slice (some ⟨W.heap.size, 0, none⟩) n n) (W.alloc (.cells (List.replicate n (Value.slice none 0 0)).toArray 236)) := by
  obtain ⟨i, hi, hz, hs, hb⟩ := info_parts u16s_info
  have h := run_make W 235 236 i (.slice none 0 0) Tryz.underlying235 hi hz .i64 .i64 n n (by omega) (Int.le_refl _) (by rw [hb]; omega) (by omega)
  rw [hs, Int.toNat_natCast, made_u16s] at h
  exact h
def plcL (n k : Nat) : List Nat := List.range k ++ List.replicate (n - k) 0
theorem plc_set (n k : Nat) (hk : k < n) : (plcL n k).set k k = plcL n (k + 1) := by
  unfold plcL
  rw [List.set_append_right _ _ (by simp), List.length_range, Nat.sub_self, show n - k = (n - (k + 1)) + 1 by omega, List.replicate_succ, List.set_cons_zero, List.range_succ, List.append_assoc]
  rfl
theorem plc_end (n : Nat) : plcL n n = List.range n := by unfold plcL; rw [Nat.sub_self]; simp
theorem i64_natC (n : Nat) : (i64Cells (List.replicate n 0)).toArray = (natC (plcL n 0)).toArray := by
  unfold plcL natC i64Cells
  congr 1
  rw [Nat.sub_zero, List.range_zero, List.nil_append]
  generalize n = m
  induction m with
  | zero => rfl
  | succ m ih => rw [List.replicate_succ, List.flatMap_cons, ih, List.replicate_succ, List.map_cons]; rfl
structure SoM (B : Nat) (w : World) (n k : Nat) (ns : List ByteArray) (vs : List Value) (W : World) : Prop where
  bel : Below B w W
  nam : NamU (B + 4) W (B + 1) (B + 2) n ns vs
  plc : RowN W (B + 3) (plcL n k)
  size : B + 4 ≤ W.heap.size
theorem SoM.later {B : Nat} {w W W' : World} {n k : Nat} {ns : List ByteArray} {vs : List Value} (h : SoM B w n k ns vs W) (hb : Below W.heap.size W W') : SoM B w n k ns vs W' := by
  have hs := h.size
  exact ⟨h.bel.trans (hb.mono (by omega)), h.nam.keep (hb.block _ (by omega)) (hb.block _ (by omega)) (fun x _ hx => hb.block x hx), (hb.block _ (by omega)).trans h.plc, Nat.le_trans hs hb.size⟩
theorem set_other (W : World) {b x : Nat} (i : Nat) (v : Value) (h : x ≠ b) : (W.setCell ⟨b, i, none⟩ v).heap[x]? = W.heap[x]? := Below.heap_setCell W ⟨b, i, none⟩ v x h
theorem SoM.name {B : Nat} {w W : World} {n : Nat} {ns : List ByteArray} {vs : List Value} (h : SoM B w n vs.length ns vs W) (hn : vs.length < n) {v : Value} (hv : W.ownsRow (B + 4) 240 1 v (namAt ns vs.length).length (u16s (namAt ns vs.length))) : SoM B w n vs.length ns (vs ++ [v]) (W.setCell ⟨B + 1, vs.length, none⟩ v) := by
  have hz : (W.setCell ⟨B + 1, vs.length, none⟩ v).heap.size = W.heap.size := by simp [World.setCell]
  refine ⟨h.bel.setCell (p := ⟨B + 1, _, none⟩) (Nat.le_succ _) _, ⟨?_, (set_other W _ v (by omega)).trans h.nam.box, fun i hi => ?_⟩, (set_other W _ v (by omega)).trans h.plc, by rw [hz]; exact h.size⟩
  · refine (blk_set h.nam.nam vs.length v).trans ?_
    rw [List.setIfInBounds_toArray, List.set_append_right _ _ (Nat.le_refl _), Nat.sub_self, show n - vs.length = (n - (vs ++ [v]).length) + 1 by rw [List.length_append, List.length_singleton]; omega, List.replicate_succ, List.set_cons_zero, List.append_assoc]
    rfl
  · rw [List.length_append, List.length_singleton] at hi
    by_cases hl : i < vs.length
    · rw [List.getElem_append_left hl]
      exact u16row_keep (h.nam.row i hl) (fun x hx _ => set_other W _ v (by omega))
    · obtain rfl : i = vs.length := by omega
      rw [List.getElem_append_right (Nat.le_refl _)]
      simp only [Nat.sub_self, List.getElem_cons_zero]
      exact u16row_keep hv (fun x hx _ => set_other W _ v (by omega))
theorem SoM.place {B : Nat} {w W : World} {n k : Nat} {ns : List ByteArray} {vs : List Value} (h : SoM B w n k ns vs W) (hk : k < n) : SoM B w n (k + 1) ns vs (W.setCell ⟨B + 3, k, none⟩ (.int .i64 (k : Int))) := by
  have hz : (W.setCell ⟨B + 3, k, none⟩ (.int .i64 (k : Int))).heap.size = W.heap.size := by simp [World.setCell]
  exact ⟨h.bel.setCell (p := ⟨B + 3, _, none⟩) (by show B ≤ B + 3; omega) _, h.nam.keep (set_other W _ _ (by omega)) (set_other W _ _ (by omega)) (fun x hx _ => set_other W _ _ (by omega)), by rw [← plc_set n k hk]; exact h.plc.set k k, by rw [hz]; exact h.size⟩
theorem NamU.next {L : Nat} {W : World} {g b n : Nat} {ns : List ByteArray} {vs : List Value} (h : NamU L W g b n ns vs) (hn : vs.length < n) : W.cell? ⟨g, vs.length, none⟩ = some (Value.slice none 0 0) := by
  rw [blk_cell h.nam, List.getElem?_toArray, List.getElem?_append_right (Nat.le_refl _), Nat.sub_self, List.getElem?_replicate, if_pos (by omega)]
theorem plc_len (n k : Nat) (h : k ≤ n) : (plcL n k).length = n := by unfold plcL; rw [List.length_append, List.length_range, List.length_replicate]; omega
theorem plc_next (n k : Nat) (h : k < n) : (plcL n k)[k]'(by rw [plc_len n k (by omega)]; exact h) = 0 := by
  have h1 : (plcL n k)[k]? = some 0 := by
    unfold plcL
    rw [List.getElem?_append_right (by simp), List.length_range, Nat.sub_self, List.getElem?_replicate, if_pos (by omega)]
  rw [List.getElem?_eq_getElem (by rw [plc_len n k (by omega)]; exact h)] at h1
  exact Option.some.inj h1
def SoAt (B : Nat) (w : World) (n : Nat) (ns : List ByteArray) (i : Value) (W : World) : Prop := ∃ vs : List Value, vs.length ≤ n ∧ i = .int .i64 (vs.length : Nat) ∧ SoM B w n vs.length ns vs W
def SorPost (ns : List ByteArray) (n : Nat) (w : World) (e : Ending) (w' : World) : Prop := ∃ g, e = .returned (.slice (some ⟨g, 0, none⟩) n n) ∧ w.heap.size ≤ g ∧ RowN w' g (ordN ns) ∧ Below w.heap.size w w'
set_option maxRecDepth 100000 in
set_option maxHeartbeats 8000000 in
theorem sorted_any (w : World) (nm : ByteArray) (fs : List CFld) (fv : Value) (base : Nat) (h : w.ownsRow base 60 5 fv fs.length (cfldsCells fs)) (hn : fs.length < 20) (hs : ∀ f ∈ fs, f.name.size ≤ 400000) (hu : ∀ i, (namAt (fs.map CFld.name) i).length ≤ 1000000) :
    Calls Tryz.prog 125 #[.agg #[.string nm, fv]] w (SorPost (fs.map CFld.name) fs.length w) := by
  obtain ⟨fa, fc, rfl⟩ := ownsRow_form h
  obtain ⟨ns, hns⟩ : ∃ ns, fs.map CFld.name = ns := ⟨_, rfl⟩
  have HNS := Lib.hid hns
  rw [hns] at hu ⊢
  have HU := Lib.hid hu
  have HSS := Lib.hid hs
  have hnl : ns.length = fs.length := by rw [← hns, List.length_map]
  have HNL := Lib.hid hnl
  have HROW := Lib.hid (fun (W : World) (hb : Below w.heap.size w W) => row_keep hb h)
  have hba := (Below.refl w.heap.size w).alloc (Nat.le_refl _) (.cells #[.string nm, .slice fa fs.length fc] 63)
  have HB := Lib.hid hba
  have HQ := Lib.hid (heap_alloc_new w (.cells #[.string nm, .slice fa fs.length fc] 63))
  have HSZ : Hid ((w.alloc (.cells #[.string nm, .slice fa fs.length fc] 63)).heap.size = w.heap.size + 1) := Lib.hid (World.size_alloc _ _)
  clear h hs hu hns hnl hba
  go_enter Tryz.func125, Tryz.ntmps125
  go_upto_region 1 with (fail)
  generalize w.alloc (.cells #[.string nm, .slice fa fs.length fc] 63) = W0 at *
  obtain ⟨_, r0, r1, _⟩ := blk2 HQ.out
  have hm1 := make_u16s fs.length (by omega)
  have hm2 := make_ints fs.length (by omega)
  go_upto_region 3 with (fail)
  have HM : Hid (SoM w.heap.size w fs.length 0 ns [] (((W0.alloc (.cells (Array.replicate fs.length (Value.slice none 0 0)) 236)).alloc (.cells #[.slice (some ⟨W0.heap.size, 0, none⟩) fs.length fs.length] 235)).alloc (.cells (i64Cells (List.replicate fs.length 0)).toArray 3))) := Lib.hid (by
    have s1 := HSZ.out
    have z1 := World.size_alloc W0 (.cells (Array.replicate fs.length (Value.slice none 0 0)) 236)
    have z2 := World.size_alloc (W0.alloc (.cells (Array.replicate fs.length (Value.slice none 0 0)) 236)) (.cells #[.slice (some ⟨W0.heap.size, 0, none⟩) fs.length fs.length] 235)
    have q1 := blk_alloc (blk_alloc (heap_alloc_new W0 (.cells (Array.replicate fs.length (Value.slice none 0 0)) 236)) (.cells #[.slice (some ⟨W0.heap.size, 0, none⟩) fs.length fs.length] 235)) (.cells (i64Cells (List.replicate fs.length 0)).toArray 3)
    have q2 := blk_alloc (heap_alloc_new (W0.alloc (.cells (Array.replicate fs.length (Value.slice none 0 0)) 236)) (.cells #[.slice (some ⟨W0.heap.size, 0, none⟩) fs.length fs.length] 235)) (.cells (i64Cells (List.replicate fs.length 0)).toArray 3)
    have q3 := heap_alloc_new ((W0.alloc (.cells (Array.replicate fs.length (Value.slice none 0 0)) 236)).alloc (.cells #[.slice (some ⟨W0.heap.size, 0, none⟩) fs.length fs.length] 235)) (.cells (i64Cells (List.replicate fs.length 0)).toArray 3)
    rw [z2, z1, s1] at q3
    rw [z1, s1] at q2
    rw [s1] at q1 ⊢
    refine ⟨((HB.out.alloc (by omega) _).alloc (by rw [World.size_alloc]; omega) _).alloc (by rw [World.size_alloc, World.size_alloc]; omega) _, ⟨?_, q2, fun i hi => absurd hi (Nat.not_lt_zero i)⟩, ?_, by rw [World.size_alloc, World.size_alloc, World.size_alloc]; omega⟩
    · refine q1.trans ?_
      simp
    · refine q3.trans ?_
      rw [i64_natC])
  have HQ1 : Hid ((((W0.alloc (.cells (Array.replicate fs.length (Value.slice none 0 0)) 236)).alloc (.cells #[.slice (some ⟨W0.heap.size, 0, none⟩) fs.length fs.length] 235)).alloc (.cells (i64Cells (List.replicate fs.length 0)).toArray 3)).heap[w.heap.size]? = some (.cells #[.string nm, .slice fa fs.length fc] 63 (0, 0))) := Lib.hid (blk_alloc (blk_alloc (blk_alloc HQ.out _) _) _)
  rw [HSZ.out] at HM HQ1 ⊢
  generalize hW1 : ((W0.alloc (.cells (Array.replicate fs.length (Value.slice none 0 0)) 236)).alloc (.cells #[.slice (some ⟨w.heap.size + 1, 0, none⟩) fs.length fs.length] 235)).alloc (.cells (i64Cells (List.replicate fs.length 0)).toArray 3) = W1 at *
  clear hW1 hm1 hm2 r0 r1 HQ HSZ HB
  obtain ⟨_, r0, r1, _⟩ := blk2 HQ1.out
  have hmf : ∀ (fn : Fn) (first cap : Array Value) (w : World), (Instr.makeFunc fn first cap).run Tryz.prog w = .ok (.func fn first cap) w := fun _ _ _ _ => rfl
  generalize hBv : w.heap.size = B at *
  go_wp2_with fail
  clear r0 r1 HQ1
  go_loopw [18] (fun i wr => SoAt B w fs.length ns i wr) (fun i _ => fs.length - (intOf i).toNat)
  case atStart => exact ⟨[], Nat.zero_le _, rfl, HM.out⟩
  case round =>
    obtain ⟨vs, hk, rfl, hm⟩ := hrel
    have HM2 := Lib.hid hm
    clear hm HM
    by_cases hkl : vs.length < fs.length
    · have hki : (vs.length : Int) < fs.length := by omega
      obtain ⟨g, cc, hv, hcc, hg, hcell⟩ := row_el cfldCells 5 (fun _ => rfl) (HROW.out wr HM2.out.bel) vs.length hkl
      obtain ⟨rfl, rfl⟩ := slice_inj hv
      have x0 : wr.cell? ⟨g, vs.length * 5, none⟩ = some (.string fs[vs.length].name) := hcell 0 (by omega)
      have x1 : wr.cell? ⟨g, vs.length * 5 + 1, none⟩ = some (.int .u8 (fs[vs.length].kind : Nat)) := hcell 1 (by omega)
      have x2 : wr.cell? ⟨g, vs.length * 5 + 2, none⟩ = some (.int .i64 fs[vs.length].ref) := hcell 2 (by omega)
      have x3 : wr.cell? ⟨g, vs.length * 5 + 3, none⟩ = some (.int .i64 fs[vs.length].lists) := hcell 3 (by omega)
      have x4 : wr.cell? ⟨g, vs.length * 5 + 4, none⟩ = some (.int .u64 (fs[vs.length].dflt : Nat)) := hcell 4 (by omega)
      have HSZ := Lib.hid (HSS.out _ (List.getElem_mem hkl))
      have HNA : Hid (unitsP fs[vs.length].name = namAt ns vs.length) := Lib.hid (by
        unfold namAt
        rw [← HNS.out, List.getD, List.getElem?_map, List.getElem?_eq_getElem hkl]
        rfl)
      clear hcell hv
      generalize fs[vs.length] = f at *
      obtain ⟨fn, fk, fr, fl, fd⟩ := f
      simp only at x0 x1 x2 x3 x4 HSZ HNA
      go_upto_region 6 with (fail)
      have hba : Below wr.heap.size wr (wr.alloc (.cells #[.string fn, .int .u8 fk, .int .i64 fr, .int .i64 fl, .int .u64 fd] 60)) := (Below.refl _ _).alloc (Nat.le_refl _) _
      have hq := heap_alloc_new wr (.cells #[.string fn, .int .u8 fk, .int .i64 fr, .int .i64 fl, .int .u64 fd] 60)
      have HM3 := Lib.hid (HM2.out.later hba)
      have hBw : B + 4 ≤ wr.heap.size := HM2.out.size
      clear x0 x1 x2 x3 x4 hba HM2
      generalize wr.alloc (.cells #[.string fn, .int .u8 fk, .int .i64 fr, .int .i64 fl, .int .u64 fd] 60) = W3 at *
      have HQ3 := Lib.hid hq
      have y0 : W3.cell? ⟨wr.heap.size, 0, none⟩ = some (.string fn) := (blk_cell hq 0).trans rfl
      have b0 : W3.cell? ⟨B + 2, 0, none⟩ = some (.slice (some ⟨B + 1, 0, none⟩) fs.length fs.length) := (blk_cell HM3.out.nam.box 0).trans rfl
      have hW3 : B + 4 ≤ W3.drew.heap.size := HM3.out.size
      have HU3 := Lib.hid (lunits_any fn W3.drew (by have := HSZ.out; omega))
      have HMD : Hid (SoM B w fs.length vs.length ns vs W3.drew) := Lib.hid (HM3.out.later (Below.refl _ _).drew)
      clear hq
      have hv0 : (0 : Int) ≤ (vs.length : Nat) := Int.natCast_nonneg _
      go_region_law (go_simp; go_at_call 152; (with_reducible refine HU3.out.mono ?_); rintro e W4 ⟨v, rfl, ho, hb4⟩; have ho2 := ownsRow_base ho (base' := B + 4) hW3; obtain ⟨va, vc, rfl⟩ := ownsRow_form ho; have HM4 := Lib.hid (HMD.out.later hb4); have HN4 := Lib.hid (HM4.out.name hkl (v := .slice va _ vc) (by rw [← HNA.out]; exact ho2)); have b4 : W4.cell? ⟨B + 2, 0, none⟩ = some (.slice (some ⟨B + 1, 0, none⟩) fs.length fs.length) := (blk_cell HM4.out.nam.box 0).trans rfl; have n4 : W4.cell? ⟨B + 1, vs.length, none⟩ = some (Value.slice none 0 0) := HM4.out.nam.next hkl; have f4 := blk_frozen HM4.out.nam.nam vs.length; clear ho ho2 hb4 y0 b0)
      all_goals
        generalize W4.setCell ⟨B + 1, vs.length, none⟩ (.slice va (unitsP fn).length vc) = W5 at *
        have HPL := Lib.hid (HN4.out.place hkl)
        obtain ⟨p5, g5⟩ := HN4.out.plc.at vs.length (by rw [plc_len _ _ (by omega)]; exact hkl)
        rw [plc_next _ _ hkl] at p5
        clear b4 n4 f4 HN4 HM4 HMD HM3 HQ3 HU3 HSZ HNA
        simp only [Exit.then]
        go_wp2
        go_roundw
        case rel => exact ⟨vs ++ [.slice va (unitsP fn).length vc], by rw [List.length_append]; exact hkl, by rw [List.length_append, List.length_singleton]; go_num, by rw [List.length_append, List.length_singleton]; exact HPL.out⟩
        case measure => simp [intOf]; omega
    · have hkn : vs.length = fs.length := by omega
      have hki : ¬ (vs.length : Int) < fs.length := by omega
      have HN := Lib.hid HM2.out.nam
      have HRW : Hid (RowN wr (B + 3) (List.range fs.length)) := Lib.hid (by have h := HM2.out.plc; rw [hkn, plc_end] at h; exact h)
      have HCQ : Hid (CmpQ (B + 3) fs.length wr 154 #[.pointer (some ⟨B + 2, 0, none⟩)] (fun a b => cmpU (namAt ns a) (namAt ns b))) := Lib.hid ⟨enters_of Tryz.func154 (by kernel_rfl) rfl, fun W a b ha hb hx => sorted_cmp (HN.out.keep (hx.block _ (blk_lt HN.out.nam) (by omega)) (hx.block _ (blk_lt HN.out.box) (by omega)) (fun x hx1 hx2 => hx.block x hx2 (by omega))) hkn HU.out a b ha hb⟩
      have HST := Lib.hid (stable_any (cap := fs.length) (lt := ltN ns) (fun a b => by show uLt _ _ = _; rw [← cmpU_lt]) (ltN_ord ns) HRW.out HCQ.out hn)
      have HBL := Lib.hid HM2.out.bel
      have HB3 : Hid (B + 3 < wr.heap.size) := Lib.hid (by have := HM2.out.size; omega)
      clear HM2 HCQ HRW HN
      go_wp2_with fail
      refine HST.out.mono ?_
      rintro e W6 ⟨rfl, h1, h2⟩
      have H1 := Lib.hid h1
      have H2 : Hid (Below B w W6) := Lib.hid (HBL.out.trans ⟨h2.os, h2.tape, h2.output, h2.size, fun x hx => h2.block x (by have := HB3.out; omega) (by omega)⟩)
      clear h1 h2
      go_wp2
      go_ret
      exact ⟨B + 3, rfl, by rw [hBv]; omega, by unfold ordN; rw [HNL.out]; exact H1.out, by rw [hBv]; exact H2.out⟩
end Go.Proofs.YtiknhkkeifemcaaGreatDoor
namespace Go.Proofs.YtiknhkkeifemcaaGreatDoor
open Go.ChangeShapes Go.WideShapes Go.ChangeAt Go.RowKit Go.Shelf

theorem SmallV.kids {x : PV} (h : SmallV x) : x.bytes.length ≤ 100 ∧ x.kids.length ≤ 100 ∧ ∀ q ∈ x.kids, SmallV q := by
  cases h with
  | mk n bs ks h hb hk hs => exact ⟨hb, hk, hs⟩
theorem SmallV.kid {x : PV} (h : SmallV x) (i : Int) : SmallV (kidP x i) := by
  by_cases h0 : 0 ≤ i ∧ i < (x.kids.length : Int)
  · obtain ⟨j, rfl⟩ := Int.eq_ofNat_of_zero_le h0.1
    rw [kidP_at x j (by omega)]
    exact h.kids.2.2 _ (List.getElem_mem _)
  · rw [kidP_no x i h0]
    exact smallV_nil
end Go.Proofs.YtiknhkkeifemcaaGreatDoor
