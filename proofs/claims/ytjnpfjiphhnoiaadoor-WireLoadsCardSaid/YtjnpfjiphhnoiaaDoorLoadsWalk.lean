/-
  The law WireLoads returns true at all bytes, places, sizes and numbers: a walk over the callees' contracts. Condition: the library's tables hold what the row lists.
-/
import Derived.Test.YtjnpfjiphhnoiaaDoorAwake
import Derived.Test.YtjnpfjiphhnoiaaDoorCopy
import Derived.Test.YtjnpfjiphhnoiaaDoorPart
import Derived.Deep.RegionHeld3
namespace Go.Proofs.YtjnpfjiphhnoiaaDoor
open Go.ChangeShapes Go.WideShapes Go.ChangeAt Go.RowKit
theorem laid_src {w : World} {base : Nat} {e : TypeId} {g n cap : Nat} {zs : List Int} (h : OwnR w base e g n cap zs) : ∀ j v, (u8s zs)[j]? = some v → w.cell? ((⟨g, 0, none⟩ : Addr).add j) = some v := by
  intro j v hv
  obtain ⟨hl, _, _, _, _, hc, _⟩ := h.facts
  have hj : j < zs.length := by
    have := (List.getElem?_eq_some_iff.1 hv).1
    simpa [u8s] using this
  rw [Go.WideShapes.add_plain, Nat.zero_add, hc j hj]
  simpa [u8s, List.getD, hj] using hv
theorem u8s_one (zs : List Int) : ∀ v ∈ u8s zs, v.oneCell' = true := by
  intro v hv
  obtain ⟨z, _, rfl⟩ := List.mem_map.1 hv
  rfl
theorem u8_size : (Tryd.prog.info? 5).map (·.size) = some 1 := by kernel_rfl
theorem laid_len (s : Nat) (n : Int) : (u8s (laidOver (zeros s) 0 n s)).length = s := by simp [u8s, laidOver_length, zeros]
/-- The document's bytes of a number copied into a row of the call's own. -/
theorem copy_laid {w w4 : World} {base B g2 len c2 gP a s ty : Nat} {bs : List Int} {n : Int} (h : OwnR w base 5 g2 len c2 bs) (hb : Below w.heap.size w w4) (hP : OwnR w4 B 5 gP s s (laidOver (zeros s) 0 n s)) (hfit : a + s ≤ len) :
    ∃ w5, (Builtin.copy_ #[29, 29] ty #[.slice (some ⟨g2, a, none⟩) (len - a) (c2 - a), .slice (some ⟨gP, 0, none⟩) s s]).run Tryd.prog w4 = .ok (goInt s) w5 ∧ OwnR w5 base 5 g2 len c2 (laidOver bs a n s) ∧ Below base w4 w5 ∧ Below g2 w4 w5 := by
  obtain ⟨cur, hg, hbg, hn, hm, hc, ht, hl⟩ := h.opened
  have hlt : g2 < w.heap.size := h.facts.2.2.1
  have hg4 : w4.heap[g2]? = some (.cells cur.toArray 5 (0, 0)) := (hb.block g2 hlt).trans hg
  have hcs : (u8s (laidOver (zeros s) 0 n s)).length = s := laid_len s n
  have hrun := run_copy_row (P := Tryd.prog) w4 29 29 ty 5 g2 a (len - a) (c2 - a) ⟨gP, 0, none⟩ s s cur.toArray 5 (u8s (laidOver (zeros s) 0 n s)) Tryd.underlying29 u8_size hg4 (by rw [hcs]; exact (Nat.min_eq_left (by omega)).symm) (laid_src hP) (by rw [hcs]; simp; omega) (u8s_one _)
  rw [hcs] at hrun
  refine ⟨_, hrun, ?_, below_setRow (Below.refl _ _) hbg _, below_setRow (Below.refl _ _) (Nat.le_refl _) _⟩
  have := ownR_of_splice (w' := w4.setRow g2 (splice cur a (u8s (laidOver (zeros s) 0 n s))).toArray) (base := base) (e := 5) (g := g2) (n := len) (cap := c2) (zs := bs) (news := laidOver (zeros s) 0 n s) (cur := cur) (a := a) hbg hn hm hc ht hl (by rw [laidOver_length]; simp [zeros]; omega) (setRow_heap w4 g2 _ _ 5 _ hg4)
  rw [splice_laid bs a s n (by omega)] at this
  simpa [splice, hcs] using this
theorem loads_same (zs : List Int) (len a s : Nat) (h : a + s ≤ len) : leNum (fun j => zs.getD (a + j) 0) s = leAt (zs.take len) a s := by
  unfold leAt
  apply leNum_congr
  intro j hj
  have h1 : a + j < len := by omega
  simp [List.getD, h1]
set_option maxRecDepth 100000 in
set_option maxHeartbeats 2000000 in
theorem loads_in (a0 : Option Addr) (len cap : Nat) (zs : List Int) (a s : Nat) (n : Int) (w : World) (hz : IsRow .u8 w a0 len cap zs) (hbig : (len : Int) ≤ 1000) (hs : (s : Int) = 1 ∨ (s : Int) = 2 ∨ (s : Int) = 4 ∨ (s : Int) = 8) (hfit : a + s ≤ len) (hT : Tabs w) :
    Calls Tryd.prog 4 #[.slice a0 len cap, .int .i64 a, .int .i64 s, .int .u64 n] w fun e w' => e = .returned (.bool true) ∧ Below w.heap.size w w' := by
  have HA := Lib.hid (awake_any w hT)
  have HZ := Lib.hid hz
  have hs1 : (1 : Int) ≤ (s : Int) := by omega
  have hs8 : (s : Int) ≤ 8 := by omega
  obtain ⟨hl, hm, hzl, hwf, hp⟩ := hz
  obtain ⟨b0, off, rfl, hb0, hc0⟩ := hp (by rintro rfl; simp at hzl; omega)
  unfold maxLen at hm
  have HW := Lib.hid (bytes_wf hwf)
  have HL := Lib.hid (show (zs.take len).length = len by simp; omega)
  have HC := Lib.hid hc0
  have hzs : len ≤ zs.length := by omega
  clear hT hwf hp hc0 hzl
  obtain ⟨i0, hi0, hz0, hz1, hz2⟩ := info_parts u8_info
  have I1 := Lib.hid hi0
  have I2 := Lib.hid hz0
  have I3 := Lib.hid hz1
  have I4 := Lib.hid hz2
  clear hi0 hz0 hz1 hz2
  have e1 : IntKind.i64.wrap ((a : Int) + (s : Int)) = (a : Int) + (s : Int) := IntWalk.i64_in _ (by omega)
  have e2 : ((a : Int) + (s : Int)).toNat = a + s := by omega
  go_enter Tryd.func4, Tryd.ntmps4
  go_wp2_with fail
  refine HA.out.mono ?_
  rintro e w1 ⟨rfl, hb⟩
  have HB := Lib.hid hb
  clear hb
  go_wp2_with fail
  refine (rsized_yes _ _ hs).mono ?_
  rintro e w2 ⟨rfl, rfl⟩
  go_wp2_with fail
  refine (rwithin_yes _ _ _ _ (by omega) (by omega) (by omega) (by omega)).mono ?_
  rintro e w2 ⟨rfl, rfl⟩
  go_wp2_with (at_builtin; refine wpList_app_u8 rfl (.tmp 29) (.tmp 30) 29 29 rfl w1.heap.size 5 i0 (.int .u8 0) Tryd.underlying29 I1.out I2.out I3.out I4.out rfl w1.heap.size 0 0 [] rfl (World.ownsRow_made w1 #[] 0 (Nat.le_refl _) (Nat.zero_le _) rfl) _ len (zs.take len) rfl ((HZ.out.src (HB.out.alloc HB.out.size _)).toSrc Tryd.underlying29) (by omega) (by simp) ?_; intro g2 c2 w2 hown2 hb2)
  rw [Nat.zero_add, List.nil_append] at hown2
  have HN := Lib.hid hown2
  have HB2 := Lib.hid (HB.out.trans ((((Below.refl _ w1).alloc (Nat.le_refl _) _).trans hb2).mono HB.out.size))
  clear hown2 hb2
  refine (rnum_any b0 (off + a) s _ w2 (fun j => zs.getD (a + j) 0) (by omega) (fun i hi => by
    rw [HB2.out.cell (p := ⟨b0, off + a + i, none⟩) hb0, Nat.add_assoc, HC.out (a + i) (by omega)]) (fun i _ => HW.out _)).mono ?_
  rintro e w3 ⟨rfl, rfl⟩
  rw [loads_same zs len a s hfit]
  have hcn : len ≤ c2 := HN.out.facts.2.2.2.1
  have hcn1 : ¬ c2 = a := by omega
  go_wp2_with fail
  have HP := Lib.hid (rput_any w2.heap.size n s)
  have hcell0 : w2.cell? ⟨b0, off + a, none⟩ = some (.int .u8 (zs.getD a 0)) := (HB2.out.cell (p := ⟨b0, off + a, none⟩) hb0).trans (HC.out a (by omega))
  have hb02 : b0 < w2.heap.size := Nat.lt_of_lt_of_le hb0 HB2.out.size
  have hbg2 : b0 < g2 := Nat.lt_of_lt_of_le (Nat.lt_of_lt_of_le hb0 HB.out.size) HN.out.facts.2.1
  have i1 : (0 : Int) ≤ (a : Int) := by omega
  have i2 : (a : Int) ≤ (len : Int) := by omega
  go_region_held3 (fun w' => w'.cell? ⟨b0, off + a, none⟩ = some (.int .u8 (zs.getD a 0))) (first | assumption | go_keep)
    (first | (go_at_call 18; refine (HP.out _ (by simp) (by omega)).mono ?_; rintro e w4 ⟨gP, rfl, hownP, hbP⟩; have hk4 : w4.cell? ⟨b0, off + a, none⟩ = some (.int .u8 (zs.getD a 0)) := (hbP.cell (p := ⟨b0, off + a, none⟩) (by simpa using hb02)).trans (by simpa using hcell0); obtain ⟨w5, hrun, hN5, hb5, hb5g⟩ := copy_laid (ty := 3) (a := a) HN.out ((Below.refl _ w2).drew.trans hbP) hownP hfit; have hk5 : w5.cell? ⟨b0, off + a, none⟩ = some (.int .u8 (zs.getD a 0)) := (hb5g.cell (p := ⟨b0, off + a, none⟩) hbg2).trans hk4))
  have HN5 := Lib.hid hN5
  have HB5 := Lib.hid (HB2.out.trans ((((Below.refl _ w2).drew.trans hbP).mono HB2.out.size).trans (hb5.mono HB.out.size)))
  clear hk5 hk4 hb5g hb5 hrun hbP hownP HP hcell0
  go_wp2_with (at_builtin; refine wpList_app_u8 rfl (.tmp 47) (.tmp 48) 29 29 rfl w5.heap.size 5 i0 (.int .u8 0) Tryd.underlying29 I1.out I2.out I3.out I4.out rfl w5.heap.size 0 0 [] rfl (World.ownsRow_made w5 #[] 0 (Nat.le_refl _) (Nat.zero_le _) rfl) _ len (zs.take len) rfl ((HZ.out.src (HB5.out.alloc HB5.out.size _)).toSrc Tryd.underlying29) (by omega) (by simp) ?_; intro g3 c3 w6 hown6 hb6)
  rw [Nat.zero_add, List.nil_append] at hown6
  have HC6 := Lib.hid hown6
  have hbb6 := (((Below.refl w5.heap.size w5).alloc (Nat.le_refl _) (.cells #[] 5)).trans hb6)
  have HB6 := Lib.hid (HB5.out.trans (hbb6.mono HB5.out.size))
  have HN6 := Lib.hid (HN5.out.below hbb6 HN5.out.facts.2.2.1)
  clear hown6 hb6 hbb6
  obtain ⟨_, hg36, _, hcc, _, _, _⟩ := HC6.out.facts
  have hg25 := HN5.out.facts.2.2.1
  have HX := Lib.hid (bytes_wf (take_wf (m := len) (HZ.out.2.2.2.1)))
  refine (load_yes g3 0 len c3 a s w6 (zs.take len) (by omega) (by rw [HL.out]; exact Nat.le_refl _) (fun i hi => by rw [Nat.zero_add]; exact HC6.out.facts.2.2.2.2.2.1 i hi) HX.out (by omega) (by omega) (by omega) hs).mono ?_
  rintro e w7 ⟨rfl, rfl⟩
  rw [Int.toNat_natCast, Int.toNat_natCast]
  have s1 := HC6.out.str (P := Tryd.prog) 29 9 Tryd.underlying29 Tryd.underlying5 Tryd.underlying9
  have s2 := HZ.out.str (P := Tryd.prog) HB6.out 29 9 Tryd.underlying29 Tryd.underlying5 Tryd.underlying9
  generalize strOfNums (zs.take len) = S at s1 s2
  go_wp2_with fail
  refine (sized_yes _ _ hs).mono ?_
  rintro e w7 ⟨rfl, rfl⟩
  go_wp2_with fail
  refine (rsized_yes _ _ hs).mono ?_
  rintro e w7 ⟨rfl, rfl⟩
  go_wp2_with fail
  refine (within_yes _ _ _ _ _ _ (by omega) (by omega) (by omega) (by omega) (by omega)).mono ?_
  rintro e w7 ⟨rfl, rfl⟩
  go_wp2_with fail
  refine (rwithin_yes _ _ _ _ (by omega) (by omega) (by omega) (by omega)).mono ?_
  rintro e w7 ⟨rfl, rfl⟩
  go_wp2_with fail
  clear s1 s2
  refine (store_yes w5.heap.size g3 len c3 a s n _ (zs.take len) HC6.out (by omega) (by omega) (by omega) (by omega) hs).mono ?_
  rintro e w7 ⟨rfl, hown7, hgr7⟩
  rw [Int.toNat_natCast, Int.toNat_natCast] at hown7
  have s1 := hown7.str (P := Tryd.prog) 29 9 Tryd.underlying29 Tryd.underlying5 Tryd.underlying9
  have s2 := (HN6.out.grown hgr7 (by intro h; injection h; omega)).str (P := Tryd.prog) 29 9 Tryd.underlying29 Tryd.underlying5 Tryd.underlying9
  generalize strOfNums (laidOver (zs.take len) a n s) = S2 at s1 s2
  have HB7 := Lib.hid (HB6.out.grown hgr7 HB6.out.size (fun k hk => by injection hk with hk; subst hk; exact Nat.le_trans HB5.out.size hg36))
  clear hown7 hgr7
  go_wp2
  go_ret
  exact ⟨rfl, HB7.out⟩
set_option maxRecDepth 100000 in
set_option maxHeartbeats 2000000 in
theorem loads_far (a0 : Option Addr) (len cap : Nat) (zs : List Int) (a s n : Int) (w : World) (hz : IsRow .u8 w a0 len cap zs) (hbig : (len : Int) ≤ 1000) (hs : s = 1 ∨ s = 2 ∨ s = 4 ∨ s = 8) (hw : a < 0 ∨ s < 0 ∨ (len : Int) < a ∨ len - a < s) (hT : Tabs w) :
    Calls Tryd.prog 4 #[.slice a0 len cap, .int .i64 a, .int .i64 s, .int .u64 n] w fun e w' => e = .returned (.bool true) ∧ Below w.heap.size w w' := by
  have HA := Lib.hid (awake_any w hT)
  have HZ := Lib.hid hz
  obtain ⟨hl, hm, _, _, _⟩ := hz
  unfold maxLen at hm
  clear hT
  obtain ⟨i0, hi0, hz0, hz1, hz2⟩ := info_parts u8_info
  have I1 := Lib.hid hi0
  have I2 := Lib.hid hz0
  have I3 := Lib.hid hz1
  have I4 := Lib.hid hz2
  clear hi0 hz0 hz1 hz2
  go_enter Tryd.func4, Tryd.ntmps4
  go_wp2_with fail
  refine HA.out.mono ?_
  rintro e w1 ⟨rfl, hb⟩
  have HB := Lib.hid hb
  clear hb
  go_wp2_with fail
  refine (rsized_yes _ _ hs).mono ?_
  rintro e w2 ⟨rfl, rfl⟩
  go_wp2_with fail
  refine (rwithin_no _ _ _ _ (by omega) (by omega) hw).mono ?_
  rintro e w2 ⟨rfl, rfl⟩
  go_wp2_with (first | (at_builtin; refine wpList_app_u8 rfl (.tmp 29) (.tmp 30) 29 29 rfl w1.heap.size 5 i0 (.int .u8 0) Tryd.underlying29 I1.out I2.out I3.out I4.out rfl w1.heap.size 0 0 [] rfl (World.ownsRow_made w1 #[] 0 (Nat.le_refl _) (Nat.zero_le _) rfl) _ len (zs.take len) rfl ((HZ.out.src (HB.out.alloc HB.out.size _)).toSrc Tryd.underlying29) (by omega) (by simp) ?_; intro g2 c2 w2 hown2 hb2; have HN := Lib.hid hown2; have HBq := Lib.hid hb2; have HB2 := Lib.hid (HB.out.trans ((((Below.refl _ w1).alloc (Nat.le_refl _) _).trans hb2).mono HB.out.size)); clear hown2 hb2) | (at_builtin; refine wpList_app_u8 rfl (.tmp 47) (.tmp 48) 29 29 rfl w2.heap.size 5 i0 (.int .u8 0) Tryd.underlying29 I1.out I2.out I3.out I4.out rfl w2.heap.size 0 0 [] rfl (World.ownsRow_made w2 #[] 0 (Nat.le_refl _) (Nat.zero_le _) rfl) _ len (zs.take len) rfl ((HZ.out.src (HB2.out.alloc HB2.out.size _)).toSrc Tryd.underlying29) (by omega) (by simp) ?_; intro g3 c3 w6 hown6 hb6))
  have hn0 := HN.out
  rw [Nat.zero_add, List.nil_append] at hn0 hown6
  have HC6 := Lib.hid hown6
  have hbb6 := (((Below.refl w2.heap.size w2).alloc (Nat.le_refl _) (.cells #[] 5)).trans hb6)
  have HB6 := Lib.hid (HB2.out.trans (hbb6.mono HB2.out.size))
  have HN6 := Lib.hid (hn0.below hbb6 hn0.facts.2.2.1)
  clear hown6 hb6 hbb6 hn0
  refine (load_no _ _ _ _ _ w6 (by omega) (Or.inr (by omega))).mono ?_
  rintro e w7 ⟨rfl, rfl⟩
  have s1 := HC6.out.str (P := Tryd.prog) 29 9 Tryd.underlying29 Tryd.underlying5 Tryd.underlying9
  have s2 := HZ.out.str (P := Tryd.prog) HB6.out 29 9 Tryd.underlying29 Tryd.underlying5 Tryd.underlying9
  have s3 := HN6.out.str (P := Tryd.prog) 29 9 Tryd.underlying29 Tryd.underlying5 Tryd.underlying9
  generalize strOfNums (zs.take len) = S at s1 s2 s3
  go_wp2_with fail
  refine (sized_yes _ _ hs).mono ?_
  rintro e w7 ⟨rfl, rfl⟩
  go_wp2_with fail
  refine (rsized_yes _ _ hs).mono ?_
  rintro e w7 ⟨rfl, rfl⟩
  go_wp2_with fail
  refine (within_no _ _ _ _ _ _ (by omega) hw).mono ?_
  rintro e w7 ⟨rfl, rfl⟩
  go_wp2_with fail
  refine (rwithin_no _ _ _ _ (by omega) (by omega) hw).mono ?_
  rintro e w7 ⟨rfl, rfl⟩
  go_wp2_with fail
  refine (store_no _ _ _ _ _ _ _ (by omega) (Or.inr (by omega))).mono ?_
  rintro e w7 ⟨rfl, rfl⟩
  go_wp2
  go_ret
  exact ⟨rfl, HB6.out⟩
set_option maxRecDepth 100000 in
set_option maxHeartbeats 2000000 in
theorem loads_odd (a0 : Option Addr) (len cap : Nat) (zs : List Int) (a s n : Int) (w : World) (hz : IsRow .u8 w a0 len cap zs) (hbig : (len : Int) ≤ 1000) (hs : ¬ (s = 1 ∨ s = 2 ∨ s = 4 ∨ s = 8)) (h0 : 0 ≤ a) (h1 : 0 ≤ s) (h2 : a ≤ len) (h3 : s ≤ len - a) (hT : Tabs w) :
    Calls Tryd.prog 4 #[.slice a0 len cap, .int .i64 a, .int .i64 s, .int .u64 n] w fun e w' => e = .returned (.bool true) ∧ Below w.heap.size w w' := by
  have HA := Lib.hid (awake_any w hT)
  have HZ := Lib.hid hz
  obtain ⟨hl, hm, _, _, _⟩ := hz
  unfold maxLen at hm
  clear hT
  obtain ⟨i0, hi0, hz0, hz1, hz2⟩ := info_parts u8_info
  have I1 := Lib.hid hi0
  have I2 := Lib.hid hz0
  have I3 := Lib.hid hz1
  have I4 := Lib.hid hz2
  clear hi0 hz0 hz1 hz2
  go_enter Tryd.func4, Tryd.ntmps4
  go_wp2_with fail
  refine HA.out.mono ?_
  rintro e w1 ⟨rfl, hb⟩
  have HB := Lib.hid hb
  clear hb
  go_wp2_with fail
  refine (rsized_no _ _ hs).mono ?_
  rintro e w2 ⟨rfl, rfl⟩
  go_wp2_with (first | (at_builtin; refine wpList_app_u8 rfl (.tmp 29) (.tmp 30) 29 29 rfl w1.heap.size 5 i0 (.int .u8 0) Tryd.underlying29 I1.out I2.out I3.out I4.out rfl w1.heap.size 0 0 [] rfl (World.ownsRow_made w1 #[] 0 (Nat.le_refl _) (Nat.zero_le _) rfl) _ len (zs.take len) rfl ((HZ.out.src (HB.out.alloc HB.out.size _)).toSrc Tryd.underlying29) (by omega) (by simp) ?_; intro g2 c2 w2 hown2 hb2; have HN := Lib.hid hown2; have HBq := Lib.hid hb2; have HB2 := Lib.hid (HB.out.trans ((((Below.refl _ w1).alloc (Nat.le_refl _) _).trans hb2).mono HB.out.size)); clear hown2 hb2) | (at_builtin; refine wpList_app_u8 rfl (.tmp 47) (.tmp 48) 29 29 rfl w2.heap.size 5 i0 (.int .u8 0) Tryd.underlying29 I1.out I2.out I3.out I4.out rfl w2.heap.size 0 0 [] rfl (World.ownsRow_made w2 #[] 0 (Nat.le_refl _) (Nat.zero_le _) rfl) _ len (zs.take len) rfl ((HZ.out.src (HB2.out.alloc HB2.out.size _)).toSrc Tryd.underlying29) (by omega) (by simp) ?_; intro g3 c3 w6 hown6 hb6))
  have hn0 := HN.out
  rw [Nat.zero_add, List.nil_append] at hn0 hown6
  have HC6 := Lib.hid hown6
  have hbb6 := (((Below.refl w2.heap.size w2).alloc (Nat.le_refl _) (.cells #[] 5)).trans hb6)
  have HB6 := Lib.hid (HB2.out.trans (hbb6.mono HB2.out.size))
  have HN6 := Lib.hid (hn0.below hbb6 hn0.facts.2.2.1)
  clear hown6 hb6 hbb6 hn0
  refine (load_no _ _ _ _ _ w6 (by omega) (Or.inl hs)).mono ?_
  rintro e w7 ⟨rfl, rfl⟩
  have s1 := HC6.out.str (P := Tryd.prog) 29 9 Tryd.underlying29 Tryd.underlying5 Tryd.underlying9
  have s2 := HZ.out.str (P := Tryd.prog) HB6.out 29 9 Tryd.underlying29 Tryd.underlying5 Tryd.underlying9
  have s3 := HN6.out.str (P := Tryd.prog) 29 9 Tryd.underlying29 Tryd.underlying5 Tryd.underlying9
  generalize strOfNums (zs.take len) = S at s1 s2 s3
  go_wp2_with fail
  refine (sized_no _ _ hs).mono ?_
  rintro e w7 ⟨rfl, rfl⟩
  go_wp2_with fail
  refine (rsized_no _ _ hs).mono ?_
  rintro e w7 ⟨rfl, rfl⟩
  go_wp2_with fail
  refine (within_yes _ _ _ _ _ _ (by omega) h0 h1 h2 h3).mono ?_
  rintro e w7 ⟨rfl, rfl⟩
  go_wp2_with fail
  refine (rwithin_yes _ _ _ _ (by omega) h0 h1 h3).mono ?_
  rintro e w7 ⟨rfl, rfl⟩
  go_wp2_with fail
  refine (store_no _ _ _ _ _ _ _ (by omega) (Or.inl hs)).mono ?_
  rintro e w7 ⟨rfl, rfl⟩
  go_wp2
  go_ret
  exact ⟨rfl, HB6.out⟩
set_option maxRecDepth 100000 in
set_option maxHeartbeats 2000000 in
theorem loads_out (a0 : Option Addr) (len cap : Nat) (zs : List Int) (a s n : Int) (w : World) (hz : IsRow .u8 w a0 len cap zs) (hbig : (len : Int) ≤ 1000) (hs : ¬ (s = 1 ∨ s = 2 ∨ s = 4 ∨ s = 8)) (hw : a < 0 ∨ s < 0 ∨ (len : Int) < a ∨ len - a < s) (hT : Tabs w) :
    Calls Tryd.prog 4 #[.slice a0 len cap, .int .i64 a, .int .i64 s, .int .u64 n] w fun e w' => e = .returned (.bool true) ∧ Below w.heap.size w w' := by
  have HA := Lib.hid (awake_any w hT)
  have HZ := Lib.hid hz
  obtain ⟨hl, hm, _, _, _⟩ := hz
  unfold maxLen at hm
  clear hT
  obtain ⟨i0, hi0, hz0, hz1, hz2⟩ := info_parts u8_info
  have I1 := Lib.hid hi0
  have I2 := Lib.hid hz0
  have I3 := Lib.hid hz1
  have I4 := Lib.hid hz2
  clear hi0 hz0 hz1 hz2
  go_enter Tryd.func4, Tryd.ntmps4
  go_wp2_with fail
  refine HA.out.mono ?_
  rintro e w1 ⟨rfl, hb⟩
  have HB := Lib.hid hb
  clear hb
  go_wp2_with fail
  refine (rsized_no _ _ hs).mono ?_
  rintro e w2 ⟨rfl, rfl⟩
  go_wp2_with (first | (at_builtin; refine wpList_app_u8 rfl (.tmp 29) (.tmp 30) 29 29 rfl w1.heap.size 5 i0 (.int .u8 0) Tryd.underlying29 I1.out I2.out I3.out I4.out rfl w1.heap.size 0 0 [] rfl (World.ownsRow_made w1 #[] 0 (Nat.le_refl _) (Nat.zero_le _) rfl) _ len (zs.take len) rfl ((HZ.out.src (HB.out.alloc HB.out.size _)).toSrc Tryd.underlying29) (by omega) (by simp) ?_; intro g2 c2 w2 hown2 hb2; have HN := Lib.hid hown2; have HBq := Lib.hid hb2; have HB2 := Lib.hid (HB.out.trans ((((Below.refl _ w1).alloc (Nat.le_refl _) _).trans hb2).mono HB.out.size)); clear hown2 hb2) | (at_builtin; refine wpList_app_u8 rfl (.tmp 47) (.tmp 48) 29 29 rfl w2.heap.size 5 i0 (.int .u8 0) Tryd.underlying29 I1.out I2.out I3.out I4.out rfl w2.heap.size 0 0 [] rfl (World.ownsRow_made w2 #[] 0 (Nat.le_refl _) (Nat.zero_le _) rfl) _ len (zs.take len) rfl ((HZ.out.src (HB2.out.alloc HB2.out.size _)).toSrc Tryd.underlying29) (by omega) (by simp) ?_; intro g3 c3 w6 hown6 hb6))
  have hn0 := HN.out
  rw [Nat.zero_add, List.nil_append] at hn0 hown6
  have HC6 := Lib.hid hown6
  have hbb6 := (((Below.refl w2.heap.size w2).alloc (Nat.le_refl _) (.cells #[] 5)).trans hb6)
  have HB6 := Lib.hid (HB2.out.trans (hbb6.mono HB2.out.size))
  have HN6 := Lib.hid (hn0.below hbb6 hn0.facts.2.2.1)
  clear hown6 hb6 hbb6 hn0
  refine (load_no _ _ _ _ _ w6 (by omega) (Or.inl hs)).mono ?_
  rintro e w7 ⟨rfl, rfl⟩
  have s1 := HC6.out.str (P := Tryd.prog) 29 9 Tryd.underlying29 Tryd.underlying5 Tryd.underlying9
  have s2 := HZ.out.str (P := Tryd.prog) HB6.out 29 9 Tryd.underlying29 Tryd.underlying5 Tryd.underlying9
  have s3 := HN6.out.str (P := Tryd.prog) 29 9 Tryd.underlying29 Tryd.underlying5 Tryd.underlying9
  generalize strOfNums (zs.take len) = S at s1 s2 s3
  go_wp2_with fail
  refine (sized_no _ _ hs).mono ?_
  rintro e w7 ⟨rfl, rfl⟩
  go_wp2_with fail
  refine (rsized_no _ _ hs).mono ?_
  rintro e w7 ⟨rfl, rfl⟩
  go_wp2_with fail
  refine (within_no _ _ _ _ _ _ (by omega) hw).mono ?_
  rintro e w7 ⟨rfl, rfl⟩
  go_wp2_with fail
  refine (rwithin_no _ _ _ _ (by omega) (by omega) hw).mono ?_
  rintro e w7 ⟨rfl, rfl⟩
  go_wp2_with fail
  refine (store_no _ _ _ _ _ _ _ (by omega) (Or.inl hs)).mono ?_
  rintro e w7 ⟨rfl, rfl⟩
  go_wp2
  go_ret
  exact ⟨rfl, HB6.out⟩
theorem wireLoads_walk (a0 : Option Addr) (len cap : Nat) (zs : List Int) (a s n : Int) (w : World) (hz : IsRow .u8 w a0 len cap zs) (_ha : (Lit.int .i64 a).wf = true) (_hs : (Lit.int .i64 s).wf = true) (_hn : (Lit.int .u64 n).wf = true) (hT : Tabs w) :
    Calls Tryd.prog 4 #[.slice a0 len cap, .int .i64 a, .int .i64 s, .int .u64 n] w fun e w' => e = .returned (.bool true) ∧ Below w.heap.size w w' := by
  by_cases hbig : (len : Int) ≤ 1000
  · by_cases hs : s = 1 ∨ s = 2 ∨ s = 4 ∨ s = 8
    · by_cases hw : a < 0 ∨ s < 0 ∨ (len : Int) < a ∨ len - a < s
      · exact loads_far a0 len cap zs a s n w hz hbig hs hw hT
      · obtain ⟨a, rfl⟩ := Int.eq_ofNat_of_zero_le (show 0 ≤ a by omega)
        obtain ⟨s, rfl⟩ := Int.eq_ofNat_of_zero_le (show 0 ≤ s by omega)
        exact loads_in a0 len cap zs a s n w hz hbig hs (by omega) hT
    · by_cases hw : a < 0 ∨ s < 0 ∨ (len : Int) < a ∨ len - a < s
      · exact loads_out a0 len cap zs a s n w hz hbig hs hw hT
      · exact loads_odd a0 len cap zs a s n w hz hbig hs (by omega) (by omega) (by omega) (by omega) hT
  · have hbig' : (1000 : Int) < len := by omega
    have HA := Lib.hid (awake_any w hT)
    clear hz hT hbig
    go_enter Tryd.func4, Tryd.ntmps4
    go_wp2_with fail
    refine HA.out.mono ?_
    rintro e w1 ⟨rfl, hb⟩
    go_wp2_with fail
    go_ret
    exact ⟨rfl, hb⟩
end Go.Proofs.YtjnpfjiphhnoiaaDoor
