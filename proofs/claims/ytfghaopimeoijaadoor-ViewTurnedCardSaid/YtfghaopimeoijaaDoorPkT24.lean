/-
  The document's own Value: of any value in memory, of a type that a schema can hold, it says what the plain function says. Conditions: those that each theorem names; the library's tables hold what the row lists.
-/
import Derived.Test.YtfghaopimeoijaaDoorPkT23
import Derived.Deep.RegionHeld3
namespace Go.Proofs.YtfghaopimeoijaaDoor
open Go.ChangeShapes Go.WideShapes Go.ChangeAt Go.RowKit Go.Shelf

def TyOk (ss : List (CRec × Value)) (k : Nat) (ref lists : Int) : Prop := 1 ≤ k ∧ k ≤ 13 ∧ 0 ≤ lists ∧ lists ≤ 9223372036854775807 ∧ (k = 13 → 0 ≤ ref ∧ ref < ss.length)
def RFlds (ss : List (CRec × Value)) : Prop := ∀ q ∈ ss, ∀ f ∈ q.1.fields, TyOk ss f.kind f.ref f.lists
def RVAt (ss : List (CRec × Value)) (es : List (SCho × Value)) (room : Nat) : Prop :=
  ∀ (W : World) (base : Nat) (sv ev : Value) (root : Int) (k : Nat) (ref lists : Int) (v : PV) (val : Value), CRows base W ss es sv ev → Tabs W → TyOk ss k ref lists → IsV W v val →
    Calls Tryd.prog 28 #[.agg #[sv, ev, .int .i64 root], .agg #[.int .u8 k, .int .i64 ref, .int .i64 lists], val, .int .i64 room] W fun e w' => e = .returned (.bool (fitsP (ss.map Prod.fst) (es.map Prod.fst) room k ref lists v)) ∧ Below W.heap.size W w'
theorem tk_cases (k : Nat) (h1 : 1 ≤ k) (h2 : k ≤ 13) : (k = 13 ∧ sortP k 0 = 4 ∧ numTB k 0 = false) ∨ ((k = 11 ∨ k = 12) ∧ sortP k 0 = 2 ∧ numTB k 0 = false) ∨ (k ≤ 10 ∧ sortP k 0 = 1 ∧ numTB k 0 = true) := by
  have : k = 1 ∨ k = 2 ∨ k = 3 ∨ k = 4 ∨ k = 5 ∨ k = 6 ∨ k = 7 ∨ k = 8 ∨ k = 9 ∨ k = 10 ∨ k = 11 ∨ k = 12 ∨ k = 13 := by omega
  rcases this with rfl | rfl | rfl | rfl | rfl | rfl | rfl | rfl | rfl | rfl | rfl | rfl | rfl <;> simp [sortP, numTB, kSize]
theorem bareP_eq (o n : Nat) (bs : List Int) (ks : List PV) (hh : Bool) : bareP o (.mk n bs ks hh) = ((decide (o = 1) || decide (n = 0)) && ((decide (o = 2) || decide (bs.length = 0)) && (((decide (o = 3) || hh) || decide (ks.length = 0)) && (decide (o = 4) || !hh)))) := rfl
theorem bare3 (n : Nat) (bs : List Int) (ks : List PV) (hh x : Bool) : (bareP 3 (.mk n bs ks hh) && x) = (decide (n = 0) && (decide (bs.length = 0) && (!hh && x))) := by
  rw [bareP_eq]
  generalize bs.length = p
  generalize ks.length = q
  by_cases a : n = 0 <;> by_cases b : p = 0 <;> by_cases c : q = 0 <;> cases hh <;> cases x <;> simp [a, b, c]
theorem bare4 (n : Nat) (bs : List Int) (ks : List PV) (hh x : Bool) : (bareP 4 (.mk n bs ks hh) && (!hh || x)) = (decide (n = 0) && (decide (bs.length = 0) && (if hh = true then x else decide (ks.length = 0)))) := by
  rw [bareP_eq]
  generalize bs.length = p
  generalize ks.length = q
  by_cases a : n = 0 <;> by_cases b : p = 0 <;> by_cases c : q = 0 <;> cases hh <;> cases x <;> simp [a, b, c]
theorem bare1 (n : Nat) (bs : List Int) (ks : List PV) (hh x : Bool) : (bareP 1 (.mk n bs ks hh) && x) = (!hh && (decide (ks.length = 0) && (decide (bs.length = 0) && x))) := by
  rw [bareP_eq]
  generalize bs.length = p
  generalize ks.length = q
  by_cases a : n = 0 <;> by_cases b : p = 0 <;> by_cases c : q = 0 <;> cases hh <;> cases x <;> simp [a, b, c]
theorem bare2 (n : Nat) (bs : List Int) (ks : List PV) (hh x : Bool) : (bareP 2 (.mk n bs ks hh) && x) = (!hh && (decide (ks.length = 0) && (decide (n = 0) && x))) := by
  rw [bareP_eq]
  generalize bs.length = p
  generalize ks.length = q
  by_cases a : n = 0 <;> by_cases b : p = 0 <;> by_cases c : q = 0 <;> cases hh <;> cases x <;> simp [a, b, c]
set_option maxRecDepth 100000 in
set_option maxHeartbeats 16000000 in
theorem rval_step {ss : List (CRec × Value)} {es : List (SCho × Value)} (hF : RFlds ss) (room : Nat) (hroom : room ≤ 100) (hnext : ∀ r, room = r + 1 → RVAt ss es r) : RVAt ss es room := by
  intro w base sv ev root k ref lists v val h hT hty hv
  obtain ⟨n, bs, ks, hh⟩ := v
  obtain ⟨sa, sc, ea, ec, rfl, rfl⟩ := h.forms
  obtain ⟨ba, ka, bc, kc, rfl, hn, hby, hbl, hbm, hkl, hkm, hks⟩ := hv.form
  simp only [PV.num, PV.bytes, PV.kids, PV.has] at hn hby hbl hbm hkl hkm hks ⊢
  obtain ⟨hb, hq1, hq2, hq3⟩ := three_start w #[.slice sa ss.length sc, .slice ea es.length ec, .int .i64 root] #[.int .u8 k, .int .i64 ref, .int .i64 lists] #[.int .u64 n, .slice ba bs.length bc, .slice ka ks.length kc, .bool hh] 30 55 36
  have HB := Lib.hid hb
  have HQ1 := Lib.hid hq1
  have HQ2 := Lib.hid hq2
  have HQ3 := Lib.hid hq3
  have HC := Lib.hid (h.below hb)
  have HT := Lib.hid (hT.below (Nat.le_refl _) hb)
  have HBY := Lib.hid (hby.below (Nat.le_refl _) hb)
  have HKS := Lib.hid (KidsAt.later (w := w) (ks := ks) (ka := ka) hks hb)
  have HNX := Lib.hid hnext
  have HFO := Lib.hid hF
  obtain ⟨res, hres⟩ : ∃ res, fitsP (ss.map Prod.fst) (es.map Prod.fst) room k ref lists (.mk n bs ks hh) = res := ⟨_, rfl⟩
  have HRES := Lib.hid (hres.symm.trans (fitsP_eq _ _ _ _ _ _ _))
  rw [hres]
  obtain ⟨hk1, hk2, hl0, hl1, href⟩ := hty
  have HREF := Lib.hid href
  have hk255 : k ≤ 255 := by omega
  have hk255i : (k : Int) ≤ 255 := by omega
  have HBL := Lib.hid hbl
  have HKL := Lib.hid hkl
  clear hb hq1 hq2 hq3 h hT hv hby hks hnext hF hres href hbl hkl
  go_enter Tryd.func28, Tryd.ntmps28
  go_upto_region 1 with (fail)
  generalize ((w.alloc (.cells #[.slice sa ss.length sc, .slice ea es.length ec, .int .i64 root] 30)).alloc (.cells #[.int .u8 k, .int .i64 ref, .int .i64 lists] 55)).alloc (.cells #[.int .u64 n, .slice ba bs.length bc, .slice ka ks.length kc, .bool hh] 36) = W0 at *
  generalize w.heap.size + 1 + 1 = V at *
  generalize w.heap.size + 1 = Y at *
  obtain ⟨_, s0, s1, s2, _⟩ := blk3 HQ1.out
  obtain ⟨_, t0, t1, t2, _⟩ := blk3 HQ2.out
  obtain ⟨_, v0, v1, v2, v3⟩ := blk4p HQ3.out
  by_cases hl : 0 < lists
  · have HR : Hid (res = (decide (n = 0) && (decide (bs.length = 0) && (!hh && ks.all (kidOk (ss.map Prod.fst) (es.map Prod.fst) room k ref (lists - 1)))))) := Lib.hid (by rw [HRES.out, show sortP k lists = 3 from if_pos hl]; exact bare3 n bs ks hh (ks.all (kidOk (ss.map Prod.fst) (es.map Prod.fst) room k ref (lists - 1))))
    have HREFL := HREF
    clear HRES HBY HBL HKL HREF HFO
    by_cases hn0 : n = 0
    · have tn : ((n : Int) != 0) = false := by simp; omega
      have HR2 : Hid (res = (decide (bs.length = 0) && (!hh && ks.all (kidOk (ss.map Prod.fst) (es.map Prod.fst) room k ref (lists - 1))))) := Lib.hid (by rw [HR.out, decide_eq_true hn0, Bool.true_and])
      clear HR hn0
      by_cases hb0 : bs.length = 0
      · have tb : decide (0 < bs.length) = false := decide_eq_false (by omega)
        have HR3 : Hid (res = (!hh && ks.all (kidOk (ss.map Prod.fst) (es.map Prod.fst) room k ref (lists - 1)))) := Lib.hid (by rw [HR2.out, decide_eq_true hb0, Bool.true_and])
        clear HR2 hb0
        cases hh with
        | true =>
          have HN : Hid (res = false) := Lib.hid HR3.out
          clear HR3
          go_wp2
          go_ret
          exact ⟨ret_bool HN.out.symm, HB.out⟩
        | false =>
          have HR4 : Hid (res = ks.all (kidOk (ss.map Prod.fst) (es.map Prod.fst) room k ref (lists - 1))) := Lib.hid HR3.out
          clear HR3
          have hlw : IntKind.i64.wrap (lists - 1) = lists - 1 := IntWalk.i64_in _ (by omega)
          by_cases hk0 : ks.length = 0
          · have HN : Hid (res = true) := Lib.hid (by rw [HR4.out]; exact List.all_eq_true.2 (fun x hx => by rw [List.length_eq_zero_iff.1 hk0] at hx; cases hx))
            have tk : decide (0 < ks.length) = false := decide_eq_false (by omega)
            clear hk0 HR4
            go_upto_region 6 with (fail)
            have hba := (Below.refl W0.heap.size W0).alloc (Nat.le_refl _) (.cells #[.int .u8 k, .int .i64 ref, .int .i64 (lists - 1)] 55)
            have HB1 := Lib.hid (HB.out.trans (hba.mono HB.out.size))
            generalize W0.alloc (.cells #[.int .u8 k, .int .i64 ref, .int .i64 (lists - 1)] 55) = W1 at *
            have v2 := cell_stays hba v2
            clear hba
            go_wp2_with fail
            go_loopw [10] (fun i wr => i = .int .i64 0 ∧ wr = W1) (fun _ _ => 0)
            case atStart => exact ⟨rfl, rfl⟩
            case round =>
              obtain ⟨rfl, rfl⟩ := hrel
              go_wp2
              go_ret
              exact ⟨ret_bool HN.out.symm, HB1.out⟩
          · have tk : decide (0 < ks.length) = true := decide_eq_true (by omega)
            by_cases hr0 : room = 0
            · have HN : Hid (res = false) := Lib.hid (by rw [HR4.out]; exact all_false' _ ks 0 (by omega) (by unfold kidOk; rw [decide_eq_true hr0]; rfl))
              have tr : (room : Int) < 1 := by omega
              clear hr0 HR4
              go_wp2
              go_ret
              exact ⟨ret_bool HN.out.symm, HB.out⟩
            have tr : ¬ (room : Int) < 1 := by omega
            obtain ⟨r, hr⟩ : ∃ r, room = r + 1 := ⟨room - 1, by omega⟩
            have hrw : (room : Int) - 1 = (r : Int) := by omega
            have hrw2 : IntKind.i64.wrap (r : Int) = r := IntWalk.i64_in _ (by omega)
            have hr1 : room - 1 = r := by omega
            obtain ⟨P, hP⟩ : ∃ P, kidOk (ss.map Prod.fst) (es.map Prod.fst) room k ref (lists - 1) = P := ⟨_, rfl⟩
            have HP : Hid (∀ q, P q = (!(decide (sortP k (lists - 1) = 4) && !q.has) && fitsP (ss.map Prod.fst) (es.map Prod.fst) r k ref (lists - 1) q)) := Lib.hid (fun q => by rw [← hP]; unfold kidOk; rw [decide_eq_false hr0, hr1]; rfl)
            rw [hP] at HR4
            have hty1 : TyOk ss k ref (lists - 1) := ⟨hk1, hk2, by omega, by omega, HREFL.out⟩
            have HFA := Lib.hid (fun W hc ht q qv hq => HNX.out r hr W base (.slice sa ss.length sc) (.slice ea es.length ec) root k ref (lists - 1) q qv hc ht hty1 hq)
            have hm0 : 0 ≤ lists - 1 := by omega
            clear hP hr1 hr hty1 HNX hk0 hr0
            go_upto_region 6 with (fail)
            have hba := (Below.refl W0.heap.size W0).alloc (Nat.le_refl _) (.cells #[.int .u8 k, .int .i64 ref, .int .i64 (lists - 1)] 55)
            have HB1 := Lib.hid (HB.out.trans (hba.mono HB.out.size))
            have HE := Lib.hid (heap_alloc_new W0 (.cells #[.int .u8 k, .int .i64 ref, .int .i64 (lists - 1)] 55))
            generalize W0.alloc (.cells #[.int .u8 k, .int .i64 ref, .int .i64 (lists - 1)] 55) = W1 at *
            have HC1 := Lib.hid (HC.out.below hba)
            have HT1 := Lib.hid (HT.out.below (Nat.le_refl _) hba)
            have HKS1 := Lib.hid (HKS.out.later hba)
            have HQ11 := Lib.hid (blk_below HQ1.out hba (blk_lt HQ1.out))
            have HQ31 := Lib.hid (blk_below HQ3.out hba (blk_lt HQ3.out))
            generalize W0.heap.size = E at *
            generalize lists - 1 = l1 at *
            clear hba HC HT HKS HQ1 HQ2 HQ3 HB s0 s1 s2 t0 t1 t2 v0 v1 v2 v3
            go_wp2_with fail
            go_loopw [10] (fun i wr => LAt W1 P ks i wr) (fun i _ => ks.length - (intOf i).toNat)
            case atStart => exact ⟨0, Nat.zero_le _, rfl, Below.refl _ _, rfl⟩
            case round =>
              obtain ⟨j, hj, rfl, hb, hall⟩ := hrel
              have HALL := Lib.hid hall
              have HBW := Lib.hid hb
              clear hall hb
              obtain ⟨_, s0, s1, s2, _⟩ := blk3 (blk_below HQ11.out HBW.out (blk_lt HQ11.out))
              obtain ⟨_, e0, e1, e2, _⟩ := blk3 (blk_below HE.out HBW.out (blk_lt HE.out))
              obtain ⟨_, v0, v1, v2, v3⟩ := blk4p (blk_below HQ31.out HBW.out (blk_lt HQ31.out))
              clear v0 v1 v3
              by_cases hjl : j < ks.length
              · have hji : (j : Int) < ks.length := by omega
                have hji0 : (0 : Int) ≤ (j : Int) := by omega
                obtain ⟨kb, ko, u0, u1, u2, u3, rfl, c0, c1, c2, c3, hiv⟩ := HKS1.out.later HBW.out j hjl
                have HIV := Lib.hid hiv
                have HAT := Lib.hid (all_take' P ks j hjl)
                have HAF := Lib.hid (all_false' P ks j hjl)
                obtain ⟨q, hq⟩ : ∃ q, ks[j] = q := ⟨_, rfl⟩
                rw [hq] at HIV HAT HAF
                obtain ⟨qba, qa, qbc, qc, hval, _⟩ := HIV.out.form
                injection hval with hval
                have x0 := congrArg (fun x : Array Value => x[0]?) hval
                have x1 := congrArg (fun x : Array Value => x[1]?) hval
                have x2 := congrArg (fun x : Array Value => x[2]?) hval
                have x3 := congrArg (fun x : Array Value => x[3]?) hval
                simp at x0 x1 x2 x3
                subst x0 x1 x2 x3
                clear hiv hq hval
                have HFQ := Lib.hid (fun W (hb : Below wr.heap.size wr W) => HFA.out W ((HC1.out.below HBW.out).below hb) ((HT1.out.below (Nat.le_refl _) HBW.out).below (Nat.le_refl _) hb) q _ (HIV.out.later hb))
                have HPQ := Lib.hid (HP.out q)
                obtain ⟨qh, hqh⟩ : ∃ x, q.has = x := ⟨_, rfl⟩
                rw [hqh] at HPQ c3 HFQ
                clear hqh HIV
                cases hfb : fitsP (ss.map Prod.fst) (es.map Prod.fst) r k ref l1 q with
                | false =>
                  have HN := Lib.hid (HR4.out.trans (HAF.out (by rw [HPQ.out, hfb, Bool.and_false])))
                  go_upto_region 9 with (fail)
                  refine wp_region_noPanic ?_
                  refine wp_region_held_drew (S := (fun w' => w'.cell? ⟨w.heap.size, 0, none⟩ = some (.slice sa ss.length sc) ∧ w'.cell? ⟨w.heap.size, 1, none⟩ = some (.slice ea es.length ec) ∧ w'.cell? ⟨w.heap.size, 2, none⟩ = some (.int .i64 root) ∧ w'.cell? ⟨E, 0, none⟩ = some (.int .u8 k) ∧ w'.cell? ⟨E, 1, none⟩ = some (.int .i64 ref) ∧ w'.cell? ⟨E, 2, none⟩ = some (.int .i64 l1) ∧ w'.cell? ⟨V, 2, none⟩ = some (.slice (some ⟨kb, ko, none⟩) ks.length kc) ∧ w'.cell? ⟨kb, ko + j * 4, none⟩ = some (.int .u64 q.num) ∧ w'.cell? ⟨kb, ko + j * 4 + 1, none⟩ = some (.slice qba q.bytes.length qbc) ∧ w'.cell? ⟨kb, ko + j * 4 + 2, none⟩ = some (.slice qa q.kids.length qc) ∧ w'.cell? ⟨kb, ko + j * 4 + 3, none⟩ = some (.bool qh))) (by kernel_rfl) ⟨s0, s1, s2, e0, e1, e2, v2, c0, c1, c2, c3⟩ ?_
                  intro hS
                  refine wpAnyH_take (i := 0) (v := .agg #[.slice sa ss.length sc, .slice ea es.length ec, .int .i64 root]) rfl (by kernel_rfl) (by kernel_rfl) (by kernel_rfl) (fun _ _ _ h => h) (Or.inl ⟨by rfl, ?_⟩) hS ?_
                  · intro w' hSw
                    obtain ⟨s0, s1, s2, s3, s4, s5, s6, s7, s8, s9, s10⟩ := hSw
                    go_simp
                  simp only [Act.put, List.getElem_toArray, List.getElem_cons_zero, List.setIfInBounds_toArray, List.set_cons_zero, List.set_cons_succ]
                  refine wpAnyH_take (i := 1) (v := .agg #[.int .u8 k, .int .i64 ref, .int .i64 l1]) rfl (by kernel_rfl) (by kernel_rfl) (by kernel_rfl) (fun _ _ _ h => h) (Or.inl ⟨by rfl, ?_⟩) hS ?_
                  · intro w' hSw
                    obtain ⟨s0, s1, s2, s3, s4, s5, s6, s7, s8, s9, s10⟩ := hSw
                    go_simp
                  simp only [Act.put, List.getElem_toArray, List.getElem_cons_succ, List.getElem_cons_zero, List.setIfInBounds_toArray, List.set_cons_zero, List.set_cons_succ]
                  refine wpAnyH_take (i := 2) (v := .pointer (some ⟨V, 2, none⟩)) rfl (by kernel_rfl) (by kernel_rfl) (by kernel_rfl) (fun _ _ _ h => h) (Or.inl ⟨by rfl, ?_⟩) hS ?_
                  · intro w' hSw
                    obtain ⟨s0, s1, s2, s3, s4, s5, s6, s7, s8, s9, s10⟩ := hSw
                    go_simp
                  simp only [Act.put, List.getElem_toArray, List.getElem_cons_succ, List.getElem_cons_zero, List.setIfInBounds_toArray, List.set_cons_zero, List.set_cons_succ]
                  refine wpAnyH_take (i := 3) (v := .slice (some ⟨kb, ko, none⟩) ks.length kc) rfl (by kernel_rfl) (by kernel_rfl) (by kernel_rfl) (fun _ _ _ h => h) (Or.inl ⟨by rfl, ?_⟩) hS ?_
                  · intro w' hSw
                    obtain ⟨s0, s1, s2, s3, s4, s5, s6, s7, s8, s9, s10⟩ := hSw
                    go_simp
                  simp only [Act.put, List.getElem_toArray, List.getElem_cons_succ, List.getElem_cons_zero, List.setIfInBounds_toArray, List.set_cons_zero, List.set_cons_succ]
                  refine wpAnyH_take (i := 4) (v := .int .i64 j) rfl (by kernel_rfl) (by kernel_rfl) (by kernel_rfl) (fun _ _ _ h => h) (Or.inl ⟨by rfl, ?_⟩) hS ?_
                  · intro w' hSw
                    obtain ⟨s0, s1, s2, s3, s4, s5, s6, s7, s8, s9, s10⟩ := hSw
                    go_simp
                  simp only [Act.put, List.getElem_toArray, List.getElem_cons_succ, List.getElem_cons_zero, List.setIfInBounds_toArray, List.set_cons_zero, List.set_cons_succ]
                  refine wpAnyH_take (i := 5) (v := .pointer (some ⟨kb, ko + j * 4, none⟩)) rfl (by kernel_rfl) (by kernel_rfl) (by kernel_rfl) (fun _ _ _ h => h) (Or.inl ⟨by rfl, ?_⟩) hS ?_
                  · intro w' hSw
                    obtain ⟨s0, s1, s2, s3, s4, s5, s6, s7, s8, s9, s10⟩ := hSw
                    go_simp
                  simp only [Act.put, List.getElem_toArray, List.getElem_cons_succ, List.getElem_cons_zero, List.setIfInBounds_toArray, List.set_cons_zero, List.set_cons_succ]
                  refine wpAnyH_take (i := 6) (v := .agg #[.int .u64 q.num, .slice qba q.bytes.length qbc, .slice qa q.kids.length qc, .bool qh]) rfl (by kernel_rfl) (by kernel_rfl) (by kernel_rfl) (fun _ _ _ h => h) (Or.inl ⟨by rfl, ?_⟩) hS ?_
                  · intro w' hSw
                    obtain ⟨s0, s1, s2, s3, s4, s5, s6, s7, s8, s9, s10⟩ := hSw
                    go_simp
                  simp only [Act.put, List.getElem_toArray, List.getElem_cons_succ, List.getElem_cons_zero, List.setIfInBounds_toArray, List.set_cons_zero, List.set_cons_succ]
                  refine wpAnyH_take (i := 7) (v := .int .i64 room) rfl (by kernel_rfl) (by kernel_rfl) (by kernel_rfl) (fun _ _ _ h => h) (Or.inl ⟨by rfl, ?_⟩) hS ?_
                  · intro w' hSw
                    obtain ⟨s0, s1, s2, s3, s4, s5, s6, s7, s8, s9, s10⟩ := hSw
                    go_simp
                  simp only [Act.put, List.getElem_toArray, List.getElem_cons_succ, List.getElem_cons_zero, List.setIfInBounds_toArray, List.set_cons_zero, List.set_cons_succ]
                  refine wpAnyH_take (i := 8) (v := .int .i64 r) rfl (by kernel_rfl) (by kernel_rfl) (by kernel_rfl) (fun _ _ _ h => h) (Or.inl ⟨by rfl, ?_⟩) hS ?_
                  · intro w' hSw
                    obtain ⟨s0, s1, s2, s3, s4, s5, s6, s7, s8, s9, s10⟩ := hSw
                    go_simp
                  simp only [Act.put, List.getElem_toArray, List.getElem_cons_succ, List.getElem_cons_zero, List.setIfInBounds_toArray, List.set_cons_zero, List.set_cons_succ]
                  refine wpAnyH_ready (rs := [9]) (by kernel_rfl) (by decide) (AllReadyH.cons rfl (fun K hK => ?_) AllReadyH.nil)
                  rw [if_pos (by kernel_rfl)]
                  go_simp
                  refine (HFQ.out _ (Below.refl _ wr).drew).mono ?_
                  rintro e W3 ⟨rfl, hb3⟩
                  have hx : Below wr.heap.size wr W3 := (Below.refl _ wr).drew.trans hb3
                  rw [hfb]
                  have HB3 := Lib.hid (HBW.out.trans (hx.mono HBW.out.size))
                  have k0 := cell_stays hx s0
                  have k1 := cell_stays hx s1
                  have k2 := cell_stays hx s2
                  have k3 := cell_stays hx e0
                  have k4 := cell_stays hx e1
                  have k5 := cell_stays hx e2
                  have k6 := cell_stays hx v2
                  have k7 := cell_stays hx c0
                  have k8 := cell_stays hx c1
                  have k9 := cell_stays hx c2
                  have k10 := cell_stays hx c3
                  refine hK.out _ _ ⟨k0, k1, k2, k3, k4, k5, k6, k7, k8, k9, k10⟩ (fun hS => ?_)
                  refine wpAnyH_take (i := 10) (v := .bool true) rfl (by kernel_rfl) (by kernel_rfl) (by kernel_rfl) (fun _ _ _ h => h) (Or.inl ⟨by rfl, ?_⟩) hS ?_
                  · intro w' hSw
                    obtain ⟨s0, s1, s2, s3, s4, s5, s6, s7, s8, s9, s10⟩ := hSw
                    go_simp
                  simp only [Act.put, List.getElem_toArray, List.getElem_cons_succ, List.getElem_cons_zero, List.setIfInBounds_toArray, List.set_cons_zero, List.set_cons_succ]
                  refine wpAnyH_take (i := 11) (v := .bool true) rfl (by kernel_rfl) (by kernel_rfl) (by kernel_rfl) (fun _ _ _ h => h) (Or.inl ⟨by rfl, ?_⟩) hS ?_
                  · intro w' hSw
                    obtain ⟨s0, s1, s2, s3, s4, s5, s6, s7, s8, s9, s10⟩ := hSw
                    go_simp
                  simp only [Act.put, List.getElem_toArray, List.getElem_cons_succ, List.getElem_cons_zero, List.setIfInBounds_toArray, List.set_cons_zero, List.set_cons_succ]
                  refine wpAnyH_take (i := 12) (v := undef) rfl (by kernel_rfl) (by kernel_rfl) (by kernel_rfl) (fun _ _ _ h => h) (Or.inr ⟨by kernel_rfl, rfl⟩) hS ?_
                  simp only [Act.put, List.getElem_toArray, List.getElem_cons_succ, List.getElem_cons_zero, List.setIfInBounds_toArray, List.set_cons_zero, List.set_cons_succ]
                  refine wpAnyH_take (i := 13) (v := undef) rfl (by kernel_rfl) (by kernel_rfl) (by kernel_rfl) (fun _ _ _ h => h) (Or.inr ⟨by kernel_rfl, rfl⟩) hS ?_
                  simp only [Act.put, List.getElem_toArray, List.getElem_cons_succ, List.getElem_cons_zero, List.setIfInBounds_toArray, List.set_cons_zero, List.set_cons_succ]
                  refine wpAnyH_take (i := 14) (v := undef) rfl (by kernel_rfl) (by kernel_rfl) (by kernel_rfl) (fun _ _ _ h => h) (Or.inr ⟨by kernel_rfl, rfl⟩) hS ?_
                  simp only [Act.put, List.getElem_toArray, List.getElem_cons_succ, List.getElem_cons_zero, List.setIfInBounds_toArray, List.set_cons_zero, List.set_cons_succ]
                  refine wpAnyH_take (i := 15) (v := undef) rfl (by kernel_rfl) (by kernel_rfl) (by kernel_rfl) (fun _ _ _ h => h) (Or.inr ⟨by kernel_rfl, rfl⟩) hS ?_
                  simp only [Act.put, List.getElem_toArray, List.getElem_cons_succ, List.getElem_cons_zero, List.setIfInBounds_toArray, List.set_cons_zero, List.set_cons_succ]
                  refine wpAnyH_take (i := 16) (v := undef) rfl (by kernel_rfl) (by kernel_rfl) (by kernel_rfl) (fun _ _ _ h => h) (Or.inr ⟨by kernel_rfl, rfl⟩) hS ?_
                  simp only [Act.put, List.getElem_toArray, List.getElem_cons_succ, List.getElem_cons_zero, List.setIfInBounds_toArray, List.set_cons_zero, List.set_cons_succ]
                  refine wpAnyH_take (i := 17) (v := undef) rfl (by kernel_rfl) (by kernel_rfl) (by kernel_rfl) (fun _ _ _ h => h) (Or.inr ⟨by kernel_rfl, rfl⟩) hS ?_
                  simp only [Act.put, List.getElem_toArray, List.getElem_cons_succ, List.getElem_cons_zero, List.setIfInBounds_toArray, List.set_cons_zero, List.set_cons_succ]
                  refine wpAnyH_take (i := 18) (v := undef) rfl (by kernel_rfl) (by kernel_rfl) (by kernel_rfl) (fun _ _ _ h => h) (Or.inr ⟨by kernel_rfl, rfl⟩) hS ?_
                  simp only [Act.put, List.getElem_toArray, List.getElem_cons_succ, List.getElem_cons_zero, List.setIfInBounds_toArray, List.set_cons_zero, List.set_cons_succ]
                  refine wpAnyH_take (i := 19) (v := undef) rfl (by kernel_rfl) (by kernel_rfl) (by kernel_rfl) (fun _ _ _ h => h) (Or.inr ⟨by kernel_rfl, rfl⟩) hS ?_
                  simp only [Act.put, List.getElem_toArray, List.getElem_cons_succ, List.getElem_cons_zero, List.setIfInBounds_toArray, List.set_cons_zero, List.set_cons_succ]
                  refine wpAnyH_take (i := 20) (v := undef) rfl (by kernel_rfl) (by kernel_rfl) (by kernel_rfl) (fun _ _ _ h => h) (Or.inr ⟨by kernel_rfl, rfl⟩) hS ?_
                  simp only [Act.put, List.getElem_toArray, List.getElem_cons_succ, List.getElem_cons_zero, List.setIfInBounds_toArray, List.set_cons_zero, List.set_cons_succ]
                  refine wpAnyH_take (i := 21) (v := undef) rfl (by kernel_rfl) (by kernel_rfl) (by kernel_rfl) (fun _ _ _ h => h) (Or.inr ⟨by kernel_rfl, rfl⟩) hS ?_
                  simp only [Act.put, List.getElem_toArray, List.getElem_cons_succ, List.getElem_cons_zero, List.setIfInBounds_toArray, List.set_cons_zero, List.set_cons_succ]
                  refine wpAnyH_take (i := 22) (v := undef) rfl (by kernel_rfl) (by kernel_rfl) (by kernel_rfl) (fun _ _ _ h => h) (Or.inr ⟨by kernel_rfl, rfl⟩) hS ?_
                  simp only [Act.put, List.getElem_toArray, List.getElem_cons_succ, List.getElem_cons_zero, List.setIfInBounds_toArray, List.set_cons_zero, List.set_cons_succ]
                  refine wpAnyH_take (i := 23) (v := undef) rfl (by kernel_rfl) (by kernel_rfl) (by kernel_rfl) (fun _ _ _ h => h) (Or.inr ⟨by kernel_rfl, rfl⟩) hS ?_
                  simp only [Act.put, List.getElem_toArray, List.getElem_cons_succ, List.getElem_cons_zero, List.setIfInBounds_toArray, List.set_cons_zero, List.set_cons_succ]
                  refine wpAnyH_take (i := 24) (v := undef) rfl (by kernel_rfl) (by kernel_rfl) (by kernel_rfl) (fun _ _ _ h => h) (Or.inr ⟨by kernel_rfl, rfl⟩) hS ?_
                  simp only [Act.put, List.getElem_toArray, List.getElem_cons_succ, List.getElem_cons_zero, List.setIfInBounds_toArray, List.set_cons_zero, List.set_cons_succ]
                  refine wpAnyH_take (i := 25) (v := undef) rfl (by kernel_rfl) (by kernel_rfl) (by kernel_rfl) (fun _ _ _ h => h) (Or.inr ⟨by kernel_rfl, rfl⟩) hS ?_
                  simp only [Act.put, List.getElem_toArray, List.getElem_cons_succ, List.getElem_cons_zero, List.setIfInBounds_toArray, List.set_cons_zero, List.set_cons_succ]
                  refine wpAnyH_take (i := 26) (v := undef) rfl (by kernel_rfl) (by kernel_rfl) (by kernel_rfl) (fun _ _ _ h => h) (Or.inr ⟨by kernel_rfl, rfl⟩) hS ?_
                  simp only [Act.put, List.getElem_toArray, List.getElem_cons_succ, List.getElem_cons_zero, List.setIfInBounds_toArray, List.set_cons_zero, List.set_cons_succ]
                  refine wpAnyH_take (i := 27) (v := undef) rfl (by kernel_rfl) (by kernel_rfl) (by kernel_rfl) (fun _ _ _ h => h) (Or.inr ⟨by kernel_rfl, rfl⟩) hS ?_
                  simp only [Act.put, List.getElem_toArray, List.getElem_cons_succ, List.getElem_cons_zero, List.setIfInBounds_toArray, List.set_cons_zero, List.set_cons_succ]
                  refine wpAnyH_take (i := 28) (v := undef) rfl (by kernel_rfl) (by kernel_rfl) (by kernel_rfl) (fun _ _ _ h => h) (Or.inr ⟨by kernel_rfl, rfl⟩) hS ?_
                  simp only [Act.put, List.getElem_toArray, List.getElem_cons_succ, List.getElem_cons_zero, List.setIfInBounds_toArray, List.set_cons_zero, List.set_cons_succ]
                  refine wpAnyH_take (i := 29) (v := .bool true) rfl (by kernel_rfl) (by kernel_rfl) (by kernel_rfl) (fun _ _ _ h => h) (Or.inl ⟨by rfl, ?_⟩) hS ?_
                  · intro w' hSw
                    obtain ⟨s0, s1, s2, s3, s4, s5, s6, s7, s8, s9, s10⟩ := hSw
                    go_simp
                  simp only [Act.put, List.getElem_toArray, List.getElem_cons_succ, List.getElem_cons_zero, List.setIfInBounds_toArray, List.set_cons_zero, List.set_cons_succ]
                  refine wpAnyH_done (by kernel_rfl) ?_ _
                  refine NoPanic.normal ?_
                  simp only [Exit.then]
                  go_wp2
                  go_ret
                  exact ⟨ret_bool HN.out.symm, HB1.out.trans (HB3.out.mono HB1.out.size)⟩
                | true =>
                  by_cases hl1z : l1 = 0
                  · have tl : (l1 == 0) = true := by simp; exact hl1z
                    by_cases h13 : k = 13
                    · have t13 : ((k : Int) == 13) = true := by simp; omega
                      have hs4 : sortP k l1 = 4 := by rw [hl1z, h13]; rfl
                      cases qh with
                      | false =>
                        have HN := Lib.hid (HR4.out.trans (HAF.out (by rw [HPQ.out, hs4]; rfl)))
                        clear h13 hl1z
                        go_upto_region 9 with (fail)
                        refine wp_region_noPanic ?_
                        refine wp_region_held_drew (S := (fun w' => w'.cell? ⟨w.heap.size, 0, none⟩ = some (.slice sa ss.length sc) ∧ w'.cell? ⟨w.heap.size, 1, none⟩ = some (.slice ea es.length ec) ∧ w'.cell? ⟨w.heap.size, 2, none⟩ = some (.int .i64 root) ∧ w'.cell? ⟨E, 0, none⟩ = some (.int .u8 k) ∧ w'.cell? ⟨E, 1, none⟩ = some (.int .i64 ref) ∧ w'.cell? ⟨E, 2, none⟩ = some (.int .i64 l1) ∧ w'.cell? ⟨V, 2, none⟩ = some (.slice (some ⟨kb, ko, none⟩) ks.length kc) ∧ w'.cell? ⟨kb, ko + j * 4, none⟩ = some (.int .u64 q.num) ∧ w'.cell? ⟨kb, ko + j * 4 + 1, none⟩ = some (.slice qba q.bytes.length qbc) ∧ w'.cell? ⟨kb, ko + j * 4 + 2, none⟩ = some (.slice qa q.kids.length qc) ∧ w'.cell? ⟨kb, ko + j * 4 + 3, none⟩ = some (.bool false))) (by kernel_rfl) ⟨s0, s1, s2, e0, e1, e2, v2, c0, c1, c2, c3⟩ ?_
                        intro hS
                        refine wpAnyH_take (i := 0) (v := .agg #[.slice sa ss.length sc, .slice ea es.length ec, .int .i64 root]) rfl (by kernel_rfl) (by kernel_rfl) (by kernel_rfl) (fun _ _ _ h => h) (Or.inl ⟨by rfl, ?_⟩) hS ?_
                        · intro w' hSw
                          obtain ⟨s0, s1, s2, s3, s4, s5, s6, s7, s8, s9, s10⟩ := hSw
                          go_simp
                        simp only [Act.put, List.getElem_toArray, List.getElem_cons_zero, List.setIfInBounds_toArray, List.set_cons_zero, List.set_cons_succ]
                        refine wpAnyH_take (i := 1) (v := .agg #[.int .u8 k, .int .i64 ref, .int .i64 l1]) rfl (by kernel_rfl) (by kernel_rfl) (by kernel_rfl) (fun _ _ _ h => h) (Or.inl ⟨by rfl, ?_⟩) hS ?_
                        · intro w' hSw
                          obtain ⟨s0, s1, s2, s3, s4, s5, s6, s7, s8, s9, s10⟩ := hSw
                          go_simp
                        simp only [Act.put, List.getElem_toArray, List.getElem_cons_succ, List.getElem_cons_zero, List.setIfInBounds_toArray, List.set_cons_zero, List.set_cons_succ]
                        refine wpAnyH_take (i := 2) (v := .pointer (some ⟨V, 2, none⟩)) rfl (by kernel_rfl) (by kernel_rfl) (by kernel_rfl) (fun _ _ _ h => h) (Or.inl ⟨by rfl, ?_⟩) hS ?_
                        · intro w' hSw
                          obtain ⟨s0, s1, s2, s3, s4, s5, s6, s7, s8, s9, s10⟩ := hSw
                          go_simp
                        simp only [Act.put, List.getElem_toArray, List.getElem_cons_succ, List.getElem_cons_zero, List.setIfInBounds_toArray, List.set_cons_zero, List.set_cons_succ]
                        refine wpAnyH_take (i := 3) (v := .slice (some ⟨kb, ko, none⟩) ks.length kc) rfl (by kernel_rfl) (by kernel_rfl) (by kernel_rfl) (fun _ _ _ h => h) (Or.inl ⟨by rfl, ?_⟩) hS ?_
                        · intro w' hSw
                          obtain ⟨s0, s1, s2, s3, s4, s5, s6, s7, s8, s9, s10⟩ := hSw
                          go_simp
                        simp only [Act.put, List.getElem_toArray, List.getElem_cons_succ, List.getElem_cons_zero, List.setIfInBounds_toArray, List.set_cons_zero, List.set_cons_succ]
                        refine wpAnyH_take (i := 4) (v := .int .i64 j) rfl (by kernel_rfl) (by kernel_rfl) (by kernel_rfl) (fun _ _ _ h => h) (Or.inl ⟨by rfl, ?_⟩) hS ?_
                        · intro w' hSw
                          obtain ⟨s0, s1, s2, s3, s4, s5, s6, s7, s8, s9, s10⟩ := hSw
                          go_simp
                        simp only [Act.put, List.getElem_toArray, List.getElem_cons_succ, List.getElem_cons_zero, List.setIfInBounds_toArray, List.set_cons_zero, List.set_cons_succ]
                        refine wpAnyH_take (i := 5) (v := .pointer (some ⟨kb, ko + j * 4, none⟩)) rfl (by kernel_rfl) (by kernel_rfl) (by kernel_rfl) (fun _ _ _ h => h) (Or.inl ⟨by rfl, ?_⟩) hS ?_
                        · intro w' hSw
                          obtain ⟨s0, s1, s2, s3, s4, s5, s6, s7, s8, s9, s10⟩ := hSw
                          go_simp
                        simp only [Act.put, List.getElem_toArray, List.getElem_cons_succ, List.getElem_cons_zero, List.setIfInBounds_toArray, List.set_cons_zero, List.set_cons_succ]
                        refine wpAnyH_take (i := 6) (v := .agg #[.int .u64 q.num, .slice qba q.bytes.length qbc, .slice qa q.kids.length qc, .bool false]) rfl (by kernel_rfl) (by kernel_rfl) (by kernel_rfl) (fun _ _ _ h => h) (Or.inl ⟨by rfl, ?_⟩) hS ?_
                        · intro w' hSw
                          obtain ⟨s0, s1, s2, s3, s4, s5, s6, s7, s8, s9, s10⟩ := hSw
                          go_simp
                        simp only [Act.put, List.getElem_toArray, List.getElem_cons_succ, List.getElem_cons_zero, List.setIfInBounds_toArray, List.set_cons_zero, List.set_cons_succ]
                        refine wpAnyH_take (i := 7) (v := .int .i64 room) rfl (by kernel_rfl) (by kernel_rfl) (by kernel_rfl) (fun _ _ _ h => h) (Or.inl ⟨by rfl, ?_⟩) hS ?_
                        · intro w' hSw
                          obtain ⟨s0, s1, s2, s3, s4, s5, s6, s7, s8, s9, s10⟩ := hSw
                          go_simp
                        simp only [Act.put, List.getElem_toArray, List.getElem_cons_succ, List.getElem_cons_zero, List.setIfInBounds_toArray, List.set_cons_zero, List.set_cons_succ]
                        refine wpAnyH_take (i := 8) (v := .int .i64 r) rfl (by kernel_rfl) (by kernel_rfl) (by kernel_rfl) (fun _ _ _ h => h) (Or.inl ⟨by rfl, ?_⟩) hS ?_
                        · intro w' hSw
                          obtain ⟨s0, s1, s2, s3, s4, s5, s6, s7, s8, s9, s10⟩ := hSw
                          go_simp
                        simp only [Act.put, List.getElem_toArray, List.getElem_cons_succ, List.getElem_cons_zero, List.setIfInBounds_toArray, List.set_cons_zero, List.set_cons_succ]
                        refine wpAnyH_ready (rs := [9]) (by kernel_rfl) (by decide) (AllReadyH.cons rfl (fun K hK => ?_) AllReadyH.nil)
                        rw [if_pos (by kernel_rfl)]
                        go_simp
                        refine (HFQ.out _ (Below.refl _ wr).drew).mono ?_
                        rintro e W3 ⟨rfl, hb3⟩
                        have hx : Below wr.heap.size wr W3 := (Below.refl _ wr).drew.trans hb3
                        rw [hfb]
                        have HB3 := Lib.hid (HBW.out.trans (hx.mono HBW.out.size))
                        have k0 := cell_stays hx s0
                        have k1 := cell_stays hx s1
                        have k2 := cell_stays hx s2
                        have k3 := cell_stays hx e0
                        have k4 := cell_stays hx e1
                        have k5 := cell_stays hx e2
                        have k6 := cell_stays hx v2
                        have k7 := cell_stays hx c0
                        have k8 := cell_stays hx c1
                        have k9 := cell_stays hx c2
                        have k10 := cell_stays hx c3
                        refine hK.out _ _ ⟨k0, k1, k2, k3, k4, k5, k6, k7, k8, k9, k10⟩ (fun hS => ?_)
                        refine wpAnyH_take (i := 10) (v := .bool false) rfl (by kernel_rfl) (by kernel_rfl) (by kernel_rfl) (fun _ _ _ h => h) (Or.inl ⟨by rfl, ?_⟩) hS ?_
                        · intro w' hSw
                          obtain ⟨s0, s1, s2, s3, s4, s5, s6, s7, s8, s9, s10⟩ := hSw
                          go_simp
                        simp only [Act.put, List.getElem_toArray, List.getElem_cons_succ, List.getElem_cons_zero, List.setIfInBounds_toArray, List.set_cons_zero, List.set_cons_succ]
                        refine wpAnyH_take (i := 11) (v := .bool false) rfl (by kernel_rfl) (by kernel_rfl) (by kernel_rfl) (fun _ _ _ h => h) (Or.inl ⟨by rfl, ?_⟩) hS ?_
                        · intro w' hSw
                          obtain ⟨s0, s1, s2, s3, s4, s5, s6, s7, s8, s9, s10⟩ := hSw
                          go_simp
                        simp only [Act.put, List.getElem_toArray, List.getElem_cons_succ, List.getElem_cons_zero, List.setIfInBounds_toArray, List.set_cons_zero, List.set_cons_succ]
                        refine wpAnyH_take (i := 12) (v := .pointer (some ⟨E, 2, none⟩)) rfl (by kernel_rfl) (by kernel_rfl) (by kernel_rfl) (fun _ _ _ h => h) (Or.inl ⟨by rfl, ?_⟩) hS ?_
                        · intro w' hSw
                          obtain ⟨s0, s1, s2, s3, s4, s5, s6, s7, s8, s9, s10⟩ := hSw
                          go_simp
                        simp only [Act.put, List.getElem_toArray, List.getElem_cons_succ, List.getElem_cons_zero, List.setIfInBounds_toArray, List.set_cons_zero, List.set_cons_succ]
                        refine wpAnyH_take (i := 13) (v := .int .i64 l1) rfl (by kernel_rfl) (by kernel_rfl) (by kernel_rfl) (fun _ _ _ h => h) (Or.inl ⟨by rfl, ?_⟩) hS ?_
                        · intro w' hSw
                          obtain ⟨s0, s1, s2, s3, s4, s5, s6, s7, s8, s9, s10⟩ := hSw
                          go_simp
                        simp only [Act.put, List.getElem_toArray, List.getElem_cons_succ, List.getElem_cons_zero, List.setIfInBounds_toArray, List.set_cons_zero, List.set_cons_succ]
                        refine wpAnyH_take (i := 14) (v := .bool true) rfl (by kernel_rfl) (by kernel_rfl) (by kernel_rfl) (fun _ _ _ h => h) (Or.inl ⟨by rfl, ?_⟩) hS ?_
                        · intro w' hSw
                          obtain ⟨s0, s1, s2, s3, s4, s5, s6, s7, s8, s9, s10⟩ := hSw
                          go_simp
                        simp only [Act.put, List.getElem_toArray, List.getElem_cons_succ, List.getElem_cons_zero, List.setIfInBounds_toArray, List.set_cons_zero, List.set_cons_succ]
                        refine wpAnyH_take (i := 15) (v := .bool true) rfl (by kernel_rfl) (by kernel_rfl) (by kernel_rfl) (fun _ _ _ h => h) (Or.inl ⟨by rfl, ?_⟩) hS ?_
                        · intro w' hSw
                          obtain ⟨s0, s1, s2, s3, s4, s5, s6, s7, s8, s9, s10⟩ := hSw
                          go_simp
                        simp only [Act.put, List.getElem_toArray, List.getElem_cons_succ, List.getElem_cons_zero, List.setIfInBounds_toArray, List.set_cons_zero, List.set_cons_succ]
                        refine wpAnyH_take (i := 16) (v := .pointer (some ⟨E, 0, none⟩)) rfl (by kernel_rfl) (by kernel_rfl) (by kernel_rfl) (fun _ _ _ h => h) (Or.inl ⟨by rfl, ?_⟩) hS ?_
                        · intro w' hSw
                          obtain ⟨s0, s1, s2, s3, s4, s5, s6, s7, s8, s9, s10⟩ := hSw
                          go_simp
                        simp only [Act.put, List.getElem_toArray, List.getElem_cons_succ, List.getElem_cons_zero, List.setIfInBounds_toArray, List.set_cons_zero, List.set_cons_succ]
                        refine wpAnyH_take (i := 17) (v := .int .u8 k) rfl (by kernel_rfl) (by kernel_rfl) (by kernel_rfl) (fun _ _ _ h => h) (Or.inl ⟨by rfl, ?_⟩) hS ?_
                        · intro w' hSw
                          obtain ⟨s0, s1, s2, s3, s4, s5, s6, s7, s8, s9, s10⟩ := hSw
                          go_simp
                        simp only [Act.put, List.getElem_toArray, List.getElem_cons_succ, List.getElem_cons_zero, List.setIfInBounds_toArray, List.set_cons_zero, List.set_cons_succ]
                        refine wpAnyH_take (i := 18) (v := .bool true) rfl (by kernel_rfl) (by kernel_rfl) (by kernel_rfl) (fun _ _ _ h => h) (Or.inl ⟨by rfl, ?_⟩) hS ?_
                        · intro w' hSw
                          obtain ⟨s0, s1, s2, s3, s4, s5, s6, s7, s8, s9, s10⟩ := hSw
                          go_simp
                        simp only [Act.put, List.getElem_toArray, List.getElem_cons_succ, List.getElem_cons_zero, List.setIfInBounds_toArray, List.set_cons_zero, List.set_cons_succ]
                        refine wpAnyH_take (i := 19) (v := .bool true) rfl (by kernel_rfl) (by kernel_rfl) (by kernel_rfl) (fun _ _ _ h => h) (Or.inl ⟨by rfl, ?_⟩) hS ?_
                        · intro w' hSw
                          obtain ⟨s0, s1, s2, s3, s4, s5, s6, s7, s8, s9, s10⟩ := hSw
                          go_simp
                        simp only [Act.put, List.getElem_toArray, List.getElem_cons_succ, List.getElem_cons_zero, List.setIfInBounds_toArray, List.set_cons_zero, List.set_cons_succ]
                        refine wpAnyH_take (i := 20) (v := .bool true) rfl (by kernel_rfl) (by kernel_rfl) (by kernel_rfl) (fun _ _ _ h => h) (Or.inl ⟨by rfl, ?_⟩) hS ?_
                        · intro w' hSw
                          obtain ⟨s0, s1, s2, s3, s4, s5, s6, s7, s8, s9, s10⟩ := hSw
                          go_simp
                        simp only [Act.put, List.getElem_toArray, List.getElem_cons_succ, List.getElem_cons_zero, List.setIfInBounds_toArray, List.set_cons_zero, List.set_cons_succ]
                        refine wpAnyH_take (i := 21) (v := .pointer (some ⟨V, 2, none⟩)) rfl (by kernel_rfl) (by kernel_rfl) (by kernel_rfl) (fun _ _ _ h => h) (Or.inl ⟨by rfl, ?_⟩) hS ?_
                        · intro w' hSw
                          obtain ⟨s0, s1, s2, s3, s4, s5, s6, s7, s8, s9, s10⟩ := hSw
                          go_simp
                        simp only [Act.put, List.getElem_toArray, List.getElem_cons_succ, List.getElem_cons_zero, List.setIfInBounds_toArray, List.set_cons_zero, List.set_cons_succ]
                        refine wpAnyH_take (i := 22) (v := .slice (some ⟨kb, ko, none⟩) ks.length kc) rfl (by kernel_rfl) (by kernel_rfl) (by kernel_rfl) (fun _ _ _ h => h) (Or.inl ⟨by rfl, ?_⟩) hS ?_
                        · intro w' hSw
                          obtain ⟨s0, s1, s2, s3, s4, s5, s6, s7, s8, s9, s10⟩ := hSw
                          go_simp
                        simp only [Act.put, List.getElem_toArray, List.getElem_cons_succ, List.getElem_cons_zero, List.setIfInBounds_toArray, List.set_cons_zero, List.set_cons_succ]
                        refine wpAnyH_take (i := 23) (v := .int .i64 j) rfl (by kernel_rfl) (by kernel_rfl) (by kernel_rfl) (fun _ _ _ h => h) (Or.inl ⟨by rfl, ?_⟩) hS ?_
                        · intro w' hSw
                          obtain ⟨s0, s1, s2, s3, s4, s5, s6, s7, s8, s9, s10⟩ := hSw
                          go_simp
                        simp only [Act.put, List.getElem_toArray, List.getElem_cons_succ, List.getElem_cons_zero, List.setIfInBounds_toArray, List.set_cons_zero, List.set_cons_succ]
                        refine wpAnyH_take (i := 24) (v := .pointer (some ⟨kb, ko + j * 4, none⟩)) rfl (by kernel_rfl) (by kernel_rfl) (by kernel_rfl) (fun _ _ _ h => h) (Or.inl ⟨by rfl, ?_⟩) hS ?_
                        · intro w' hSw
                          obtain ⟨s0, s1, s2, s3, s4, s5, s6, s7, s8, s9, s10⟩ := hSw
                          go_simp
                        simp only [Act.put, List.getElem_toArray, List.getElem_cons_succ, List.getElem_cons_zero, List.setIfInBounds_toArray, List.set_cons_zero, List.set_cons_succ]
                        refine wpAnyH_take (i := 25) (v := .pointer (some ⟨kb, ko + j * 4 + 3, none⟩)) rfl (by kernel_rfl) (by kernel_rfl) (by kernel_rfl) (fun _ _ _ h => h) (Or.inl ⟨by rfl, ?_⟩) hS ?_
                        · intro w' hSw
                          obtain ⟨s0, s1, s2, s3, s4, s5, s6, s7, s8, s9, s10⟩ := hSw
                          go_simp
                        simp only [Act.put, List.getElem_toArray, List.getElem_cons_succ, List.getElem_cons_zero, List.setIfInBounds_toArray, List.set_cons_zero, List.set_cons_succ]
                        refine wpAnyH_take (i := 26) (v := .bool false) rfl (by kernel_rfl) (by kernel_rfl) (by kernel_rfl) (fun _ _ _ h => h) (Or.inl ⟨by rfl, ?_⟩) hS ?_
                        · intro w' hSw
                          obtain ⟨s0, s1, s2, s3, s4, s5, s6, s7, s8, s9, s10⟩ := hSw
                          go_simp
                        simp only [Act.put, List.getElem_toArray, List.getElem_cons_succ, List.getElem_cons_zero, List.setIfInBounds_toArray, List.set_cons_zero, List.set_cons_succ]
                        refine wpAnyH_take (i := 27) (v := .bool true) rfl (by kernel_rfl) (by kernel_rfl) (by kernel_rfl) (fun _ _ _ h => h) (Or.inl ⟨by rfl, ?_⟩) hS ?_
                        · intro w' hSw
                          obtain ⟨s0, s1, s2, s3, s4, s5, s6, s7, s8, s9, s10⟩ := hSw
                          go_simp
                        simp only [Act.put, List.getElem_toArray, List.getElem_cons_succ, List.getElem_cons_zero, List.setIfInBounds_toArray, List.set_cons_zero, List.set_cons_succ]
                        refine wpAnyH_take (i := 28) (v := .bool true) rfl (by kernel_rfl) (by kernel_rfl) (by kernel_rfl) (fun _ _ _ h => h) (Or.inl ⟨by rfl, ?_⟩) hS ?_
                        · intro w' hSw
                          obtain ⟨s0, s1, s2, s3, s4, s5, s6, s7, s8, s9, s10⟩ := hSw
                          go_simp
                        simp only [Act.put, List.getElem_toArray, List.getElem_cons_succ, List.getElem_cons_zero, List.setIfInBounds_toArray, List.set_cons_zero, List.set_cons_succ]
                        refine wpAnyH_take (i := 29) (v := .bool true) rfl (by kernel_rfl) (by kernel_rfl) (by kernel_rfl) (fun _ _ _ h => h) (Or.inl ⟨by rfl, ?_⟩) hS ?_
                        · intro w' hSw
                          obtain ⟨s0, s1, s2, s3, s4, s5, s6, s7, s8, s9, s10⟩ := hSw
                          go_simp
                        simp only [Act.put, List.getElem_toArray, List.getElem_cons_succ, List.getElem_cons_zero, List.setIfInBounds_toArray, List.set_cons_zero, List.set_cons_succ]
                        refine wpAnyH_done (by kernel_rfl) ?_ _
                        refine NoPanic.normal ?_
                        simp only [Exit.then]
                        go_wp2
                        go_ret
                        exact ⟨ret_bool HN.out.symm, HB1.out.trans (HB3.out.mono HB1.out.size)⟩
                      | true =>
                        have HY : Hid (P q = true) := Lib.hid (by rw [HPQ.out, hs4, hfb]; rfl)
                        clear h13 hl1z
                        go_upto_region 9 with (fail)
                        refine wp_region_noPanic ?_
                        refine wp_region_held_drew (S := (fun w' => w'.cell? ⟨w.heap.size, 0, none⟩ = some (.slice sa ss.length sc) ∧ w'.cell? ⟨w.heap.size, 1, none⟩ = some (.slice ea es.length ec) ∧ w'.cell? ⟨w.heap.size, 2, none⟩ = some (.int .i64 root) ∧ w'.cell? ⟨E, 0, none⟩ = some (.int .u8 k) ∧ w'.cell? ⟨E, 1, none⟩ = some (.int .i64 ref) ∧ w'.cell? ⟨E, 2, none⟩ = some (.int .i64 l1) ∧ w'.cell? ⟨V, 2, none⟩ = some (.slice (some ⟨kb, ko, none⟩) ks.length kc) ∧ w'.cell? ⟨kb, ko + j * 4, none⟩ = some (.int .u64 q.num) ∧ w'.cell? ⟨kb, ko + j * 4 + 1, none⟩ = some (.slice qba q.bytes.length qbc) ∧ w'.cell? ⟨kb, ko + j * 4 + 2, none⟩ = some (.slice qa q.kids.length qc) ∧ w'.cell? ⟨kb, ko + j * 4 + 3, none⟩ = some (.bool true))) (by kernel_rfl) ⟨s0, s1, s2, e0, e1, e2, v2, c0, c1, c2, c3⟩ ?_
                        intro hS
                        refine wpAnyH_take (i := 0) (v := .agg #[.slice sa ss.length sc, .slice ea es.length ec, .int .i64 root]) rfl (by kernel_rfl) (by kernel_rfl) (by kernel_rfl) (fun _ _ _ h => h) (Or.inl ⟨by rfl, ?_⟩) hS ?_
                        · intro w' hSw
                          obtain ⟨s0, s1, s2, s3, s4, s5, s6, s7, s8, s9, s10⟩ := hSw
                          go_simp
                        simp only [Act.put, List.getElem_toArray, List.getElem_cons_zero, List.setIfInBounds_toArray, List.set_cons_zero, List.set_cons_succ]
                        refine wpAnyH_take (i := 1) (v := .agg #[.int .u8 k, .int .i64 ref, .int .i64 l1]) rfl (by kernel_rfl) (by kernel_rfl) (by kernel_rfl) (fun _ _ _ h => h) (Or.inl ⟨by rfl, ?_⟩) hS ?_
                        · intro w' hSw
                          obtain ⟨s0, s1, s2, s3, s4, s5, s6, s7, s8, s9, s10⟩ := hSw
                          go_simp
                        simp only [Act.put, List.getElem_toArray, List.getElem_cons_succ, List.getElem_cons_zero, List.setIfInBounds_toArray, List.set_cons_zero, List.set_cons_succ]
                        refine wpAnyH_take (i := 2) (v := .pointer (some ⟨V, 2, none⟩)) rfl (by kernel_rfl) (by kernel_rfl) (by kernel_rfl) (fun _ _ _ h => h) (Or.inl ⟨by rfl, ?_⟩) hS ?_
                        · intro w' hSw
                          obtain ⟨s0, s1, s2, s3, s4, s5, s6, s7, s8, s9, s10⟩ := hSw
                          go_simp
                        simp only [Act.put, List.getElem_toArray, List.getElem_cons_succ, List.getElem_cons_zero, List.setIfInBounds_toArray, List.set_cons_zero, List.set_cons_succ]
                        refine wpAnyH_take (i := 3) (v := .slice (some ⟨kb, ko, none⟩) ks.length kc) rfl (by kernel_rfl) (by kernel_rfl) (by kernel_rfl) (fun _ _ _ h => h) (Or.inl ⟨by rfl, ?_⟩) hS ?_
                        · intro w' hSw
                          obtain ⟨s0, s1, s2, s3, s4, s5, s6, s7, s8, s9, s10⟩ := hSw
                          go_simp
                        simp only [Act.put, List.getElem_toArray, List.getElem_cons_succ, List.getElem_cons_zero, List.setIfInBounds_toArray, List.set_cons_zero, List.set_cons_succ]
                        refine wpAnyH_take (i := 4) (v := .int .i64 j) rfl (by kernel_rfl) (by kernel_rfl) (by kernel_rfl) (fun _ _ _ h => h) (Or.inl ⟨by rfl, ?_⟩) hS ?_
                        · intro w' hSw
                          obtain ⟨s0, s1, s2, s3, s4, s5, s6, s7, s8, s9, s10⟩ := hSw
                          go_simp
                        simp only [Act.put, List.getElem_toArray, List.getElem_cons_succ, List.getElem_cons_zero, List.setIfInBounds_toArray, List.set_cons_zero, List.set_cons_succ]
                        refine wpAnyH_take (i := 5) (v := .pointer (some ⟨kb, ko + j * 4, none⟩)) rfl (by kernel_rfl) (by kernel_rfl) (by kernel_rfl) (fun _ _ _ h => h) (Or.inl ⟨by rfl, ?_⟩) hS ?_
                        · intro w' hSw
                          obtain ⟨s0, s1, s2, s3, s4, s5, s6, s7, s8, s9, s10⟩ := hSw
                          go_simp
                        simp only [Act.put, List.getElem_toArray, List.getElem_cons_succ, List.getElem_cons_zero, List.setIfInBounds_toArray, List.set_cons_zero, List.set_cons_succ]
                        refine wpAnyH_take (i := 6) (v := .agg #[.int .u64 q.num, .slice qba q.bytes.length qbc, .slice qa q.kids.length qc, .bool true]) rfl (by kernel_rfl) (by kernel_rfl) (by kernel_rfl) (fun _ _ _ h => h) (Or.inl ⟨by rfl, ?_⟩) hS ?_
                        · intro w' hSw
                          obtain ⟨s0, s1, s2, s3, s4, s5, s6, s7, s8, s9, s10⟩ := hSw
                          go_simp
                        simp only [Act.put, List.getElem_toArray, List.getElem_cons_succ, List.getElem_cons_zero, List.setIfInBounds_toArray, List.set_cons_zero, List.set_cons_succ]
                        refine wpAnyH_take (i := 7) (v := .int .i64 room) rfl (by kernel_rfl) (by kernel_rfl) (by kernel_rfl) (fun _ _ _ h => h) (Or.inl ⟨by rfl, ?_⟩) hS ?_
                        · intro w' hSw
                          obtain ⟨s0, s1, s2, s3, s4, s5, s6, s7, s8, s9, s10⟩ := hSw
                          go_simp
                        simp only [Act.put, List.getElem_toArray, List.getElem_cons_succ, List.getElem_cons_zero, List.setIfInBounds_toArray, List.set_cons_zero, List.set_cons_succ]
                        refine wpAnyH_take (i := 8) (v := .int .i64 r) rfl (by kernel_rfl) (by kernel_rfl) (by kernel_rfl) (fun _ _ _ h => h) (Or.inl ⟨by rfl, ?_⟩) hS ?_
                        · intro w' hSw
                          obtain ⟨s0, s1, s2, s3, s4, s5, s6, s7, s8, s9, s10⟩ := hSw
                          go_simp
                        simp only [Act.put, List.getElem_toArray, List.getElem_cons_succ, List.getElem_cons_zero, List.setIfInBounds_toArray, List.set_cons_zero, List.set_cons_succ]
                        refine wpAnyH_ready (rs := [9]) (by kernel_rfl) (by decide) (AllReadyH.cons rfl (fun K hK => ?_) AllReadyH.nil)
                        rw [if_pos (by kernel_rfl)]
                        go_simp
                        refine (HFQ.out _ (Below.refl _ wr).drew).mono ?_
                        rintro e W3 ⟨rfl, hb3⟩
                        have hx : Below wr.heap.size wr W3 := (Below.refl _ wr).drew.trans hb3
                        rw [hfb]
                        have HB3 := Lib.hid (HBW.out.trans (hx.mono HBW.out.size))
                        have k0 := cell_stays hx s0
                        have k1 := cell_stays hx s1
                        have k2 := cell_stays hx s2
                        have k3 := cell_stays hx e0
                        have k4 := cell_stays hx e1
                        have k5 := cell_stays hx e2
                        have k6 := cell_stays hx v2
                        have k7 := cell_stays hx c0
                        have k8 := cell_stays hx c1
                        have k9 := cell_stays hx c2
                        have k10 := cell_stays hx c3
                        refine hK.out _ _ ⟨k0, k1, k2, k3, k4, k5, k6, k7, k8, k9, k10⟩ (fun hS => ?_)
                        refine wpAnyH_take (i := 10) (v := .bool false) rfl (by kernel_rfl) (by kernel_rfl) (by kernel_rfl) (fun _ _ _ h => h) (Or.inl ⟨by rfl, ?_⟩) hS ?_
                        · intro w' hSw
                          obtain ⟨s0, s1, s2, s3, s4, s5, s6, s7, s8, s9, s10⟩ := hSw
                          go_simp
                        simp only [Act.put, List.getElem_toArray, List.getElem_cons_succ, List.getElem_cons_zero, List.setIfInBounds_toArray, List.set_cons_zero, List.set_cons_succ]
                        refine wpAnyH_take (i := 11) (v := .bool false) rfl (by kernel_rfl) (by kernel_rfl) (by kernel_rfl) (fun _ _ _ h => h) (Or.inl ⟨by rfl, ?_⟩) hS ?_
                        · intro w' hSw
                          obtain ⟨s0, s1, s2, s3, s4, s5, s6, s7, s8, s9, s10⟩ := hSw
                          go_simp
                        simp only [Act.put, List.getElem_toArray, List.getElem_cons_succ, List.getElem_cons_zero, List.setIfInBounds_toArray, List.set_cons_zero, List.set_cons_succ]
                        refine wpAnyH_take (i := 12) (v := .pointer (some ⟨E, 2, none⟩)) rfl (by kernel_rfl) (by kernel_rfl) (by kernel_rfl) (fun _ _ _ h => h) (Or.inl ⟨by rfl, ?_⟩) hS ?_
                        · intro w' hSw
                          obtain ⟨s0, s1, s2, s3, s4, s5, s6, s7, s8, s9, s10⟩ := hSw
                          go_simp
                        simp only [Act.put, List.getElem_toArray, List.getElem_cons_succ, List.getElem_cons_zero, List.setIfInBounds_toArray, List.set_cons_zero, List.set_cons_succ]
                        refine wpAnyH_take (i := 13) (v := .int .i64 l1) rfl (by kernel_rfl) (by kernel_rfl) (by kernel_rfl) (fun _ _ _ h => h) (Or.inl ⟨by rfl, ?_⟩) hS ?_
                        · intro w' hSw
                          obtain ⟨s0, s1, s2, s3, s4, s5, s6, s7, s8, s9, s10⟩ := hSw
                          go_simp
                        simp only [Act.put, List.getElem_toArray, List.getElem_cons_succ, List.getElem_cons_zero, List.setIfInBounds_toArray, List.set_cons_zero, List.set_cons_succ]
                        refine wpAnyH_take (i := 14) (v := .bool true) rfl (by kernel_rfl) (by kernel_rfl) (by kernel_rfl) (fun _ _ _ h => h) (Or.inl ⟨by rfl, ?_⟩) hS ?_
                        · intro w' hSw
                          obtain ⟨s0, s1, s2, s3, s4, s5, s6, s7, s8, s9, s10⟩ := hSw
                          go_simp
                        simp only [Act.put, List.getElem_toArray, List.getElem_cons_succ, List.getElem_cons_zero, List.setIfInBounds_toArray, List.set_cons_zero, List.set_cons_succ]
                        refine wpAnyH_take (i := 15) (v := .bool true) rfl (by kernel_rfl) (by kernel_rfl) (by kernel_rfl) (fun _ _ _ h => h) (Or.inl ⟨by rfl, ?_⟩) hS ?_
                        · intro w' hSw
                          obtain ⟨s0, s1, s2, s3, s4, s5, s6, s7, s8, s9, s10⟩ := hSw
                          go_simp
                        simp only [Act.put, List.getElem_toArray, List.getElem_cons_succ, List.getElem_cons_zero, List.setIfInBounds_toArray, List.set_cons_zero, List.set_cons_succ]
                        refine wpAnyH_take (i := 16) (v := .pointer (some ⟨E, 0, none⟩)) rfl (by kernel_rfl) (by kernel_rfl) (by kernel_rfl) (fun _ _ _ h => h) (Or.inl ⟨by rfl, ?_⟩) hS ?_
                        · intro w' hSw
                          obtain ⟨s0, s1, s2, s3, s4, s5, s6, s7, s8, s9, s10⟩ := hSw
                          go_simp
                        simp only [Act.put, List.getElem_toArray, List.getElem_cons_succ, List.getElem_cons_zero, List.setIfInBounds_toArray, List.set_cons_zero, List.set_cons_succ]
                        refine wpAnyH_take (i := 17) (v := .int .u8 k) rfl (by kernel_rfl) (by kernel_rfl) (by kernel_rfl) (fun _ _ _ h => h) (Or.inl ⟨by rfl, ?_⟩) hS ?_
                        · intro w' hSw
                          obtain ⟨s0, s1, s2, s3, s4, s5, s6, s7, s8, s9, s10⟩ := hSw
                          go_simp
                        simp only [Act.put, List.getElem_toArray, List.getElem_cons_succ, List.getElem_cons_zero, List.setIfInBounds_toArray, List.set_cons_zero, List.set_cons_succ]
                        refine wpAnyH_take (i := 18) (v := .bool true) rfl (by kernel_rfl) (by kernel_rfl) (by kernel_rfl) (fun _ _ _ h => h) (Or.inl ⟨by rfl, ?_⟩) hS ?_
                        · intro w' hSw
                          obtain ⟨s0, s1, s2, s3, s4, s5, s6, s7, s8, s9, s10⟩ := hSw
                          go_simp
                        simp only [Act.put, List.getElem_toArray, List.getElem_cons_succ, List.getElem_cons_zero, List.setIfInBounds_toArray, List.set_cons_zero, List.set_cons_succ]
                        refine wpAnyH_take (i := 19) (v := .bool true) rfl (by kernel_rfl) (by kernel_rfl) (by kernel_rfl) (fun _ _ _ h => h) (Or.inl ⟨by rfl, ?_⟩) hS ?_
                        · intro w' hSw
                          obtain ⟨s0, s1, s2, s3, s4, s5, s6, s7, s8, s9, s10⟩ := hSw
                          go_simp
                        simp only [Act.put, List.getElem_toArray, List.getElem_cons_succ, List.getElem_cons_zero, List.setIfInBounds_toArray, List.set_cons_zero, List.set_cons_succ]
                        refine wpAnyH_take (i := 20) (v := .bool true) rfl (by kernel_rfl) (by kernel_rfl) (by kernel_rfl) (fun _ _ _ h => h) (Or.inl ⟨by rfl, ?_⟩) hS ?_
                        · intro w' hSw
                          obtain ⟨s0, s1, s2, s3, s4, s5, s6, s7, s8, s9, s10⟩ := hSw
                          go_simp
                        simp only [Act.put, List.getElem_toArray, List.getElem_cons_succ, List.getElem_cons_zero, List.setIfInBounds_toArray, List.set_cons_zero, List.set_cons_succ]
                        refine wpAnyH_take (i := 21) (v := .pointer (some ⟨V, 2, none⟩)) rfl (by kernel_rfl) (by kernel_rfl) (by kernel_rfl) (fun _ _ _ h => h) (Or.inl ⟨by rfl, ?_⟩) hS ?_
                        · intro w' hSw
                          obtain ⟨s0, s1, s2, s3, s4, s5, s6, s7, s8, s9, s10⟩ := hSw
                          go_simp
                        simp only [Act.put, List.getElem_toArray, List.getElem_cons_succ, List.getElem_cons_zero, List.setIfInBounds_toArray, List.set_cons_zero, List.set_cons_succ]
                        refine wpAnyH_take (i := 22) (v := .slice (some ⟨kb, ko, none⟩) ks.length kc) rfl (by kernel_rfl) (by kernel_rfl) (by kernel_rfl) (fun _ _ _ h => h) (Or.inl ⟨by rfl, ?_⟩) hS ?_
                        · intro w' hSw
                          obtain ⟨s0, s1, s2, s3, s4, s5, s6, s7, s8, s9, s10⟩ := hSw
                          go_simp
                        simp only [Act.put, List.getElem_toArray, List.getElem_cons_succ, List.getElem_cons_zero, List.setIfInBounds_toArray, List.set_cons_zero, List.set_cons_succ]
                        refine wpAnyH_take (i := 23) (v := .int .i64 j) rfl (by kernel_rfl) (by kernel_rfl) (by kernel_rfl) (fun _ _ _ h => h) (Or.inl ⟨by rfl, ?_⟩) hS ?_
                        · intro w' hSw
                          obtain ⟨s0, s1, s2, s3, s4, s5, s6, s7, s8, s9, s10⟩ := hSw
                          go_simp
                        simp only [Act.put, List.getElem_toArray, List.getElem_cons_succ, List.getElem_cons_zero, List.setIfInBounds_toArray, List.set_cons_zero, List.set_cons_succ]
                        refine wpAnyH_take (i := 24) (v := .pointer (some ⟨kb, ko + j * 4, none⟩)) rfl (by kernel_rfl) (by kernel_rfl) (by kernel_rfl) (fun _ _ _ h => h) (Or.inl ⟨by rfl, ?_⟩) hS ?_
                        · intro w' hSw
                          obtain ⟨s0, s1, s2, s3, s4, s5, s6, s7, s8, s9, s10⟩ := hSw
                          go_simp
                        simp only [Act.put, List.getElem_toArray, List.getElem_cons_succ, List.getElem_cons_zero, List.setIfInBounds_toArray, List.set_cons_zero, List.set_cons_succ]
                        refine wpAnyH_take (i := 25) (v := .pointer (some ⟨kb, ko + j * 4 + 3, none⟩)) rfl (by kernel_rfl) (by kernel_rfl) (by kernel_rfl) (fun _ _ _ h => h) (Or.inl ⟨by rfl, ?_⟩) hS ?_
                        · intro w' hSw
                          obtain ⟨s0, s1, s2, s3, s4, s5, s6, s7, s8, s9, s10⟩ := hSw
                          go_simp
                        simp only [Act.put, List.getElem_toArray, List.getElem_cons_succ, List.getElem_cons_zero, List.setIfInBounds_toArray, List.set_cons_zero, List.set_cons_succ]
                        refine wpAnyH_take (i := 26) (v := .bool true) rfl (by kernel_rfl) (by kernel_rfl) (by kernel_rfl) (fun _ _ _ h => h) (Or.inl ⟨by rfl, ?_⟩) hS ?_
                        · intro w' hSw
                          obtain ⟨s0, s1, s2, s3, s4, s5, s6, s7, s8, s9, s10⟩ := hSw
                          go_simp
                        simp only [Act.put, List.getElem_toArray, List.getElem_cons_succ, List.getElem_cons_zero, List.setIfInBounds_toArray, List.set_cons_zero, List.set_cons_succ]
                        refine wpAnyH_take (i := 27) (v := .bool false) rfl (by kernel_rfl) (by kernel_rfl) (by kernel_rfl) (fun _ _ _ h => h) (Or.inl ⟨by rfl, ?_⟩) hS ?_
                        · intro w' hSw
                          obtain ⟨s0, s1, s2, s3, s4, s5, s6, s7, s8, s9, s10⟩ := hSw
                          go_simp
                        simp only [Act.put, List.getElem_toArray, List.getElem_cons_succ, List.getElem_cons_zero, List.setIfInBounds_toArray, List.set_cons_zero, List.set_cons_succ]
                        refine wpAnyH_take (i := 28) (v := .bool false) rfl (by kernel_rfl) (by kernel_rfl) (by kernel_rfl) (fun _ _ _ h => h) (Or.inl ⟨by rfl, ?_⟩) hS ?_
                        · intro w' hSw
                          obtain ⟨s0, s1, s2, s3, s4, s5, s6, s7, s8, s9, s10⟩ := hSw
                          go_simp
                        simp only [Act.put, List.getElem_toArray, List.getElem_cons_succ, List.getElem_cons_zero, List.setIfInBounds_toArray, List.set_cons_zero, List.set_cons_succ]
                        refine wpAnyH_take (i := 29) (v := .bool false) rfl (by kernel_rfl) (by kernel_rfl) (by kernel_rfl) (fun _ _ _ h => h) (Or.inl ⟨by rfl, ?_⟩) hS ?_
                        · intro w' hSw
                          obtain ⟨s0, s1, s2, s3, s4, s5, s6, s7, s8, s9, s10⟩ := hSw
                          go_simp
                        simp only [Act.put, List.getElem_toArray, List.getElem_cons_succ, List.getElem_cons_zero, List.setIfInBounds_toArray, List.set_cons_zero, List.set_cons_succ]
                        refine wpAnyH_done (by kernel_rfl) ?_ _
                        refine NoPanic.normal ?_
                        simp only [Exit.then]
                        go_wp2
                        go_roundw
                        case rel => exact ⟨j + 1, by omega, by go_num, HB3.out, by rw [HAT.out, HALL.out, HY.out]; rfl⟩
                        case measure => simp [intOf]; omega
                    · have t13 : ((k : Int) == 13) = false := by simp; omega
                      have hs4 : sortP k l1 ≠ 4 := by rw [hl1z]; rcases tk_cases k hk1 hk2 with h | h | h <;> omega
                      have HY : Hid (P q = true) := Lib.hid (by rw [HPQ.out, decide_eq_false hs4, hfb]; rfl)
                      clear h13 hl1z hs4
                      go_upto_region 9 with (fail)
                      refine wp_region_noPanic ?_
                      refine wp_region_held_drew (S := (fun w' => w'.cell? ⟨w.heap.size, 0, none⟩ = some (.slice sa ss.length sc) ∧ w'.cell? ⟨w.heap.size, 1, none⟩ = some (.slice ea es.length ec) ∧ w'.cell? ⟨w.heap.size, 2, none⟩ = some (.int .i64 root) ∧ w'.cell? ⟨E, 0, none⟩ = some (.int .u8 k) ∧ w'.cell? ⟨E, 1, none⟩ = some (.int .i64 ref) ∧ w'.cell? ⟨E, 2, none⟩ = some (.int .i64 l1) ∧ w'.cell? ⟨V, 2, none⟩ = some (.slice (some ⟨kb, ko, none⟩) ks.length kc) ∧ w'.cell? ⟨kb, ko + j * 4, none⟩ = some (.int .u64 q.num) ∧ w'.cell? ⟨kb, ko + j * 4 + 1, none⟩ = some (.slice qba q.bytes.length qbc) ∧ w'.cell? ⟨kb, ko + j * 4 + 2, none⟩ = some (.slice qa q.kids.length qc) ∧ w'.cell? ⟨kb, ko + j * 4 + 3, none⟩ = some (.bool qh))) (by kernel_rfl) ⟨s0, s1, s2, e0, e1, e2, v2, c0, c1, c2, c3⟩ ?_
                      intro hS
                      refine wpAnyH_take (i := 0) (v := .agg #[.slice sa ss.length sc, .slice ea es.length ec, .int .i64 root]) rfl (by kernel_rfl) (by kernel_rfl) (by kernel_rfl) (fun _ _ _ h => h) (Or.inl ⟨by rfl, ?_⟩) hS ?_
                      · intro w' hSw
                        obtain ⟨s0, s1, s2, s3, s4, s5, s6, s7, s8, s9, s10⟩ := hSw
                        go_simp
                      simp only [Act.put, List.getElem_toArray, List.getElem_cons_zero, List.setIfInBounds_toArray, List.set_cons_zero, List.set_cons_succ]
                      refine wpAnyH_take (i := 1) (v := .agg #[.int .u8 k, .int .i64 ref, .int .i64 l1]) rfl (by kernel_rfl) (by kernel_rfl) (by kernel_rfl) (fun _ _ _ h => h) (Or.inl ⟨by rfl, ?_⟩) hS ?_
                      · intro w' hSw
                        obtain ⟨s0, s1, s2, s3, s4, s5, s6, s7, s8, s9, s10⟩ := hSw
                        go_simp
                      simp only [Act.put, List.getElem_toArray, List.getElem_cons_succ, List.getElem_cons_zero, List.setIfInBounds_toArray, List.set_cons_zero, List.set_cons_succ]
                      refine wpAnyH_take (i := 2) (v := .pointer (some ⟨V, 2, none⟩)) rfl (by kernel_rfl) (by kernel_rfl) (by kernel_rfl) (fun _ _ _ h => h) (Or.inl ⟨by rfl, ?_⟩) hS ?_
                      · intro w' hSw
                        obtain ⟨s0, s1, s2, s3, s4, s5, s6, s7, s8, s9, s10⟩ := hSw
                        go_simp
                      simp only [Act.put, List.getElem_toArray, List.getElem_cons_succ, List.getElem_cons_zero, List.setIfInBounds_toArray, List.set_cons_zero, List.set_cons_succ]
                      refine wpAnyH_take (i := 3) (v := .slice (some ⟨kb, ko, none⟩) ks.length kc) rfl (by kernel_rfl) (by kernel_rfl) (by kernel_rfl) (fun _ _ _ h => h) (Or.inl ⟨by rfl, ?_⟩) hS ?_
                      · intro w' hSw
                        obtain ⟨s0, s1, s2, s3, s4, s5, s6, s7, s8, s9, s10⟩ := hSw
                        go_simp
                      simp only [Act.put, List.getElem_toArray, List.getElem_cons_succ, List.getElem_cons_zero, List.setIfInBounds_toArray, List.set_cons_zero, List.set_cons_succ]
                      refine wpAnyH_take (i := 4) (v := .int .i64 j) rfl (by kernel_rfl) (by kernel_rfl) (by kernel_rfl) (fun _ _ _ h => h) (Or.inl ⟨by rfl, ?_⟩) hS ?_
                      · intro w' hSw
                        obtain ⟨s0, s1, s2, s3, s4, s5, s6, s7, s8, s9, s10⟩ := hSw
                        go_simp
                      simp only [Act.put, List.getElem_toArray, List.getElem_cons_succ, List.getElem_cons_zero, List.setIfInBounds_toArray, List.set_cons_zero, List.set_cons_succ]
                      refine wpAnyH_take (i := 5) (v := .pointer (some ⟨kb, ko + j * 4, none⟩)) rfl (by kernel_rfl) (by kernel_rfl) (by kernel_rfl) (fun _ _ _ h => h) (Or.inl ⟨by rfl, ?_⟩) hS ?_
                      · intro w' hSw
                        obtain ⟨s0, s1, s2, s3, s4, s5, s6, s7, s8, s9, s10⟩ := hSw
                        go_simp
                      simp only [Act.put, List.getElem_toArray, List.getElem_cons_succ, List.getElem_cons_zero, List.setIfInBounds_toArray, List.set_cons_zero, List.set_cons_succ]
                      refine wpAnyH_take (i := 6) (v := .agg #[.int .u64 q.num, .slice qba q.bytes.length qbc, .slice qa q.kids.length qc, .bool qh]) rfl (by kernel_rfl) (by kernel_rfl) (by kernel_rfl) (fun _ _ _ h => h) (Or.inl ⟨by rfl, ?_⟩) hS ?_
                      · intro w' hSw
                        obtain ⟨s0, s1, s2, s3, s4, s5, s6, s7, s8, s9, s10⟩ := hSw
                        go_simp
                      simp only [Act.put, List.getElem_toArray, List.getElem_cons_succ, List.getElem_cons_zero, List.setIfInBounds_toArray, List.set_cons_zero, List.set_cons_succ]
                      refine wpAnyH_take (i := 7) (v := .int .i64 room) rfl (by kernel_rfl) (by kernel_rfl) (by kernel_rfl) (fun _ _ _ h => h) (Or.inl ⟨by rfl, ?_⟩) hS ?_
                      · intro w' hSw
                        obtain ⟨s0, s1, s2, s3, s4, s5, s6, s7, s8, s9, s10⟩ := hSw
                        go_simp
                      simp only [Act.put, List.getElem_toArray, List.getElem_cons_succ, List.getElem_cons_zero, List.setIfInBounds_toArray, List.set_cons_zero, List.set_cons_succ]
                      refine wpAnyH_take (i := 8) (v := .int .i64 r) rfl (by kernel_rfl) (by kernel_rfl) (by kernel_rfl) (fun _ _ _ h => h) (Or.inl ⟨by rfl, ?_⟩) hS ?_
                      · intro w' hSw
                        obtain ⟨s0, s1, s2, s3, s4, s5, s6, s7, s8, s9, s10⟩ := hSw
                        go_simp
                      simp only [Act.put, List.getElem_toArray, List.getElem_cons_succ, List.getElem_cons_zero, List.setIfInBounds_toArray, List.set_cons_zero, List.set_cons_succ]
                      refine wpAnyH_ready (rs := [9]) (by kernel_rfl) (by decide) (AllReadyH.cons rfl (fun K hK => ?_) AllReadyH.nil)
                      rw [if_pos (by kernel_rfl)]
                      go_simp
                      refine (HFQ.out _ (Below.refl _ wr).drew).mono ?_
                      rintro e W3 ⟨rfl, hb3⟩
                      have hx : Below wr.heap.size wr W3 := (Below.refl _ wr).drew.trans hb3
                      rw [hfb]
                      have HB3 := Lib.hid (HBW.out.trans (hx.mono HBW.out.size))
                      have k0 := cell_stays hx s0
                      have k1 := cell_stays hx s1
                      have k2 := cell_stays hx s2
                      have k3 := cell_stays hx e0
                      have k4 := cell_stays hx e1
                      have k5 := cell_stays hx e2
                      have k6 := cell_stays hx v2
                      have k7 := cell_stays hx c0
                      have k8 := cell_stays hx c1
                      have k9 := cell_stays hx c2
                      have k10 := cell_stays hx c3
                      refine hK.out _ _ ⟨k0, k1, k2, k3, k4, k5, k6, k7, k8, k9, k10⟩ (fun hS => ?_)
                      refine wpAnyH_take (i := 10) (v := .bool false) rfl (by kernel_rfl) (by kernel_rfl) (by kernel_rfl) (fun _ _ _ h => h) (Or.inl ⟨by rfl, ?_⟩) hS ?_
                      · intro w' hSw
                        obtain ⟨s0, s1, s2, s3, s4, s5, s6, s7, s8, s9, s10⟩ := hSw
                        go_simp
                      simp only [Act.put, List.getElem_toArray, List.getElem_cons_succ, List.getElem_cons_zero, List.setIfInBounds_toArray, List.set_cons_zero, List.set_cons_succ]
                      refine wpAnyH_take (i := 11) (v := .bool false) rfl (by kernel_rfl) (by kernel_rfl) (by kernel_rfl) (fun _ _ _ h => h) (Or.inl ⟨by rfl, ?_⟩) hS ?_
                      · intro w' hSw
                        obtain ⟨s0, s1, s2, s3, s4, s5, s6, s7, s8, s9, s10⟩ := hSw
                        go_simp
                      simp only [Act.put, List.getElem_toArray, List.getElem_cons_succ, List.getElem_cons_zero, List.setIfInBounds_toArray, List.set_cons_zero, List.set_cons_succ]
                      refine wpAnyH_take (i := 12) (v := .pointer (some ⟨E, 2, none⟩)) rfl (by kernel_rfl) (by kernel_rfl) (by kernel_rfl) (fun _ _ _ h => h) (Or.inl ⟨by rfl, ?_⟩) hS ?_
                      · intro w' hSw
                        obtain ⟨s0, s1, s2, s3, s4, s5, s6, s7, s8, s9, s10⟩ := hSw
                        go_simp
                      simp only [Act.put, List.getElem_toArray, List.getElem_cons_succ, List.getElem_cons_zero, List.setIfInBounds_toArray, List.set_cons_zero, List.set_cons_succ]
                      refine wpAnyH_take (i := 13) (v := .int .i64 l1) rfl (by kernel_rfl) (by kernel_rfl) (by kernel_rfl) (fun _ _ _ h => h) (Or.inl ⟨by rfl, ?_⟩) hS ?_
                      · intro w' hSw
                        obtain ⟨s0, s1, s2, s3, s4, s5, s6, s7, s8, s9, s10⟩ := hSw
                        go_simp
                      simp only [Act.put, List.getElem_toArray, List.getElem_cons_succ, List.getElem_cons_zero, List.setIfInBounds_toArray, List.set_cons_zero, List.set_cons_succ]
                      refine wpAnyH_take (i := 14) (v := .bool true) rfl (by kernel_rfl) (by kernel_rfl) (by kernel_rfl) (fun _ _ _ h => h) (Or.inl ⟨by rfl, ?_⟩) hS ?_
                      · intro w' hSw
                        obtain ⟨s0, s1, s2, s3, s4, s5, s6, s7, s8, s9, s10⟩ := hSw
                        go_simp
                      simp only [Act.put, List.getElem_toArray, List.getElem_cons_succ, List.getElem_cons_zero, List.setIfInBounds_toArray, List.set_cons_zero, List.set_cons_succ]
                      refine wpAnyH_take (i := 15) (v := .bool true) rfl (by kernel_rfl) (by kernel_rfl) (by kernel_rfl) (fun _ _ _ h => h) (Or.inl ⟨by rfl, ?_⟩) hS ?_
                      · intro w' hSw
                        obtain ⟨s0, s1, s2, s3, s4, s5, s6, s7, s8, s9, s10⟩ := hSw
                        go_simp
                      simp only [Act.put, List.getElem_toArray, List.getElem_cons_succ, List.getElem_cons_zero, List.setIfInBounds_toArray, List.set_cons_zero, List.set_cons_succ]
                      refine wpAnyH_take (i := 16) (v := .pointer (some ⟨E, 0, none⟩)) rfl (by kernel_rfl) (by kernel_rfl) (by kernel_rfl) (fun _ _ _ h => h) (Or.inl ⟨by rfl, ?_⟩) hS ?_
                      · intro w' hSw
                        obtain ⟨s0, s1, s2, s3, s4, s5, s6, s7, s8, s9, s10⟩ := hSw
                        go_simp
                      simp only [Act.put, List.getElem_toArray, List.getElem_cons_succ, List.getElem_cons_zero, List.setIfInBounds_toArray, List.set_cons_zero, List.set_cons_succ]
                      refine wpAnyH_take (i := 17) (v := .int .u8 k) rfl (by kernel_rfl) (by kernel_rfl) (by kernel_rfl) (fun _ _ _ h => h) (Or.inl ⟨by rfl, ?_⟩) hS ?_
                      · intro w' hSw
                        obtain ⟨s0, s1, s2, s3, s4, s5, s6, s7, s8, s9, s10⟩ := hSw
                        go_simp
                      simp only [Act.put, List.getElem_toArray, List.getElem_cons_succ, List.getElem_cons_zero, List.setIfInBounds_toArray, List.set_cons_zero, List.set_cons_succ]
                      refine wpAnyH_take (i := 18) (v := .bool false) rfl (by kernel_rfl) (by kernel_rfl) (by kernel_rfl) (fun _ _ _ h => h) (Or.inl ⟨by rfl, ?_⟩) hS ?_
                      · intro w' hSw
                        obtain ⟨s0, s1, s2, s3, s4, s5, s6, s7, s8, s9, s10⟩ := hSw
                        go_simp
                      simp only [Act.put, List.getElem_toArray, List.getElem_cons_succ, List.getElem_cons_zero, List.setIfInBounds_toArray, List.set_cons_zero, List.set_cons_succ]
                      refine wpAnyH_take (i := 19) (v := .bool false) rfl (by kernel_rfl) (by kernel_rfl) (by kernel_rfl) (fun _ _ _ h => h) (Or.inl ⟨by rfl, ?_⟩) hS ?_
                      · intro w' hSw
                        obtain ⟨s0, s1, s2, s3, s4, s5, s6, s7, s8, s9, s10⟩ := hSw
                        go_simp
                      simp only [Act.put, List.getElem_toArray, List.getElem_cons_succ, List.getElem_cons_zero, List.setIfInBounds_toArray, List.set_cons_zero, List.set_cons_succ]
                      refine wpAnyH_take (i := 20) (v := .bool false) rfl (by kernel_rfl) (by kernel_rfl) (by kernel_rfl) (fun _ _ _ h => h) (Or.inl ⟨by rfl, ?_⟩) hS ?_
                      · intro w' hSw
                        obtain ⟨s0, s1, s2, s3, s4, s5, s6, s7, s8, s9, s10⟩ := hSw
                        go_simp
                      simp only [Act.put, List.getElem_toArray, List.getElem_cons_succ, List.getElem_cons_zero, List.setIfInBounds_toArray, List.set_cons_zero, List.set_cons_succ]
                      refine wpAnyH_take (i := 21) (v := undef) rfl (by kernel_rfl) (by kernel_rfl) (by kernel_rfl) (fun _ _ _ h => h) (Or.inr ⟨by kernel_rfl, rfl⟩) hS ?_
                      simp only [Act.put, List.getElem_toArray, List.getElem_cons_succ, List.getElem_cons_zero, List.setIfInBounds_toArray, List.set_cons_zero, List.set_cons_succ]
                      refine wpAnyH_take (i := 22) (v := undef) rfl (by kernel_rfl) (by kernel_rfl) (by kernel_rfl) (fun _ _ _ h => h) (Or.inr ⟨by kernel_rfl, rfl⟩) hS ?_
                      simp only [Act.put, List.getElem_toArray, List.getElem_cons_succ, List.getElem_cons_zero, List.setIfInBounds_toArray, List.set_cons_zero, List.set_cons_succ]
                      refine wpAnyH_take (i := 23) (v := undef) rfl (by kernel_rfl) (by kernel_rfl) (by kernel_rfl) (fun _ _ _ h => h) (Or.inr ⟨by kernel_rfl, rfl⟩) hS ?_
                      simp only [Act.put, List.getElem_toArray, List.getElem_cons_succ, List.getElem_cons_zero, List.setIfInBounds_toArray, List.set_cons_zero, List.set_cons_succ]
                      refine wpAnyH_take (i := 24) (v := undef) rfl (by kernel_rfl) (by kernel_rfl) (by kernel_rfl) (fun _ _ _ h => h) (Or.inr ⟨by kernel_rfl, rfl⟩) hS ?_
                      simp only [Act.put, List.getElem_toArray, List.getElem_cons_succ, List.getElem_cons_zero, List.setIfInBounds_toArray, List.set_cons_zero, List.set_cons_succ]
                      refine wpAnyH_take (i := 25) (v := undef) rfl (by kernel_rfl) (by kernel_rfl) (by kernel_rfl) (fun _ _ _ h => h) (Or.inr ⟨by kernel_rfl, rfl⟩) hS ?_
                      simp only [Act.put, List.getElem_toArray, List.getElem_cons_succ, List.getElem_cons_zero, List.setIfInBounds_toArray, List.set_cons_zero, List.set_cons_succ]
                      refine wpAnyH_take (i := 26) (v := undef) rfl (by kernel_rfl) (by kernel_rfl) (by kernel_rfl) (fun _ _ _ h => h) (Or.inr ⟨by kernel_rfl, rfl⟩) hS ?_
                      simp only [Act.put, List.getElem_toArray, List.getElem_cons_succ, List.getElem_cons_zero, List.setIfInBounds_toArray, List.set_cons_zero, List.set_cons_succ]
                      refine wpAnyH_take (i := 27) (v := undef) rfl (by kernel_rfl) (by kernel_rfl) (by kernel_rfl) (fun _ _ _ h => h) (Or.inr ⟨by kernel_rfl, rfl⟩) hS ?_
                      simp only [Act.put, List.getElem_toArray, List.getElem_cons_succ, List.getElem_cons_zero, List.setIfInBounds_toArray, List.set_cons_zero, List.set_cons_succ]
                      refine wpAnyH_take (i := 28) (v := .bool false) rfl (by kernel_rfl) (by kernel_rfl) (by kernel_rfl) (fun _ _ _ h => h) (Or.inl ⟨by rfl, ?_⟩) hS ?_
                      · intro w' hSw
                        obtain ⟨s0, s1, s2, s3, s4, s5, s6, s7, s8, s9, s10⟩ := hSw
                        go_simp
                      simp only [Act.put, List.getElem_toArray, List.getElem_cons_succ, List.getElem_cons_zero, List.setIfInBounds_toArray, List.set_cons_zero, List.set_cons_succ]
                      refine wpAnyH_take (i := 29) (v := .bool false) rfl (by kernel_rfl) (by kernel_rfl) (by kernel_rfl) (fun _ _ _ h => h) (Or.inl ⟨by rfl, ?_⟩) hS ?_
                      · intro w' hSw
                        obtain ⟨s0, s1, s2, s3, s4, s5, s6, s7, s8, s9, s10⟩ := hSw
                        go_simp
                      simp only [Act.put, List.getElem_toArray, List.getElem_cons_succ, List.getElem_cons_zero, List.setIfInBounds_toArray, List.set_cons_zero, List.set_cons_succ]
                      refine wpAnyH_done (by kernel_rfl) ?_ _
                      refine NoPanic.normal ?_
                      simp only [Exit.then]
                      go_wp2
                      go_roundw
                      case rel => exact ⟨j + 1, by omega, by go_num, HB3.out, by rw [HAT.out, HALL.out, HY.out]; rfl⟩
                      case measure => simp [intOf]; omega
                  · have tl : (l1 == 0) = false := by simp; exact hl1z
                    have hs4 : sortP k l1 ≠ 4 := by rw [show sortP k l1 = 3 from if_pos (by omega)]; decide
                    have HY : Hid (P q = true) := Lib.hid (by rw [HPQ.out, decide_eq_false hs4, hfb]; rfl)
                    clear hl1z hs4
                    go_upto_region 9 with (fail)
                    refine wp_region_noPanic ?_
                    refine wp_region_held_drew (S := (fun w' => w'.cell? ⟨w.heap.size, 0, none⟩ = some (.slice sa ss.length sc) ∧ w'.cell? ⟨w.heap.size, 1, none⟩ = some (.slice ea es.length ec) ∧ w'.cell? ⟨w.heap.size, 2, none⟩ = some (.int .i64 root) ∧ w'.cell? ⟨E, 0, none⟩ = some (.int .u8 k) ∧ w'.cell? ⟨E, 1, none⟩ = some (.int .i64 ref) ∧ w'.cell? ⟨E, 2, none⟩ = some (.int .i64 l1) ∧ w'.cell? ⟨V, 2, none⟩ = some (.slice (some ⟨kb, ko, none⟩) ks.length kc) ∧ w'.cell? ⟨kb, ko + j * 4, none⟩ = some (.int .u64 q.num) ∧ w'.cell? ⟨kb, ko + j * 4 + 1, none⟩ = some (.slice qba q.bytes.length qbc) ∧ w'.cell? ⟨kb, ko + j * 4 + 2, none⟩ = some (.slice qa q.kids.length qc) ∧ w'.cell? ⟨kb, ko + j * 4 + 3, none⟩ = some (.bool qh))) (by kernel_rfl) ⟨s0, s1, s2, e0, e1, e2, v2, c0, c1, c2, c3⟩ ?_
                    intro hS
                    refine wpAnyH_take (i := 0) (v := .agg #[.slice sa ss.length sc, .slice ea es.length ec, .int .i64 root]) rfl (by kernel_rfl) (by kernel_rfl) (by kernel_rfl) (fun _ _ _ h => h) (Or.inl ⟨by rfl, ?_⟩) hS ?_
                    · intro w' hSw
                      obtain ⟨s0, s1, s2, s3, s4, s5, s6, s7, s8, s9, s10⟩ := hSw
                      go_simp
                    simp only [Act.put, List.getElem_toArray, List.getElem_cons_zero, List.setIfInBounds_toArray, List.set_cons_zero, List.set_cons_succ]
                    refine wpAnyH_take (i := 1) (v := .agg #[.int .u8 k, .int .i64 ref, .int .i64 l1]) rfl (by kernel_rfl) (by kernel_rfl) (by kernel_rfl) (fun _ _ _ h => h) (Or.inl ⟨by rfl, ?_⟩) hS ?_
                    · intro w' hSw
                      obtain ⟨s0, s1, s2, s3, s4, s5, s6, s7, s8, s9, s10⟩ := hSw
                      go_simp
                    simp only [Act.put, List.getElem_toArray, List.getElem_cons_succ, List.getElem_cons_zero, List.setIfInBounds_toArray, List.set_cons_zero, List.set_cons_succ]
                    refine wpAnyH_take (i := 2) (v := .pointer (some ⟨V, 2, none⟩)) rfl (by kernel_rfl) (by kernel_rfl) (by kernel_rfl) (fun _ _ _ h => h) (Or.inl ⟨by rfl, ?_⟩) hS ?_
                    · intro w' hSw
                      obtain ⟨s0, s1, s2, s3, s4, s5, s6, s7, s8, s9, s10⟩ := hSw
                      go_simp
                    simp only [Act.put, List.getElem_toArray, List.getElem_cons_succ, List.getElem_cons_zero, List.setIfInBounds_toArray, List.set_cons_zero, List.set_cons_succ]
                    refine wpAnyH_take (i := 3) (v := .slice (some ⟨kb, ko, none⟩) ks.length kc) rfl (by kernel_rfl) (by kernel_rfl) (by kernel_rfl) (fun _ _ _ h => h) (Or.inl ⟨by rfl, ?_⟩) hS ?_
                    · intro w' hSw
                      obtain ⟨s0, s1, s2, s3, s4, s5, s6, s7, s8, s9, s10⟩ := hSw
                      go_simp
                    simp only [Act.put, List.getElem_toArray, List.getElem_cons_succ, List.getElem_cons_zero, List.setIfInBounds_toArray, List.set_cons_zero, List.set_cons_succ]
                    refine wpAnyH_take (i := 4) (v := .int .i64 j) rfl (by kernel_rfl) (by kernel_rfl) (by kernel_rfl) (fun _ _ _ h => h) (Or.inl ⟨by rfl, ?_⟩) hS ?_
                    · intro w' hSw
                      obtain ⟨s0, s1, s2, s3, s4, s5, s6, s7, s8, s9, s10⟩ := hSw
                      go_simp
                    simp only [Act.put, List.getElem_toArray, List.getElem_cons_succ, List.getElem_cons_zero, List.setIfInBounds_toArray, List.set_cons_zero, List.set_cons_succ]
                    refine wpAnyH_take (i := 5) (v := .pointer (some ⟨kb, ko + j * 4, none⟩)) rfl (by kernel_rfl) (by kernel_rfl) (by kernel_rfl) (fun _ _ _ h => h) (Or.inl ⟨by rfl, ?_⟩) hS ?_
                    · intro w' hSw
                      obtain ⟨s0, s1, s2, s3, s4, s5, s6, s7, s8, s9, s10⟩ := hSw
                      go_simp
                    simp only [Act.put, List.getElem_toArray, List.getElem_cons_succ, List.getElem_cons_zero, List.setIfInBounds_toArray, List.set_cons_zero, List.set_cons_succ]
                    refine wpAnyH_take (i := 6) (v := .agg #[.int .u64 q.num, .slice qba q.bytes.length qbc, .slice qa q.kids.length qc, .bool qh]) rfl (by kernel_rfl) (by kernel_rfl) (by kernel_rfl) (fun _ _ _ h => h) (Or.inl ⟨by rfl, ?_⟩) hS ?_
                    · intro w' hSw
                      obtain ⟨s0, s1, s2, s3, s4, s5, s6, s7, s8, s9, s10⟩ := hSw
                      go_simp
                    simp only [Act.put, List.getElem_toArray, List.getElem_cons_succ, List.getElem_cons_zero, List.setIfInBounds_toArray, List.set_cons_zero, List.set_cons_succ]
                    refine wpAnyH_take (i := 7) (v := .int .i64 room) rfl (by kernel_rfl) (by kernel_rfl) (by kernel_rfl) (fun _ _ _ h => h) (Or.inl ⟨by rfl, ?_⟩) hS ?_
                    · intro w' hSw
                      obtain ⟨s0, s1, s2, s3, s4, s5, s6, s7, s8, s9, s10⟩ := hSw
                      go_simp
                    simp only [Act.put, List.getElem_toArray, List.getElem_cons_succ, List.getElem_cons_zero, List.setIfInBounds_toArray, List.set_cons_zero, List.set_cons_succ]
                    refine wpAnyH_take (i := 8) (v := .int .i64 r) rfl (by kernel_rfl) (by kernel_rfl) (by kernel_rfl) (fun _ _ _ h => h) (Or.inl ⟨by rfl, ?_⟩) hS ?_
                    · intro w' hSw
                      obtain ⟨s0, s1, s2, s3, s4, s5, s6, s7, s8, s9, s10⟩ := hSw
                      go_simp
                    simp only [Act.put, List.getElem_toArray, List.getElem_cons_succ, List.getElem_cons_zero, List.setIfInBounds_toArray, List.set_cons_zero, List.set_cons_succ]
                    refine wpAnyH_ready (rs := [9]) (by kernel_rfl) (by decide) (AllReadyH.cons rfl (fun K hK => ?_) AllReadyH.nil)
                    rw [if_pos (by kernel_rfl)]
                    go_simp
                    refine (HFQ.out _ (Below.refl _ wr).drew).mono ?_
                    rintro e W3 ⟨rfl, hb3⟩
                    have hx : Below wr.heap.size wr W3 := (Below.refl _ wr).drew.trans hb3
                    rw [hfb]
                    have HB3 := Lib.hid (HBW.out.trans (hx.mono HBW.out.size))
                    have k0 := cell_stays hx s0
                    have k1 := cell_stays hx s1
                    have k2 := cell_stays hx s2
                    have k3 := cell_stays hx e0
                    have k4 := cell_stays hx e1
                    have k5 := cell_stays hx e2
                    have k6 := cell_stays hx v2
                    have k7 := cell_stays hx c0
                    have k8 := cell_stays hx c1
                    have k9 := cell_stays hx c2
                    have k10 := cell_stays hx c3
                    refine hK.out _ _ ⟨k0, k1, k2, k3, k4, k5, k6, k7, k8, k9, k10⟩ (fun hS => ?_)
                    refine wpAnyH_take (i := 10) (v := .bool false) rfl (by kernel_rfl) (by kernel_rfl) (by kernel_rfl) (fun _ _ _ h => h) (Or.inl ⟨by rfl, ?_⟩) hS ?_
                    · intro w' hSw
                      obtain ⟨s0, s1, s2, s3, s4, s5, s6, s7, s8, s9, s10⟩ := hSw
                      go_simp
                    simp only [Act.put, List.getElem_toArray, List.getElem_cons_succ, List.getElem_cons_zero, List.setIfInBounds_toArray, List.set_cons_zero, List.set_cons_succ]
                    refine wpAnyH_take (i := 11) (v := .bool false) rfl (by kernel_rfl) (by kernel_rfl) (by kernel_rfl) (fun _ _ _ h => h) (Or.inl ⟨by rfl, ?_⟩) hS ?_
                    · intro w' hSw
                      obtain ⟨s0, s1, s2, s3, s4, s5, s6, s7, s8, s9, s10⟩ := hSw
                      go_simp
                    simp only [Act.put, List.getElem_toArray, List.getElem_cons_succ, List.getElem_cons_zero, List.setIfInBounds_toArray, List.set_cons_zero, List.set_cons_succ]
                    refine wpAnyH_take (i := 12) (v := .pointer (some ⟨E, 2, none⟩)) rfl (by kernel_rfl) (by kernel_rfl) (by kernel_rfl) (fun _ _ _ h => h) (Or.inl ⟨by rfl, ?_⟩) hS ?_
                    · intro w' hSw
                      obtain ⟨s0, s1, s2, s3, s4, s5, s6, s7, s8, s9, s10⟩ := hSw
                      go_simp
                    simp only [Act.put, List.getElem_toArray, List.getElem_cons_succ, List.getElem_cons_zero, List.setIfInBounds_toArray, List.set_cons_zero, List.set_cons_succ]
                    refine wpAnyH_take (i := 13) (v := .int .i64 l1) rfl (by kernel_rfl) (by kernel_rfl) (by kernel_rfl) (fun _ _ _ h => h) (Or.inl ⟨by rfl, ?_⟩) hS ?_
                    · intro w' hSw
                      obtain ⟨s0, s1, s2, s3, s4, s5, s6, s7, s8, s9, s10⟩ := hSw
                      go_simp
                    simp only [Act.put, List.getElem_toArray, List.getElem_cons_succ, List.getElem_cons_zero, List.setIfInBounds_toArray, List.set_cons_zero, List.set_cons_succ]
                    refine wpAnyH_take (i := 14) (v := .bool false) rfl (by kernel_rfl) (by kernel_rfl) (by kernel_rfl) (fun _ _ _ h => h) (Or.inl ⟨by rfl, ?_⟩) hS ?_
                    · intro w' hSw
                      obtain ⟨s0, s1, s2, s3, s4, s5, s6, s7, s8, s9, s10⟩ := hSw
                      go_simp
                    simp only [Act.put, List.getElem_toArray, List.getElem_cons_succ, List.getElem_cons_zero, List.setIfInBounds_toArray, List.set_cons_zero, List.set_cons_succ]
                    refine wpAnyH_take (i := 15) (v := .bool false) rfl (by kernel_rfl) (by kernel_rfl) (by kernel_rfl) (fun _ _ _ h => h) (Or.inl ⟨by rfl, ?_⟩) hS ?_
                    · intro w' hSw
                      obtain ⟨s0, s1, s2, s3, s4, s5, s6, s7, s8, s9, s10⟩ := hSw
                      go_simp
                    simp only [Act.put, List.getElem_toArray, List.getElem_cons_succ, List.getElem_cons_zero, List.setIfInBounds_toArray, List.set_cons_zero, List.set_cons_succ]
                    refine wpAnyH_take (i := 16) (v := undef) rfl (by kernel_rfl) (by kernel_rfl) (by kernel_rfl) (fun _ _ _ h => h) (Or.inr ⟨by kernel_rfl, rfl⟩) hS ?_
                    simp only [Act.put, List.getElem_toArray, List.getElem_cons_succ, List.getElem_cons_zero, List.setIfInBounds_toArray, List.set_cons_zero, List.set_cons_succ]
                    refine wpAnyH_take (i := 17) (v := undef) rfl (by kernel_rfl) (by kernel_rfl) (by kernel_rfl) (fun _ _ _ h => h) (Or.inr ⟨by kernel_rfl, rfl⟩) hS ?_
                    simp only [Act.put, List.getElem_toArray, List.getElem_cons_succ, List.getElem_cons_zero, List.setIfInBounds_toArray, List.set_cons_zero, List.set_cons_succ]
                    refine wpAnyH_take (i := 18) (v := undef) rfl (by kernel_rfl) (by kernel_rfl) (by kernel_rfl) (fun _ _ _ h => h) (Or.inr ⟨by kernel_rfl, rfl⟩) hS ?_
                    simp only [Act.put, List.getElem_toArray, List.getElem_cons_succ, List.getElem_cons_zero, List.setIfInBounds_toArray, List.set_cons_zero, List.set_cons_succ]
                    refine wpAnyH_take (i := 19) (v := .bool false) rfl (by kernel_rfl) (by kernel_rfl) (by kernel_rfl) (fun _ _ _ h => h) (Or.inl ⟨by rfl, ?_⟩) hS ?_
                    · intro w' hSw
                      obtain ⟨s0, s1, s2, s3, s4, s5, s6, s7, s8, s9, s10⟩ := hSw
                      go_simp
                    simp only [Act.put, List.getElem_toArray, List.getElem_cons_succ, List.getElem_cons_zero, List.setIfInBounds_toArray, List.set_cons_zero, List.set_cons_succ]
                    refine wpAnyH_take (i := 20) (v := .bool false) rfl (by kernel_rfl) (by kernel_rfl) (by kernel_rfl) (fun _ _ _ h => h) (Or.inl ⟨by rfl, ?_⟩) hS ?_
                    · intro w' hSw
                      obtain ⟨s0, s1, s2, s3, s4, s5, s6, s7, s8, s9, s10⟩ := hSw
                      go_simp
                    simp only [Act.put, List.getElem_toArray, List.getElem_cons_succ, List.getElem_cons_zero, List.setIfInBounds_toArray, List.set_cons_zero, List.set_cons_succ]
                    refine wpAnyH_take (i := 21) (v := undef) rfl (by kernel_rfl) (by kernel_rfl) (by kernel_rfl) (fun _ _ _ h => h) (Or.inr ⟨by kernel_rfl, rfl⟩) hS ?_
                    simp only [Act.put, List.getElem_toArray, List.getElem_cons_succ, List.getElem_cons_zero, List.setIfInBounds_toArray, List.set_cons_zero, List.set_cons_succ]
                    refine wpAnyH_take (i := 22) (v := undef) rfl (by kernel_rfl) (by kernel_rfl) (by kernel_rfl) (fun _ _ _ h => h) (Or.inr ⟨by kernel_rfl, rfl⟩) hS ?_
                    simp only [Act.put, List.getElem_toArray, List.getElem_cons_succ, List.getElem_cons_zero, List.setIfInBounds_toArray, List.set_cons_zero, List.set_cons_succ]
                    refine wpAnyH_take (i := 23) (v := undef) rfl (by kernel_rfl) (by kernel_rfl) (by kernel_rfl) (fun _ _ _ h => h) (Or.inr ⟨by kernel_rfl, rfl⟩) hS ?_
                    simp only [Act.put, List.getElem_toArray, List.getElem_cons_succ, List.getElem_cons_zero, List.setIfInBounds_toArray, List.set_cons_zero, List.set_cons_succ]
                    refine wpAnyH_take (i := 24) (v := undef) rfl (by kernel_rfl) (by kernel_rfl) (by kernel_rfl) (fun _ _ _ h => h) (Or.inr ⟨by kernel_rfl, rfl⟩) hS ?_
                    simp only [Act.put, List.getElem_toArray, List.getElem_cons_succ, List.getElem_cons_zero, List.setIfInBounds_toArray, List.set_cons_zero, List.set_cons_succ]
                    refine wpAnyH_take (i := 25) (v := undef) rfl (by kernel_rfl) (by kernel_rfl) (by kernel_rfl) (fun _ _ _ h => h) (Or.inr ⟨by kernel_rfl, rfl⟩) hS ?_
                    simp only [Act.put, List.getElem_toArray, List.getElem_cons_succ, List.getElem_cons_zero, List.setIfInBounds_toArray, List.set_cons_zero, List.set_cons_succ]
                    refine wpAnyH_take (i := 26) (v := undef) rfl (by kernel_rfl) (by kernel_rfl) (by kernel_rfl) (fun _ _ _ h => h) (Or.inr ⟨by kernel_rfl, rfl⟩) hS ?_
                    simp only [Act.put, List.getElem_toArray, List.getElem_cons_succ, List.getElem_cons_zero, List.setIfInBounds_toArray, List.set_cons_zero, List.set_cons_succ]
                    refine wpAnyH_take (i := 27) (v := undef) rfl (by kernel_rfl) (by kernel_rfl) (by kernel_rfl) (fun _ _ _ h => h) (Or.inr ⟨by kernel_rfl, rfl⟩) hS ?_
                    simp only [Act.put, List.getElem_toArray, List.getElem_cons_succ, List.getElem_cons_zero, List.setIfInBounds_toArray, List.set_cons_zero, List.set_cons_succ]
                    refine wpAnyH_take (i := 28) (v := .bool false) rfl (by kernel_rfl) (by kernel_rfl) (by kernel_rfl) (fun _ _ _ h => h) (Or.inl ⟨by rfl, ?_⟩) hS ?_
                    · intro w' hSw
                      obtain ⟨s0, s1, s2, s3, s4, s5, s6, s7, s8, s9, s10⟩ := hSw
                      go_simp
                    simp only [Act.put, List.getElem_toArray, List.getElem_cons_succ, List.getElem_cons_zero, List.setIfInBounds_toArray, List.set_cons_zero, List.set_cons_succ]
                    refine wpAnyH_take (i := 29) (v := .bool false) rfl (by kernel_rfl) (by kernel_rfl) (by kernel_rfl) (fun _ _ _ h => h) (Or.inl ⟨by rfl, ?_⟩) hS ?_
                    · intro w' hSw
                      obtain ⟨s0, s1, s2, s3, s4, s5, s6, s7, s8, s9, s10⟩ := hSw
                      go_simp
                    simp only [Act.put, List.getElem_toArray, List.getElem_cons_succ, List.getElem_cons_zero, List.setIfInBounds_toArray, List.set_cons_zero, List.set_cons_succ]
                    refine wpAnyH_done (by kernel_rfl) ?_ _
                    refine NoPanic.normal ?_
                    simp only [Exit.then]
                    go_wp2
                    go_roundw
                    case rel => exact ⟨j + 1, by omega, by go_num, HB3.out, by rw [HAT.out, HALL.out, HY.out]; rfl⟩
                    case measure => simp [intOf]; omega
              · obtain rfl : j = ks.length := by omega
                have HN : Hid (res = true) := Lib.hid (by have h := HALL.out; rw [List.take_length] at h; rw [HR4.out, h])
                clear hjl
                go_wp2
                go_ret
                exact ⟨ret_bool HN.out.symm, HB1.out.trans (HBW.out.mono HB1.out.size)⟩
      · have tb : decide (0 < bs.length) = true := decide_eq_true (by omega)
        have HN : Hid (res = false) := Lib.hid (by rw [HR2.out, decide_eq_false hb0]; rfl)
        clear hb0 HR2
        go_wp2
        go_ret
        exact ⟨ret_bool HN.out.symm, HB.out⟩
    · have tn : ((n : Int) != 0) = true := by simp; omega
      have HN : Hid (res = false) := Lib.hid (by rw [HR.out, decide_eq_false hn0]; rfl)
      clear hn0 HR
      go_wp2
      go_ret
      exact ⟨ret_bool HN.out.symm, HB.out⟩
  · obtain rfl : lists = 0 := by omega
    clear hl hl0 hl1
    rcases tk_cases k hk1 hk2 with ⟨rfl, hso, hnt⟩ | ⟨hk3, hso, hnt⟩ | ⟨hk10, hso, hnt⟩
    · have HR : Hid (res = (decide (n = 0) && (decide (bs.length = 0) && (if hh = true then structP (ss.map Prod.fst) (es.map Prod.fst) room ref ks else decide (ks.length = 0))))) := Lib.hid (by rw [HRES.out, hso]; exact bare4 n bs ks hh (structP (ss.map Prod.fst) (es.map Prod.fst) room ref ks))
      clear HRES hso hnt HBY HBL HKL hk1 hk2 hk255 hk255i
      by_cases hn0 : n = 0
      · have tn : ((n : Int) != 0) = false := by simp; omega
        have HR2 : Hid (res = (decide (bs.length = 0) && (if hh = true then structP (ss.map Prod.fst) (es.map Prod.fst) room ref ks else decide (ks.length = 0)))) := Lib.hid (by rw [HR.out, decide_eq_true hn0, Bool.true_and])
        clear HR hn0
        by_cases hb0 : bs.length = 0
        · have tb : decide (0 < bs.length) = false := decide_eq_false (by omega)
          have HR3 : Hid (res = (if hh = true then structP (ss.map Prod.fst) (es.map Prod.fst) room ref ks else decide (ks.length = 0))) := Lib.hid (by rw [HR2.out, decide_eq_true hb0, Bool.true_and])
          clear HR2 hb0
          cases hh with
          | false =>
            by_cases hk0 : ks.length = 0
            · have HN : Hid (res = true) := Lib.hid (HR3.out.trans (decide_eq_true hk0))
              have tk : ((ks.length : Int) == 0) = true := beq_iff_eq.2 (by omega)
              clear hk0 HR3
              go_wp2
              go_ret
              exact ⟨ret_bool HN.out.symm, HB.out⟩
            · have HN : Hid (res = false) := Lib.hid (HR3.out.trans (decide_eq_false hk0))
              have tk : ((ks.length : Int) == 0) = false := beq_eq_false_iff_ne.2 (by omega)
              clear hk0 HR3
              go_wp2
              go_ret
              exact ⟨ret_bool HN.out.symm, HB.out⟩
          | true =>
            obtain ⟨hr0, hr1⟩ := HREF.out rfl
            obtain ⟨m, rfl⟩ := Int.eq_ofNat_of_zero_le hr0
            have hm : m < ss.length := by omega
            have hmi : (m : Int) < ss.length := by omega
            have hm0 : (0 : Int) ≤ (m : Int) := by omega
            have hge : (ss.map Prod.fst).getD m ⟨⟨#[]⟩, []⟩ = ss[m].1 := by rw [List.getD, List.getElem?_map, List.getElem?_eq_getElem hm]; rfl
            have HR4 : Hid (res = (!decide (room = 0) && (decide (ks.length = ss[m].1.fields.length) && fieldsP (fitsP (ss.map Prod.fst) (es.map Prod.fst) (room - 1)) ss[m].1.fields ks))) := Lib.hid (by rw [HR3.out, if_pos rfl]; unfold structP; rw [List.length_map, decide_eq_true ⟨by omega, by omega⟩, show ((m : Nat) : Int).toNat = m from rfl, hge, Bool.true_and])
            obtain ⟨g, cc, hv, hcc, hgl, hcell⟩ := row_el crecCells 2 (fun _ => rfl) HC.out.structs m hm
            obtain ⟨rfl, rfl⟩ := slice_inj hv
            have y0 : W0.cell? ⟨g, m * 2, none⟩ = some (.string ss[m].1.name) := hcell 0 (by omega)
            have y1 : W0.cell? ⟨g, m * 2 + 1, none⟩ = some ss[m].2 := hcell 1 (by omega)
            have HROW := Lib.hid (HC.out.fields _ (List.getElem_mem hm))
            have HOK := Lib.hid (HFO.out _ (List.getElem_mem hm))
            obtain ⟨fa, fc, hf⟩ := ownsRow_form HROW.out
            have hfew := row_few HROW.out
            rw [hf] at HROW y1
            generalize ss[m].1.fields = xs at *
            generalize ss[m].1.name = rn at *
            clear hf hge HR3 hcell hv hr0 hr1 HREF HFO
            go_upto_region 18 with (fail)
            have hba := (Below.refl W0.heap.size W0).alloc (Nat.le_refl _) (.cells #[.string rn, .slice fa xs.length fc] 51)
            have HB1 := Lib.hid (HB.out.trans (hba.mono HB.out.size))
            have HE := Lib.hid (heap_alloc_new W0 (.cells #[.string rn, .slice fa xs.length fc] 51))
            generalize W0.alloc (.cells #[.string rn, .slice fa xs.length fc] 51) = W1 at *
            have HC1 := Lib.hid (HC.out.below hba)
            have HT1 := Lib.hid (HT.out.below (Nat.le_refl _) hba)
            have HKS1 := Lib.hid (HKS.out.later hba)
            have HROW1 := Lib.hid (row_keep hba HROW.out)
            have HQ11 := Lib.hid (blk_below HQ1.out hba (blk_lt HQ1.out))
            have HQ31 := Lib.hid (blk_below HQ3.out hba (blk_lt HQ3.out))
            generalize W0.heap.size = E at *
            clear hba HC HT HKS HQ1 HQ2 HQ3 HB HROW s0 s1 s2 t0 t1 t2 v0 v1 v2 v3 y0 y1
            obtain ⟨_, r0, r1, _⟩ := blk2 HE.out
            obtain ⟨_, v0, v1, v2, v3⟩ := blk4p HQ31.out
            by_cases hr0 : room = 0
            · have HN : Hid (res = false) := Lib.hid (by rw [HR4.out, decide_eq_true hr0]; rfl)
              have tr : (room : Int) < 1 := by omega
              clear hr0 HR4
              go_wp2
              go_ret
              exact ⟨ret_bool HN.out.symm, HB1.out⟩
            have tr : ¬ (room : Int) < 1 := by omega
            by_cases hlen : ks.length = xs.length
            · obtain ⟨r, hr⟩ : ∃ r, room = r + 1 := ⟨room - 1, by omega⟩
              have hle : ((ks.length : Int) != (xs.length : Int)) = false := by simp; omega
              have hrw : (room : Int) - 1 = (r : Int) := by omega
              have hrw2 : IntKind.i64.wrap (r : Int) = r := IntWalk.i64_in _ (by omega)
              obtain ⟨P, hP⟩ : ∃ P, fitsP (ss.map Prod.fst) (es.map Prod.fst) r = P := ⟨_, rfl⟩
              have HR5 : Hid (res = fieldsP P xs ks) := Lib.hid (by rw [HR4.out, decide_eq_false hr0, decide_eq_true hlen, show room - 1 = r by omega, hP]; rfl)
              have HP := Lib.hid hP
              have HLE := Lib.hid hlen
              have HFA := Lib.hid (HNX.out r hr)
              clear HR4 hr hP HNX hlen hr0 r0 v0 v1 v3
              go_wp2_with fail
              go_loopw [12] (fun i wr => SAt W1 res P xs ks i wr) (fun i _ => xs.length - (intOf i).toNat)
              case atStart => exact ⟨0, Nat.zero_le _, rfl, Below.refl _ _, HR5.out.symm⟩
              case round =>
                obtain ⟨j, hj, rfl, hb, hrest⟩ := hrel
                have HBW := Lib.hid hb
                have HREST := Lib.hid hrest
                clear hb hrest r1 v2
                obtain ⟨_, r0, r1, _⟩ := blk2 (blk_below HE.out HBW.out (blk_lt HE.out))
                clear r0
                by_cases hjl : j < xs.length
                · have hji : (j : Int) < xs.length := by omega
                  have hji0 : (0 : Int) ≤ (j : Int) := by omega
                  have hjk : j < ks.length := by rw [HLE.out]; exact hjl
                  have hjki : (j : Int) < ks.length := by omega
                  obtain ⟨kb, ko, u0, u1, u2, u3, rfl, c0, c1, c2, c3, hiv⟩ := HKS1.out.later HBW.out j hjk
                  obtain ⟨g', cc', hv, hcc', hgl', hcell⟩ := row_el cfldCells 5 (fun _ => rfl) (row_keep HBW.out HROW1.out) j hjl
                  obtain ⟨rfl, rfl⟩ := slice_inj hv
                  have HIV := Lib.hid hiv
                  have HCO := Lib.hid (fieldsP_cons P xs ks j hjl hjk)
                  have hok := HOK.out _ (List.getElem_mem hjl)
                  obtain ⟨q, hq⟩ : ∃ q, ks[j] = q := ⟨_, rfl⟩
                  obtain ⟨x, hx⟩ : ∃ x, xs[j] = x := ⟨_, rfl⟩
                  rw [hq] at HIV HCO
                  rw [hx] at HCO hcell hok
                  have x1 : wr.cell? ⟨g', j * 5 + 1, none⟩ = some (.int .u8 x.kind) := hcell 1 (by omega)
                  have x2 : wr.cell? ⟨g', j * 5 + 2, none⟩ = some (.int .i64 x.ref) := hcell 2 (by omega)
                  have x3 : wr.cell? ⟨g', j * 5 + 3, none⟩ = some (.int .i64 x.lists) := hcell 3 (by omega)
                  obtain ⟨qba, qa, qbc, qc, hval, hrst⟩ := HIV.out.form
                  clear hrst
                  injection hval with hval
                  have z0 := congrArg (fun x : Array Value => x[0]?) hval
                  have z1 := congrArg (fun x : Array Value => x[1]?) hval
                  have z2 := congrArg (fun x : Array Value => x[2]?) hval
                  have z3 := congrArg (fun x : Array Value => x[3]?) hval
                  simp at z0 z1 z2 z3
                  subst z0 z1 z2 z3
                  clear hiv hq hx hval hcell hv
                  have HOKJ := Lib.hid hok
                  clear hok
                  generalize x.kind = xk at *
                  generalize x.ref = xr at *
                  generalize x.lists = xl at *
                  obtain ⟨_, s0, s1, s2, _⟩ := blk3 (blk_below HQ11.out HBW.out (blk_lt HQ11.out))
                  obtain ⟨_, v0, v1, v2, v3⟩ := blk4p (blk_below HQ31.out HBW.out (blk_lt HQ31.out))
                  clear v0 v1 v3
                  have HFQ := Lib.hid (fun W (hb : Below wr.heap.size wr W) => HFA.out W base (.slice (some ⟨g, 0, none⟩) ss.length sc) (.slice ea es.length ec) root xk xr xl q _ ((HC1.out.below HBW.out).below hb) ((HT1.out.below (Nat.le_refl _) HBW.out).below (Nat.le_refl _) hb) HOKJ.out (HIV.out.later hb))
                  rw [HP.out] at HFQ
                  clear HIV HOKJ
                  go_upto_region 23 with (fail)
                  go_region_held3 (fun w' => w'.cell? ⟨w.heap.size, 0, none⟩ = some (.slice (some ⟨g, 0, none⟩) ss.length sc) ∧ w'.cell? ⟨w.heap.size, 1, none⟩ = some (.slice ea es.length ec) ∧ w'.cell? ⟨w.heap.size, 2, none⟩ = some (.int .i64 root) ∧ w'.cell? ⟨E, 1, none⟩ = some (.slice (some ⟨g', 0, none⟩) xs.length fc) ∧ w'.cell? ⟨g', j * 5 + 1, none⟩ = some (.int .u8 xk) ∧ w'.cell? ⟨g', j * 5 + 2, none⟩ = some (.int .i64 xr) ∧ w'.cell? ⟨g', j * 5 + 3, none⟩ = some (.int .i64 xl) ∧ w'.cell? ⟨V, 2, none⟩ = some (.slice (some ⟨kb, ko, none⟩) ks.length kc) ∧ w'.cell? ⟨kb, ko + j * 4, none⟩ = some (.int .u64 q.num) ∧ w'.cell? ⟨kb, ko + j * 4 + 1, none⟩ = some (.slice qba q.bytes.length qbc) ∧ w'.cell? ⟨kb, ko + j * 4 + 2, none⟩ = some (.slice qa q.kids.length qc) ∧ w'.cell? ⟨kb, ko + j * 4 + 3, none⟩ = some (.bool q.has)) (first | assumption | (with_reducible exact ⟨k0, k1, k2, k3, k4, k5, k6, k7, k8, k9, k10, k11⟩) | go_keep) (first | (go_at_call 28; (with_reducible refine (HFQ.out wr.drew (Below.refl _ _).drew).mono ?_); rintro e W3 ⟨rfl, hb3⟩; have hx : Below wr.heap.size wr W3 := (Below.refl _ wr).drew.trans hb3; clear hb3; have k0 := cell_stays hx s0; have k1 := cell_stays hx s1; have k2 := cell_stays hx s2; have k3 := cell_stays hx r1; have k4 := cell_stays hx x1; have k5 := cell_stays hx x2; have k6 := cell_stays hx x3; have k7 := cell_stays hx v2; have k8 := cell_stays hx c0; have k9 := cell_stays hx c1; have k10 := cell_stays hx c2; have k11 := cell_stays hx c3))
                  all_goals
                    have HB3 := Lib.hid (HBW.out.trans (hx.mono HBW.out.size))
                    clear hx k0 k1 k2 k3 k4 k5 k6 k7 k8 k9 k10 k11 s0 s1 s2 r1 x1 x2 x3 v2 c0 c1 c2 c3
                    simp only [Exit.then]
                    cases hfb : P xk xr xl q with
                    | false =>
                      have HN : Hid (res = false) := Lib.hid (by rw [← HREST.out, HCO.out, hfb]; rfl)
                      go_wp2
                      go_ret
                      exact ⟨ret_bool HN.out.symm, HB1.out.trans (HB3.out.mono HB1.out.size)⟩
                    | true =>
                      have HY : Hid (fieldsP P (xs.drop (j + 1)) (ks.drop (j + 1)) = res) := Lib.hid (by rw [← HREST.out, HCO.out, hfb]; rfl)
                      go_wp2
                      go_roundw
                      case rel => exact ⟨j + 1, by omega, by go_num, HB3.out, HY.out⟩
                      case measure => simp [intOf]; omega
                · obtain rfl : j = xs.length := by omega
                  have HN : Hid (res = true) := Lib.hid (by rw [← HREST.out, List.drop_length]; rfl)
                  clear hjl
                  go_wp2
                  go_ret
                  exact ⟨ret_bool HN.out.symm, HB1.out.trans (HBW.out.mono HB1.out.size)⟩
            · have HN : Hid (res = false) := Lib.hid (by rw [HR4.out, decide_eq_false hlen, Bool.false_and, Bool.and_false])
              have hle : ((ks.length : Int) != (xs.length : Int)) = true := by simp; omega
              clear hlen HR4
              go_wp2
              go_ret
              exact ⟨ret_bool HN.out.symm, HB1.out⟩
        · have tb : decide (0 < bs.length) = true := decide_eq_true (by omega)
          have HN : Hid (res = false) := Lib.hid (by rw [HR2.out, decide_eq_false hb0]; rfl)
          clear hb0 HR2
          go_wp2
          go_ret
          exact ⟨ret_bool HN.out.symm, HB.out⟩
      · have tn : ((n : Int) != 0) = true := by simp; omega
        have HN : Hid (res = false) := Lib.hid (by rw [HR.out, decide_eq_false hn0]; rfl)
        clear hn0 HR
        go_wp2
        go_ret
        exact ⟨ret_bool HN.out.symm, HB.out⟩
    · have t13 : ((k : Int) == 13) = false := by simp; omega
      have HR : Hid (res = (!hh && (decide (ks.length = 0) && (decide (n = 0) && (decide (k = 12) || decide (u8At bs 0 < 0)))))) := Lib.hid (by rw [HRES.out, hso]; exact bare2 n bs ks hh (decide (k = 12) || decide (u8At bs 0 < 0)))
      clear HRES
      cases hh with
      | true =>
        have HN : Hid (res = false) := Lib.hid HR.out
        clear HR
        go_wp2
        go_ret
        exact ⟨ret_bool HN.out.symm, HB.out⟩
      | false =>
        by_cases hk0 : ks.length = 0
        · have tk : decide (0 < ks.length) = false := decide_eq_false (by omega)
          have HR2 : Hid (res = (decide (n = 0) && (decide (k = 12) || decide (u8At bs 0 < 0)))) := Lib.hid (by rw [HR.out, decide_eq_true hk0]; rfl)
          clear HR hk0
          go_wp2_with fail
          refine (rnumI_any k hk255 ref 0 W0).mono ?_
          rintro e W1 ⟨rfl, hb1⟩
          rw [hnt]
          have HB1 := Lib.hid (HB.out.trans (hb1.mono HB.out.size))
          have HC1 := Lib.hid (HC.out.below hb1)
          have HT1 := Lib.hid (HT.out.below (Nat.le_refl _) hb1)
          have HBY1 := Lib.hid (HBY.out.below (Nat.le_refl _) hb1)
          clear s0 s1 s2 t0 t1 t2 v0 v1 v2 v3
          obtain ⟨_, s0, s1, s2, _⟩ := blk3 (blk_below HQ1.out hb1 (blk_lt HQ1.out))
          obtain ⟨_, t0, t1, t2, _⟩ := blk3 (blk_below HQ2.out hb1 (blk_lt HQ2.out))
          obtain ⟨_, v0, v1, v2, v3⟩ := blk4p (blk_below HQ3.out hb1 (blk_lt HQ3.out))
          clear hb1 HC HT HQ1 HQ2 HQ3 HNX HFO HREF HKS
          by_cases hn0 : n = 0
          · have tn : ((n : Int) == 0) = true := by simp; omega
            have HR3 : Hid (res = (decide (k = 12) || decide (u8At bs 0 < 0))) := Lib.hid (by rw [HR2.out, decide_eq_true hn0]; rfl)
            clear HR2 hn0
            rcases hk3 with rfl | rfl
            · have HR4 : Hid (res = decide (u8At bs 0 < 0)) := Lib.hid HR3.out
              have HTX := Lib.hid (vtext_any ba bc bs.length bs W1 HT1.out HBY1.out rfl hbm HBL.out)
              generalize decide (u8At bs 0 < 0) = z at *
              clear HR3
              go_wp2_with fail
              refine HTX.out.mono ?_
              rintro e W2 ⟨rfl, hb2⟩
              have HB2 := Lib.hid (HB1.out.trans (hb2.mono HB1.out.size))
              clear hb2 s0 s1 s2 t0 t1 t2 v0 v1 v2 v3
              go_wp2
              go_ret
              exact ⟨ret_bool HR4.out.symm, HB2.out⟩
            · have HN : Hid (res = true) := Lib.hid HR3.out
              clear HR3
              go_wp2
              go_ret
              exact ⟨ret_bool HN.out.symm, HB1.out⟩
          · have tn : ((n : Int) == 0) = false := by simp; omega
            have HN : Hid (res = false) := Lib.hid (by rw [HR2.out, decide_eq_false hn0]; rfl)
            clear hn0 HR2
            go_wp2
            go_ret
            exact ⟨ret_bool HN.out.symm, HB1.out⟩
        · have tk : decide (0 < ks.length) = true := decide_eq_true (by omega)
          have HN : Hid (res = false) := Lib.hid (by rw [HR.out, decide_eq_false hk0]; rfl)
          clear hk0 HR
          go_wp2
          go_ret
          exact ⟨ret_bool HN.out.symm, HB.out⟩
    · have t13 : ((k : Int) == 13) = false := by simp; omega
      have HR : Hid (res = (!hh && (decide (ks.length = 0) && (decide (bs.length = 0) && fitsT (es.map Prod.fst) k ref 0 n)))) := Lib.hid (by rw [HRES.out, hso]; exact bare1 n bs ks hh (fitsT (es.map Prod.fst) k ref 0 n))
      clear HRES
      cases hh with
      | true =>
        have HN : Hid (res = false) := Lib.hid HR.out
        clear HR
        go_wp2
        go_ret
        exact ⟨ret_bool HN.out.symm, HB.out⟩
      | false =>
        by_cases hk0 : ks.length = 0
        · have tk : decide (0 < ks.length) = false := decide_eq_false (by omega)
          have HR2 : Hid (res = (decide (bs.length = 0) && fitsT (es.map Prod.fst) k ref 0 n)) := Lib.hid (by rw [HR.out, decide_eq_true hk0]; rfl)
          clear HR hk0
          go_wp2_with fail
          refine (rnumI_any k hk255 ref 0 W0).mono ?_
          rintro e W1 ⟨rfl, hb1⟩
          rw [hnt]
          have HB1 := Lib.hid (HB.out.trans (hb1.mono HB.out.size))
          have HC1 := Lib.hid (HC.out.below hb1)
          have HT1 := Lib.hid (HT.out.below (Nat.le_refl _) hb1)
          have HBY1 := Lib.hid (HBY.out.below (Nat.le_refl _) hb1)
          clear s0 s1 s2 t0 t1 t2 v0 v1 v2 v3
          obtain ⟨_, s0, s1, s2, _⟩ := blk3 (blk_below HQ1.out hb1 (blk_lt HQ1.out))
          obtain ⟨_, t0, t1, t2, _⟩ := blk3 (blk_below HQ2.out hb1 (blk_lt HQ2.out))
          obtain ⟨_, v0, v1, v2, v3⟩ := blk4p (blk_below HQ3.out hb1 (blk_lt HQ3.out))
          clear hb1 HC HT HQ1 HQ2 HQ3 HNX HFO HREF HKS
          by_cases hb0 : bs.length = 0
          · have tb : ((bs.length : Int) == 0) = true := beq_iff_eq.2 (by omega)
            have HR3 : Hid (res = fitsT (es.map Prod.fst) k ref 0 n) := Lib.hid (by rw [HR2.out, decide_eq_true hb0]; rfl)
            clear HR2 hb0
            have HFT := Lib.hid (rfits_any W1 root HC1.out k ref 0 n hk255 hn)
            generalize fitsT (es.map Prod.fst) k ref 0 n = z at *
            go_wp2_with fail
            refine HFT.out.mono ?_
            rintro e W2 ⟨rfl, hb2⟩
            have HB2 := Lib.hid (HB1.out.trans (hb2.mono HB1.out.size))
            clear hb2 s0 s1 s2 t0 t1 t2 v0 v1 v2 v3
            go_wp2
            go_ret
            exact ⟨ret_bool HR3.out.symm, HB2.out⟩
          · have tb : ((bs.length : Int) == 0) = false := beq_eq_false_iff_ne.2 (by omega)
            have HN : Hid (res = false) := Lib.hid (by rw [HR2.out, decide_eq_false hb0]; rfl)
            clear hb0 HR2
            go_wp2
            go_ret
            exact ⟨ret_bool HN.out.symm, HB1.out⟩
        · have tk : decide (0 < ks.length) = true := decide_eq_true (by omega)
          have HN : Hid (res = false) := Lib.hid (by rw [HR.out, decide_eq_false hk0]; rfl)
          clear hk0 HR
          go_wp2
          go_ret
          exact ⟨ret_bool HN.out.symm, HB.out⟩
theorem rval_any {ss : List (CRec × Value)} {es : List (SCho × Value)} (hF : RFlds ss) : ∀ room, room ≤ 100 → RVAt ss es room
  | 0, h => rval_step hF 0 h (fun r hr => by cases hr)
  | r + 1, h => rval_step hF (r + 1) h (fun r' hr => by injection hr with hr; exact hr ▸ rval_any hF r (by omega))
end Go.Proofs.YtfghaopimeoijaaDoor
