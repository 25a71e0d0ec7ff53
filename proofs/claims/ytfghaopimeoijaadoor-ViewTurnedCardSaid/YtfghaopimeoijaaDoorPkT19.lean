/-
  The package view's fits: of a value and a type in memory it says what the plain function says. Conditions: those that each theorem names; the library's tables hold what the row lists.
-/
import Derived.Test.YtfghaopimeoijaaDoorPkT3
import Derived.Test.YtfghaopimeoijaaDoorPkT4
import Derived.Test.YtfghaopimeoijaaDoorPkT16
import Derived.IntWalk
import Derived.Deep.Cut
import Derived.BigQuiet
import Derived.OwnWalk
namespace Go.Proofs.YtfghaopimeoijaaDoor
open Go.ChangeShapes Go.WideShapes Go.ChangeAt Go.RowKit Go.Shelf

theorem sorts_any (k : Nat) (ref lists : Int) (w : World) :
    Calls Tryd.prog 29 #[.agg #[.int .u8 k, .int .i64 ref, .int .i64 lists]] w fun e w' => e = .returned (.int .i64 (sortP k lists : Nat)) ∧ Below w.heap.size w w' := by
  have h0 := heap_alloc_new w (.cells #[.int .u8 k, .int .i64 ref, .int .i64 lists] 55)
  have HB := Lib.hid ((Below.refl w.heap.size w).alloc (Nat.le_refl _) (.cells #[.int .u8 k, .int .i64 ref, .int .i64 lists] 55))
  obtain ⟨_, x0, x1, x2, _⟩ := blk3 h0
  obtain ⟨o, ho⟩ : ∃ o, sortP k lists = o := ⟨_, rfl⟩
  have HO := Lib.hid ho
  rw [ho]
  clear h0 ho
  by_cases h1 : 0 < lists
  · have HE : Hid (o = 3) := Lib.hid (by rw [← HO.out]; unfold sortP; rw [if_pos h1])
    obtain rfl := HE.out
    go_enter Tryd.func29, Tryd.ntmps29
    go_wp2
    go_ret
    exact ⟨rfl, HB.out⟩
  by_cases h2 : lists < 0
  · have HE : Hid (o = 0) := Lib.hid (by rw [← HO.out]; unfold sortP; rw [if_neg h1, if_pos h2])
    obtain rfl := HE.out
    go_enter Tryd.func29, Tryd.ntmps29
    go_wp2
    go_ret
    exact ⟨rfl, HB.out⟩
  have hz : Hid (sortP k lists = if 0 < kSize k then 1 else if k = 11 ∨ k = 12 then 2 else if k = 13 then 4 else 0) := Lib.hid (by unfold sortP; rw [if_neg h1, if_neg h2])
  go_enter Tryd.func29, Tryd.ntmps29
  go_wp2_with fail
  refine (wsize_any (k : Int) _).mono ?_
  rintro e W1 ⟨rfl, rfl⟩
  by_cases h3 : 0 < kSize (k : Int)
  · have HE : Hid (o = 1) := Lib.hid (by rw [← HO.out, hz.out, if_pos h3])
    obtain rfl := HE.out
    generalize kSize (k : Int) = z at *
    go_wp2
    go_ret
    exact ⟨rfl, HB.out⟩
  have hz2 : Hid (o = if k = 11 ∨ k = 12 then 2 else if k = 13 then 4 else 0) := Lib.hid (by rw [← HO.out, hz.out, if_neg h3])
  generalize kSize (k : Int) = z at *
  by_cases h11 : k = 11
  · have HE : Hid (o = 2) := Lib.hid (by rw [hz2.out, if_pos (.inl h11)])
    obtain rfl := HE.out
    subst h11
    go_wp2
    go_ret
    exact ⟨rfl, HB.out⟩
  have t11 : ((k : Int) == 11) = false := by simp; omega
  by_cases h12 : k = 12
  · have HE : Hid (o = 2) := Lib.hid (by rw [hz2.out, if_pos (.inr h12)])
    obtain rfl := HE.out
    subst h12
    go_wp2
    go_ret
    exact ⟨rfl, HB.out⟩
  have t12 : ((k : Int) == 12) = false := by simp; omega
  by_cases h13 : k = 13
  · have HE : Hid (o = 4) := Lib.hid (by rw [hz2.out, if_neg (by omega), if_pos h13])
    obtain rfl := HE.out
    subst h13
    go_wp2
    go_ret
    exact ⟨rfl, HB.out⟩
  have t13 : ((k : Int) == 13) = false := by simp; omega
  have HE : Hid (o = 0) := Lib.hid (by rw [hz2.out, if_neg (by omega), if_neg h13])
  obtain rfl := HE.out
  clear h11 h12 h13
  go_wp2
  go_ret
  exact ⟨rfl, HB.out⟩
theorem element_any (k : Nat) (ref lists : Int) (hl : -9223372036854775807 ≤ lists ∧ lists ≤ 9223372036854775807) (w : World) :
    Calls Tryd.prog 43 #[.agg #[.int .u8 k, .int .i64 ref, .int .i64 lists]] w fun e w' => e = .returned (.agg #[.int .u8 k, .int .i64 ref, .int .i64 (lists - 1)]) ∧ Below w.heap.size w w' := by
  obtain ⟨hb, hq1, hq2⟩ := two_start w #[.int .u8 k, .int .i64 ref, .int .i64 lists] #[.int .u8 0, .int .i64 0, .int .i64 0] 55 55
  have HB := Lib.hid hb
  have HQ1 := Lib.hid hq1
  have HQ2 := Lib.hid hq2
  have hw := IntWalk.i64_in (lists - 1) (by omega)
  clear hb hq1 hq2
  go_enter Tryd.func43, Tryd.ntmps43
  go_upto_region 1 with (fail)
  generalize (w.alloc (.cells #[.int .u8 k, .int .i64 ref, .int .i64 lists] 55)).alloc (.cells #[.int .u8 0, .int .i64 0, .int .i64 0] 55) = W1 at *
  have hAB : w.heap.size ≠ w.heap.size + 1 := by omega
  have HAB := Lib.hid hAB
  generalize hBe : w.heap.size + 1 = B at *
  have hBl : w.heap.size ≤ B := by omega
  have HBL := Lib.hid hBl
  clear hBe hBl
  obtain ⟨_, a0, a1, a2, f0, f1, f2⟩ := blk3 HQ1.out
  have HQ3 := Lib.hid ((blk_set HQ1.out 2 (.int .i64 (lists - 1))).trans rfl)
  have HQ4 := Lib.hid (blk_set_ne HQ2.out (p := ⟨w.heap.size, 2, none⟩) HAB.out (.int .i64 (lists - 1)))
  have HB3 := Lib.hid (HB.out.setCell (p := ⟨w.heap.size, 2, none⟩) (Nat.le_refl _) (.int .i64 (lists - 1)))
  go_upto_region 2 with (fail)
  generalize W1.setCell ⟨w.heap.size, 2, none⟩ (.int .i64 (lists - 1)) = W2 at *
  clear a0 a1 a2 f0 f1 f2 hAB
  obtain ⟨_, a0, a1, a2, _⟩ := blk3 HQ3.out
  obtain ⟨_, b0, b1, b2, f0, f1, f2⟩ := blk3 HQ4.out
  go_wp2
  refine post_gen (fun Wf => Wf.heap[B]? = some (.cells #[.int .u8 k, .int .i64 ref, .int .i64 (lists - 1)] 55 (0, 0)) ∧ Below w.heap.size w Wf) ⟨blk_set3 HQ4.out _ _ _, ((HB3.out.setCell (p := ⟨B, 0, none⟩) HBL.out _).setCell (p := ⟨B, 1, none⟩) HBL.out _).setCell (p := ⟨B, 2, none⟩) HBL.out _⟩ ?_
  rintro Wf ⟨e1, e2⟩
  obtain ⟨_, c0, c1, c2, _⟩ := blk3 e1
  exact bodyPost_ret (v := .agg #[.int .u8 k, .int .i64 ref, .int .i64 (lists - 1)]) (by simp [results, Tryd.results43, go_sem, c0, c1, c2]) rfl ⟨rfl, e2⟩
set_option maxHeartbeats 8000000 in
theorem bare_any (o : Nat) (v : PV) (val : Value) (w : World) (hv : IsV w v val) :
    Calls Tryd.prog 39 #[.int .i64 o, val] w fun e w' => e = .returned (.bool (bareP o v)) ∧ Below w.heap.size w w' := by
  obtain ⟨ba, ka, bc, kc, rfl, hrest⟩ := hv.form
  clear hrest hv
  have h0 := heap_alloc_new w (.cells #[.int .u64 v.num, .slice ba v.bytes.length bc, .slice ka v.kids.length kc, .bool v.has] 36)
  have HB := Lib.hid ((Below.refl w.heap.size w).alloc (Nat.le_refl _) (.cells #[.int .u64 v.num, .slice ba v.bytes.length bc, .slice ka v.kids.length kc, .bool v.has] 36))
  obtain ⟨_, x0, x1, x2, x3⟩ := blk4p h0
  have HE : Hid (bareP o v = ((decide (o = 1) || decide (v.num = 0)) && ((decide (o = 2) || decide (v.bytes.length = 0)) && (((decide (o = 3) || v.has) || decide (v.kids.length = 0)) && (decide (o = 4) || !v.has))))) := Lib.hid rfl
  clear h0
  obtain ⟨res, hres⟩ : ∃ res, bareP o v = res := ⟨_, rfl⟩
  rw [hres] at HE ⊢
  clear hres
  generalize v.num = n at *
  generalize v.bytes.length = bl at *
  generalize v.kids.length = kl at *
  generalize v.has = h at *
  go_enter Tryd.func39, Tryd.ntmps39
  have e1 : ((o : Int) == 1) = decide (o = 1) := by by_cases h : o = 1 <;> simp [h]; omega
  have e2 : ((o : Int) == 2) = decide (o = 2) := by by_cases h : o = 2 <;> simp [h]; omega
  have e3 : ((o : Int) == 3) = decide (o = 3) := by by_cases h : o = 3 <;> simp [h]; omega
  have e4 : ((o : Int) == 4) = decide (o = 4) := by by_cases h : o = 4 <;> simp [h]; omega
  have g1 : ((n : Int) == 0) = decide (n = 0) := by by_cases h : n = 0 <;> simp [h]
  have g2 : ((bl : Int) == 0) = decide (bl = 0) := by by_cases h : bl = 0 <;> simp [h]
  have g3 : ((kl : Int) == 0) = decide (kl = 0) := by by_cases h : kl = 0 <;> simp [h]
  generalize decide (o = 1) = q1 at *
  generalize decide (o = 2) = q2 at *
  generalize decide (o = 3) = q3 at *
  generalize decide (o = 4) = q4 at *
  generalize decide (n = 0) = r1 at *
  generalize decide (bl = 0) = r2 at *
  generalize decide (kl = 0) = r3 at *
  have c1 : (q1 = false ∧ r1 = false) ∨ q1 = true ∨ (q1 = false ∧ r1 = true) := by cases q1 <;> cases r1 <;> simp
  have c2 : (q2 = false ∧ r2 = false) ∨ q2 = true ∨ (q2 = false ∧ r2 = true) := by cases q2 <;> cases r2 <;> simp
  have c3 : (q3 = false ∧ h = false ∧ r3 = false) ∨ (q3 = true ∧ h = true) ∨ (q3 = true ∧ h = false) ∨ (q3 = false ∧ h = true) ∨ (q3 = false ∧ h = false ∧ r3 = true) := by cases q3 <;> cases h <;> cases r3 <;> simp
  have C2 := Lib.hid c2
  have C3 := Lib.hid c3
  clear c2 c3
  rcases c1 with ⟨rfl, rfl⟩ | rfl | ⟨rfl, rfl⟩
  · go_wp2
    go_ret
    exact ⟨ret_bool HE.out.symm, HB.out⟩
  all_goals
    rcases C2.out with ⟨rfl, rfl⟩ | rfl | ⟨rfl, rfl⟩
    · go_wp2
      go_ret
      exact ⟨ret_bool HE.out.symm, HB.out⟩
    all_goals
      rcases C3.out with ⟨rfl, rfl, rfl⟩ | ⟨rfl, rfl⟩ | ⟨rfl, rfl⟩ | ⟨rfl, rfl⟩ | ⟨rfl, rfl, rfl⟩
      · go_wp2
        go_ret
        exact ⟨ret_bool HE.out.symm, HB.out⟩
      all_goals
        cases q4 <;> (go_wp2; go_ret; exact ⟨ret_bool HE.out.symm, HB.out⟩)
end Go.Proofs.YtfghaopimeoijaaDoor
namespace Go.Proofs.YtfghaopimeoijaaDoor
open Go.ChangeShapes Go.WideShapes Go.ChangeAt Go.RowKit Go.Shelf
def VFPost (ss : List (CRec × Value)) (rec : Int) (w : World) (e : Ending) (w' : World) : Prop :=
  Below w.heap.size w w' ∧ ((¬ (0 ≤ rec ∧ rec < ss.length) ∧ e = .returned (.tuple #[.slice none 0 0, .bool false])) ∨ (∃ (i : Nat) (hi : i < ss.length), rec = i ∧ e = .returned (.tuple #[(ss[i]'hi).2, .bool true])))
theorem vfields_any (w : World) {base : Nat} {ss : List (CRec × Value)} {es : List (SCho × Value)} {sv ev : Value} (root rec : Int) (h : CRows base w ss es sv ev) :
    Calls Tryd.prog 37 #[.agg #[sv, ev, .int .i64 root], .int .i64 rec] w (VFPost ss rec w) := by
  obtain ⟨sa, sc, ea, ec, rfl, rfl⟩ := h.forms
  have h0 := heap_alloc_new w (.cells #[.slice sa ss.length sc, .slice ea es.length ec, .int .i64 root] 30)
  have hb := (Below.refl w.heap.size w).alloc (Nat.le_refl _) (.cells #[.slice sa ss.length sc, .slice ea es.length ec, .int .i64 root] 30)
  have HB := Lib.hid hb
  have HC := Lib.hid (h.below hb)
  obtain ⟨_, x0, x1, x2, _⟩ := blk3 h0
  have hfew := row_few h.structs
  clear h0 hb h
  by_cases hlo : rec < 0
  · go_enter Tryd.func37, Tryd.ntmps37
    go_wp2
    exact bodyPost_ret (v := .tuple #[.slice none 0 0, .bool false]) (by simp [results, Tryd.results37, go_sem]) rfl (by unfold VFPost; exact ⟨HB.out, .inl ⟨by omega, rfl⟩⟩)
  obtain ⟨i, rfl⟩ := Int.eq_ofNat_of_zero_le (by omega : 0 ≤ rec)
  by_cases hhi : ss.length ≤ i
  · have t0 : (ss.length : Int) ≤ (i : Int) := by omega
    go_enter Tryd.func37, Tryd.ntmps37
    go_wp2
    exact bodyPost_ret (v := .tuple #[.slice none 0 0, .bool false]) (by simp [results, Tryd.results37, go_sem]) rfl (by unfold VFPost; exact ⟨HB.out, .inl ⟨by omega, rfl⟩⟩)
  · have hil : i < ss.length := by omega
    have t0 : ¬ (ss.length : Int) ≤ (i : Int) := by omega
    have hib : (i : Int) < ss.length := by omega
    have hib0 : (0 : Int) ≤ (i : Int) := by omega
    obtain ⟨g, cc, hv, hcc, hgl, hcell⟩ := row_el crecCells 2 (fun _ => rfl) HC.out.structs i hil
    obtain ⟨rfl, rfl⟩ := slice_inj hv
    have y1 : (w.alloc (.cells #[.slice (some ⟨g, 0, none⟩) ss.length sc, .slice ea es.length ec, .int .i64 root] 30)).cell? ⟨g, i * 2 + 1, none⟩ = some ss[i].2 := hcell 1 (by omega)
    have hsl := HC.out.fields _ (List.getElem_mem hil)
    obtain ⟨fa, fc, hf⟩ := ownsRow_form hsl
    have HF := Lib.hid hf
    rw [hf] at y1
    clear hcell hv hsl hf
    generalize ss[i].1.fields.length = fl at *
    go_enter Tryd.func37, Tryd.ntmps37
    go_wp2
    exact bodyPost_ret (v := .tuple #[.slice fa fl fc, .bool true]) (by simp [results, Tryd.results37, go_sem]) rfl (by unfold VFPost; exact ⟨HB.out, .inr ⟨i, hil, rfl, by rw [HF.out]⟩⟩)
def FldsOk (ss : List (CRec × Value)) : Prop := ∀ q ∈ ss, ∀ f ∈ q.1.fields, f.kind ≤ 255 ∧ -9223372036854775800 ≤ f.lists ∧ f.lists ≤ 9223372036854775807 ∧ f.dflt ≤ 18446744073709551615
def FitsAt (ss : List (CRec × Value)) (es : List (SCho × Value)) (room : Nat) : Prop :=
  ∀ (W : World) (base : Nat) (sv ev : Value) (root : Int) (k : Nat) (ref lists : Int) (v : PV) (val : Value), CRows base W ss es sv ev → Tabs W → k ≤ 255 → -9223372036854775800 ≤ lists → lists ≤ 9223372036854775807 → IsV W v val →
    Calls Tryd.prog 27 #[.agg #[sv, ev, .int .i64 root], .agg #[.int .u8 k, .int .i64 ref, .int .i64 lists], val, .int .i64 room] W fun e w' => e = .returned (.bool (fitsP (ss.map Prod.fst) (es.map Prod.fst) room k ref lists v)) ∧ Below W.heap.size W w'
theorem all_take' {α : Type} (p : α → Bool) (l : List α) (k : Nat) (hk : k < l.length) : (l.take (k + 1)).all p = ((l.take k).all p && p l[k]) := by
  rw [List.take_succ_eq_append_getElem hk, List.all_append]
  simp
theorem all_false' {α : Type} (p : α → Bool) (l : List α) (k : Nat) (hk : k < l.length) (h : p l[k] = false) : l.all p = false := by
  cases ha : l.all p
  · rfl
  · rw [List.all_eq_true] at ha
    rw [ha _ (List.getElem_mem hk)] at h
    cases h
def KidsAt (w : World) (ks : List PV) (ka : Option Addr) : Prop := ∀ i (hi : i < ks.length), ∃ (kb ko : Nat) (u0 u1 u2 u3 : Value), ka = some ⟨kb, ko, none⟩ ∧ w.cell? ⟨kb, ko + i * 4, none⟩ = some u0 ∧ w.cell? ⟨kb, ko + i * 4 + 1, none⟩ = some u1 ∧ w.cell? ⟨kb, ko + i * 4 + 2, none⟩ = some u2 ∧ w.cell? ⟨kb, ko + i * 4 + 3, none⟩ = some u3 ∧ IsV w (ks[i]'hi) (.agg #[u0, u1, u2, u3])
theorem KidsAt.later {w W : World} {ks : List PV} {ka : Option Addr} (h : KidsAt w ks ka) (hb : Below w.heap.size w W) : KidsAt W ks ka := fun i hi => by
  obtain ⟨kb, ko, u0, u1, u2, u3, h1, h2, h3, h4, h5, h6⟩ := h i hi
  exact ⟨kb, ko, u0, u1, u2, u3, h1, cell_stays hb h2, cell_stays hb h3, cell_stays hb h4, cell_stays hb h5, h6.later hb⟩
def kidOk (ss : List CRec) (es : List SCho) (room k : Nat) (ref lists : Int) (q : PV) : Bool := !decide (room = 0) && (!(decide (sortP k lists = 4) && !q.has) && fitsP ss es (room - 1) k ref lists q)
def LAt (W0 : World) (p : PV → Bool) (ks : List PV) (i : Value) (W : World) : Prop := ∃ j : Nat, j ≤ ks.length ∧ i = .int .i64 j ∧ Below W0.heap.size W0 W ∧ (ks.take j).all p = true
set_option maxRecDepth 100000 in
set_option maxHeartbeats 8000000 in
theorem vlist_any (w : World) {base : Nat} {ss : List (CRec × Value)} {es : List (SCho × Value)} {sv ev : Value} (root : Int) (h : CRows base w ss es sv ev) (hT : Tabs w) (room k : Nat) (ref lists : Int) (hk : k ≤ 255) (hl0 : -9223372036854775800 ≤ lists) (hl1 : lists ≤ 9223372036854775807) (hroom : room ≤ 100)
    (ks : List PV) (ka : Option Addr) (kc : Nat) (hks : KidsAt w ks ka) (_hkc : ks.length ≤ kc) (hkm : (ks.length : Int) ≤ 9223372036854775807) (hnext : ∀ r, room = r + 1 → FitsAt ss es r) :
    Calls Tryd.prog 42 #[.agg #[sv, ev, .int .i64 root], .agg #[.int .u8 k, .int .i64 ref, .int .i64 lists], .slice ka ks.length kc, .int .i64 room] w fun e w' => e = .returned (.bool (ks.all (kidOk (ss.map Prod.fst) (es.map Prod.fst) room k ref lists))) ∧ Below w.heap.size w w' := by
  obtain ⟨sa, sc, ea, ec, rfl, rfl⟩ := h.forms
  obtain ⟨hb, hq1, hq2⟩ := two_start w #[.slice sa ss.length sc, .slice ea es.length ec, .int .i64 root] #[.int .u8 k, .int .i64 ref, .int .i64 lists] 30 55
  have HB := Lib.hid hb
  have HQ1 := Lib.hid hq1
  have HQ2 := Lib.hid hq2
  have HC := Lib.hid (h.below hb)
  have HT := Lib.hid (hT.below (Nat.le_refl _) hb)
  have HKS := Lib.hid (hks.later hb)
  have HNX := Lib.hid hnext
  obtain ⟨P, hP⟩ : ∃ P, kidOk (ss.map Prod.fst) (es.map Prod.fst) room k ref lists = P := ⟨_, rfl⟩
  have HP := Lib.hid hP.symm
  rw [hP]
  clear hb hq1 hq2 h hT hks hnext hP
  go_enter Tryd.func42, Tryd.ntmps42
  go_upto_region 1 with (fail)
  generalize (w.alloc (.cells #[.slice sa ss.length sc, .slice ea es.length ec, .int .i64 root] 30)).alloc (.cells #[.int .u8 k, .int .i64 ref, .int .i64 lists] 55) = W0 at *
  go_wp2_with fail
  go_loopw [14] (fun i wr => LAt W0 P ks i wr) (fun i _ => ks.length - (intOf i).toNat)
  case atStart => exact ⟨0, Nat.zero_le _, rfl, Below.refl _ _, rfl⟩
  case round =>
    obtain ⟨j, hj, rfl, hb, hall⟩ := hrel
    have HALL := Lib.hid hall
    have HBW := Lib.hid hb
    clear hall hb
    by_cases hjl : j < ks.length
    · have hji : (j : Int) < ks.length := by omega
      have hji0 : (0 : Int) ≤ (j : Int) := by omega
      obtain ⟨kb, ko, u0, u1, u2, u3, rfl, c0, c1, c2, c3, hiv⟩ := HKS.out.later HBW.out j hjl
      have HIV := Lib.hid hiv
      have HAT := Lib.hid (all_take' P ks j hjl)
      have HAF := Lib.hid (all_false' P ks j hjl)
      obtain ⟨q, hq⟩ : ∃ q, ks[j] = q := ⟨_, rfl⟩
      rw [hq] at HIV HAT HAF
      obtain ⟨ba, qa, bc, qc, hval, _⟩ := HIV.out.form
      injection hval with hval
      have e0 := congrArg (fun x : Array Value => x[0]?) hval
      have e1 := congrArg (fun x : Array Value => x[1]?) hval
      have e2 := congrArg (fun x : Array Value => x[2]?) hval
      have e3 := congrArg (fun x : Array Value => x[3]?) hval
      simp at e0 e1 e2 e3
      subst e0 e1 e2 e3
      clear hiv hq hval
      go_upto_region 4 with (fail)
      have hba : Below wr.heap.size wr (wr.alloc (.cells #[.int .u64 q.num, .slice ba q.bytes.length bc, .slice qa q.kids.length qc, .bool q.has] 36)) := (Below.refl _ _).alloc (Nat.le_refl _) _
      have HF := Lib.hid (heap_alloc_new wr (.cells #[.int .u64 q.num, .slice ba q.bytes.length bc, .slice qa q.kids.length qc, .bool q.has] 36))
      have HB1 := Lib.hid (HBW.out.trans (hba.mono HBW.out.size))
      have HIV1 := Lib.hid (HIV.out.later hba)
      generalize wr.alloc (.cells #[.int .u64 q.num, .slice ba q.bytes.length bc, .slice qa q.kids.length qc, .bool q.has] 36) = W1 at *
      generalize wr.heap.size = F at *
      clear c0 c1 c2 c3 hba HIV
      have HS1 := Lib.hid (blk_below HQ1.out HB1.out (blk_lt HQ1.out))
      have HS2 := Lib.hid (blk_below HQ2.out HB1.out (blk_lt HQ2.out))
      obtain ⟨_, t0, t1, t2, _⟩ := blk3 HS2.out
      go_wp2_with fail
      refine (sorts_any k ref lists W1).mono ?_
      rintro e W2 ⟨rfl, hb2⟩
      have HB2 := Lib.hid (HB1.out.trans (hb2.mono HB1.out.size))
      have HF2 := Lib.hid (blk_below HF.out hb2 (blk_lt HF.out))
      have HIV2 := Lib.hid (HIV1.out.later hb2)
      have HS3 := Lib.hid (blk_below HS1.out hb2 (blk_lt HS1.out))
      have HS4 := Lib.hid (blk_below HS2.out hb2 (blk_lt HS2.out))
      clear hb2 t0 t1 t2
      obtain ⟨_, f0, f1, f2, f3⟩ := blk4p HF2.out
      obtain ⟨_, t0, t1, t2, _⟩ := blk3 HS4.out
      obtain ⟨_, s0, s1, s2, _⟩ := blk3 HS3.out
      have h4 : ((sortP k lists : Int) == 4) = decide (sortP k lists = 4) := by by_cases h : sortP k lists = 4 <;> simp [h]; omega
      have HPQ : Hid (P q = (!decide (room = 0) && (!(decide (sortP k lists = 4) && !q.has) && fitsP (ss.map Prod.fst) (es.map Prod.fst) (room - 1) k ref lists q))) := Lib.hid (by rw [HP.out]; rfl)
      generalize sortP k lists = o at *
      generalize decide (o = 4) = o4 at *
      obtain ⟨qh, hqh⟩ : ∃ x, q.has = x := ⟨_, rfl⟩
      rw [hqh] at HPQ HF2 f3 HIV2
      by_cases hr0 : room = 0
      · have HN := Lib.hid (HAF.out (by rw [HPQ.out, decide_eq_true hr0]; rfl))
        subst hr0
        cases o4 <;> cases qh <;> (go_wp2; go_ret; exact ⟨ret_bool HN.out.symm, HB.out.trans (HB2.out.mono HB.out.size)⟩)
      have hrn : ((room : Int) == 0) = false := by simp; omega
      have HPQ2 := Lib.hid (HPQ.out.trans (by rw [decide_eq_false hr0, Bool.not_false, Bool.true_and]))
      obtain ⟨r, hr⟩ : ∃ r, room = r + 1 := ⟨room - 1, by omega⟩
      have HFA := Lib.hid (HNX.out r hr W2 base _ _ root k ref lists q _ (HC.out.below HB2.out) (HT.out.below (Nat.le_refl _) HB2.out) hk hl0 hl1 HIV2.out)
      have hrw : (room : Int) - 1 = (r : Int) := by omega
      have hr1 : room - 1 = r := by omega
      rw [hr1] at HPQ2
      have HK2 := Lib.hid HAT.out
      have hpost : ∀ b, fitsP (ss.map Prod.fst) (es.map Prod.fst) r k ref lists q = b → ((P q = (!(o4 && !qh) && b))) := fun b hb => by rw [HPQ2.out, hb]
      have HPOST := Lib.hid hpost
      clear hpost hr hr1
      cases o4 with
      | false =>
        go_wp2_with fail
        refine HFA.out.mono ?_
        rintro e W3 ⟨rfl, hb3⟩
        have HB3 := Lib.hid (HB2.out.trans (hb3.mono HB2.out.size))
        clear hb3 f0 f1 f2 f3 t0 t1 t2 s0 s1 s2
        cases hfb : fitsP (ss.map Prod.fst) (es.map Prod.fst) r k ref lists q with
        | false =>
          have HN := Lib.hid (HAF.out (HPOST.out false hfb))
          go_wp2
          go_ret
          exact ⟨ret_bool HN.out.symm, HB.out.trans (HB3.out.mono HB.out.size)⟩
        | true =>
          have HY := Lib.hid (HPOST.out true hfb)
          go_wp2
          go_roundw
          case rel => exact ⟨j + 1, by omega, by go_num, HB3.out, by rw [HAT.out, HALL.out, HY.out]; rfl⟩
          case measure => simp [intOf]; omega
      | true =>
        cases qh with
        | false =>
          have HN := Lib.hid (HAF.out (by rw [HPQ2.out]; rfl))
          go_wp2
          go_ret
          exact ⟨ret_bool HN.out.symm, HB.out.trans (HB2.out.mono HB.out.size)⟩
        | true =>
          go_wp2_with fail
          refine HFA.out.mono ?_
          rintro e W3 ⟨rfl, hb3⟩
          have HB3 := Lib.hid (HB2.out.trans (hb3.mono HB2.out.size))
          clear hb3 f0 f1 f2 f3 t0 t1 t2 s0 s1 s2
          cases hfb : fitsP (ss.map Prod.fst) (es.map Prod.fst) r k ref lists q with
          | false =>
            have HN := Lib.hid (HAF.out (HPOST.out false hfb))
            go_wp2
            go_ret
            exact ⟨ret_bool HN.out.symm, HB.out.trans (HB3.out.mono HB.out.size)⟩
          | true =>
            have HY := Lib.hid (HPOST.out true hfb)
            go_wp2
            go_roundw
            case rel => exact ⟨j + 1, by omega, by go_num, HB3.out, by rw [HAT.out, HALL.out, HY.out]; rfl⟩
            case measure => simp [intOf]; omega
    · obtain rfl : j = ks.length := by omega
      have HR : Hid (ks.all P = true) := Lib.hid (by have h := HALL.out; rwa [List.take_length] at h)
      clear hjl
      go_wp2
      go_ret
      exact ⟨ret_bool HR.out.symm, HB.out.trans (HBW.out.mono HB.out.size)⟩
end Go.Proofs.YtfghaopimeoijaaDoor
