/-
  The package view's Tree: of a field or an element. Conditions: those that each theorem names.
-/
import Derived.Test.YtjeoekggdohhiaaDoorPkB42
import Derived.Deep.MidRow
namespace Go.Proofs.YtjeoekggdohhiaaDoor
open Go.ChangeShapes Go.WideShapes Go.ChangeAt Go.RowKit Go.Shelf

theorem tree_end {w W : World} {q : PV} {val : Value} {R N : Nat} (hB : Below w.heap.size w W) (hR : w.heap.size ≤ R) (hN : R < N) (hv : VH (newS N) W q val) (x y z u : Value) : VH (newS w.heap.size) (set4 W R x y z u) q val ∧ Below w.heap.size w (set4 W R x y z u) :=
  ⟨hv.step (by rw [set4_size]; exact Nat.le_refl _) (fun k hk hS => by
    have h1 : N ≤ k := by unfold newS at hS; simpa using hS
    exact ⟨by unfold newS; simp; omega, set4_blk W (by omega) _ _ _ _⟩), below_set4 hB hR _ _ _ _⟩
theorem rowB_bytes {W : World} {base n cap : Nat} {A : Option Addr} {zs : List Int} (h : W.ownsRow base 5 1 (.slice A n cap) n (u8Cells zs)) (hz : ∀ z ∈ zs, 0 ≤ z ∧ z ≤ 255) : Bytes W A zs ∧ zs.length = n := by
  obtain ⟨h1, h2⟩ := bytes_own (S := fun _ => false) h hz (fun _ _ => rfl)
  exact ⟨Bytes.mono (by rw [hide_size]; exact Nat.le_refl _) (fun p x hp => (hide_some hp).2) h1, h2⟩
theorem bytes_mem {w : World} {p : Option Addr} {zs : List Int} (h : Bytes w p zs) : ∀ z ∈ zs, 0 ≤ z ∧ z ≤ 255 := fun z hz => by
  obtain ⟨i, hi, rfl⟩ := List.mem_iff_getElem.1 hz
  have h1 := h.1 i
  rw [List.getD, List.getElem?_eq_getElem hi, Option.getD_some] at h1
  exact h1
set_option maxRecDepth 100000 in
set_option maxHeartbeats 16000000 in
theorem vkidtree {ss : List (CRec × Value)} {es : List (SCho × Value)} (room : Nat) (hSt : StructAt ss es room) (hLi : ListAt ss es room) : KidAt ss es room := by
  intro w base sv ev root k ref lists x val i b h hk hl0 hl1 hx hsm hfit hb4
  obtain ⟨sa, sc, ea, ec, rfl, rfl⟩ := h.forms
  obtain ⟨h0, h1, h2, h3⟩ := three_start w #[.slice sa ss.length sc, .slice ea es.length ec, .int .i64 root] #[.int .u8 k, .int .i64 ref, .int .i64 lists] #[.int .u64 0, .slice none 0 0, .slice none 0 0, .bool false] 30 55 36
  have hnum : (kidP x i).num ≤ 18446744073709551615 ∧ ∀ z ∈ (kidP x i).bytes, 0 ≤ z ∧ z ≤ 255 := by
    obtain ⟨kv, hkv⟩ := hx.kid i
    obtain ⟨_, _, _, _, _, hn, hbt, _⟩ := hkv.form
    exact ⟨hn, bytes_mem hbt⟩
  have HNUM := Lib.hid hnum
  have HCW := Lib.hid h
  have HX := Lib.hid hx
  have HX1 := Lib.hid (hx.later h0)
  have HB := Lib.hid h0
  have Q1 := Lib.hid h1
  have Q2 := Lib.hid h2
  have Q3 := Lib.hid h3
  have HSM := Lib.hid hsm
  have HFIT := Lib.hid (fits_sort hfit)
  have HB4 := Lib.hid hb4
  have HST := Lib.hid hSt
  have HLI := Lib.hid hLi
  obtain ⟨ba, ka, bc, kc, rfl, _⟩ := hx.form
  have e0 := view_no (.agg #[.int .u64 x.num, .slice ba x.bytes.length bc, .slice ka x.kids.length kc, .bool x.has])
  clear h0 h1 h2 h3 h hx hsm hfit hb4 hnum hSt hLi
  obtain ⟨VV, hVV⟩ : ∃ V, viewB b (.agg #[.int .u64 x.num, .slice ba x.bytes.length bc, .slice ka x.kids.length kc, .bool x.has]) = V := ⟨_, rfl⟩
  rw [hVV]
  have HVV := Lib.hid hVV
  clear hVV
  obtain ⟨q, hq⟩ : ∃ q, kidP x i = q := ⟨_, rfl⟩
  have HN1 : Hid (∀ W, Below w.heap.size w W → Calls Tryd.prog 75 #[.agg #[.int .u64 x.num, .slice ba x.bytes.length bc, .slice ka x.kids.length kc, .bool x.has], .int .i64 i] W fun e w' => e = .returned (.int .u64 q.num) ∧ Below W.heap.size W w') := Lib.hid (fun W hb => by have h := num_any W x _ (HX.out.later hb) i; rw [hq] at h; exact h)
  have HN2 : Hid (∀ W, Below w.heap.size w W → Calls Tryd.prog 73 #[.agg #[.int .u64 x.num, .slice ba x.bytes.length bc, .slice ka x.kids.length kc, .bool x.has], .int .i64 i] W fun e w' => (∃ v, e = .returned v ∧ w'.ownsRow W.heap.size 5 1 v q.bytes.length (u8Cells q.bytes)) ∧ Below W.heap.size W w') := Lib.hid (fun W hb => by have h := vbytes_any W x _ (HX.out.later hb) i (by have := HSM.out.kids.1; omega); rw [hq] at h; exact h)
  have HN3 : Hid (∀ W, Below w.heap.size w W → Calls Tryd.prog 74 #[.agg #[.int .u64 x.num, .slice ba x.bytes.length bc, .slice ka x.kids.length kc, .bool x.has], .int .i64 i] W fun e w' => (∃ kv, e = .returned (itemsI kv) ∧ IsV w' q kv) ∧ Below W.heap.size W w') := Lib.hid (fun W hb => by have h := vlistof_any W x _ (HX.out.later hb) i; rw [hq] at h; exact h)
  have HN4 : Hid (∀ W, Below w.heap.size w W → Calls Tryd.prog 77 #[.agg #[.int .u64 x.num, .slice ba x.bytes.length bc, .slice ka x.kids.length kc, .bool x.has], .int .i64 i] W fun e w' => ((∃ kv, e = .returned (.tuple #[viewI kv, .bool true]) ∧ q.has = true ∧ IsV w' q kv) ∨ (e = .returned (.tuple #[.nilIface, .bool false]) ∧ q.has = false)) ∧ Below W.heap.size W w') := Lib.hid (fun W hb => by have h := vsub_any W x _ (HX.out.later hb) i; rw [hq] at h; exact h)
  have HN5 : Hid (∀ W, Below w.heap.size w W → Calls Tryd.prog 78 #[.agg #[itemsI (.agg #[.int .u64 x.num, .slice ba x.bytes.length bc, .slice ka x.kids.length kc, .bool x.has])], .int .i64 i] W fun e w' => (∃ kv, e = .returned (.tuple #[viewI kv, .bool true]) ∧ IsV w' q kv) ∧ Below W.heap.size W w') := Lib.hid (fun W hb => by have h := esub_any W x _ (HX.out.later hb) i; rw [hq] at h; exact h)
  rw [hq] at HNUM HSM HFIT HB4 ⊢
  clear hq
  go_enter Tryd.func38, Tryd.ntmps38
  go_upto_region 1 with (fail)
  generalize ((w.alloc (.cells #[.slice sa ss.length sc, .slice ea es.length ec, .int .i64 root] 30)).alloc (.cells #[.int .u8 k, .int .i64 ref, .int .i64 lists] 55)).alloc (.cells #[.int .u64 0, .slice none 0 0, .slice none 0 0, .bool false] 36) = W0 at *
  obtain ⟨_, t0, t1, t2, _⟩ := blk3 Q2.out
  go_wp2_with fail
  refine (sorts_any k ref lists W0).mono ?_
  rintro e W1 ⟨rfl, hb1⟩
  have HB1 := Lib.hid (HB.out.trans (hb1.mono HB.out.size))
  have P1 := Lib.hid (blk_below Q1.out hb1 (blk_lt Q1.out))
  have P2 := Lib.hid (blk_below Q2.out hb1 (blk_lt Q2.out))
  have P3 := Lib.hid (blk_below Q3.out hb1 (blk_lt Q3.out))
  have HR1 : Hid (w.heap.size + 1 + 1 < W1.heap.size) := Lib.hid (blk_lt P3.out)
  clear hb1 t0 t1 t2 Q1 Q2 Q3 HB HX1
  rcases HFIT.out with ⟨hs, hqe⟩ | ⟨hs, hqe⟩ | ⟨hs, hqe, hall⟩ | ⟨hs, hqe⟩
  · rw [hs]
    have HQE := Lib.hid hqe
    clear hs hqe
    have HC : Hid (Calls Tryd.prog 75 #[.agg #[.int .u64 x.num, .slice ba x.bytes.length bc, .slice ka x.kids.length kc, .bool x.has], .int .i64 i] W1 fun e w' => e = .returned (.int .u64 q.num) ∧ Below W1.heap.size W1 w') := Lib.hid (HN1.out W1 HB1.out)
    cases b
    all_goals
      obtain rfl := HVV.out
      simp only [viewB, viewI, elemI, itemsI, Bool.false_eq_true, if_true, if_false]
      go_wp2_with fail
      try rw [recv_val]
      refine HC.out.mono ?_
      rintro e W2 ⟨rfl, hb2⟩
      have HB2 := Lib.hid (HB1.out.trans (hb2.mono HB1.out.size))
      have P4 := Lib.hid (blk_below P3.out hb2 (blk_lt P3.out))
      clear hb2
      obtain ⟨_, u0, u1, u2, u3⟩ := blk4p (P4.out)
      have p0 := blk_frozen (P4.out) 0
      have p1 := blk_frozen (P4.out) 1
      have p2 := blk_frozen (P4.out) 2
      have p3 := blk_frozen (P4.out) 3
      go_wp2
      refine post_gen (fun Wf => Wf.heap[w.heap.size + 1 + 1]? = some (.cells #[.int .u64 q.num, .slice none 0 0, .slice none 0 0, .bool false] 36 (0, 0)) ∧ VH (newS w.heap.size) Wf q (.agg #[.int .u64 q.num, .slice none 0 0, .slice none 0 0, .bool false]) ∧ Below w.heap.size w Wf) ⟨?_, ?_⟩ ?_
      · exact blk_set4 (w := W2) (P4.out) _ _ _ _
      · exact tree_end (N := w.heap.size + 1 + 1 + 1) HB2.out (by omega) (by omega) (by have h := vh_num (newS (w.heap.size + 1 + 1 + 1)) W2 q.num (by have := HNUM.out.1; omega); rw [show numV q.num = q from HQE.out.symm] at h; exact h) _ _ _ _
      · rintro Wf ⟨e1, e2, e3⟩
        obtain ⟨_, d0, d1, d2, d3⟩ := blk4p e1
        exact bodyPost_ret (v := .tuple #[.agg #[.int .u64 q.num, .slice none 0 0, .slice none 0 0, .bool false], .bool true]) (by simp [results, Tryd.results38, go_sem, d0, d1, d2, d3]) rfl ⟨⟨_, rfl, e2⟩, e3⟩

  · rw [hs]
    have HQE := Lib.hid hqe
    clear hs hqe
    have HC := Lib.hid (HN2.out W1 HB1.out)
    cases b
    all_goals
      obtain rfl := HVV.out
      simp only [viewB, viewI, elemI, itemsI, Bool.false_eq_true, if_true, if_false]
      go_wp2_with fail
      try rw [recv_val]
      refine HC.out.mono ?_
      rintro e W2 ⟨⟨v, rfl, ho⟩, hb2⟩
      have HB2 := Lib.hid (HB1.out.trans (hb2.mono HB1.out.size))
      have P4 := Lib.hid (blk_below P3.out hb2 (blk_lt P3.out))
      have HS2 : Hid (W1.heap.size ≤ W2.heap.size) := Lib.hid hb2.size
      obtain ⟨A, cap, rfl⟩ := ownsRow_form ho
      have HCL := Lib.hid (bclone_any W2 A q.bytes cap (rowB_bytes ho HNUM.out.2).1 (by have := HSM.out.kids.1; omega))
      clear hb2 ho
      go_wp2_with fail
      refine HCL.out.mono ?_
      rintro e W3 ⟨⟨v, rfl, ho⟩, hb3⟩
      obtain ⟨A2, c2, rfl⟩ := ownsRow_form ho
      have HB3 := Lib.hid (HB2.out.trans (hb3.mono HB2.out.size))
      have P5 := Lib.hid (blk_below P4.out hb3 (blk_lt P4.out))
      have HVH : Hid (VH (newS W2.heap.size) W3 (.mk 0 q.bytes [] false) (.agg #[.int .u64 0, .slice A2 q.bytes.length c2, .slice none 0 0, .bool false])) := Lib.hid (vh_bytes ho HNUM.out.2 (fun k hk => by unfold newS; simp; omega))
      rw [← HQE.out] at HVH
      clear hb3 ho HCL
      obtain ⟨_, u0, u1, u2, u3⟩ := blk4p (P5.out)
      have p0 := blk_frozen (P5.out) 0
      have p1 := blk_frozen (P5.out) 1
      have p2 := blk_frozen (P5.out) 2
      have p3 := blk_frozen (P5.out) 3
      go_wp2
      refine post_gen (fun Wf => Wf.heap[w.heap.size + 1 + 1]? = some (.cells #[.int .u64 0, .slice A2 q.bytes.length c2, .slice none 0 0, .bool false] 36 (0, 0)) ∧ VH (newS w.heap.size) Wf q (.agg #[.int .u64 0, .slice A2 q.bytes.length c2, .slice none 0 0, .bool false]) ∧ Below w.heap.size w Wf) ⟨?_, ?_⟩ ?_
      · exact blk_set4 (w := W3) (P5.out) _ _ _ _
      · exact tree_end HB3.out (by omega) (by have := HR1.out; have := HS2.out; omega) HVH.out _ _ _ _
      · rintro Wf ⟨e1, e2, e3⟩
        obtain ⟨_, d0, d1, d2, d3⟩ := blk4p e1
        exact bodyPost_ret (v := .tuple #[.agg #[.int .u64 0, .slice A2 q.bytes.length c2, .slice none 0 0, .bool false], .bool true]) (by simp [results, Tryd.results38, go_sem, d0, d1, d2, d3]) rfl ⟨⟨_, rfl, e2⟩, e3⟩

  · have hl3 : 1 ≤ lists := by
      unfold sortP at hs
      split at hs
      · omega
      · exfalso
        split at hs
        · omega
        · split at hs
          · omega
          · split at hs
            · omega
            · split at hs <;> omega
    have HEL := Lib.hid (fun W => element_any k ref lists (by omega) W)
    rw [hs]
    have HQE := Lib.hid hqe
    have HALL := Lib.hid hall
    obtain ⟨_, s0, s1, s2, _⟩ := blk3 P1.out
    obtain ⟨_, t0, t1, t2, _⟩ := blk3 P2.out
    clear hs hqe hall
    cases b
    all_goals have hMM := HVV.out
    · obtain rfl := hMM
      simp only [viewB, viewI, elemI, itemsI, Bool.false_eq_true, if_false]
      go_upto_region 7 with (fail)
      refine wp_region_noPanic ?_
      refine wp_region_held_drew (S := (fun w' => w'.cell? ⟨w.heap.size, 0, none⟩ = some (.slice sa ss.length sc) ∧ w'.cell? ⟨w.heap.size, 1, none⟩ = some (.slice ea es.length ec) ∧ w'.cell? ⟨w.heap.size, 2, none⟩ = some (.int .i64 root) ∧ w'.cell? ⟨w.heap.size + 1, 0, none⟩ = some (.int .u8 k) ∧ w'.cell? ⟨w.heap.size + 1, 1, none⟩ = some (.int .i64 ref) ∧ w'.cell? ⟨w.heap.size + 1, 2, none⟩ = some (.int .i64 lists))) (by kernel_rfl) ⟨s0, s1, s2, t0, t1, t2⟩ ?_
      intro hS
      refine wpAnyH_take (i := 0) (v := .agg #[.slice sa ss.length sc, .slice ea es.length ec, .int .i64 root]) rfl (by kernel_rfl) (by kernel_rfl) (by kernel_rfl) (fun _ _ _ h => h) (Or.inl ⟨by rfl, ?_⟩) hS ?_
      · intro w' hSw
        obtain ⟨s0, s1, s2, t0, t1, t2⟩ := hSw
        go_simp
      simp only [Act.put, List.getElem_toArray, List.getElem_cons_zero, List.setIfInBounds_toArray, List.set_cons_zero, List.set_cons_succ]
      refine wpAnyH_take (i := 1) (v := .agg #[.int .u8 k, .int .i64 ref, .int .i64 lists]) rfl (by kernel_rfl) (by kernel_rfl) (by kernel_rfl) (fun _ _ _ h => h) (Or.inl ⟨by rfl, ?_⟩) hS ?_
      · intro w' hSw
        obtain ⟨s0, s1, s2, t0, t1, t2⟩ := hSw
        go_simp
      simp only [Act.put, List.getElem_toArray, List.getElem_cons_succ, List.getElem_cons_zero, List.setIfInBounds_toArray, List.set_cons_zero, List.set_cons_succ]
      refine wpAnyH_take (i := 3) (v := .iface 116 (.agg #[.iface 139 (.agg #[.int .u64 x.num, .slice ba x.bytes.length bc, .slice ka x.kids.length kc, .bool x.has])])) rfl (by kernel_rfl) (by kernel_rfl) (by kernel_rfl) (fun _ _ _ h => h) (Or.inl ⟨by rfl, ?_⟩) hS ?_
      · intro w' hSw
        obtain ⟨s0, s1, s2, t0, t1, t2⟩ := hSw
        go_simp
      simp only [Act.put, List.getElem_toArray, List.getElem_cons_succ, List.getElem_cons_zero, List.setIfInBounds_toArray, List.set_cons_zero, List.set_cons_succ]
      refine wpAnyH_take (i := 4) (v := .int .i64 i) rfl (by kernel_rfl) (by kernel_rfl) (by kernel_rfl) (fun _ _ _ h => h) (Or.inl ⟨by rfl, ?_⟩) hS ?_
      · intro w' hSw
        obtain ⟨s0, s1, s2, t0, t1, t2⟩ := hSw
        go_simp
      simp only [Act.put, List.getElem_toArray, List.getElem_cons_succ, List.getElem_cons_zero, List.setIfInBounds_toArray, List.set_cons_zero, List.set_cons_succ]
      refine wpAnyH_take (i := 6) (v := .int .i64 room) rfl (by kernel_rfl) (by kernel_rfl) (by kernel_rfl) (fun _ _ _ h => h) (Or.inl ⟨by rfl, ?_⟩) hS ?_
      · intro w' hSw
        obtain ⟨s0, s1, s2, t0, t1, t2⟩ := hSw
        go_simp
      simp only [Act.put, List.getElem_toArray, List.getElem_cons_succ, List.getElem_cons_zero, List.setIfInBounds_toArray, List.set_cons_zero, List.set_cons_succ]
      refine wpAnyH_ready (rs := [2]) (by kernel_rfl) (by decide) (AllReadyH.cons rfl (fun K hK => ?_) AllReadyH.nil)
      rw [if_pos (by kernel_rfl)]
      go_simp
      refine (HEL.out W1.drew).mono ?_
      rintro e W2 ⟨rfl, hbW2⟩
      have hxW2 : Below W1.heap.size W1 W2 := (Below.refl _ W1).drew.trans hbW2
      have ns0 := cell_stays hxW2 s0
      have ns1 := cell_stays hxW2 s1
      have ns2 := cell_stays hxW2 s2
      have nt0 := cell_stays hxW2 t0
      have nt1 := cell_stays hxW2 t1
      have nt2 := cell_stays hxW2 t2
      refine hK.out _ _ ⟨ns0, ns1, ns2, nt0, nt1, nt2⟩ (fun hS => ?_)
      clear ns0 ns1 ns2 nt0 nt1 nt2
      refine wpAnyH_ready (rs := [5]) (by kernel_rfl) (by decide) (AllReadyH.cons rfl (fun K hK => ?_) AllReadyH.nil)
      rw [if_pos (by kernel_rfl)]
      go_simp
      rw [meth_elist]
      case hN => kernel_rfl
      go_simp
      refine (HN3.out W2 (HB1.out.trans (hxW2.mono HB1.out.size))).mono ?_
      rintro e W3 ⟨⟨kv, rfl, hkv⟩, hbW3⟩
      have hxW3 : Below W1.heap.size W1 W3 := hxW2.trans (hbW3.mono hxW2.size)
      have ns0 := cell_stays hxW3 s0
      have ns1 := cell_stays hxW3 s1
      have ns2 := cell_stays hxW3 s2
      have nt0 := cell_stays hxW3 t0
      have nt1 := cell_stays hxW3 t1
      have nt2 := cell_stays hxW3 t2
      refine hK.out _ _ ⟨ns0, ns1, ns2, nt0, nt1, nt2⟩ (fun hS => ?_)
      clear ns0 ns1 ns2 nt0 nt1 nt2
      have hlt : Calls Tryd.prog 49 #[.agg #[.slice sa ss.length sc, .slice ea es.length ec, .int .i64 root], .agg #[.int .u8 k, .int .i64 ref, .int .i64 (lists - 1)], itemsI kv, .int .i64 room] W3 (TreePost W3 q) := HLI.out W3 base _ _ root k ref (lists - 1) q kv (HCW.out.below (HB1.out.trans (hxW3.mono HB1.out.size))) hk (by omega) (by omega) hkv HSM.out HQE.out.1 HQE.out.2.1 HQE.out.2.2 HALL.out
      refine wpAnyH_ready (rs := [7]) (by kernel_rfl) (by decide) (AllReadyH.cons rfl (fun K hK => ?_) AllReadyH.nil)
      rw [if_pos (by kernel_rfl)]
      go_simp
      refine (hlt).mono ?_
      rintro e W4 ⟨⟨val6, rfl, hvh6⟩, hbW4⟩
      have hxW4 : Below W1.heap.size W1 W4 := hxW3.trans (hbW4.mono hxW3.size)
      obtain ⟨ba6, ka6, bc6, kc6, rfl, _⟩ := IsV.form hvh6
      have ns0 := cell_stays hxW4 s0
      have ns1 := cell_stays hxW4 s1
      have ns2 := cell_stays hxW4 s2
      have nt0 := cell_stays hxW4 t0
      have nt1 := cell_stays hxW4 t1
      have nt2 := cell_stays hxW4 t2
      refine hK.out _ _ ⟨ns0, ns1, ns2, nt0, nt1, nt2⟩ (fun hS => ?_)
      clear ns0 ns1 ns2 nt0 nt1 nt2
      refine wpAnyH_take (i := 8) (v := .agg #[.int .u64 q.num, .slice ba6 q.bytes.length bc6, .slice ka6 q.kids.length kc6, .bool q.has]) rfl (by kernel_rfl) (by kernel_rfl) (by kernel_rfl) (fun _ _ _ h => h) (Or.inl ⟨by rfl, ?_⟩) hS ?_
      · intro w' hSw
        obtain ⟨s0, s1, s2, t0, t1, t2⟩ := hSw
        go_simp
      simp only [Act.put, List.getElem_toArray, List.getElem_cons_succ, List.getElem_cons_zero, List.setIfInBounds_toArray, List.set_cons_zero, List.set_cons_succ]
      refine wpAnyH_take (i := 9) (v := .bool true) rfl (by kernel_rfl) (by kernel_rfl) (by kernel_rfl) (fun _ _ _ h => h) (Or.inl ⟨by rfl, ?_⟩) hS ?_
      · intro w' hSw
        obtain ⟨s0, s1, s2, t0, t1, t2⟩ := hSw
        go_simp
      simp only [Act.put, List.getElem_toArray, List.getElem_cons_succ, List.getElem_cons_zero, List.setIfInBounds_toArray, List.set_cons_zero, List.set_cons_succ]
      have hR4 := blk_below P3.out hxW4 (blk_lt P3.out)
      obtain ⟨_, u0, u1, u2, u3⟩ := blk4p hR4
      have hthere : W4.there (w.heap.size + 1 + 1) 0 4 := fun j hj => by
        have h4 : j = 0 ∨ j = 1 ∨ j = 2 ∨ j = 3 := by omega
        rcases h4 with rfl | rfl | rfl | rfl
        · exact ⟨by rw [Nat.add_zero, u0]; rfl, blk_frozen hR4 _⟩
        · exact ⟨by rw [Nat.zero_add, u1]; rfl, blk_frozen hR4 _⟩
        · exact ⟨by rw [Nat.zero_add, u2]; rfl, blk_frozen hR4 _⟩
        · exact ⟨by rw [Nat.zero_add, u3]; rfl, blk_frozen hR4 _⟩
      refine wpAnyH_ready (rs := [10]) (by kernel_rfl) (by decide) (AllReadyH.cons rfl (fun K hK => ?_) AllReadyH.nil)
      rw [if_pos (by kernel_rfl)]
      refine wp_store_mid 36 (.tmp 10) (.tmp 39) rfl (w.heap.size + 1 + 1) 0 #[.int .u64 q.num, .slice ba6 q.bytes.length bc6, .slice ka6 q.kids.length kc6, .bool q.has] rfl rfl hthere (by kernel_rfl) (Array.all_eq_true_iff_forall_mem.2 (by intro x hx; simp at hx; rcases hx with rfl | rfl | rfl | rfl <;> rfl)) ?_
      change K _ (set4 W4 (w.heap.size + 1 + 1) (.int .u64 q.num) (.slice ba6 q.bytes.length bc6) (.slice ka6 q.kids.length kc6) (.bool q.has))
      have hks : ∀ (b : Nat) (o : Nat) (c : Value), b < w.heap.size + 1 + 1 → W1.cell? ⟨b, o, none⟩ = some c → (set4 W4 (w.heap.size + 1 + 1) (.int .u64 q.num) (.slice ba6 q.bytes.length bc6) (.slice ka6 q.kids.length kc6) (.bool q.has)).cell? ⟨b, o, none⟩ = some c := fun b o c hb hc => keep4 (cell_stays hxW4 hc) (by show b ≠ _; omega)
      refine hK.out _ _ ⟨hks _ _ _ (by omega) s0, hks _ _ _ (by omega) s1, hks _ _ _ (by omega) s2, hks _ _ _ (by omega) t0, hks _ _ _ (by omega) t1, hks _ _ _ (by omega) t2⟩ (fun hS => ?_)
      refine wpAnyH_take (i := 11) (v := .bool true) rfl (by kernel_rfl) (by kernel_rfl) (by kernel_rfl) (fun _ _ _ h => h) (Or.inl ⟨by rfl, ?_⟩) hS ?_
      · intro w' hSw
        obtain ⟨s0, s1, s2, t0, t1, t2⟩ := hSw
        go_simp
      simp only [Act.put, List.getElem_toArray, List.getElem_cons_succ, List.getElem_cons_zero, List.setIfInBounds_toArray, List.set_cons_zero, List.set_cons_succ]
      refine wpAnyH_done (by kernel_rfl) ?_ _
      refine NoPanic.normal ?_
      try simp only [Exit.then]
      have he1 := blk_set4 hR4 (.int .u64 q.num) (.slice ba6 q.bytes.length bc6) (.slice ka6 q.kids.length kc6) (.bool q.has)
      have he2 := tree_end (R := w.heap.size + 1 + 1) (HB1.out.trans (hxW4.mono HB1.out.size)) (by omega) (by have := HR1.out; have := hxW3.size; omega) hvh6 (.int .u64 q.num) (.slice ba6 q.bytes.length bc6) (.slice ka6 q.kids.length kc6) (.bool q.has)
      replace he1 : (set4 W4 (w.heap.size + 1 + 1) (.int .u64 q.num) (.slice ba6 q.bytes.length bc6) (.slice ka6 q.kids.length kc6) (.bool q.has)).heap[w.heap.size + 1 + 1]? = _ := he1
      have HE1 := Lib.hid he1
      have HE2 := Lib.hid he2
      clear he1 he2 hS hks hthere u0 u1 u2 u3 hR4 hxW2 hxW3 hxW4 hbW2 hbW3 hbW4 hkv hlt hvh6
      generalize set4 W4 (w.heap.size + 1 + 1) (.int .u64 q.num) (.slice ba6 q.bytes.length bc6) (.slice ka6 q.kids.length kc6) (.bool q.has) = W9 at *
      go_wp2
      refine post_gen (fun Wf => Wf.heap[w.heap.size + 1 + 1]? = some (.cells #[.int .u64 q.num, .slice ba6 q.bytes.length bc6, .slice ka6 q.kids.length kc6, .bool q.has] 36 (0, 0)) ∧ VH (newS w.heap.size) Wf q (.agg #[.int .u64 q.num, .slice ba6 q.bytes.length bc6, .slice ka6 q.kids.length kc6, .bool q.has]) ∧ Below w.heap.size w Wf) ⟨HE1.out, HE2.out⟩ ?_
      rintro Wf ⟨e1, e2, e3⟩
      obtain ⟨_, d0, d1, d2, d3⟩ := blk4p e1
      exact bodyPost_ret (v := .tuple #[.agg #[.int .u64 q.num, .slice ba6 q.bytes.length bc6, .slice ka6 q.kids.length kc6, .bool q.has], .bool true]) (by simp [results, Tryd.results38, go_sem, d0, d1, d2, d3]) rfl ⟨⟨_, rfl, e2⟩, e3⟩
    · obtain rfl := hMM
      simp only [viewB, viewI, if_true]
      go_upto_region 7 with (fail)
      refine wp_region_noPanic ?_
      refine wp_region_held_drew (S := (fun w' => w'.cell? ⟨w.heap.size, 0, none⟩ = some (.slice sa ss.length sc) ∧ w'.cell? ⟨w.heap.size, 1, none⟩ = some (.slice ea es.length ec) ∧ w'.cell? ⟨w.heap.size, 2, none⟩ = some (.int .i64 root) ∧ w'.cell? ⟨w.heap.size + 1, 0, none⟩ = some (.int .u8 k) ∧ w'.cell? ⟨w.heap.size + 1, 1, none⟩ = some (.int .i64 ref) ∧ w'.cell? ⟨w.heap.size + 1, 2, none⟩ = some (.int .i64 lists))) (by kernel_rfl) ⟨s0, s1, s2, t0, t1, t2⟩ ?_
      intro hS
      refine wpAnyH_take (i := 0) (v := .agg #[.slice sa ss.length sc, .slice ea es.length ec, .int .i64 root]) rfl (by kernel_rfl) (by kernel_rfl) (by kernel_rfl) (fun _ _ _ h => h) (Or.inl ⟨by rfl, ?_⟩) hS ?_
      · intro w' hSw
        obtain ⟨s0, s1, s2, t0, t1, t2⟩ := hSw
        go_simp
      simp only [Act.put, List.getElem_toArray, List.getElem_cons_zero, List.setIfInBounds_toArray, List.set_cons_zero, List.set_cons_succ]
      refine wpAnyH_take (i := 1) (v := .agg #[.int .u8 k, .int .i64 ref, .int .i64 lists]) rfl (by kernel_rfl) (by kernel_rfl) (by kernel_rfl) (fun _ _ _ h => h) (Or.inl ⟨by rfl, ?_⟩) hS ?_
      · intro w' hSw
        obtain ⟨s0, s1, s2, t0, t1, t2⟩ := hSw
        go_simp
      simp only [Act.put, List.getElem_toArray, List.getElem_cons_succ, List.getElem_cons_zero, List.setIfInBounds_toArray, List.set_cons_zero, List.set_cons_succ]
      refine wpAnyH_take (i := 3) (v := .iface 78 (.agg #[.int .u64 x.num, .slice ba x.bytes.length bc, .slice ka x.kids.length kc, .bool x.has])) rfl (by kernel_rfl) (by kernel_rfl) (by kernel_rfl) (fun _ _ _ h => h) (Or.inl ⟨by rfl, ?_⟩) hS ?_
      · intro w' hSw
        obtain ⟨s0, s1, s2, t0, t1, t2⟩ := hSw
        go_simp
      simp only [Act.put, List.getElem_toArray, List.getElem_cons_succ, List.getElem_cons_zero, List.setIfInBounds_toArray, List.set_cons_zero, List.set_cons_succ]
      refine wpAnyH_take (i := 4) (v := .int .i64 i) rfl (by kernel_rfl) (by kernel_rfl) (by kernel_rfl) (fun _ _ _ h => h) (Or.inl ⟨by rfl, ?_⟩) hS ?_
      · intro w' hSw
        obtain ⟨s0, s1, s2, t0, t1, t2⟩ := hSw
        go_simp
      simp only [Act.put, List.getElem_toArray, List.getElem_cons_succ, List.getElem_cons_zero, List.setIfInBounds_toArray, List.set_cons_zero, List.set_cons_succ]
      refine wpAnyH_take (i := 6) (v := .int .i64 room) rfl (by kernel_rfl) (by kernel_rfl) (by kernel_rfl) (fun _ _ _ h => h) (Or.inl ⟨by rfl, ?_⟩) hS ?_
      · intro w' hSw
        obtain ⟨s0, s1, s2, t0, t1, t2⟩ := hSw
        go_simp
      simp only [Act.put, List.getElem_toArray, List.getElem_cons_succ, List.getElem_cons_zero, List.setIfInBounds_toArray, List.set_cons_zero, List.set_cons_succ]
      refine wpAnyH_ready (rs := [2]) (by kernel_rfl) (by decide) (AllReadyH.cons rfl (fun K hK => ?_) AllReadyH.nil)
      rw [if_pos (by kernel_rfl)]
      go_simp
      refine (HEL.out W1.drew).mono ?_
      rintro e W2 ⟨rfl, hbW2⟩
      have hxW2 : Below W1.heap.size W1 W2 := (Below.refl _ W1).drew.trans hbW2
      have ns0 := cell_stays hxW2 s0
      have ns1 := cell_stays hxW2 s1
      have ns2 := cell_stays hxW2 s2
      have nt0 := cell_stays hxW2 t0
      have nt1 := cell_stays hxW2 t1
      have nt2 := cell_stays hxW2 t2
      refine hK.out _ _ ⟨ns0, ns1, ns2, nt0, nt1, nt2⟩ (fun hS => ?_)
      clear ns0 ns1 ns2 nt0 nt1 nt2
      refine wpAnyH_ready (rs := [5]) (by kernel_rfl) (by decide) (AllReadyH.cons rfl (fun K hK => ?_) AllReadyH.nil)
      rw [if_pos (by kernel_rfl)]
      go_simp
      rw [meth_list]
      case hN => kernel_rfl
      go_simp
      refine (HN3.out W2 (HB1.out.trans (hxW2.mono HB1.out.size))).mono ?_
      rintro e W3 ⟨⟨kv, rfl, hkv⟩, hbW3⟩
      have hxW3 : Below W1.heap.size W1 W3 := hxW2.trans (hbW3.mono hxW2.size)
      have ns0 := cell_stays hxW3 s0
      have ns1 := cell_stays hxW3 s1
      have ns2 := cell_stays hxW3 s2
      have nt0 := cell_stays hxW3 t0
      have nt1 := cell_stays hxW3 t1
      have nt2 := cell_stays hxW3 t2
      refine hK.out _ _ ⟨ns0, ns1, ns2, nt0, nt1, nt2⟩ (fun hS => ?_)
      clear ns0 ns1 ns2 nt0 nt1 nt2
      have hlt : Calls Tryd.prog 49 #[.agg #[.slice sa ss.length sc, .slice ea es.length ec, .int .i64 root], .agg #[.int .u8 k, .int .i64 ref, .int .i64 (lists - 1)], itemsI kv, .int .i64 room] W3 (TreePost W3 q) := HLI.out W3 base _ _ root k ref (lists - 1) q kv (HCW.out.below (HB1.out.trans (hxW3.mono HB1.out.size))) hk (by omega) (by omega) hkv HSM.out HQE.out.1 HQE.out.2.1 HQE.out.2.2 HALL.out
      refine wpAnyH_ready (rs := [7]) (by kernel_rfl) (by decide) (AllReadyH.cons rfl (fun K hK => ?_) AllReadyH.nil)
      rw [if_pos (by kernel_rfl)]
      go_simp
      refine (hlt).mono ?_
      rintro e W4 ⟨⟨val6, rfl, hvh6⟩, hbW4⟩
      have hxW4 : Below W1.heap.size W1 W4 := hxW3.trans (hbW4.mono hxW3.size)
      obtain ⟨ba6, ka6, bc6, kc6, rfl, _⟩ := IsV.form hvh6
      have ns0 := cell_stays hxW4 s0
      have ns1 := cell_stays hxW4 s1
      have ns2 := cell_stays hxW4 s2
      have nt0 := cell_stays hxW4 t0
      have nt1 := cell_stays hxW4 t1
      have nt2 := cell_stays hxW4 t2
      refine hK.out _ _ ⟨ns0, ns1, ns2, nt0, nt1, nt2⟩ (fun hS => ?_)
      clear ns0 ns1 ns2 nt0 nt1 nt2
      refine wpAnyH_take (i := 8) (v := .agg #[.int .u64 q.num, .slice ba6 q.bytes.length bc6, .slice ka6 q.kids.length kc6, .bool q.has]) rfl (by kernel_rfl) (by kernel_rfl) (by kernel_rfl) (fun _ _ _ h => h) (Or.inl ⟨by rfl, ?_⟩) hS ?_
      · intro w' hSw
        obtain ⟨s0, s1, s2, t0, t1, t2⟩ := hSw
        go_simp
      simp only [Act.put, List.getElem_toArray, List.getElem_cons_succ, List.getElem_cons_zero, List.setIfInBounds_toArray, List.set_cons_zero, List.set_cons_succ]
      refine wpAnyH_take (i := 9) (v := .bool true) rfl (by kernel_rfl) (by kernel_rfl) (by kernel_rfl) (fun _ _ _ h => h) (Or.inl ⟨by rfl, ?_⟩) hS ?_
      · intro w' hSw
        obtain ⟨s0, s1, s2, t0, t1, t2⟩ := hSw
        go_simp
      simp only [Act.put, List.getElem_toArray, List.getElem_cons_succ, List.getElem_cons_zero, List.setIfInBounds_toArray, List.set_cons_zero, List.set_cons_succ]
      have hR4 := blk_below P3.out hxW4 (blk_lt P3.out)
      obtain ⟨_, u0, u1, u2, u3⟩ := blk4p hR4
      have hthere : W4.there (w.heap.size + 1 + 1) 0 4 := fun j hj => by
        have h4 : j = 0 ∨ j = 1 ∨ j = 2 ∨ j = 3 := by omega
        rcases h4 with rfl | rfl | rfl | rfl
        · exact ⟨by rw [Nat.add_zero, u0]; rfl, blk_frozen hR4 _⟩
        · exact ⟨by rw [Nat.zero_add, u1]; rfl, blk_frozen hR4 _⟩
        · exact ⟨by rw [Nat.zero_add, u2]; rfl, blk_frozen hR4 _⟩
        · exact ⟨by rw [Nat.zero_add, u3]; rfl, blk_frozen hR4 _⟩
      refine wpAnyH_ready (rs := [10]) (by kernel_rfl) (by decide) (AllReadyH.cons rfl (fun K hK => ?_) AllReadyH.nil)
      rw [if_pos (by kernel_rfl)]
      refine wp_store_mid 36 (.tmp 10) (.tmp 39) rfl (w.heap.size + 1 + 1) 0 #[.int .u64 q.num, .slice ba6 q.bytes.length bc6, .slice ka6 q.kids.length kc6, .bool q.has] rfl rfl hthere (by kernel_rfl) (Array.all_eq_true_iff_forall_mem.2 (by intro x hx; simp at hx; rcases hx with rfl | rfl | rfl | rfl <;> rfl)) ?_
      change K _ (set4 W4 (w.heap.size + 1 + 1) (.int .u64 q.num) (.slice ba6 q.bytes.length bc6) (.slice ka6 q.kids.length kc6) (.bool q.has))
      have hks : ∀ (b : Nat) (o : Nat) (c : Value), b < w.heap.size + 1 + 1 → W1.cell? ⟨b, o, none⟩ = some c → (set4 W4 (w.heap.size + 1 + 1) (.int .u64 q.num) (.slice ba6 q.bytes.length bc6) (.slice ka6 q.kids.length kc6) (.bool q.has)).cell? ⟨b, o, none⟩ = some c := fun b o c hb hc => keep4 (cell_stays hxW4 hc) (by show b ≠ _; omega)
      refine hK.out _ _ ⟨hks _ _ _ (by omega) s0, hks _ _ _ (by omega) s1, hks _ _ _ (by omega) s2, hks _ _ _ (by omega) t0, hks _ _ _ (by omega) t1, hks _ _ _ (by omega) t2⟩ (fun hS => ?_)
      refine wpAnyH_take (i := 11) (v := .bool true) rfl (by kernel_rfl) (by kernel_rfl) (by kernel_rfl) (fun _ _ _ h => h) (Or.inl ⟨by rfl, ?_⟩) hS ?_
      · intro w' hSw
        obtain ⟨s0, s1, s2, t0, t1, t2⟩ := hSw
        go_simp
      simp only [Act.put, List.getElem_toArray, List.getElem_cons_succ, List.getElem_cons_zero, List.setIfInBounds_toArray, List.set_cons_zero, List.set_cons_succ]
      refine wpAnyH_done (by kernel_rfl) ?_ _
      refine NoPanic.normal ?_
      try simp only [Exit.then]
      have he1 := blk_set4 hR4 (.int .u64 q.num) (.slice ba6 q.bytes.length bc6) (.slice ka6 q.kids.length kc6) (.bool q.has)
      have he2 := tree_end (R := w.heap.size + 1 + 1) (HB1.out.trans (hxW4.mono HB1.out.size)) (by omega) (by have := HR1.out; have := hxW3.size; omega) hvh6 (.int .u64 q.num) (.slice ba6 q.bytes.length bc6) (.slice ka6 q.kids.length kc6) (.bool q.has)
      replace he1 : (set4 W4 (w.heap.size + 1 + 1) (.int .u64 q.num) (.slice ba6 q.bytes.length bc6) (.slice ka6 q.kids.length kc6) (.bool q.has)).heap[w.heap.size + 1 + 1]? = _ := he1
      have HE1 := Lib.hid he1
      have HE2 := Lib.hid he2
      clear he1 he2 hS hks hthere u0 u1 u2 u3 hR4 hxW2 hxW3 hxW4 hbW2 hbW3 hbW4 hkv hlt hvh6
      generalize set4 W4 (w.heap.size + 1 + 1) (.int .u64 q.num) (.slice ba6 q.bytes.length bc6) (.slice ka6 q.kids.length kc6) (.bool q.has) = W9 at *
      go_wp2
      refine post_gen (fun Wf => Wf.heap[w.heap.size + 1 + 1]? = some (.cells #[.int .u64 q.num, .slice ba6 q.bytes.length bc6, .slice ka6 q.kids.length kc6, .bool q.has] 36 (0, 0)) ∧ VH (newS w.heap.size) Wf q (.agg #[.int .u64 q.num, .slice ba6 q.bytes.length bc6, .slice ka6 q.kids.length kc6, .bool q.has]) ∧ Below w.heap.size w Wf) ⟨HE1.out, HE2.out⟩ ?_
      rintro Wf ⟨e1, e2, e3⟩
      obtain ⟨_, d0, d1, d2, d3⟩ := blk4p e1
      exact bodyPost_ret (v := .tuple #[.agg #[.int .u64 q.num, .slice ba6 q.bytes.length bc6, .slice ka6 q.kids.length kc6, .bool q.has], .bool true]) (by simp [results, Tryd.results38, go_sem, d0, d1, d2, d3]) rfl ⟨⟨_, rfl, e2⟩, e3⟩

  · rw [hs]
    rcases hqe with ⟨hh, hqe⟩ | hqe
    · cases b
      · exact absurd (HB4.out rfl hs) (by rw [hh]; decide)
      · have HQE := Lib.hid hqe
        have HC := Lib.hid (HN4.out W1 HB1.out)
        have HH := Lib.hid hh
        clear hs hqe hh
        obtain rfl := HVV.out
        simp only [viewB, viewI, if_true]
        go_wp2_with fail
        refine HC.out.mono ?_
        rintro e W2 ⟨hw2, hb2⟩
        rcases hw2 with ⟨kv, rfl, hh, _⟩ | ⟨rfl, _⟩
        · exact absurd hh (by rw [HH.out]; decide)
        have HB2 := Lib.hid (HB1.out.trans (hb2.mono HB1.out.size))
        have P4 := Lib.hid (blk_below P3.out hb2 (blk_lt P3.out))
        clear hb2
        obtain ⟨_, u0, u1, u2, u3⟩ := blk4p (P4.out)
        have p0 := blk_frozen (P4.out) 0
        have p1 := blk_frozen (P4.out) 1
        have p2 := blk_frozen (P4.out) 2
        have p3 := blk_frozen (P4.out) 3
        go_wp2
        refine post_gen (fun Wf => Wf.heap[w.heap.size + 1 + 1]? = some (.cells #[.int .u64 0, .slice none 0 0, .slice none 0 0, .bool false] 36 (0, 0)) ∧ VH (newS w.heap.size) Wf q (.agg #[.int .u64 0, .slice none 0 0, .slice none 0 0, .bool false]) ∧ Below w.heap.size w Wf) ⟨?_, ?_⟩ ?_
        · exact blk_set4 (w := W2) (P4.out) _ _ _ _
        · exact tree_end (N := w.heap.size + 1 + 1 + 1) HB2.out (by omega) (by omega) (by rw [HQE.out]; exact vh_nil _ _) _ _ _ _
        · rintro Wf ⟨e1, e2, e3⟩
          obtain ⟨_, d0, d1, d2, d3⟩ := blk4p e1
          exact bodyPost_ret (v := .tuple #[.agg #[.int .u64 0, .slice none 0 0, .slice none 0 0, .bool false], .bool true]) (by simp [results, Tryd.results38, go_sem, d0, d1, d2, d3]) rfl ⟨⟨_, rfl, e2⟩, e3⟩
    · have HQE := Lib.hid hqe
      clear hs hqe
      cases b
      · have HC := Lib.hid (HN5.out W1 HB1.out)
        obtain rfl := HVV.out
        simp only [viewB, elemI, itemsI, Bool.false_eq_true, if_false]
        unfold itemsI at HC
        go_wp2_with fail
        refine HC.out.mono ?_
        rintro e W2 ⟨⟨kv, rfl, hkv⟩, hb2⟩
        have HB2 := Lib.hid (HB1.out.trans (hb2.mono HB1.out.size))
        have P4 := Lib.hid (blk_below P3.out hb2 (blk_lt P3.out))
        have HSTC : Hid (Calls Tryd.prog 26 #[.agg #[.slice sa ss.length sc, .slice ea es.length ec, .int .i64 root], .int .i64 ref, viewI kv, .int .i64 room] W2 (TreePost W2 q)) := Lib.hid (HST.out W2 base _ _ root ref q kv (HCW.out.below HB2.out) hkv HSM.out HQE.out.2.1 HQE.out.2.2.1 HQE.out.1 HQE.out.2.2.2)
        have HS2 : Hid (W1.heap.size ≤ W2.heap.size) := Lib.hid hb2.size
        obtain ⟨_, s0, s1, s2, _⟩ := blk3 (blk_below P1.out hb2 (blk_lt P1.out))
        obtain ⟨_, t0, t1, t2, _⟩ := blk3 (blk_below P2.out hb2 (blk_lt P2.out))
        clear hb2 hkv
        go_wp2_with fail
        refine HSTC.out.mono ?_
        rintro e W3 ⟨⟨val6, rfl, hvh6⟩, hb3⟩
        obtain ⟨ba6, ka6, bc6, kc6, rfl, _⟩ := IsV.form hvh6
        have HB3 := Lib.hid (HB2.out.trans (hb3.mono HB2.out.size))
        have P5 := Lib.hid (blk_below P4.out hb3 (blk_lt P4.out))
        have HVH := Lib.hid hvh6
        clear hb3 hvh6 s0 s1 s2 t0 t1 t2
        obtain ⟨_, u0, u1, u2, u3⟩ := blk4p (P5.out)
        have p0 := blk_frozen (P5.out) 0
        have p1 := blk_frozen (P5.out) 1
        have p2 := blk_frozen (P5.out) 2
        have p3 := blk_frozen (P5.out) 3
        go_wp2
        refine post_gen (fun Wf => Wf.heap[w.heap.size + 1 + 1]? = some (.cells #[.int .u64 q.num, .slice ba6 q.bytes.length bc6, .slice ka6 q.kids.length kc6, .bool q.has] 36 (0, 0)) ∧ VH (newS w.heap.size) Wf q (.agg #[.int .u64 q.num, .slice ba6 q.bytes.length bc6, .slice ka6 q.kids.length kc6, .bool q.has]) ∧ Below w.heap.size w Wf) ⟨?_, ?_⟩ ?_
        · exact blk_set4 (w := W3) (P5.out) _ _ _ _
        · exact tree_end HB3.out (by omega) (by have := HR1.out; have := HS2.out; omega) HVH.out _ _ _ _
        · rintro Wf ⟨e1, e2, e3⟩
          obtain ⟨_, d0, d1, d2, d3⟩ := blk4p e1
          exact bodyPost_ret (v := .tuple #[.agg #[.int .u64 q.num, .slice ba6 q.bytes.length bc6, .slice ka6 q.kids.length kc6, .bool q.has], .bool true]) (by simp [results, Tryd.results38, go_sem, d0, d1, d2, d3]) rfl ⟨⟨_, rfl, e2⟩, e3⟩
      · have HC := Lib.hid (HN4.out W1 HB1.out)
        obtain rfl := HVV.out
        simp only [viewB, viewI, if_true]
        go_wp2_with fail
        refine HC.out.mono ?_
        rintro e W2 ⟨hw2, hb2⟩
        rcases hw2 with ⟨kv, rfl, hh, hkv⟩ | ⟨rfl, hh⟩
        case inr => exact absurd hh (by rw [HQE.out.1]; decide)
        clear hh
        have HB2 := Lib.hid (HB1.out.trans (hb2.mono HB1.out.size))
        have P4 := Lib.hid (blk_below P3.out hb2 (blk_lt P3.out))
        have HSTC : Hid (Calls Tryd.prog 26 #[.agg #[.slice sa ss.length sc, .slice ea es.length ec, .int .i64 root], .int .i64 ref, viewI kv, .int .i64 room] W2 (TreePost W2 q)) := Lib.hid (HST.out W2 base _ _ root ref q kv (HCW.out.below HB2.out) hkv HSM.out HQE.out.2.1 HQE.out.2.2.1 HQE.out.1 HQE.out.2.2.2)
        have HS2 : Hid (W1.heap.size ≤ W2.heap.size) := Lib.hid hb2.size
        obtain ⟨_, s0, s1, s2, _⟩ := blk3 (blk_below P1.out hb2 (blk_lt P1.out))
        obtain ⟨_, t0, t1, t2, _⟩ := blk3 (blk_below P2.out hb2 (blk_lt P2.out))
        clear hb2 hkv
        go_wp2_with fail
        refine HSTC.out.mono ?_
        rintro e W3 ⟨⟨val6, rfl, hvh6⟩, hb3⟩
        obtain ⟨ba6, ka6, bc6, kc6, rfl, _⟩ := IsV.form hvh6
        have HB3 := Lib.hid (HB2.out.trans (hb3.mono HB2.out.size))
        have P5 := Lib.hid (blk_below P4.out hb3 (blk_lt P4.out))
        have HVH := Lib.hid hvh6
        clear hb3 hvh6 s0 s1 s2 t0 t1 t2
        obtain ⟨_, u0, u1, u2, u3⟩ := blk4p (P5.out)
        have p0 := blk_frozen (P5.out) 0
        have p1 := blk_frozen (P5.out) 1
        have p2 := blk_frozen (P5.out) 2
        have p3 := blk_frozen (P5.out) 3
        go_wp2
        refine post_gen (fun Wf => Wf.heap[w.heap.size + 1 + 1]? = some (.cells #[.int .u64 q.num, .slice ba6 q.bytes.length bc6, .slice ka6 q.kids.length kc6, .bool q.has] 36 (0, 0)) ∧ VH (newS w.heap.size) Wf q (.agg #[.int .u64 q.num, .slice ba6 q.bytes.length bc6, .slice ka6 q.kids.length kc6, .bool q.has]) ∧ Below w.heap.size w Wf) ⟨?_, ?_⟩ ?_
        · exact blk_set4 (w := W3) (P5.out) _ _ _ _
        · exact tree_end HB3.out (by omega) (by have := HR1.out; have := HS2.out; omega) HVH.out _ _ _ _
        · rintro Wf ⟨e1, e2, e3⟩
          obtain ⟨_, d0, d1, d2, d3⟩ := blk4p e1
          exact bodyPost_ret (v := .tuple #[.agg #[.int .u64 q.num, .slice ba6 q.bytes.length bc6, .slice ka6 q.kids.length kc6, .bool q.has], .bool true]) (by simp [results, Tryd.results38, go_sem, d0, d1, d2, d3]) rfl ⟨⟨_, rfl, e2⟩, e3⟩

end Go.Proofs.YtjeoekggdohhiaaDoor
