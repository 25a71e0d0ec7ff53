/-
  The document's own returns, walked. Conditions: those that each theorem names.
-/
import Derived.Test.YtgbcchiheddfpaaGreatDoorPkL17
import Derived.Test.YtgbcchiheddfpaaGreatDoorPkL19
namespace Go.Proofs.YtgbcchiheddfpaaGreatDoor
open Go.ChangeShapes Go.WideShapes Go.ChangeAt Go.RowKit Go.Shelf

theorem wy_zero (n k : Nat) : wy (List.replicate n (0 : Int)) k = 0 := by
  unfold wy
  rw [List.getD, List.getElem?_replicate]
  split <;> rfl
theorem outsC_len {ss : List (CRec × Value)} {L : Nat} (h : ∀ q ∈ ss, q.1.fields.length ≤ L) (x : Nat) : (outsC (ss.map Prod.fst) x).length ≤ L := by
  unfold outsC
  refine Nat.le_trans (outsF_len _) ?_
  rw [List.getD, List.getElem?_map]
  by_cases hx : x < ss.length
  · rw [List.getElem?_eq_getElem hx]
    exact h _ (List.getElem_mem hx)
  · rw [List.getElem?_eq_none (by omega)]
    exact Nat.zero_le _
theorem one_first (outs : Nat → List Nat) {n r : Nat} (hr : r < n) : (W1 outs n r [] (fun _ => 0) ((List.replicate n (0 : Int)).set r (wy (List.replicate n (0 : Int)) r + 1)) ∧ ∀ v, v < n → 0 ≤ wy ((List.replicate n (0 : Int)).set r (wy (List.replicate n (0 : Int)) r + 1)) v) ∧ In1' n r [] ((List.replicate n (0 : Int)).set r (wy (List.replicate n (0 : Int)) r + 1)) := by
  rw [wy_zero, show (0 : Int) + 1 = 1 from rfl]
  obtain ⟨h1, h2⟩ := w1_start outs hr
  refine ⟨⟨h1, fun v hv => ?_⟩, h2⟩
  have := h1.sum v hv
  simp only [inn] at this
  omega
theorem two_first {outs : Nat → List Nat} {n r L : Nat} (hr : r < n) (ho : ∀ i, i < n → ∀ v ∈ outs i, v < n) (hL : ∀ x, (outs x).length ≤ L) {E : List Nat} {ways : List Int} (h : W1 outs n r E (fun _ => 0) ways ∧ ∀ v, v < n → 0 ≤ wy ways v) (hi : In1 n E ways) :
    r ∈ E ∧ ways.length = n ∧ (0 ≤ wy ways r ∧ wy ways r ≤ 1 + (n * L : Nat)) ∧ LpInv outs n (1 + (n * L : Nat)) (-1) 0 (fun u => u ∈ E) (fun F rem ways => W2 outs n E F rem ways ∧ ∀ v ∈ E, wy ways v ≤ 1 + (n * L : Nat)) (In2 E) (fun u => In2' u E) ∧
      (W2 outs n E [] (fun _ => 0) (ways.set r (wy ways r + -1)) ∧ ∀ v ∈ E, wy (ways.set r (wy ways r + -1)) v ≤ 1 + (n * L : Nat)) ∧ (wy ways r + -1 = 0 → In2' r E [] (ways.set r (wy ways r + -1))) ∧ (wy ways r + -1 ≠ 0 → In2 E [] (ways.set r (wy ways r + -1))) := by
  obtain ⟨h1, h2, _⟩ := w1_end h.1 hi hr ho
  have hone := lp_one (L := L) hr ho hL
  have hsm : ∀ v ∈ E, wy ways v ≤ 1 + (n * L : Nat) := fun v hv => (hone.small h ⟨(h.1.mem v hv).1, (h.1.mem v hv).2⟩).2
  obtain ⟨h3, h4, h5⟩ := w2_start h.1 hi hr ho
  have hrE : r ∈ E := (h1 r).2 (.inl rfl)
  refine ⟨hrE, h.1.len, hone.small h ⟨hr, .inl rfl⟩, lp_two h.1.nod (fun x hx => (h.1.mem x hx).1) h2, ⟨h3, fun v hv => ?_⟩, h4, h5⟩
  rw [wy_set _ _ _ _ (by rw [h.1.len]; exact hr)]
  have h6 := hsm r hrE
  have h7 := hsm v hv
  split <;> omega
set_option maxRecDepth 100000 in
set_option maxHeartbeats 4000000 in
theorem loops_any {w : World} {sv ev : Value} {r : Nat} {ss : List (CRec × Value)} {es : List (SCho × Value)} {base : Nat} (hC : CRows base w ss es sv ev) (hL : LeadOk (ss.map Prod.fst)) (hn : ss.length ≤ 16) (hr : r < ss.length) (hf : ∀ q ∈ ss, q.1.fields.length ≤ 1000000) :
    Calls Tryz.prog 28 #[.agg #[sv, ev, .int .i64 r]] w fun e w' => (∃ b, e = .returned (.bool b) ∧ (b = true ↔ Turns (outsC (ss.map Prod.fst)) r)) ∧ Below w.heap.size w w' := by
  obtain ⟨sa, sc, ea, ec, rfl, rfl⟩ := hC.forms
  have ho : ∀ i, i < ss.length → ∀ v ∈ outsC (ss.map Prod.fst) i, v < ss.length := fun i _ v hv => by
    have h := outsC_lt hL i v hv
    rwa [List.length_map] at h
  have hLn := outsC_len hf
  have hM : (1 + (ss.length * 1000000 : Nat) : Int) ≤ 4611686018427387904 := by omega
  have hmk := make_ints ss.length (by omega)
  have hr0 : (0 : Int) ≤ r := Int.natCast_nonneg r
  have hr1 : (r : Int) < ss.length := by omega
  have HC := Lib.hid hC
  have HL := Lib.hid hL
  have HO := Lib.hid ho
  have HLN := Lib.hid hLn
  have HM := Lib.hid hM
  clear hC hL ho hLn hM hf
  go_enter Tryz.func28, Tryz.ntmps28
  go_wp2_with fail
  refine (samong_any r ss.length true (decide_eq_true ⟨hr0, hr1⟩) _).mono ?_
  rintro e W1 ⟨rfl, rfl⟩
  go_upto_region 4 with (fail)
  have hw3 : ∃ W3, ((w.alloc (Obj.cells #[.slice sa ss.length sc, .slice ea es.length ec, Value.int IntKind.i64 r] 30)).alloc (Obj.cells (i64Cells (List.replicate ss.length 0)).toArray 3)).alloc (Obj.cells #[.slice (some ⟨w.heap.size + 1, 0, none⟩) ss.length ss.length] 35) = W3 := ⟨_, rfl⟩
  obtain ⟨W3, hW3⟩ := hw3
  rw [hW3]
  have hb3 : Below w.heap.size w W3 := by
    rw [← hW3]
    exact (((Below.refl _ _).alloc (Nat.le_refl _) _).alloc (by simp) _).alloc (by simp; omega) _
  have q1 : W3.heap[w.heap.size]? = some (.cells #[.slice sa ss.length sc, .slice ea es.length ec, Value.int IntKind.i64 r] 30 (0, 0)) := by
    rw [← hW3]
    exact blk_alloc (blk_alloc (new_at rfl _) _) _
  have q2 : W3.heap[w.heap.size + 1]? = some (.cells (i64Cells (List.replicate ss.length 0)).toArray 3 (0, 0)) := by
    rw [← hW3]
    exact blk_alloc (new_at (by simp) _) _
  have q3 : W3.heap[w.heap.size + 1 + 1]? = some (.cells #[.slice (some ⟨w.heap.size + 1, 0, none⟩) ss.length ss.length] 35 (0, 0)) := by
    rw [← hW3]
    exact new_at (by simp) _
  obtain ⟨f1, f2⟩ := one_first (outsC (ss.map Prod.fst)) hr
  have hone := lp_one (L := 1000000) hr HO.out HLN.out
  have HGO := Lib.hid (walk_any HC.out HL.out (loops1_any ss.length _ HM.out) hone hn W3 hb3 (w.heap.size + 1 + 1) (w.heap.size + 1) (List.replicate ss.length 0) q3 q2 (by omega) (by omega) List.length_replicate hr ⟨hr, .inl rfl⟩ (by rw [wy_zero]; omega) (by rw [wy_zero]; omega) f1 (fun _ => f2) (fun h => absurd (by rw [wy_zero]; rfl) h))
  obtain ⟨_, x0, x1, x2, _⟩ := blk3 q1
  have HQ1 := Lib.hid q1
  have HQ3 := Lib.hid q3
  have HB3 := Lib.hid hb3
  have hs3 := blk_lt q3
  clear q1 q2 q3 hb3 hW3 f1 f2 hmk hone
  go_wp2_with fail
  refine HGO.out.mono ?_
  rintro e W4 ⟨E, ways1, rfl, h1, h2, h3, h4⟩
  obtain ⟨hrE, hl1, hsm, htwo, g1, g2, g3⟩ := two_first (L := 1000000) hr HO.out HLN.out h1 h2
  have q1 := blk_exc HQ1.out h4 (by omega) (by omega)
  have q3 := blk_exc HQ3.out h4 hs3 (by omega)
  have hb4 : Below w.heap.size w W4 := HB3.out.trans ⟨h4.os, h4.tape, h4.output, h4.size, fun k hk => h4.block k (by omega) (by omega)⟩
  have HGO := Lib.hid (walk_any HC.out HL.out (loops2_any ss.length _ HM.out) htwo hn W4 hb4 (w.heap.size + 1 + 1) (w.heap.size + 1) ways1 q3 h3 (by omega) (by omega) hl1 hr hrE hsm.1 hsm.2 g1 g2 g3)
  obtain ⟨_, x0, x1, x2, _⟩ := blk3 q1
  have H1 := Lib.hid h1
  have H2 := Lib.hid h2
  have HB4 := Lib.hid hb4
  clear q1 q3 hb4 h1 h2 h3 h4 htwo g1 g2 g3 hsm HQ1 HQ3 HB3
  go_wp2_with fail
  refine HGO.out.mono ?_
  rintro e W5 ⟨F, ways2, rfl, k1, k2, _, k4⟩
  have hb5 : Below w.heap.size w W5 := HB4.out.trans ⟨k4.os, k4.tape, k4.output, k4.size, fun k hk => k4.block k (Nat.lt_of_lt_of_le hk HB4.out.size) (by omega)⟩
  obtain ⟨e1, _, _⟩ := w1_end H1.out.1 H2.out hr HO.out
  have HT := Lib.hid (w2_end k1.1 k2 hr HO.out H1.out.1.nod e1)
  have HB5 := Lib.hid hb5
  clear hb5 e1 k1 k2 k4 HGO
  go_wp2
  go_ret
  refine ⟨⟨_, rfl, ?_⟩, HB5.out⟩
  rw [← HT.out, decide_eq_true_iff]
end Go.Proofs.YtgbcchiheddfpaaGreatDoor
namespace Go.Proofs.YtgbcchiheddfpaaGreatDoor
open Go.ChangeShapes Go.WideShapes Go.ChangeAt Go.RowKit Go.Shelf

theorem bool_infoL : (Tryz.prog.info? 4).map (fun i => (i.zero, i.size, i.bytes)) = some (some (.bool false), 1, 1) := by kernel_rfl
def bsC (l : List Bool) : Array Value := (l.map Value.bool).toArray
theorem made_bsC (n : Nat) : madeCells (Value.bool false).cells (n * 1) = bsC (List.replicate n false) := by
  unfold bsC
  apply Array.ext'
  apply List.ext_getElem?
  intro k
  simp only [madeCells, Array.toList_map, Array.toList_range, Nat.mul_one, List.getElem?_map, List.getElem?_replicate]
  by_cases hk : k < n
  · rw [List.getElem?_range hk, if_pos hk, Option.map_some]
    show some (#[Value.bool false][k % 1]!) = _
    rw [Nat.mod_one]
    rfl
  · rw [List.getElem?_eq_none (by simp; omega), if_neg hk]
    rfl
theorem make_bsC (n : Nat) (hn : n ≤ 1000000) (W : World) : (Instr.makeSlice 105 (.int .i64 (n : Int)) (.int .i64 (n : Int))).run Tryz.prog W = .ok (.slice (some ⟨W.heap.size, 0, none⟩) n n) (W.alloc (.cells (bsC (List.replicate n false)) 4)) := by
  obtain ⟨i, hi, hz, hs, hb⟩ := info_parts bool_infoL
  have h := run_make W 105 4 i (.bool false) Tryz.underlying105 hi hz .i64 .i64 n n (by omega) (Int.le_refl _) (by rw [hb]; omega) (by omega)
  rw [hs, Int.toNat_natCast, made_bsC] at h
  exact h
theorem bs_at {W : World} {g : Nat} {t : TypeId} {st : List Bool} (h : W.heap[g]? = some (.cells (bsC st) t (0, 0))) (k : Nat) (hk : k < st.length) : W.cell? ⟨g, k, none⟩ = some (.bool (on st k)) := by
  rw [blk_cell h]
  unfold bsC
  rw [List.getElem?_toArray, List.getElem?_map, List.getElem?_eq_getElem hk]
  unfold on
  rw [List.getD, List.getElem?_eq_getElem hk]
  rfl
theorem bs_set {W : World} {g : Nat} {t : TypeId} {st : List Bool} (h : W.heap[g]? = some (.cells (bsC st) t (0, 0))) (k : Nat) (b : Bool) : (W.setCell ⟨g, k, none⟩ (.bool b)).heap[g]? = some (.cells (bsC (st.set k b)) t (0, 0)) := by
  rw [blk_set h]
  unfold bsC
  rw [List.map_set, List.setIfInBounds_toArray]
structure BsSt (w : World) (n : Nat) (sv ev : Value) (root : Int) (st : List Bool) (W : World) : Prop where
  below : Below w.heap.size w W
  sch : W.heap[w.heap.size]? = some (.cells #[sv, ev, .int .i64 root] 30 (0, 0))
  row : W.heap[w.heap.size + 1]? = some (.cells (bsC st) 4 (0, 0))
  len : st.length = n
theorem BsSt.later {w : World} {n : Nat} {sv ev : Value} {root : Int} {st : List Bool} {W W' : World} (h : BsSt w n sv ev root st W) (hb : Below W.heap.size W W') : BsSt w n sv ev root st W' :=
  ⟨h.below.trans (hb.mono h.below.size), blk_below h.sch hb (blk_lt h.sch), blk_below h.row hb (blk_lt h.row), h.len⟩
theorem BsSt.put {w : World} {n : Nat} {sv ev : Value} {root : Int} {st : List Bool} {W : World} (h : BsSt w n sv ev root st W) (k : Nat) : BsSt w n sv ev root (st.set k true) (W.setCell ⟨w.heap.size + 1, k, none⟩ (.bool true)) :=
  ⟨h.below.setCell (by simp) _, blk_set_ne h.sch (by simp) _, bs_set h.row k true, by rw [List.length_set]; exact h.len⟩
def kSt (act : Bool) (st : List Bool) (fs : List CFld) (k : Nat) : List Bool := if act = true then setAll st (outsF (fs.take k)) else st
theorem kSt_zero (act : Bool) (st : List Bool) (fs : List CFld) : kSt act st fs 0 = st := by
  unfold kSt
  split <;> rfl
theorem kSt_length (act : Bool) (st : List Bool) (fs : List CFld) (k : Nat) : (kSt act st fs k).length = st.length := by
  unfold kSt
  split
  · exact setAll_length _ _
  · rfl
theorem outsF_snoc (l : List CFld) (f : CFld) : outsF (l ++ [f]) = outsF l ++ if f.kind = 13 then [f.ref.toNat] else [] := by
  unfold outsF
  rw [List.filterMap_append]
  by_cases h : f.kind = 13 <;> simp [h]
theorem kSt_yes {st : List Bool} {fs : List CFld} {k : Nat} (hk : k < fs.length) (h : fs[k].kind = 13) : kSt true st fs (k + 1) = (kSt true st fs k).set fs[k].ref.toNat true := by
  unfold kSt
  rw [if_pos rfl, if_pos rfl, List.take_succ_eq_append_getElem hk, outsF_snoc, if_pos h]
  unfold setAll
  rw [List.foldl_append]
  rfl
theorem kSt_no {act : Bool} {st : List Bool} {fs : List CFld} {k : Nat} (hk : k < fs.length) (h : ¬ fs[k].kind = 13) : kSt act st fs (k + 1) = kSt act st fs k := by
  unfold kSt
  rw [List.take_succ_eq_append_getElem hk, outsF_snoc, if_neg h, List.append_nil]
theorem kSt_on {st : List Bool} {fs : List CFld} {k i : Nat} (act : Bool) (h : on st i = true) : on (kSt act st fs k) i = true := by
  unfold kSt
  split
  · exact (on_setAll _ _ _).2 (.inl h)
  · exact h
theorem kSt_end {seed : Nat → Bool} {outs : Nat → List Nat} {st : List Bool} {fs : List CFld} {i k : Nat} (ho : outs i = outsF fs) (h : k = fs.length ∨ (seed i || on st i) = false) : kSt (seed i || on st i) st fs k = turnOf seed outs st i := by
  unfold kSt turnOf
  rcases h with rfl | h
  · rw [List.take_length, ho]
  · rw [h, if_neg (by decide), if_neg (by decide)]
def BsOut (w : World) (n : Nat) (sv ev : Value) (root : Int) (seed : Nat → Bool) (outs : Nat → List Nat) (st0 : List Bool) (m : Nat) (i : Value) (W : World) : Prop := ∃ s : Nat, s ≤ m ∧ i = .int .i64 s ∧ BsSt w n sv ev root (sweeps seed outs n s st0) W
def BsIn (w : World) (n : Nat) (sv ev : Value) (root : Int) (seed : Nat → Bool) (outs : Nat → List Nat) (st : List Bool) (i : Value) (W : World) : Prop := ∃ j : Nat, j ≤ n ∧ i = .int .i64 j ∧ BsSt w n sv ev root (sweepTo seed outs st j) W
def BsFl (w : World) (n : Nat) (sv ev : Value) (root : Int) (act : Bool) (st : List Bool) (fs : List CFld) (i : Value) (W : World) : Prop := ∃ k : Nat, k ≤ fs.length ∧ i = .int .i64 k ∧ BsSt w n sv ev root (kSt act st fs k) W
theorem crow_reads {base : Nat} {w : World} {ss : List (CRec × Value)} {es : List (SCho × Value)} {sv ev : Value} (hC : CRows base w ss es sv ev) (j : Nat) (hj : j < ss.length) :
    ∃ sg sc fa fc, sv = .slice (some ⟨sg, 0, none⟩) ss.length sc ∧ (∀ W, Below w.heap.size w W → W.cell? ⟨sg, j * 2 + 1, none⟩ = some (.slice fa ss[j].1.fields.length fc)) ∧
      ∀ (k : Nat) (hk : k < ss[j].1.fields.length), ∃ fg, fa = some ⟨fg, 0, none⟩ ∧ ∀ W, Below w.heap.size w W → W.cell? ⟨fg, k * 5 + 1, none⟩ = some (.int .u8 (ss[j].1.fields[k].kind : Nat)) ∧ W.cell? ⟨fg, k * 5 + 2, none⟩ = some (.int .i64 ss[j].1.fields[k].ref) ∧ W.cell? ⟨fg, k * 5 + 3, none⟩ = some (.int .i64 ss[j].1.fields[k].lists) := by
  obtain ⟨sg, sc, fa, fc, hv, h1, h2⟩ := hC.strct j hj
  refine ⟨sg, sc, fa, fc, hv, fun W hW => cell_stays hW h1, fun k hk => ?_⟩
  obtain ⟨fg, hfa, _, c1, c2, c3, _⟩ := hC.fld j hj h2 k hk
  exact ⟨fg, hfa, fun W hW => ⟨cell_stays hW c1, cell_stays hW c2, cell_stays hW c3⟩⟩
end Go.Proofs.YtgbcchiheddfpaaGreatDoor
namespace Go.Proofs.YtgbcchiheddfpaaGreatDoor
open Go.ChangeShapes Go.WideShapes Go.ChangeAt Go.RowKit Go.Shelf

set_option maxRecDepth 100000 in
set_option maxHeartbeats 8000000 in
theorem returns_any {w : World} {sv ev : Value} {root : Int} {r : Nat} {ss : List (CRec × Value)} {es : List (SCho × Value)} {base : Nat} (hC : CRows base w ss es sv ev) (hL : LeadOk (ss.map Prod.fst)) (hn : ss.length ≤ 1000000) (hr : r < ss.length) :
    Calls Tryz.prog 44 #[.agg #[sv, ev, .int .i64 root], .int .i64 r] w fun e w' => e = .returned (.bool (on (sweeps (fun i => decide (i = r)) (outsC (ss.map Prod.fst)) ss.length (ss.length + 1) (List.replicate ss.length false)) r)) ∧ Below w.heap.size w w' := by
  obtain ⟨sa, sc, ea, ec, rfl, rfl⟩ := hC.forms
  have hmk := make_bsC ss.length hn
  have hlead : ∀ j (hj : j < ss.length), ∀ f ∈ ss[j].1.fields, f.kind = 13 → 0 ≤ f.ref ∧ f.ref < ss.length := fun j hj f hf hk => by
    have h := hL ss[j].1 (List.mem_map.2 ⟨_, List.getElem_mem hj, rfl⟩) f hf hk
    rwa [List.length_map] at h
  have hout : ∀ j (hj : j < ss.length), outsC (ss.map Prod.fst) j = outsF ss[j].1.fields := fun j hj => by
    unfold outsC
    rw [List.getD, List.getElem?_map, List.getElem?_eq_getElem hj]
    rfl
  have hrd := fun j (hj : j < ss.length) => crow_reads hC j hj
  have hfew : ∀ j (hj : j < ss.length), ss[j].1.fields.length ≤ 9223372036854775807 := fun j hj => row_few (hC.fields _ (List.getElem_mem hj))
  have HLE := Lib.hid hlead
  have HOU := Lib.hid hout
  have HRD := Lib.hid hrd
  have HFE := Lib.hid hfew
  clear hC hL hlead hout hrd hfew
  generalize outsC (ss.map Prod.fst) = outs at *
  go_enter Tryz.func44, Tryz.ntmps44
  go_upto_region 2 with (fail)
  have hst : BsSt w ss.length (.slice sa ss.length sc) (.slice ea es.length ec) root (List.replicate ss.length false) ((w.alloc (Obj.cells #[.slice sa ss.length sc, .slice ea es.length ec, .int .i64 root] 30)).alloc (Obj.cells (bsC (List.replicate ss.length false)) 4)) :=
    ⟨((Below.refl _ _).alloc (Nat.le_refl _) _).alloc (by simp) _, blk_alloc (new_at rfl _) _, new_at (by simp) _, List.length_replicate⟩
  have HST := Lib.hid hst
  clear hst hmk
  generalize (w.alloc (Obj.cells #[.slice sa ss.length sc, .slice ea es.length ec, .int .i64 root] 30)).alloc (Obj.cells (bsC (List.replicate ss.length false)) 4) = W0 at *
  have hr0 : (0 : Int) ≤ r := Int.natCast_nonneg r
  have hr1 : (r : Int) < ss.length := by omega
  go_wp2_with fail
  go_loopw [6] (fun i wr => BsOut w ss.length (.slice sa ss.length sc) (.slice ea es.length ec) root (fun i => decide (i = r)) outs (List.replicate ss.length false) (ss.length + 1) i wr) (fun i _ => ss.length + 1 - (intOf i).toNat)
  case atStart => exact ⟨0, Nat.zero_le _, rfl, HST.out⟩
  case round =>
    clear HST
    obtain ⟨s, hs, rfl, hst⟩ := hrel
    have HS1 := Lib.hid hst
    obtain ⟨_, x0, x1, x2, _⟩ := blk3 hst.sch
    by_cases hlt : s ≤ ss.length
    · have hsi : (s : Int) ≤ ss.length := by omega
      clear hst
      go_wp2_with fail
      go_loopw [7] (fun i wq => BsIn w ss.length (.slice sa ss.length sc) (.slice ea es.length ec) root (fun i => decide (i = r)) outs (sweeps (fun i => decide (i = r)) outs ss.length s (List.replicate ss.length false)) i wq) (fun i _ => ss.length - (intOf i).toNat)
      case atStart => exact ⟨0, Nat.zero_le _, rfl, HS1.out⟩
      case round =>
        clear x0 x1 x2
        obtain ⟨j, hj, rfl, hst⟩ := hrel
        have HS2 := Lib.hid hst
        obtain ⟨_, x0, x1, x2, _⟩ := blk3 hst.sch
        by_cases hjl : j < ss.length
        · have hji : (j : Int) < ss.length := by omega
          have hj0 : (0 : Int) ≤ j := Int.natCast_nonneg j
          have hstl := hst.len
          clear hst
          obtain ⟨sg, scc, fa, fc, hsv, hcs, hcf⟩ := HRD.out j hjl
          obtain ⟨rfl, rfl⟩ := slice_inj hsv
          have hle := HLE.out j hjl
          have hou := HOU.out j hjl
          have hfe := HFE.out j hjl
          have HCS := Lib.hid hcs
          have HCF := Lib.hid hcf
          have HLJ := Lib.hid hle
          have HOJ := Lib.hid hou
          clear hsv hcs hcf hle hou
          have HSU := Lib.hid (sweepTo_succ (fun i => decide (i = r)) outs (sweeps (fun i => decide (i = r)) outs ss.length s (List.replicate ss.length false)) j)
          generalize sweepTo (fun i => decide (i = r)) outs (sweeps (fun i => decide (i = r)) outs ss.length s (List.replicate ss.length false)) j = st at *
          generalize ss[j].1.fields = fs at *
          go_wp2_with fail
          go_loopw [8] (fun i wv => BsFl w ss.length (.slice (some ⟨sg, 0, none⟩) ss.length sc) (.slice ea es.length ec) root (decide (j = r) || on st j) st fs i wv) (fun i _ => fs.length - (intOf i).toNat)
          case atStart => exact ⟨0, Nat.zero_le _, rfl, by rw [kSt_zero]; exact HS2.out⟩
          case round =>
            clear x0 x1 x2
            obtain ⟨k, hk, rfl, hst⟩ := hrel
            have HS3 := Lib.hid hst
            obtain ⟨_, x0, x1, x2, _⟩ := blk3 hst.sch
            have y0 := HCS.out _ hst.below
            have hlk : (kSt (decide (j = r) || on st j) st fs k).length = ss.length := hst.len
            have z0 := bs_at hst.row j (by omega)
            have hk0 : (0 : Int) ≤ k := Int.natCast_nonneg k
            have hend : (k = fs.length ∨ (decide (j = r) || on st j) = false) → BsIn w ss.length (.slice (some ⟨sg, 0, none⟩) ss.length sc) (.slice ea es.length ec) root (fun i => decide (i = r)) outs (sweeps (fun i => decide (i = r)) outs ss.length s (List.replicate ss.length false)) (.int .i64 ((j + 1 : Nat) : Int)) wr := fun h => ⟨j + 1, hjl, rfl, by
              rw [HSU.out, ← kSt_end (seed := fun i => decide (i = r)) HOJ.out h]
              exact HS3.out⟩
            have HEND := Lib.hid hend
            clear hst hend
            by_cases hkl : k < fs.length
            · have hki : (k : Int) < fs.length := by omega
              by_cases hjr : j = r
              · have hjr1 : ((j : Int) == (r : Int)) = true := by simp; omega
                have hact : (decide (j = r) || on st j) = true := by rw [decide_eq_true hjr, Bool.true_or]
                clear hjr
                obtain ⟨fg, rfl, hcell⟩ := HCF.out k hkl
                obtain ⟨c1, c2, c3⟩ := hcell wr HS3.out.below
                have HLF := Lib.hid (HLJ.out fs[k] (List.getElem_mem hkl))
                have hky := fun h => kSt_yes (st := st) hkl h
                have hkn := fun h => kSt_no (act := true) (st := st) hkl h
                have HKY := Lib.hid hky
                have HKN := Lib.hid hkn
                clear hky hkn hcell
                generalize fs[k] = f at *
                obtain ⟨nm, kd, rf, li, df⟩ := f
                simp only at c1 c2 c3 HLF HKY HKN
                have hb2 : Below wr.heap.size wr (wr.alloc (.cells #[.int .u8 kd, .int .i64 rf, .int .i64 li] 62)) := (Below.refl _ _).alloc (Nat.le_refl _) _
                have hq := heap_alloc_new wr (.cells #[.int .u8 kd, .int .i64 rf, .int .i64 li] 62)
                have HS4 := Lib.hid (HS3.out.later hb2)
                have HQ := Lib.hid hq
                clear hb2 hq
                go_upto_region 12 with (fail)
                generalize wr.alloc (.cells #[.int .u8 kd, .int .i64 rf, .int .i64 li] 62) = W2 at *
                clear c1 c2 c3 x0 x1 x2 y0 z0
                obtain ⟨_, b0, b1, b2, _⟩ := blk3 HQ.out
                by_cases hk13 : kd = 13
                · subst hk13
                  obtain ⟨hle1, hle2⟩ := HLF.out rfl
                  obtain ⟨v, rfl⟩ := Int.eq_ofNat_of_zero_le hle1
                  have hvn : v < ss.length := by omega
                  have hfz := blk_frozen HS4.out.row v
                  have hcv := bs_at HS4.out.row v (by rw [kSt_length]; omega)
                  have HEN := Lib.hid (show BsFl w ss.length (.slice (some ⟨sg, 0, none⟩) ss.length sc) (.slice ea es.length ec) root (decide (j = r) || on st j) st fs (.int .i64 ((k + 1 : Nat) : Int)) (W2.setCell ⟨w.heap.size + 1, v, none⟩ (.bool true)) from ⟨k + 1, hkl, rfl, by
                    have h := HS4.out.put v
                    rw [hact] at h ⊢
                    rw [HKY.out rfl, Int.toNat_natCast]
                    exact h⟩)
                  clear HS4 HEND
                  go_wp2
                  go_roundw
                  case rel => exact HEN.out
                  case measure => simp [intOf]; omega
                · have hkk : ((kd : Int) == 13) = false := by simp; omega
                  have HEN := Lib.hid (show BsFl w ss.length (.slice (some ⟨sg, 0, none⟩) ss.length sc) (.slice ea es.length ec) root (decide (j = r) || on st j) st fs (.int .i64 ((k + 1 : Nat) : Int)) W2 from ⟨k + 1, hkl, rfl, by
                    have h := HS4.out
                    rw [hact] at h ⊢
                    rw [HKN.out hk13]
                    exact h⟩)
                  clear HS4 HEND
                  go_wp2
                  go_roundw
                  case rel => exact HEN.out
                  case measure => simp [intOf]; omega
              · have hjr1 : ((j : Int) == (r : Int)) = false := by simp; omega
                have hjd : decide (j = r) = false := decide_eq_false hjr
                by_cases ho : on st j = false
                · have hact : (decide (j = r) || on st j) = false := by rw [hjd, ho, Bool.false_or]
                  rw [hact] at z0
                  have z1 : on (kSt false st fs k) j = false := ho
                  rw [z1] at z0
                  have HE := Lib.hid (HEND.out (.inr hact))
                  clear HEND
                  go_wp2
                  go_roundw
                  case rel => exact HE.out
                  case measure => simp [intOf]; omega
                · have ho : on st j = true := by simpa using ho
                  have hact : (decide (j = r) || on st j) = true := by rw [hjd, ho, Bool.false_or]
                  rw [kSt_on _ ho] at z0
                  clear ho hjd hjr
                  obtain ⟨fg, rfl, hcell⟩ := HCF.out k hkl
                  obtain ⟨c1, c2, c3⟩ := hcell wr HS3.out.below
                  have HLF := Lib.hid (HLJ.out fs[k] (List.getElem_mem hkl))
                  have hky := fun h => kSt_yes (st := st) hkl h
                  have hkn := fun h => kSt_no (act := true) (st := st) hkl h
                  have HKY := Lib.hid hky
                  have HKN := Lib.hid hkn
                  clear hky hkn hcell
                  generalize fs[k] = f at *
                  obtain ⟨nm, kd, rf, li, df⟩ := f
                  simp only at c1 c2 c3 HLF HKY HKN
                  have hb2 : Below wr.heap.size wr (wr.alloc (.cells #[.int .u8 kd, .int .i64 rf, .int .i64 li] 62)) := (Below.refl _ _).alloc (Nat.le_refl _) _
                  have hq := heap_alloc_new wr (.cells #[.int .u8 kd, .int .i64 rf, .int .i64 li] 62)
                  have HS4 := Lib.hid (HS3.out.later hb2)
                  have HQ := Lib.hid hq
                  clear hb2 hq
                  go_upto_region 12 with (fail)
                  generalize wr.alloc (.cells #[.int .u8 kd, .int .i64 rf, .int .i64 li] 62) = W2 at *
                  clear c1 c2 c3 x0 x1 x2 y0 z0
                  obtain ⟨_, b0, b1, b2, _⟩ := blk3 HQ.out
                  by_cases hk13 : kd = 13
                  · subst hk13
                    obtain ⟨hle1, hle2⟩ := HLF.out rfl
                    obtain ⟨v, rfl⟩ := Int.eq_ofNat_of_zero_le hle1
                    have hvn : v < ss.length := by omega
                    have hfz := blk_frozen HS4.out.row v
                    have hcv := bs_at HS4.out.row v (by rw [kSt_length]; omega)
                    have HEN := Lib.hid (show BsFl w ss.length (.slice (some ⟨sg, 0, none⟩) ss.length sc) (.slice ea es.length ec) root (decide (j = r) || on st j) st fs (.int .i64 ((k + 1 : Nat) : Int)) (W2.setCell ⟨w.heap.size + 1, v, none⟩ (.bool true)) from ⟨k + 1, hkl, rfl, by
                      have h := HS4.out.put v
                      rw [hact] at h ⊢
                      rw [HKY.out rfl, Int.toNat_natCast]
                      exact h⟩)
                    clear HS4 HEND
                    go_wp2
                    go_roundw
                    case rel => exact HEN.out
                    case measure => simp [intOf]; omega
                  · have hkk : ((kd : Int) == 13) = false := by simp; omega
                    have HEN := Lib.hid (show BsFl w ss.length (.slice (some ⟨sg, 0, none⟩) ss.length sc) (.slice ea es.length ec) root (decide (j = r) || on st j) st fs (.int .i64 ((k + 1 : Nat) : Int)) W2 from ⟨k + 1, hkl, rfl, by
                      have h := HS4.out
                      rw [hact] at h ⊢
                      rw [HKN.out hk13]
                      exact h⟩)
                    clear HS4 HEND
                    go_wp2
                    go_roundw
                    case rel => exact HEN.out
                    case measure => simp [intOf]; omega
            · have hki : ¬ (k : Int) < fs.length := by omega
              go_wp2
              go_roundw
              case rel => exact HEND.out (.inl (by omega))
              case measure => simp [intOf]; omega
        · have hji : ¬ (j : Int) < ss.length := by omega
          have HEN := Lib.hid (show BsOut w ss.length (.slice sa ss.length sc) (.slice ea es.length ec) root (fun i => decide (i = r)) outs (List.replicate ss.length false) (ss.length + 1) (.int .i64 ((s + 1 : Nat) : Int)) wr from ⟨s + 1, by omega, rfl, by
            have h := HS2.out
            obtain rfl : j = ss.length := by omega
            exact h⟩)
          clear hst
          go_wp2
          go_roundw
          case rel => exact HEN.out
          case measure => simp [intOf]; omega
    · obtain rfl : s = ss.length + 1 := by omega
      have hsi : ¬ ((ss.length + 1 : Nat) : Int) ≤ ss.length := by omega
      have z0 := bs_at hst.row r (by rw [hst.len]; exact hr)
      clear hst
      go_wp2
      go_ret
      exact ⟨rfl, HS1.out.below⟩
end Go.Proofs.YtgbcchiheddfpaaGreatDoor
