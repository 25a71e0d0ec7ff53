/-
  The document's Nothing: a field's default. Conditions: those that each theorem names.
-/
import Derived.Test.YtjeoekggdohhiaaDoorPkB17
import Derived.Test.YtjeoekggdohhiaaDoorPkB18
import Derived.Laws.MakeOwn
import Derived.Deep.RegionHeld3
namespace Go.Proofs.YtjeoekggdohhiaaDoor
open Go.ChangeShapes Go.WideShapes Go.ChangeAt Go.RowKit Go.Shelf

def numV (n : Nat) : PV := .mk n [] [] false
def structV (l : List Nat) : PV := .mk 0 [] (l.map numV) true
def dfltN (f : CFld) : Nat := if sortP f.kind f.lists = 1 then f.dflt else 0
def defV (fs : List CFld) : PV := structV (fs.map dfltN)
def cellN (n : Nat) : List Value := [.int .u64 n, .slice none 0 0, .slice none 0 0, .bool false]
def rowN (l : List Nat) : List Value := l.flatMap cellN
theorem rowN_set : ∀ (l : List Nat) (j d : Nat), j < l.length → (rowN l).set (j * 4) (.int .u64 d) = rowN (l.set j d)
  | [], j, _, h => absurd h (Nat.not_lt_zero j)
  | a :: r, 0, d, _ => rfl
  | a :: r, j + 1, d, h => by
    rw [List.set_cons_succ]
    show ([Value.int .u64 a, .slice none 0 0, .slice none 0 0, .bool false] ++ rowN r).set ((j + 1) * 4) _ = [Value.int .u64 a, .slice none 0 0, .slice none 0 0, .bool false] ++ rowN (r.set j d)
    rw [← rowN_set r j d (by simpa using h), Nat.succ_mul]
    rfl
theorem rowN_at (l : List Nat) (k : Nat) (hk : k < l.length) (j : Nat) (hj : j < 4) : (rowN l)[k * 4 + j]? = (cellN l[k])[j]? := flat_at cellN 4 (fun _ => rfl) l k hk j hj
theorem rowN_len (l : List Nat) : (rowN l).length = l.length * 4 := by
  induction l with
  | nil => rfl
  | cons a r ih =>
    have e : rowN (a :: r) = cellN a ++ rowN r := rfl
    have e4 : (cellN a).length = 4 := rfl
    rw [e, List.length_append, ih, e4, List.length_cons]
    omega
theorem isV_num (w : World) (n : Nat) (h : n ≤ 18446744073709551615) : IsV w (numV n) (.agg #[.int .u64 n, .slice none 0 0, .slice none 0 0, .bool false]) :=
  .mk n [] [] false none none 0 0 0 0 (fun _ => .bool false) (fun _ => .bool false) (fun _ => .bool false) (fun _ => .bool false) h (bytes_nil w) (Nat.le_refl _) (by decide) (Nat.le_refl _) (by decide) (fun h => absurd rfl h) (fun i hi => absurd hi (Nat.not_lt_zero i)) (fun i hi => absurd hi (Nat.not_lt_zero i))
theorem isV_row {w : World} {K : Nat} {t : TypeId} (l : List Nat) (c : Nat) (hb : w.heap[K]? = some (.cells (rowN l).toArray t (0, 0))) (hn : ∀ n ∈ l, n ≤ 18446744073709551615) (hl : (l.length : Int) ≤ 9223372036854775807) (hc : l.length ≤ c) :
    IsV w (structV l) (.agg #[.int .u64 0, .slice none 0 0, .slice (some ⟨K, 0, none⟩) l.length c, .bool true]) := by
  have hcell : ∀ i, i < l.length → ∀ j, j < 4 → w.cell? ⟨K, 0 + i * 4 + j, none⟩ = (cellN (l.getD i 0))[j]? := fun i hi j hj => by
    rw [Nat.zero_add, blk_cell hb, List.getElem?_toArray, rowN_at l i hi j hj, List.getD, List.getElem?_eq_getElem hi, Option.getD_some]
  have h := IsV.mk 0 [] (l.map numV) true none (some ⟨K, 0, none⟩) 0 c K 0 (fun i => .int .u64 (l.getD i 0 : Nat)) (fun _ => .slice none 0 0) (fun _ => .slice none 0 0) (fun _ => .bool false) (by decide) (bytes_nil w) (Nat.le_refl _) (by decide) (by simpa using hc) (by simpa using hl) (fun _ => rfl)
    (fun i hi => by
      rw [List.length_map] at hi
      exact ⟨hcell i hi 0 (by omega), hcell i hi 1 (by omega), hcell i hi 2 (by omega), hcell i hi 3 (by omega)⟩)
    (fun i hi => by
      rw [List.length_map] at hi
      rw [List.getElem_map, List.getD, List.getElem?_eq_getElem hi, Option.getD_some]
      exact isV_num w _ (hn _ (List.getElem_mem hi)))
  rw [List.length_map] at h
  exact h
theorem val_info : (Tryd.prog.info? 36).map (fun i => (i.zero, i.size, i.bytes)) = some (some (.agg #[.int .u64 0, .slice none 0 0, .slice none 0 0, .bool false]), 4, 64) := by kernel_rfl
theorem made_vals (n : Nat) : madeCells (Value.agg #[.int .u64 0, .slice none 0 0, .slice none 0 0, .bool false]).cells (n * 4) = (rowN (List.replicate n 0)).toArray := by
  apply Array.ext'
  apply List.ext_getElem?
  intro k
  have hrow : (rowN (List.replicate n 0)).length = n * 4 := by rw [rowN_len, List.length_replicate]
  simp only [madeCells, Array.toList_map, Array.toList_range, List.getElem?_map]
  by_cases hk : k < n * 4
  · have h1 : (rowN (List.replicate n 0))[(k / 4) * 4 + k % 4]? = _ := rowN_at (List.replicate n 0) (k / 4) (by rw [List.length_replicate]; omega) (k % 4) (by omega)
    rw [show (k / 4) * 4 + k % 4 = k by omega, List.getElem_replicate] at h1
    rw [List.getElem?_range hk, Option.map_some, h1]
    show some ((#[Value.int .u64 0, .slice none 0 0, .slice none 0 0, .bool false])[k % 4]!) = _
    have h4 : k % 4 = 0 ∨ k % 4 = 1 ∨ k % 4 = 2 ∨ k % 4 = 3 := by omega
    rcases h4 with h | h | h | h <;> rw [h] <;> rfl
  · rw [List.getElem?_eq_none (by rw [List.length_range]; omega), List.getElem?_eq_none (by rw [hrow]; omega)]
    rfl
theorem make_vals (n : Nat) (hn : n ≤ 1000000) (W : World) : (Instr.makeSlice 34 (.int .i64 (n : Int)) (.int .i64 (n : Int))).run Tryd.prog W = .ok (.slice (some ⟨W.heap.size, 0, none⟩) n n) (W.alloc (.cells (rowN (List.replicate n 0)).toArray 36)) := by
  obtain ⟨i, hi, hz, hs, hb⟩ := info_parts val_info
  have h := run_make W 34 36 i (.agg #[.int .u64 0, .slice none 0 0, .slice none 0 0, .bool false]) Tryd.underlying34 hi hz .i64 .i64 n n (by omega) (Int.le_refl _) (by rw [hb]; omega) (by omega)
  rw [hs, Int.toNat_natCast, made_vals] at h
  exact h
def DAt (K : Nat) (W1 : World) (fs : List CFld) (i : Value) (W : World) : Prop := ∃ j : Nat, j ≤ fs.length ∧ i = .int .i64 j ∧ Exc K W1.heap.size W1 W ∧ W.heap[K]? = some (.cells (rowN ((fs.take j).map dfltN ++ List.replicate (fs.length - j) 0)).toArray 36 (0, 0))
theorem take_set (fs : List CFld) (j d : Nat) (hj : j < fs.length) : ((fs.take j).map dfltN ++ List.replicate (fs.length - j) 0).set j d = (fs.take j).map dfltN ++ d :: List.replicate (fs.length - (j + 1)) 0 := by
  have hl : ((fs.take j).map dfltN).length = j := by rw [List.length_map, List.length_take]; omega
  rw [List.set_append_right _ _ (by rw [hl]; exact Nat.le_refl _), hl, Nat.sub_self, show fs.length - j = (fs.length - (j + 1)) + 1 by omega, List.replicate_succ, List.set_cons_zero]
theorem take_next (fs : List CFld) (j : Nat) (hj : j < fs.length) : (fs.take (j + 1)).map dfltN ++ List.replicate (fs.length - (j + 1)) 0 = (fs.take j).map dfltN ++ dfltN fs[j] :: List.replicate (fs.length - (j + 1)) 0 := by
  rw [List.take_succ_eq_append_getElem hj, List.map_append, List.append_assoc]
  rfl
theorem take_zero (fs : List CFld) (j : Nat) (hj : j < fs.length) : (fs.take j).map dfltN ++ List.replicate (fs.length - j) 0 = (fs.take j).map dfltN ++ 0 :: List.replicate (fs.length - (j + 1)) 0 := by
  rw [show fs.length - j = (fs.length - (j + 1)) + 1 by omega, List.replicate_succ]
set_option maxRecDepth 100000 in
set_option maxHeartbeats 4000000 in
theorem default_any (w : World) {base : Nat} (name : ByteArray) (fs : List CFld) (fv : Value) (hf : w.ownsRow base 57 5 fv fs.length (cfldsCells fs)) (hfew : fs.length ≤ 1000000) (hd : ∀ f ∈ fs, f.dflt ≤ 18446744073709551615) :
    Calls Tryd.prog 18 #[.agg #[.string name, fv]] w fun e w' => (∃ val, e = .returned val ∧ IsV w' (defV fs) val) ∧ Below w.heap.size w w' := by
  obtain ⟨fa, fc, rfl⟩ := ownsRow_form hf
  obtain ⟨hb, hq1, hq2⟩ := two_start w #[.string name, .slice fa fs.length fc] #[.int .u64 0, .slice none 0 0, .slice none 0 0, .bool false] 51 36
  have HB := Lib.hid hb
  have HQ1 := Lib.hid hq1
  have HQ2 := Lib.hid hq2
  have HROW := Lib.hid (row_keep hb hf)
  have HD := Lib.hid hd
  have HSZ : Hid (((w.alloc (.cells #[.string name, .slice fa fs.length fc] 51)).alloc (.cells #[.int .u64 0, .slice none 0 0, .slice none 0 0, .bool false] 36)).heap.size = w.heap.size + 2) := Lib.hid (by simp)
  clear hb hq1 hq2 hf hd
  go_enter Tryd.func18, Tryd.ntmps18
  go_upto_region 1 with (fail)
  generalize (w.alloc (.cells #[.string name, .slice fa fs.length fc] 51)).alloc (.cells #[.int .u64 0, .slice none 0 0, .slice none 0 0, .bool false] 36) = W0 at *
  obtain ⟨_, s0, s1, _⟩ := blk2 HQ1.out
  have hmk := make_vals fs.length hfew W0
  go_upto_region 2 with (fail)
  have hba : Below W0.heap.size W0 (W0.alloc (.cells (rowN (List.replicate fs.length 0)).toArray 36)) := (Below.refl _ _).alloc (Nat.le_refl _) _
  have HB1 := Lib.hid (HB.out.trans (hba.mono HB.out.size))
  have HQ11 := Lib.hid (blk_below HQ1.out hba (blk_lt HQ1.out))
  have HQ21 := Lib.hid (blk_below HQ2.out hba (blk_lt HQ2.out))
  have HROW1 := Lib.hid (row_keep hba HROW.out)
  have HKB := Lib.hid (heap_alloc_new W0 (.cells (rowN (List.replicate fs.length 0)).toArray 36))
  have HK1 : Hid (W0.heap.size < (W0.alloc (.cells (rowN (List.replicate fs.length 0)).toArray 36)).heap.size) := Lib.hid (by simp)
  have HNE : Hid (Value.ownBlock (.slice fa fs.length fc) ≠ some W0.heap.size) := Lib.hid (fun h => by have h1 := (ownsRow_lt HROW.out _ h).2; omega)
  clear hba hmk s0 s1 HB HQ1 HQ2 HROW
  generalize W0.alloc (.cells (rowN (List.replicate fs.length 0)).toArray 36) = W1 at *
  generalize W0.heap.size = K at *
  obtain ⟨_, s0, s1, _⟩ := blk2 HQ11.out
  have HFROZ : Hid (∀ (W : World) (cs : Array Value), W.heap[K]? = some (.cells cs 36 (0, 0)) → ∀ i, W.frozen? ⟨K, i, none⟩ = false) := Lib.hid (fun W cs h i => blk_frozen h i)
  go_wp2_with fail
  go_loopw [13] (fun i wr => DAt K W1 fs i wr) (fun i _ => fs.length - (intOf i).toNat)
  case atStart => exact ⟨0, Nat.zero_le _, rfl, Exc.refl _ _ _, HKB.out⟩
  case round =>
    obtain ⟨j, hj, rfl, hex, hrow⟩ := hrel
    have HEX := Lib.hid hex
    have HRW := Lib.hid hrow
    clear hex hrow
    by_cases hjl : j < fs.length
    · have hji : (j : Int) < fs.length := by omega
      have hji0 : (0 : Int) ≤ (j : Int) := by omega
      obtain ⟨g, cc, hv, hcc, hgl, hcell⟩ := row_el cfldCells 5 (fun _ => rfl) (HEX.out.ownsRow HROW1.out HNE.out) j hjl
      obtain ⟨rfl, rfl⟩ := slice_inj hv
      obtain ⟨x, hx⟩ : ∃ x, fs[j] = x := ⟨_, rfl⟩
      have HDX : Hid (x.dflt ≤ 18446744073709551615) := Lib.hid (by rw [← hx]; exact HD.out _ (List.getElem_mem hjl))
      have HX := Lib.hid hx
      rw [hx] at hcell
      have x0 : wr.cell? ⟨g, j * 5, none⟩ = some (.string x.name) := hcell 0 (by omega)
      have x1 : wr.cell? ⟨g, j * 5 + 1, none⟩ = some (.int .u8 x.kind) := hcell 1 (by omega)
      have x2 : wr.cell? ⟨g, j * 5 + 2, none⟩ = some (.int .i64 x.ref) := hcell 2 (by omega)
      have x3 : wr.cell? ⟨g, j * 5 + 3, none⟩ = some (.int .i64 x.lists) := hcell 3 (by omega)
      have x4 : wr.cell? ⟨g, j * 5 + 4, none⟩ = some (.int .u64 x.dflt) := hcell 4 (by omega)
      clear hcell hv hx
      go_upto_region 5 with (fail)
      have hba : Below wr.heap.size wr (wr.alloc (.cells #[.string x.name, .int .u8 x.kind, .int .i64 x.ref, .int .i64 x.lists, .int .u64 x.dflt] 57)) := (Below.refl _ _).alloc (Nat.le_refl _) _
      have HFB := Lib.hid (heap_alloc_new wr (.cells #[.string x.name, .int .u8 x.kind, .int .i64 x.ref, .int .i64 x.lists, .int .u64 x.dflt] 57))
      have HEX2 := Lib.hid (HEX.out.bel (Nat.le_refl _) hba)
      have HRW2 := Lib.hid (blk_below HRW.out hba (blk_lt HRW.out))
      have HF0 : Hid (K < wr.heap.size) := Lib.hid (blk_lt HRW.out)
      clear x0 x1 x2 x3 x4 hba
      generalize wr.alloc (.cells #[.string x.name, .int .u8 x.kind, .int .i64 x.ref, .int .i64 x.lists, .int .u64 x.dflt] 57) = W2 at *
      generalize wr.heap.size = F at *
      obtain ⟨_, y0, y1, y2, y3, y4, _⟩ := blk5 HFB.out
      go_wp2_with fail
      refine (sorts_any x.kind x.ref x.lists W2).mono ?_
      rintro e W3 ⟨rfl, hb3⟩
      have HEX3 := Lib.hid (HEX2.out.bel (Nat.le_refl _) hb3)
      have HRW3 := Lib.hid (blk_below HRW2.out hb3 (blk_lt HRW2.out))
      have HFB3 := Lib.hid (blk_below HFB.out hb3 (blk_lt HFB.out))
      clear hb3 y0 y1 y2 y3 y4
      obtain ⟨_, y0, y1, y2, y3, y4, _⟩ := blk5 HFB3.out
      have z0 := HFROZ.out W3 _ HRW3.out (j * 4)
      have hkl := blk_lt HRW3.out
      have hcl : j * 4 < (rowN ((fs.take j).map dfltN ++ List.replicate (fs.length - j) 0)).length := by rw [rowN_len, List.length_append, List.length_map, List.length_take, List.length_replicate]; omega
      have hold : ∃ o, W3.cell? ⟨K, j * 4, none⟩ = some o := ⟨_, by rw [blk_cell HRW3.out, List.getElem?_toArray, List.getElem?_eq_getElem hcl]⟩
      obtain ⟨old, hold⟩ := hold
      clear hkl hcl
      by_cases hs : sortP x.kind x.lists = 1
      · have t1 : (((sortP x.kind x.lists : Nat) : Int) == 1) = true := by simp; omega
        have HDF : Hid (dfltN fs[j] = x.dflt) := Lib.hid (by rw [HX.out]; unfold dfltN; rw [if_pos hs])
        clear hs
        go_wp2
        go_roundw
        case rel =>
          refine ⟨j + 1, by omega, by go_num, HEX3.out.setCell (p := ⟨K, j * 4, none⟩) (.inl rfl) _, ?_⟩
          have hset := blk_set HRW3.out (j * 4) (.int .u64 (x.dflt : Nat))
          have hlen : j < ((fs.take j).map dfltN ++ List.replicate (fs.length - j) 0).length := by rw [List.length_append, List.length_map, List.length_take, List.length_replicate]; omega
          rw [List.setIfInBounds_toArray, rowN_set _ j x.dflt hlen, take_set fs j x.dflt hjl, ← HDF.out, ← take_next fs j hjl] at hset
          rw [HDF.out] at hset
          exact hset
        case measure => simp [intOf]; omega
      · have t1 : (((sortP x.kind x.lists : Nat) : Int) == 1) = false := by simp; omega
        have HDF : Hid (dfltN fs[j] = 0) := Lib.hid (by rw [HX.out]; unfold dfltN; rw [if_neg hs])
        clear hs
        go_wp2
        go_roundw
        case rel => exact ⟨j + 1, by omega, by go_num, HEX3.out, by rw [take_next fs j hjl, HDF.out, ← take_zero fs j hjl]; exact HRW3.out⟩
        case measure => simp [intOf]; omega
    · obtain rfl : j = fs.length := by omega
      have HQ22 := Lib.hid (blk_exc HQ21.out HEX.out (blk_lt HQ21.out) (by have := HSZ.out; omega))
      obtain ⟨_, z0, z1, z2, z3⟩ := blk4p HQ22.out
      have z4 := blk_frozen HQ22.out 0
      have z5 := blk_frozen HQ22.out 1
      have z6 := blk_frozen HQ22.out 2
      have z7 := blk_frozen HQ22.out 3
      have HBE := Lib.hid (HB1.out.trans ((HEX.out.mono (Nat.le_trans HB1.out.size (Nat.le_refl _))).below (by have := HSZ.out; omega)))
      go_wp2
      refine post_gen (fun Wf => Wf.heap[w.heap.size + 1]? = some (.cells #[.int .u64 0, .slice none 0 0, .slice (some ⟨K, 0, none⟩) fs.length fs.length, .bool true] 36 (0, 0)) ∧ Below w.heap.size w Wf ∧ Wf.heap[K]? = some (.cells (rowN (fs.map dfltN)).toArray 36 (0, 0))) ⟨?_, ?_, ?_⟩ ?_
      · exact blk_set4 HQ22.out _ _ _ _
      · exact below_set4 HBE.out (Nat.le_succ _) _ _ _ _
      · have h := HRW.out
        rw [List.take_length, Nat.sub_self, List.replicate_zero, List.append_nil] at h
        have hne : ∀ i, (⟨w.heap.size + 1, i, none⟩ : Addr).block ≠ K := fun i => by have := HSZ.out; show w.heap.size + 1 ≠ K; omega
        exact blk_set_ne (blk_set_ne (blk_set_ne (blk_set_ne h (hne 0) _) (hne 1) _) (hne 2) _) (hne 3) _
      · rintro Wf ⟨e1, e2, e3⟩
        obtain ⟨_, d0, d1, d2, d3⟩ := blk4p e1
        have hiv := isV_row (fs.map dfltN) fs.length e3 (fun n hn => by obtain ⟨f, hf, rfl⟩ := List.mem_map.1 hn; unfold dfltN; split; exact HD.out f hf; omega) (by rw [List.length_map]; omega) (by rw [List.length_map]; exact Nat.le_refl _)
        rw [List.length_map] at hiv
        exact bodyPost_ret (v := .agg #[.int .u64 0, .slice none 0 0, .slice (some ⟨K, 0, none⟩) fs.length fs.length, .bool true]) (by simp [results, Tryd.results18, go_sem, d0, d1, d2, d3]) rfl ⟨⟨_, rfl, hiv⟩, e2⟩
end Go.Proofs.YtjeoekggdohhiaaDoor
namespace Go.Proofs.YtjeoekggdohhiaaDoor
open Go.ChangeShapes Go.WideShapes Go.ChangeAt Go.RowKit Go.Shelf

set_option maxRecDepth 100000 in
set_option maxHeartbeats 4000000 in
theorem nothing_any (w : World) (name : ByteArray) (k : Nat) (ref lists : Int) (d : Nat) :
    Calls Tryd.prog 30 #[.agg #[.string name, .int .u8 k, .int .i64 ref, .int .i64 lists, .int .u64 d]] w fun e w' => e = .returned (.agg #[.int .u64 d, .slice none 0 0, .slice none 0 0, .bool false]) ∧ Below w.heap.size w w' := by
  obtain ⟨hb, hq1, hq2⟩ := two_start w #[.string name, .int .u8 k, .int .i64 ref, .int .i64 lists, .int .u64 d] #[.int .u64 0, .slice none 0 0, .slice none 0 0, .bool false] 57 36
  have HB := Lib.hid hb
  have HQ2 := Lib.hid hq2
  obtain ⟨_, y0, y1, y2, y3, y4, _⟩ := blk5 hq1
  obtain ⟨_, z0, z1, z2, z3⟩ := blk4p hq2
  have z4 := blk_frozen hq2 0
  have z5 := blk_frozen hq2 1
  have z6 := blk_frozen hq2 2
  have z7 := blk_frozen hq2 3
  clear hb hq1 hq2
  go_enter Tryd.func30, Tryd.ntmps30
  go_upto_region 1 with (fail)
  generalize (w.alloc (.cells #[.string name, .int .u8 k, .int .i64 ref, .int .i64 lists, .int .u64 d] 57)).alloc (.cells #[.int .u64 0, .slice none 0 0, .slice none 0 0, .bool false] 36) = W0 at *
  go_wp2
  refine post_gen (fun Wf => Wf.heap[w.heap.size + 1]? = some (.cells #[.int .u64 d, .slice none 0 0, .slice none 0 0, .bool false] 36 (0, 0)) ∧ Below w.heap.size w Wf) ⟨?_, ?_⟩ ?_
  · exact blk_set4 HQ2.out _ _ _ _
  · exact below_set4 HB.out (Nat.le_succ _) _ _ _ _
  · rintro Wf ⟨e1, e2⟩
    obtain ⟨_, d0, d1, d2, d3⟩ := blk4p e1
    exact bodyPost_ret (v := .agg #[.int .u64 d, .slice none 0 0, .slice none 0 0, .bool false]) (by simp [results, Tryd.results30, go_sem, d0, d1, d2, d3]) rfl ⟨rfl, e2⟩
end Go.Proofs.YtjeoekggdohhiaaDoor
