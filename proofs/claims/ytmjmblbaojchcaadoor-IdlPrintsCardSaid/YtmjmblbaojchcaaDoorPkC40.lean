/-
  The document's own SameRaw at two schemas that are written alike: true. Conditions: those that the theorem names.
-/
import Derived.Test.YtmjmblbaojchcaaDoorPkC39
import Derived.Deep.RegionHeld3
namespace Go.Proofs.YtmjmblbaojchcaaDoor
open Go.ChangeShapes Go.WideShapes Go.ChangeAt Go.RowKit Go.Shelf

theorem recCells_len (p : RRec × Value) : (recCells p).length = 3 := rfl
theorem choCells_len (p : RCho × Value) : (choCells p).length = 3 := rfl
theorem fieldCells_len (f : RField) : (fieldCells f).length = 8 := rfl
/-- Two rows of elements that are alike in their first two cells, at a place. -/
structure Twin3 (w : World) (g k : Nat) (x y z : Value) : Prop where
  glt : g < w.heap.size
  x0 : w.cell? ⟨g, k * 3, none⟩ = some x
  x1 : w.cell? ⟨g, k * 3 + 1, none⟩ = some y
  x2 : w.cell? ⟨g, k * 3 + 2, none⟩ = some z
theorem rec_twin {w : World} {b : Nat} {v : Value} {ss : List (RRec × Value)} (h : w.ownsRow b 51 3 v ss.length (recsCells ss)) (k : Nat) (hk : k < ss.length) :
    ∃ g c, v = .slice (some ⟨g, 0, none⟩) ss.length c ∧ ss.length ≤ c ∧ Twin3 w g k (.string (strOfNums ss[k].1.name)) (.int .i64 ss[k].1.place) ss[k].2 := by
  obtain ⟨g, c, hv, hc, hg, hcell⟩ := row_el recCells 3 recCells_len h k hk
  exact ⟨g, c, hv, hc, hg, hcell 0 (by omega), hcell 1 (by omega), hcell 2 (by omega)⟩
theorem cho_twin {w : World} {b : Nat} {v : Value} {ss : List (RCho × Value)} (h : w.ownsRow b 104 3 v ss.length (chosCells ss)) (k : Nat) (hk : k < ss.length) :
    ∃ g c, v = .slice (some ⟨g, 0, none⟩) ss.length c ∧ ss.length ≤ c ∧ Twin3 w g k (.string (strOfNums ss[k].1.name)) (.int .i64 ss[k].1.place) ss[k].2 := by
  obtain ⟨g, c, hv, hc, hg, hcell⟩ := row_el choCells 3 choCells_len h k hk
  exact ⟨g, c, hv, hc, hg, hcell 0 (by omega), hcell 1 (by omega), hcell 2 (by omega)⟩
theorem map_fst_at {α β : Type} {l l' : List (α × β)} (h : l.map Prod.fst = l'.map Prod.fst) (k : Nat) (hk : k < l.length) : ∃ hk' : k < l'.length, l[k].1 = l'[k].1 := by
  have hl : l.length = l'.length := by simpa using congrArg List.length h
  refine ⟨hl ▸ hk, ?_⟩
  have h1 : (l.map Prod.fst)[k]? = (l'.map Prod.fst)[k]? := by rw [h]
  rw [List.getElem?_map, List.getElem?_map, List.getElem?_eq_getElem hk, List.getElem?_eq_getElem (hl ▸ hk)] at h1
  exact Option.some.inj h1
set_option maxRecDepth 100000 in
set_option maxHeartbeats 16000000 in
theorem sameraw_any (w : World) {ss ss' : List (RRec × Value)} {es es' : List (RCho × Value)} {ts ts' : List Tok} {sv ev rv sv' ev' rv' : Value} {b b' : Nat} (h : RawRows b w ss es ts sv ev rv) (h' : RawRows b' w ss' es' ts' sv' ev' rv') (heq : rawOf ss es ts = rawOf ss' es' ts') :
    Calls Tryd.prog 18 #[.agg #[sv, ev, rv], .agg #[sv', ev', rv']] w fun e w' => e = .returned (.bool true) ∧ Below w.heap.size w w' := by
  have hss : ss.map Prod.fst = ss'.map Prod.fst := congrArg RRaw.structs heq
  have hes : es.map Prod.fst = es'.map Prod.fst := congrArg RRaw.enums heq
  have hts : ts = ts' := congrArg RRaw.roots heq
  subst hts
  have HSS := Lib.hid hss
  have HES := Lib.hid hes
  have hl1 : ss.length = ss'.length := by simpa using congrArg List.length hss
  have hl2 : es.length = es'.length := by simpa using congrArg List.length hes
  obtain ⟨sa, sc, ea, ec, ra, rc, rfl, rfl, rfl⟩ := h.forms
  obtain ⟨sa', sc', ea', ec', ra', rc', rfl, rfl, rfl⟩ := h'.forms
  rw [← hl1, ← hl2] at h' ⊢
  have hf1 := row_few h.structs
  have hf2 := row_few h.enums
  have HL1 := Lib.hid hl1
  have HL2 := Lib.hid hl2
  have HR := Lib.hid h
  have HR' := Lib.hid h'
  obtain ⟨hq1, hq2⟩ := two_newI w #[.slice sa ss.length sc, .slice ea es.length ec, .slice ra ts.length rc] #[.slice sa' ss.length sc', .slice ea' es.length ec', .slice ra' ts.length rc'] 43 43
  have HQ1 := Lib.hid hq1
  have HQ2 := Lib.hid hq2
  have HB0 := Lib.hid (((Below.refl _ _).alloc (Nat.le_refl _) _).alloc (by simp) _ : Below w.heap.size w ((w.alloc (.cells #[.slice sa ss.length sc, .slice ea es.length ec, .slice ra ts.length rc] 43)).alloc (.cells #[.slice sa' ss.length sc', .slice ea' es.length ec', .slice ra' ts.length rc'] 43)))
  clear h h' heq hss hes hl1 hl2 hq1 hq2
  go_enter Tryd.func18, Tryd.ntmps18
  go_upto_region 1 with (fail)
  generalize ((w.alloc (.cells #[.slice sa ss.length sc, .slice ea es.length ec, .slice ra ts.length rc] 43)).alloc (.cells #[.slice sa' ss.length sc', .slice ea' es.length ec', .slice ra' ts.length rc'] 43)) = W0 at *
  obtain ⟨_, p0, p1, p2, _⟩ := blk3 HQ1.out
  obtain ⟨_, q0, q1, q2, _⟩ := blk3 HQ2.out
  go_wp2_with fail
  refine (same2_any ts _ _ b b' _ (row_below HB0.out HR.out.roots) (row_below HB0.out HR'.out.roots)).mono ?_
  rintro e W1 ⟨rfl, hb1⟩
  have HB1 := Lib.hid (HB0.out.trans (hb1.mono HB0.out.size))
  have HP1 := Lib.hid (blk_below HQ1.out hb1 (blk_lt HQ1.out))
  have HP2 := Lib.hid (blk_below HQ2.out hb1 (blk_lt HQ2.out))
  clear p0 p1 p2 q0 q1 q2 hb1 HQ1 HQ2 HB0
  go_upto_region 3 with (fail)
  go_wp2_with fail
  go_loopw [5] (fun i wr => Below w.heap.size w wr ∧ wr.heap[w.heap.size]? = some (.cells #[.slice sa ss.length sc, .slice ea es.length ec, .slice ra ts.length rc] 43 (0, 0)) ∧ wr.heap[w.heap.size + 1]? = some (.cells #[.slice sa' ss.length sc', .slice ea' es.length ec', .slice ra' ts.length rc'] 43 (0, 0)) ∧ ∃ k : Nat, k ≤ ss.length ∧ i = .int .i64 k) (fun i _ => ss.length - (intOf i).toNat)
  case atStart => exact ⟨HB1.out, HP1.out, HP2.out, 0, Nat.zero_le _, rfl⟩
  case round =>
    clear HB1 HP1 HP2
    obtain ⟨hb, hp1, hp2, k, hk, rfl⟩ := hrel
    have HB := Lib.hid hb
    have HP1 := Lib.hid hp1
    have HP2 := Lib.hid hp2
    clear hb hp1 hp2
    obtain ⟨_, p0, p1, p2, _⟩ := blk3 HP1.out
    obtain ⟨_, q0, q1, q2, _⟩ := blk3 HP2.out
    by_cases hlt : k < ss.length
    · obtain ⟨hk', he⟩ := map_fst_at HSS.out k hlt
      obtain ⟨g, c, hv, hc, ht⟩ := rec_twin (row_below HB.out HR.out.structs) k hlt
      obtain ⟨rfl, rfl⟩ := slice_inj hv
      have hs2 := HR'.out.structs
      rw [HL1.out] at hs2
      obtain ⟨g', c', hv', hc', ht'⟩ := rec_twin (row_below HB.out hs2) k hk'
      rw [← HL1.out] at hv' hc'
      obtain ⟨rfl, rfl⟩ := slice_inj hv'
      obtain ⟨hg, x0, x1, x2⟩ := ht
      obtain ⟨hg', y0, y1, y2⟩ := ht'
      rw [← he] at y0 y1
      clear hv hv' hs2 p1 p2 q1 q2
      have HF := Lib.hid (row_below HB.out (HR.out.fields _ (List.getElem_mem hlt)))
      have HF' := Lib.hid (row_below HB.out (HR'.out.fields _ (List.getElem_mem hk')))
      rw [← he] at HF'
      clear he
      generalize ss'[k].2 = z' at *
      generalize ss[k].2 = z at *
      generalize ss[k].1 = d at *
      obtain ⟨za, zc, rfl⟩ := ownsRow_form HF.out
      obtain ⟨za', zc', rfl⟩ := ownsRow_form HF'.out
      go_upto_region 6 with (fail)
      go_region_held3 (fun w' => w'.cell? ⟨w.heap.size, 0, none⟩ = some (.slice (some ⟨g, 0, none⟩) ss.length sc) ∧ w'.cell? ⟨w.heap.size + 1, 0, none⟩ = some (.slice (some ⟨g', 0, none⟩) ss.length sc') ∧ w'.cell? ⟨g, k * 3, none⟩ = some (.string (strOfNums d.name)) ∧ w'.cell? ⟨g, k * 3 + 1, none⟩ = some (.int .i64 d.place) ∧ w'.cell? ⟨g, k * 3 + 2, none⟩ = some (.slice za d.fields.length zc) ∧ w'.cell? ⟨g', k * 3, none⟩ = some (.string (strOfNums d.name)) ∧ w'.cell? ⟨g', k * 3 + 1, none⟩ = some (.int .i64 d.place) ∧ w'.cell? ⟨g', k * 3 + 2, none⟩ = some (.slice za' d.fields.length zc')) (first | assumption | go_keep) (first | fail)
      all_goals
        go_upto_region 7 with (fail)
        have hbb : Below wr.heap.size wr ((wr.alloc (.cells #[.string (strOfNums d.name), .int .i64 d.place, .slice za d.fields.length zc] 51)).alloc (.cells #[.string (strOfNums d.name), .int .i64 d.place, .slice za' d.fields.length zc'] 51)).drew := (((Below.refl _ _).alloc (Nat.le_refl _) _).alloc (by simp) _).drew
        have hbb' : Below wr.heap.size wr ((wr.alloc (.cells #[.string (strOfNums d.name), .int .i64 d.place, .slice za' d.fields.length zc'] 51)).alloc (.cells #[.string (strOfNums d.name), .int .i64 d.place, .slice za d.fields.length zc] 51)).drew := (((Below.refl _ _).alloc (Nat.le_refl _) _).alloc (by simp) _).drew
        have ht1 := two_newI wr #[.string (strOfNums d.name), .int .i64 d.place, .slice za d.fields.length zc] #[.string (strOfNums d.name), .int .i64 d.place, .slice za' d.fields.length zc'] 51 51
        have ht2 := two_newI wr #[.string (strOfNums d.name), .int .i64 d.place, .slice za' d.fields.length zc'] #[.string (strOfNums d.name), .int .i64 d.place, .slice za d.fields.length zc] 51 51
        first
          | (obtain ⟨W2, hW2⟩ : ∃ W2, ((wr.alloc (.cells #[.string (strOfNums d.name), .int .i64 d.place, .slice za d.fields.length zc] 51)).alloc (.cells #[.string (strOfNums d.name), .int .i64 d.place, .slice za' d.fields.length zc'] 51)).drew = W2 := ⟨_, rfl⟩
             rw [hW2]
             have hx : W2.heap[wr.heap.size]? = some (.cells #[.string (strOfNums d.name), .int .i64 d.place, .slice za d.fields.length zc] 51 (0, 0)) := by rw [← hW2]; exact ht1.1
             have hy : W2.heap[wr.heap.size + 1]? = some (.cells #[.string (strOfNums d.name), .int .i64 d.place, .slice za' d.fields.length zc'] 51 (0, 0)) := by rw [← hW2]; exact ht1.2
             rw [hW2] at hbb
             clear ht1 ht2 hbb' hW2)
          | (obtain ⟨W2, hW2⟩ : ∃ W2, ((wr.alloc (.cells #[.string (strOfNums d.name), .int .i64 d.place, .slice za' d.fields.length zc'] 51)).alloc (.cells #[.string (strOfNums d.name), .int .i64 d.place, .slice za d.fields.length zc] 51)).drew = W2 := ⟨_, rfl⟩
             rw [hW2]
             have hy : W2.heap[wr.heap.size]? = some (.cells #[.string (strOfNums d.name), .int .i64 d.place, .slice za' d.fields.length zc'] 51 (0, 0)) := by rw [← hW2]; exact ht2.1
             have hx : W2.heap[wr.heap.size + 1]? = some (.cells #[.string (strOfNums d.name), .int .i64 d.place, .slice za d.fields.length zc] 51 (0, 0)) := by rw [← hW2]; exact ht2.2
             rw [hW2] at hbb'
             have hbb := hbb'
             clear ht1 ht2 hbb' hW2)
        have HB2 := Lib.hid (HB.out.trans (hbb.mono HB.out.size))
        have HP3 := Lib.hid (blk_below HP1.out hbb (blk_lt HP1.out))
        have HP4 := Lib.hid (blk_below HP2.out hbb (blk_lt HP2.out))
        have HX := Lib.hid hx
        have HY := Lib.hid hy
        have HG := Lib.hid (row_below hbb HF.out)
        have HG' := Lib.hid (row_below hbb HF'.out)
        have hff := row_few HF.out
        obtain ⟨_, u0, u1, u2, _⟩ := blk3 hx
        obtain ⟨_, v0, v1, v2, _⟩ := blk3 hy
        clear hbb hx hy p0 q0 x0 x1 x2 y0 y1 y2 HF HF' HP1 HP2 HB
        go_upto_region 9 with (fail)
        go_wp2_with fail
        clear u0 u1 u2 v0 v1 v2
        go_loopw [8] (fun i wq => Below W2.heap.size W2 wq ∧ ∃ j : Nat, j ≤ d.fields.length ∧ i = .int .i64 j) (fun i _ => d.fields.length - (intOf i).toNat)
        case atStart => exact ⟨Below.refl _ _, 0, Nat.zero_le _, rfl⟩
        case round =>
          obtain ⟨hb, j, hj, rfl⟩ := hrel
          have HBQ := Lib.hid hb
          obtain ⟨_, u0, u1, u2, _⟩ := blk3 (blk_below HX.out hb (blk_lt HX.out))
          obtain ⟨_, v0, v1, v2, _⟩ := blk3 (blk_below HY.out hb (blk_lt HY.out))
          clear hb
          by_cases hjl : j < d.fields.length
          · obtain ⟨g2, c2, hv2, hc2, hg2, hcell2⟩ := row_el fieldCells 8 fieldCells_len (row_below HBQ.out HG.out) j hjl
            obtain ⟨g3, c3, hv3, hc3, hg3, hcell3⟩ := row_el fieldCells 8 fieldCells_len (row_below HBQ.out HG'.out) j hjl
            obtain ⟨rfl, rfl⟩ := slice_inj hv2
            obtain ⟨rfl, rfl⟩ := slice_inj hv3
            have a0 := hcell2 0 (by omega)
            have a1 := hcell2 1 (by omega)
            have a2 := hcell2 2 (by omega)
            have a3 := hcell2 3 (by omega)
            have a4 := hcell2 4 (by omega)
            have a5 := hcell2 5 (by omega)
            have a6 := hcell2 6 (by omega)
            have a7 := hcell2 7 (by omega)
            have b0 := hcell3 0 (by omega)
            have b1 := hcell3 1 (by omega)
            have b2 := hcell3 2 (by omega)
            have b3 := hcell3 3 (by omega)
            have b4 := hcell3 4 (by omega)
            have b5 := hcell3 5 (by omega)
            have b6 := hcell3 6 (by omega)
            have b7 := hcell3 7 (by omega)
            generalize d.fields[j] = f at *
            simp only [fieldCells, List.getElem?_cons_zero, List.getElem?_cons_succ, Nat.add_zero] at a0 a1 a2 a3 a4 a5 a6 a7 b0 b1 b2 b3 b4 b5 b6 b7
            clear hcell2 hcell3 hv2 hv3
            go_upto_region 12 with (fail)
            go_quiet (fail)
            go_wp2
            go_roundw
            case rel => exact ⟨bel_drewN HBQ.out nq, j + 1, hjl, by go_num⟩
            case measure => simp [intOf]; omega
          · obtain rfl : j = d.fields.length := by omega
            clear hjl
            go_wp2
            go_roundw
            case rel => exact ⟨HB2.out.trans (HBQ.out.mono HB2.out.size), blk_below HP3.out HBQ.out (blk_lt HP3.out), blk_below HP4.out HBQ.out (blk_lt HP4.out), k + 1, hlt, by go_num⟩
            case measure => simp [intOf]; omega
    · obtain rfl : k = ss.length := by omega
      clear hlt p2 q2 p1 q1 q0
      go_upto_region 14 with (fail)
      go_wp2_with fail
      clear p0
      go_loopw [9] (fun i wq => Below w.heap.size w wq ∧ wq.heap[w.heap.size]? = some (.cells #[.slice sa ss.length sc, .slice ea es.length ec, .slice ra ts.length rc] 43 (0, 0)) ∧ wq.heap[w.heap.size + 1]? = some (.cells #[.slice sa' ss.length sc', .slice ea' es.length ec', .slice ra' ts.length rc'] 43 (0, 0)) ∧ ∃ k : Nat, k ≤ es.length ∧ i = .int .i64 k) (fun i _ => es.length - (intOf i).toNat)
      case atStart => exact ⟨HB.out, HP1.out, HP2.out, 0, Nat.zero_le _, rfl⟩
      case round =>
        clear HB HP1 HP2
        obtain ⟨hb, hp1, hp2, k, hk, rfl⟩ := hrel
        have HB := Lib.hid hb
        have HP1 := Lib.hid hp1
        have HP2 := Lib.hid hp2
        clear hb hp1 hp2
        obtain ⟨_, p0, p1, p2, _⟩ := blk3 HP1.out
        obtain ⟨_, q0, q1, q2, _⟩ := blk3 HP2.out
        by_cases hlt : k < es.length
        · obtain ⟨hk', he⟩ := map_fst_at HES.out k hlt
          obtain ⟨g, c, hv, hc, ht⟩ := cho_twin (row_below HB.out HR.out.enums) k hlt
          obtain ⟨rfl, rfl⟩ := slice_inj hv
          have hs2 := HR'.out.enums
          rw [HL2.out] at hs2
          obtain ⟨g', c', hv', hc', ht'⟩ := cho_twin (row_below HB.out hs2) k hk'
          rw [← HL2.out] at hv' hc'
          obtain ⟨rfl, rfl⟩ := slice_inj hv'
          obtain ⟨hg, x0, x1, x2⟩ := ht
          obtain ⟨hg', y0, y1, y2⟩ := ht'
          rw [← he] at y0 y1
          clear hv hv' hs2 p0 p2 q0 q2
          have HF := Lib.hid (row_below HB.out (HR.out.names _ (List.getElem_mem hlt)))
          have HF' := Lib.hid (row_below HB.out (HR'.out.names _ (List.getElem_mem hk')))
          rw [← he] at HF'
          clear he
          generalize es'[k].2 = z' at *
          generalize es[k].2 = z at *
          generalize es[k].1 = d at *
          obtain ⟨za, zc, rfl⟩ := ownsRow_form HF.out
          obtain ⟨za', zc', rfl⟩ := ownsRow_form HF'.out
          go_upto_region 17 with (fail)
          go_region_held3 (fun w' => w'.cell? ⟨w.heap.size, 1, none⟩ = some (.slice (some ⟨g, 0, none⟩) es.length ec) ∧ w'.cell? ⟨w.heap.size + 1, 1, none⟩ = some (.slice (some ⟨g', 0, none⟩) es.length ec') ∧ w'.cell? ⟨g, k * 3, none⟩ = some (.string (strOfNums d.name)) ∧ w'.cell? ⟨g, k * 3 + 1, none⟩ = some (.int .i64 d.place) ∧ w'.cell? ⟨g, k * 3 + 2, none⟩ = some (.slice za d.names.length zc) ∧ w'.cell? ⟨g', k * 3, none⟩ = some (.string (strOfNums d.name)) ∧ w'.cell? ⟨g', k * 3 + 1, none⟩ = some (.int .i64 d.place) ∧ w'.cell? ⟨g', k * 3 + 2, none⟩ = some (.slice za' d.names.length zc')) (first | assumption | go_keep) (first | fail)
          all_goals
            go_upto_region 18 with (fail)
            have hbb : Below wr.heap.size wr ((wr.alloc (.cells #[.string (strOfNums d.name), .int .i64 d.place, .slice za d.names.length zc] 104)).alloc (.cells #[.string (strOfNums d.name), .int .i64 d.place, .slice za' d.names.length zc'] 104)).drew := (((Below.refl _ _).alloc (Nat.le_refl _) _).alloc (by simp) _).drew
            have hbb' : Below wr.heap.size wr ((wr.alloc (.cells #[.string (strOfNums d.name), .int .i64 d.place, .slice za' d.names.length zc'] 104)).alloc (.cells #[.string (strOfNums d.name), .int .i64 d.place, .slice za d.names.length zc] 104)).drew := (((Below.refl _ _).alloc (Nat.le_refl _) _).alloc (by simp) _).drew
            have ht1 := two_newI wr #[.string (strOfNums d.name), .int .i64 d.place, .slice za d.names.length zc] #[.string (strOfNums d.name), .int .i64 d.place, .slice za' d.names.length zc'] 104 104
            have ht2 := two_newI wr #[.string (strOfNums d.name), .int .i64 d.place, .slice za' d.names.length zc'] #[.string (strOfNums d.name), .int .i64 d.place, .slice za d.names.length zc] 104 104
            first
              | (obtain ⟨W2, hW2⟩ : ∃ W2, ((wr.alloc (.cells #[.string (strOfNums d.name), .int .i64 d.place, .slice za d.names.length zc] 104)).alloc (.cells #[.string (strOfNums d.name), .int .i64 d.place, .slice za' d.names.length zc'] 104)).drew = W2 := ⟨_, rfl⟩
                 rw [hW2]
                 have hx : W2.heap[wr.heap.size]? = some (.cells #[.string (strOfNums d.name), .int .i64 d.place, .slice za d.names.length zc] 104 (0, 0)) := by rw [← hW2]; exact ht1.1
                 have hy : W2.heap[wr.heap.size + 1]? = some (.cells #[.string (strOfNums d.name), .int .i64 d.place, .slice za' d.names.length zc'] 104 (0, 0)) := by rw [← hW2]; exact ht1.2
                 rw [hW2] at hbb
                 clear ht1 ht2 hbb' hW2)
              | (obtain ⟨W2, hW2⟩ : ∃ W2, ((wr.alloc (.cells #[.string (strOfNums d.name), .int .i64 d.place, .slice za' d.names.length zc'] 104)).alloc (.cells #[.string (strOfNums d.name), .int .i64 d.place, .slice za d.names.length zc] 104)).drew = W2 := ⟨_, rfl⟩
                 rw [hW2]
                 have hy : W2.heap[wr.heap.size]? = some (.cells #[.string (strOfNums d.name), .int .i64 d.place, .slice za' d.names.length zc'] 104 (0, 0)) := by rw [← hW2]; exact ht2.1
                 have hx : W2.heap[wr.heap.size + 1]? = some (.cells #[.string (strOfNums d.name), .int .i64 d.place, .slice za d.names.length zc] 104 (0, 0)) := by rw [← hW2]; exact ht2.2
                 rw [hW2] at hbb'
                 have hbb := hbb'
                 clear ht1 ht2 hbb' hW2)
            have HB2 := Lib.hid (HB.out.trans (hbb.mono HB.out.size))
            have HP3 := Lib.hid (blk_below HP1.out hbb (blk_lt HP1.out))
            have HP4 := Lib.hid (blk_below HP2.out hbb (blk_lt HP2.out))
            have HG := Lib.hid (row_below hbb HF.out)
            have HG' := Lib.hid (row_below hbb HF'.out)
            obtain ⟨_, u0, u1, u2, _⟩ := blk3 hx
            obtain ⟨_, v0, v1, v2, _⟩ := blk3 hy
            clear hbb hx hy p1 q1 x0 x1 x2 y0 y1 y2 HF HF' HP1 HP2 HB
            go_wp2_with fail
            refine (same2_any d.names _ _ b b' _ HG.out HG'.out).mono ?_
            rintro e W3 ⟨rfl, hb3⟩
            have HB3 := Lib.hid (HB2.out.trans (hb3.mono HB2.out.size))
            have HP5 := Lib.hid (blk_below HP3.out hb3 (blk_lt HP3.out))
            have HP6 := Lib.hid (blk_below HP4.out hb3 (blk_lt HP4.out))
            clear hb3 u0 u1 u2 v0 v1 v2
            go_wp2
            go_roundw
            case rel => exact ⟨HB3.out, HP5.out, HP6.out, k + 1, hlt, by go_num⟩
            case measure => simp [intOf]; omega
        · obtain rfl : k = es.length := by omega
          clear hlt p0 q0 p2 q2 q1
          go_wp2
          go_ret
          exact ⟨rfl, HB.out⟩
end Go.Proofs.YtmjmblbaojchcaaDoor
