/-
  The document's own SameSchema: of two schemas that are alike it hands back true. Conditions: those that each theorem names. (Made by program: wip/tools/gen-samesch.py.)
-/
import Derived.Test.YtleclhnlojalbaaGreatDoorPkL1
import Derived.Test.YtleclhnlojalbaaGreatDoorPkL8
import Derived.Test.YtleclhnlojalbaaGreatDoorPkL25
import Derived.Test.YtleclhnlojalbaaGreatDoorPkL27
import Derived.Deep.QuietTactic
import Derived.BigQuiet
import Derived.Deep.RegionHeld3
namespace Go.Proofs.YtleclhnlojalbaaGreatDoor
open Go.ChangeShapes Go.WideShapes Go.ChangeAt Go.RowKit Go.Shelf

theorem map_fst_at2 {α β : Type} {l l' : List (α × β)} (h : l.map Prod.fst = l'.map Prod.fst) (k : Nat) (hk : k < l.length) : ∃ hk' : k < l'.length, l[k].1 = l'[k].1 := by
  have hl : l.length = l'.length := by simpa using congrArg List.length h
  refine ⟨hl ▸ hk, ?_⟩
  have h1 : (l.map Prod.fst)[k]? = (l'.map Prod.fst)[k]? := by rw [h]
  rw [List.getElem?_map, List.getElem?_map, List.getElem?_eq_getElem hk, List.getElem?_eq_getElem (hl ▸ hk)] at h1
  exact Option.some.inj h1
set_option maxRecDepth 100000 in
set_option maxHeartbeats 16000000 in
theorem samesch_any (w : World) {ss ss' : List (SRec × Value)} {es es' : List (SCho × Value)} {sv ev sv' ev' : Value} {b b' rt : Nat} (h : SchRows b w ss es sv ev) (h' : SchRows b' w ss' es' sv' ev') (hss : ss.map Prod.fst = ss'.map Prod.fst) (hes : es.map Prod.fst = es'.map Prod.fst) :
    Calls Tryz.prog 15 #[.agg #[sv, ev, .int .i64 rt], .agg #[sv', ev', .int .i64 rt]] w fun e w' => e = .returned (.bool true) ∧ Below w.heap.size w w' := by
  have HSS := Lib.hid hss
  have HES := Lib.hid hes
  have hl1 : ss.length = ss'.length := by simpa using congrArg List.length hss
  have hl2 : es.length = es'.length := by simpa using congrArg List.length hes
  have HL1 := Lib.hid hl1
  have HL2 := Lib.hid hl2
  have hf1 := row_few h.structs
  have hf2 := row_few h.enums
  obtain ⟨sa, sc, ea, ec, rfl, rfl⟩ := h.forms
  obtain ⟨sa', sc', ea', ec', rfl, rfl⟩ := h'.forms
  have HR := Lib.hid h
  have HR' := Lib.hid h'
  rw [← hl1, ← hl2]
  obtain ⟨hb0, hq1, hq2⟩ := two_blk w #[.slice sa ss.length sc, .slice ea es.length ec, .int .i64 rt] #[.slice sa' ss.length sc', .slice ea' es.length ec', .int .i64 rt] 32 32
  have HQ1 := Lib.hid hq1
  have HQ2 := Lib.hid hq2
  have HB0 := Lib.hid hb0
  clear h h' hss hes hl1 hl2 hq1 hq2 hb0
  go_enter Tryz.func15, Tryz.ntmps15
  go_upto_region 1 with (fail)
  generalize ((w.alloc (.cells #[.slice sa ss.length sc, .slice ea es.length ec, .int .i64 rt] 32)).alloc (.cells #[.slice sa' ss.length sc', .slice ea' es.length ec', .int .i64 rt] 32)) = W0 at *
  obtain ⟨_, p0, p1, p2, _⟩ := blk3 HQ1.out
  obtain ⟨_, q0, q1, q2, _⟩ := blk3 HQ2.out
  go_upto_region 3 with (fail)
  go_wp2_with fail
  clear p0 p1 p2 q0 q1 q2
  go_loopw [5] (fun i wr => Below w.heap.size w wr ∧ wr.heap[w.heap.size]? = some (.cells #[.slice sa ss.length sc, .slice ea es.length ec, .int .i64 rt] 32 (0, 0)) ∧ wr.heap[w.heap.size + 1]? = some (.cells #[.slice sa' ss.length sc', .slice ea' es.length ec', .int .i64 rt] 32 (0, 0)) ∧ ∃ k : Nat, k ≤ ss.length ∧ i = .int .i64 k) (fun i _ => ss.length - (intOf i).toNat)
  case atStart => exact ⟨HB0.out, HQ1.out, HQ2.out, 0, Nat.zero_le _, rfl⟩
  case round =>
    clear HB0 HQ1 HQ2
    obtain ⟨hb, hp1, hp2, k, hk, rfl⟩ := hrel
    have HB := Lib.hid hb
    have HP1 := Lib.hid hp1
    have HP2 := Lib.hid hp2
    clear hb hp1 hp2
    obtain ⟨_, p0, p1, p2, _⟩ := blk3 HP1.out
    obtain ⟨_, q0, q1, q2, _⟩ := blk3 HP2.out
    by_cases hlt : k < ss.length
    · obtain ⟨hk', he⟩ := map_fst_at2 HSS.out k hlt
      obtain ⟨g, c, za, zc, hv, hc, hg, x0, x1, hz⟩ := (HR.out.below HB.out).strct k hlt
      obtain ⟨rfl, rfl⟩ := slice_inj hv
      obtain ⟨g', c', za', zc', hv', hc', hg', y0, y1, hz'⟩ := (HR'.out.below HB.out).strct k hk'
      rw [← HL1.out] at hv' hc'
      obtain ⟨rfl, rfl⟩ := slice_inj hv'
      have HF := Lib.hid ((HR.out.below HB.out).fields _ (List.getElem_mem hlt))
      have HF' := Lib.hid ((HR'.out.below HB.out).fields _ (List.getElem_mem hk'))
      rw [hz] at HF
      rw [hz'] at HF'
      rw [← he] at y0 y1 HF'
      generalize ss[k].1 = d at *
      generalize hnm : d.name = nm at *
      generalize hdl : d.fields = dl at *
      generalize hcn : dl.length = cnt at *
      have HCN := Lib.hid hcn
      have hki : (k : Int) < ss.length := by omega
      clear hv hv' hz hz' he hnm hdl hcn
      go_upto_region 6 with (fail)
      go_region_held3 (fun w' => w'.cell? ⟨w.heap.size, 0, none⟩ = some (.slice (some ⟨g, 0, none⟩) ss.length sc) ∧ w'.cell? ⟨w.heap.size + 1, 0, none⟩ = some (.slice (some ⟨g', 0, none⟩) ss.length sc') ∧ w'.cell? ⟨g, k * 2, none⟩ = some (.string nm) ∧ w'.cell? ⟨g, k * 2 + 1, none⟩ = some (.slice za cnt zc) ∧ w'.cell? ⟨g', k * 2, none⟩ = some (.string nm) ∧ w'.cell? ⟨g', k * 2 + 1, none⟩ = some (.slice za' cnt zc')) (first | assumption | go_keep) (first | fail)
      all_goals
        go_upto_region 7 with (fail)
        have hbb : Below wr.heap.size wr ((wr.alloc (.cells #[.string nm, .slice za cnt zc] 58)).alloc (.cells #[.string nm, .slice za' cnt zc'] 58)).drew := (((Below.refl _ _).alloc (Nat.le_refl _) _).alloc (by simp) _).drew
        have hbb' : Below wr.heap.size wr ((wr.alloc (.cells #[.string nm, .slice za' cnt zc'] 58)).alloc (.cells #[.string nm, .slice za cnt zc] 58)).drew := (((Below.refl _ _).alloc (Nat.le_refl _) _).alloc (by simp) _).drew
        have ht1 := (two_blk wr #[.string nm, .slice za cnt zc] #[.string nm, .slice za' cnt zc'] 58 58).2
        have ht2 := (two_blk wr #[.string nm, .slice za' cnt zc'] #[.string nm, .slice za cnt zc] 58 58).2
        first
          | (obtain ⟨W2, hW2⟩ : ∃ W2, ((wr.alloc (.cells #[.string nm, .slice za cnt zc] 58)).alloc (.cells #[.string nm, .slice za' cnt zc'] 58)).drew = W2 := ⟨_, rfl⟩
             rw [hW2]
             have hx : W2.heap[wr.heap.size]? = some (.cells #[.string nm, .slice za cnt zc] 58 (0, 0)) := by rw [← hW2]; exact ht1.1
             have hy : W2.heap[wr.heap.size + 1]? = some (.cells #[.string nm, .slice za' cnt zc'] 58 (0, 0)) := by rw [← hW2]; exact ht1.2
             rw [hW2] at hbb
             clear ht1 ht2 hbb' hW2)
          | (obtain ⟨W2, hW2⟩ : ∃ W2, ((wr.alloc (.cells #[.string nm, .slice za' cnt zc'] 58)).alloc (.cells #[.string nm, .slice za cnt zc] 58)).drew = W2 := ⟨_, rfl⟩
             rw [hW2]
             have hy : W2.heap[wr.heap.size]? = some (.cells #[.string nm, .slice za' cnt zc'] 58 (0, 0)) := by rw [← hW2]; exact ht2.1
             have hx : W2.heap[wr.heap.size + 1]? = some (.cells #[.string nm, .slice za cnt zc] 58 (0, 0)) := by rw [← hW2]; exact ht2.2
             rw [hW2] at hbb'
             have hbb := hbb'
             clear ht1 ht2 hbb' hW2)
        have HB2 := Lib.hid (HB.out.trans (hbb.mono HB.out.size))
        have HP3 := Lib.hid (blk_below HP1.out hbb (blk_lt HP1.out))
        have HP4 := Lib.hid (blk_below HP2.out hbb (blk_lt HP2.out))
        have HX := Lib.hid hx
        have HY := Lib.hid hy
        have HG := Lib.hid (row_below hbb HF.out)
        have HG' := Lib.hid (row_below hbb HF'.out)
        have hff := row_few HG.out
        obtain ⟨_, u0, u1, _⟩ := blk2 hx
        obtain ⟨_, v0, v1, _⟩ := blk2 hy
        clear hbb hx hy p0 q0 p1 q1 p2 q2 x0 x1 y0 y1 HF HF' HP1 HP2 HB
        go_upto_region 9 with (fail)
        go_wp2_with fail
        clear u0 u1 v0 v1
        go_loopw [8] (fun i wq => Below W2.heap.size W2 wq ∧ ∃ j : Nat, j ≤ cnt ∧ i = .int .i64 j) (fun i _ => cnt - (intOf i).toNat)
        case atStart => exact ⟨Below.refl _ _, 0, Nat.zero_le _, rfl⟩
        case round =>
          obtain ⟨hb, j, hj, rfl⟩ := hrel
          have HBQ := Lib.hid hb
          obtain ⟨_, u0, u1, _⟩ := blk2 (blk_below HX.out hb (blk_lt HX.out))
          obtain ⟨_, v0, v1, _⟩ := blk2 (blk_below HY.out hb (blk_lt HY.out))
          clear hb
          by_cases hjl : j < cnt
          · have hjd : j < dl.length := by rw [HCN.out]; exact hjl
            have hgr := row_below HBQ.out HG.out
            have hgr' := row_below HBQ.out HG'.out
            rw [← HCN.out] at hgr hgr'
            obtain ⟨g2, c2, hv2, hc2, hg2, hcell2⟩ := row_el sfldCells 5 (fun _ => rfl) hgr j hjd
            obtain ⟨g3, c3, hv3, hc3, hg3, hcell3⟩ := row_el sfldCells 5 (fun _ => rfl) hgr' j hjd
            rw [HCN.out] at hv2 hv3 hc2 hc3
            obtain ⟨rfl, rfl⟩ := slice_inj hv2
            obtain ⟨rfl, rfl⟩ := slice_inj hv3
            have a0 := hcell2 0 (by omega)
            have b0 := hcell3 0 (by omega)
            have a1 := hcell2 1 (by omega)
            have b1 := hcell3 1 (by omega)
            have a2 := hcell2 2 (by omega)
            have b2 := hcell3 2 (by omega)
            have a3 := hcell2 3 (by omega)
            have b3 := hcell3 3 (by omega)
            have a4 := hcell2 4 (by omega)
            have b4 := hcell3 4 (by omega)
            generalize dl[j] = f at *
            simp only [sfldCells, List.getElem?_cons_zero, List.getElem?_cons_succ, Nat.add_zero] at a0 b0 a1 b1 a2 b2 a3 b3 a4 b4
            have hji : (j : Int) < cnt := by omega
            clear hcell2 hcell3 hv2 hv3 hgr hgr' hjd
            go_upto_region 12 with (fail)
            go_quiet (fail)
            go_wp2
            go_roundw
            case rel => exact ⟨bel_drewN HBQ.out nq, j + 1, hjl, by go_num⟩
            case measure => simp [intOf]; omega
          · obtain rfl : j = cnt := by omega
            clear hjl
            go_wp2
            go_roundw
            case rel => exact ⟨HB2.out.trans (HBQ.out.mono HB2.out.size), blk_below HP3.out HBQ.out (blk_lt HP3.out), blk_below HP4.out HBQ.out (blk_lt HP4.out), k + 1, hlt, by go_num⟩
            case measure => simp [intOf]; omega
    · obtain rfl : k = ss.length := by omega
      clear hlt
      go_upto_region 14 with (fail)
      go_wp2_with fail
      clear p0 p1 p2 q0 q1 q2
      go_loopw [9] (fun i wr => Below w.heap.size w wr ∧ wr.heap[w.heap.size]? = some (.cells #[.slice sa ss.length sc, .slice ea es.length ec, .int .i64 rt] 32 (0, 0)) ∧ wr.heap[w.heap.size + 1]? = some (.cells #[.slice sa' ss.length sc', .slice ea' es.length ec', .int .i64 rt] 32 (0, 0)) ∧ ∃ k : Nat, k ≤ es.length ∧ i = .int .i64 k) (fun i _ => es.length - (intOf i).toNat)
      case atStart => exact ⟨HB.out, HP1.out, HP2.out, 0, Nat.zero_le _, rfl⟩
      case round =>
        clear HB HP1 HP2
        obtain ⟨hb, hp1, hp2, k, hk, rfl⟩ := hrel
        have HB := Lib.hid hb
        have HP1 := Lib.hid hp1
        have HP2 := Lib.hid hp2
        clear hb hp1 hp2
        obtain ⟨_, p0, p1, p2, _⟩ := blk3 HP1.out
        obtain ⟨_, q0, q1, q2, _⟩ := blk3 HP2.out
        by_cases hlt : k < es.length
        · obtain ⟨hk', he⟩ := map_fst_at2 HES.out k hlt
          obtain ⟨g, c, za, zc, hv, hc, hg, x0, x1, hz⟩ := (HR.out.below HB.out).enum k hlt
          obtain ⟨rfl, rfl⟩ := slice_inj hv
          obtain ⟨g', c', za', zc', hv', hc', hg', y0, y1, hz'⟩ := (HR'.out.below HB.out).enum k hk'
          rw [← HL2.out] at hv' hc'
          obtain ⟨rfl, rfl⟩ := slice_inj hv'
          have HF := Lib.hid ((HR.out.below HB.out).names _ (List.getElem_mem hlt))
          have HF' := Lib.hid ((HR'.out.below HB.out).names _ (List.getElem_mem hk'))
          rw [hz] at HF
          rw [hz'] at HF'
          rw [← he] at y0 y1 HF'
          generalize es[k].1 = d at *
          generalize hnm : d.name = nm at *
          generalize hdl : d.names = dl at *
          generalize hcn : dl.length = cnt at *
          have HCN := Lib.hid hcn
          have hki : (k : Int) < es.length := by omega
          clear hv hv' hz hz' he hnm hdl hcn
          go_upto_region 17 with (fail)
          go_region_held3 (fun w' => w'.cell? ⟨w.heap.size, 1, none⟩ = some (.slice (some ⟨g, 0, none⟩) es.length ec) ∧ w'.cell? ⟨w.heap.size + 1, 1, none⟩ = some (.slice (some ⟨g', 0, none⟩) es.length ec') ∧ w'.cell? ⟨g, k * 2, none⟩ = some (.string nm) ∧ w'.cell? ⟨g, k * 2 + 1, none⟩ = some (.slice za cnt zc) ∧ w'.cell? ⟨g', k * 2, none⟩ = some (.string nm) ∧ w'.cell? ⟨g', k * 2 + 1, none⟩ = some (.slice za' cnt zc')) (first | assumption | go_keep) (first | fail)
          all_goals
            go_upto_region 18 with (fail)
            have hbb : Below wr.heap.size wr ((wr.alloc (.cells #[.string nm, .slice za cnt zc] 60)).alloc (.cells #[.string nm, .slice za' cnt zc'] 60)).drew := (((Below.refl _ _).alloc (Nat.le_refl _) _).alloc (by simp) _).drew
            have hbb' : Below wr.heap.size wr ((wr.alloc (.cells #[.string nm, .slice za' cnt zc'] 60)).alloc (.cells #[.string nm, .slice za cnt zc] 60)).drew := (((Below.refl _ _).alloc (Nat.le_refl _) _).alloc (by simp) _).drew
            have ht1 := (two_blk wr #[.string nm, .slice za cnt zc] #[.string nm, .slice za' cnt zc'] 60 60).2
            have ht2 := (two_blk wr #[.string nm, .slice za' cnt zc'] #[.string nm, .slice za cnt zc] 60 60).2
            first
              | (obtain ⟨W2, hW2⟩ : ∃ W2, ((wr.alloc (.cells #[.string nm, .slice za cnt zc] 60)).alloc (.cells #[.string nm, .slice za' cnt zc'] 60)).drew = W2 := ⟨_, rfl⟩
                 rw [hW2]
                 have hx : W2.heap[wr.heap.size]? = some (.cells #[.string nm, .slice za cnt zc] 60 (0, 0)) := by rw [← hW2]; exact ht1.1
                 have hy : W2.heap[wr.heap.size + 1]? = some (.cells #[.string nm, .slice za' cnt zc'] 60 (0, 0)) := by rw [← hW2]; exact ht1.2
                 rw [hW2] at hbb
                 clear ht1 ht2 hbb' hW2)
              | (obtain ⟨W2, hW2⟩ : ∃ W2, ((wr.alloc (.cells #[.string nm, .slice za' cnt zc'] 60)).alloc (.cells #[.string nm, .slice za cnt zc] 60)).drew = W2 := ⟨_, rfl⟩
                 rw [hW2]
                 have hy : W2.heap[wr.heap.size]? = some (.cells #[.string nm, .slice za' cnt zc'] 60 (0, 0)) := by rw [← hW2]; exact ht2.1
                 have hx : W2.heap[wr.heap.size + 1]? = some (.cells #[.string nm, .slice za cnt zc] 60 (0, 0)) := by rw [← hW2]; exact ht2.2
                 rw [hW2] at hbb'
                 have hbb := hbb'
                 clear ht1 ht2 hbb' hW2)
            have HB2 := Lib.hid (HB.out.trans (hbb.mono HB.out.size))
            have HP3 := Lib.hid (blk_below HP1.out hbb (blk_lt HP1.out))
            have HP4 := Lib.hid (blk_below HP2.out hbb (blk_lt HP2.out))
            have HX := Lib.hid hx
            have HY := Lib.hid hy
            have HG := Lib.hid (row_below hbb HF.out)
            have HG' := Lib.hid (row_below hbb HF'.out)
            have hff := row_few HG.out
            obtain ⟨_, u0, u1, _⟩ := blk2 hx
            obtain ⟨_, v0, v1, _⟩ := blk2 hy
            clear hbb hx hy p0 q0 p1 q1 p2 q2 x0 x1 y0 y1 HF HF' HP1 HP2 HB
            go_upto_region 20 with (fail)
            go_wp2_with fail
            clear u0 u1 v0 v1
            go_loopw [12] (fun i wq => Below W2.heap.size W2 wq ∧ ∃ j : Nat, j ≤ cnt ∧ i = .int .i64 j) (fun i _ => cnt - (intOf i).toNat)
            case atStart => exact ⟨Below.refl _ _, 0, Nat.zero_le _, rfl⟩
            case round =>
              obtain ⟨hb, j, hj, rfl⟩ := hrel
              have HBQ := Lib.hid hb
              obtain ⟨_, u0, u1, _⟩ := blk2 (blk_below HX.out hb (blk_lt HX.out))
              obtain ⟨_, v0, v1, _⟩ := blk2 (blk_below HY.out hb (blk_lt HY.out))
              clear hb
              by_cases hjl : j < cnt
              · have hjd : j < dl.length := by rw [HCN.out]; exact hjl
                have hgr := row_below HBQ.out HG.out
                have hgr' := row_below HBQ.out HG'.out
                rw [← HCN.out] at hgr hgr'
                obtain ⟨g2, c2, hv2, hc2, hg2, hcell2⟩ := row_el strCells 1 (fun _ => rfl) hgr j hjd
                obtain ⟨g3, c3, hv3, hc3, hg3, hcell3⟩ := row_el strCells 1 (fun _ => rfl) hgr' j hjd
                rw [HCN.out] at hv2 hv3 hc2 hc3
                obtain ⟨rfl, rfl⟩ := slice_inj hv2
                obtain ⟨rfl, rfl⟩ := slice_inj hv3
                have a0 := hcell2 0 (by omega)
                have b0 := hcell3 0 (by omega)
                generalize dl[j] = f at *
                simp only [strCells, List.getElem?_cons_zero, Nat.add_zero, Nat.mul_one] at a0 b0
                have hji : (j : Int) < cnt := by omega
                clear hcell2 hcell3 hv2 hv3 hgr hgr' hjd
                go_upto_region 23 with (fail)
                go_quiet (fail)
                go_wp2
                go_roundw
                case rel => exact ⟨bel_drewN HBQ.out nq, j + 1, hjl, by go_num⟩
                case measure => simp [intOf]; omega
              · obtain rfl : j = cnt := by omega
                clear hjl
                go_wp2
                go_roundw
                case rel => exact ⟨HB2.out.trans (HBQ.out.mono HB2.out.size), blk_below HP3.out HBQ.out (blk_lt HP3.out), blk_below HP4.out HBQ.out (blk_lt HP4.out), k + 1, hlt, by go_num⟩
                case measure => simp [intOf]; omega
        · obtain rfl : k = es.length := by omega
          clear hlt
          go_wp2
          go_ret
          exact ⟨rfl, HB.out⟩
end Go.Proofs.YtleclhnlojalbaaGreatDoor
