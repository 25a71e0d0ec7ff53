/-
  The package jsonwrite's choicesOf: a schema's enums as the writer keeps them. Conditions: those that each theorem names.
-/
import Derived.Test.YtiknhkkeifemcaaGreatDoorPkN42
namespace Go.Proofs.YtiknhkkeifemcaaGreatDoor
open Go.ChangeShapes Go.WideShapes Go.ChangeAt Go.RowKit Go.Shelf

theorem jwnms_info : (Tryz.prog.info? 188).map (fun i => (i.zero, i.size, i.bytes)) = some (some (.slice none 0 0), 1, 24) := by kernel_rfl
theorem jwstr_info : (Tryz.prog.info? 9).map (fun i => (i.zero, i.size, i.bytes)) = some (some (.string ⟨#[]⟩), 1, 16) := by kernel_rfl
structure CcG (P : Nat) (w : World) (rv : Value) (cs : List (SCho × Value)) (W : World) : Prop where
  bel : Below w.heap.size w W
  top : P ≤ W.heap.size
  row : W.ownsRow P 188 1 rv cs.length (cs.flatMap fun q => [q.2])
  inn : ∀ q ∈ cs, W.ownsRow P 9 1 q.2 q.1.names.length (strsCells q.1.names)
theorem CcG.later {P : Nat} {w : World} {rv : Value} {cs : List (SCho × Value)} {W W' : World} (h : CcG P w rv cs W) (hb : Below W.heap.size W W') : CcG P w rv cs W' :=
  ⟨h.bel.trans (hb.mono h.bel.size), Nat.le_trans h.top hb.size, row_keep hb h.row, fun q hq => row_keep hb (h.inn q hq)⟩
theorem CcG.app {P : Nat} {w : World} {rv v4 : Value} {cs : List (SCho × Value)} {q : SCho × Value} {W W8 : World} (h : CcG P w rv cs W) (hP : w.heap.size ≤ P) (hq : W.ownsRow P 9 1 q.2 q.1.names.length (strsCells q.1.names))
    (ho : W8.ownsRow P 188 1 v4 (cs.length + 1) ((cs.flatMap fun q => [q.2]) ++ [q.2])) (hg : W.grownBy W8 rv.ownBlock) : CcG P w v4 (cs ++ [q]) W8 := by
  have hlow : ∀ b, rv.ownBlock = some b → P ≤ b := fun b hb => (ownsRow_lt h.row b hb).1
  refine ⟨h.bel.grown hg h.bel.size (fun b hb => by have := hlow b hb; omega), Nat.le_trans h.top hg.size, ?_, fun p hp => ?_⟩
  · rw [List.length_append, List.flatMap_append]
    simpa using ho
  · rcases List.mem_append.1 hp with hp | hp
    · exact row_othr h.row hg (h.inn p hp) (by decide)
    · rw [List.mem_singleton.1 hp]
      exact row_othr h.row hg hq (by decide)
structure CnG (T : Nat) (W0 : World) (ns : List ByteArray) (lv : Value) (j : Nat) (W : World) : Prop where
  bel : Below W0.heap.size W0 W
  low : W0.heap.size ≤ T
  top : T ≤ W.heap.size
  row : W.ownsRow T 9 1 lv j (strsCells (ns.take j))
theorem CnG.later {T : Nat} {W0 : World} {ns : List ByteArray} {lv : Value} {j : Nat} {W W' : World} (h : CnG T W0 ns lv j W) (hb : Below W.heap.size W W') : CnG T W0 ns lv j W' :=
  ⟨h.bel.trans (hb.mono h.bel.size), h.low, Nat.le_trans h.top hb.size, row_keep hb h.row⟩
theorem CnG.app {T : Nat} {W0 : World} {ns : List ByteArray} {lv v4 : Value} {j : Nat} {W W8 : World} (h : CnG T W0 ns lv j W) (hj : j < ns.length) (ho : W8.ownsRow T 9 1 v4 (j + 1) (strsCells (ns.take j) ++ [.string ns[j]])) (hg : W.grownBy W8 lv.ownBlock) : CnG T W0 ns v4 (j + 1) W8 := by
  have hlow : ∀ b, lv.ownBlock = some b → T ≤ b := fun b hb => (ownsRow_lt h.row b hb).1
  refine ⟨h.bel.grown hg h.bel.size (fun b hb => by have := hlow b hb; have := h.low; omega), h.low, Nat.le_trans h.top hg.size, ?_⟩
  rw [List.take_succ_eq_append_getElem hj, strsCells_snoc]
  exact ho
def CcAtG (P : Nat) (w : World) (es : List (SCho × Value)) (lw i : Value) (W : World) : Prop := ∃ (rv : Value) (cs : List (SCho × Value)), cs.length ≤ es.length ∧ rv = lw ∧ i = .int .i64 (cs.length : Nat) ∧ jChos cs = (es.map Prod.fst).take cs.length ∧ CcG P w rv cs W
def CnAtG (T : Nat) (W0 : World) (ns : List ByteArray) (lw i : Value) (W : World) : Prop := ∃ (lv : Value) (j : Nat), j ≤ ns.length ∧ lv = lw ∧ i = .int .i64 (j : Nat) ∧ CnG T W0 ns lv j W
def CofsPost (es : List (SCho × Value)) (w : World) (e : Ending) (w' : World) : Prop := ∃ cv cs, e = .returned cv ∧ jChos cs = es.map Prod.fst ∧ cs.length = es.length ∧ w'.ownsRow w.heap.size 188 1 cv cs.length (cs.flatMap fun q => [q.2]) ∧ (∀ q ∈ cs, w'.ownsRow w.heap.size 9 1 q.2 q.1.names.length (strsCells q.1.names)) ∧ Below w.heap.size w w'
set_option maxRecDepth 100000 in
set_option maxHeartbeats 8000000 in
theorem jwchoices_of {w : World} {base : Nat} {ss : List (SRec × Value)} {es : List (SCho × Value)} {sv ev : Value} {root : Nat} (h : SchRows base w ss es sv ev) (hn : es.length ≤ 1000000) (hf : ∀ q ∈ es, q.1.names.length ≤ 1000000 ∧ ∀ s ∈ q.1.names, s.size ≤ 1000) :
    Calls Tryz.prog 54 #[.agg #[sv, ev, .int .i64 root]] w (CofsPost es w) := by
  obtain ⟨sa, sc, ea, ec, rfl, rfl⟩ := h.forms
  have hba := (Below.refl w.heap.size w).alloc (Nat.le_refl _) (.cells #[.slice sa ss.length sc, .slice ea es.length ec, .int .i64 root] 30)
  have HQ := Lib.hid (heap_alloc_new w (.cells #[.slice sa ss.length sc, .slice ea es.length ec, .int .i64 root] 30))
  have HM : Hid (CcG (w.heap.size + 1) w (.slice none 0 0) [] (w.alloc (.cells #[.slice sa ss.length sc, .slice ea es.length ec, .int .i64 root] 30))) := Lib.hid ⟨hba, by rw [World.size_alloc]; exact Nat.le_refl _, World.ownsRow_nil _ _ _ _, fun q hq => by cases hq⟩
  have HSC := Lib.hid (fun (W : World) (hb : Below w.heap.size w W) => h.below hb)
  have HF := Lib.hid hf
  clear h hf hba
  go_enter Tryz.func54, Tryz.ntmps54
  go_upto_region 1 with (fail)
  generalize w.alloc (.cells #[.slice sa ss.length sc, .slice ea es.length ec, .int .i64 root] 30) = W0 at *
  obtain ⟨_, r0, r1, r2, _⟩ := blk3 HQ.out
  go_wp2_with fail
  clear r0 r1 r2
  go_loopw [3, 12] (fun lv i wr => CcAtG (w.heap.size + 1) w es lv i wr) (fun _ i _ => es.length - (intOf i).toNat)
  case atStart => exact ⟨_, [], Nat.zero_le _, rfl, rfl, rfl, HM.out⟩
  case round =>
    obtain ⟨rv, cs, hk, rfl, rfl, hcs, hm⟩ := hrel
    have HM2 := Lib.hid hm
    have HCS := Lib.hid hcs
    clear hm HM hcs
    by_cases hkl : cs.length < es.length
    · have hki : (cs.length : Int) < es.length := by omega
      have HSW := Lib.hid (HSC.out wr HM2.out.bel)
      obtain ⟨g, cc, hv, hcc, hg, hcell⟩ := row_el schoCells 2 (fun _ => rfl) HSW.out.enums cs.length hkl
      obtain ⟨rfl, rfl⟩ := slice_inj hv
      have x0 : wr.cell? ⟨g, cs.length * 2, none⟩ = some (.string es[cs.length].1.name) := hcell 0 (by omega)
      have x1 : wr.cell? ⟨g, cs.length * 2 + 1, none⟩ = some es[cs.length].2 := hcell 1 (by omega)
      have HNR0 := Lib.hid (fun (W : World) (hb : Below w.heap.size w W) => (HSC.out W hb).names _ (List.getElem_mem hkl))
      have HNM := Lib.hid (HF.out es[cs.length] (List.getElem_mem hkl))
      have HTK : Hid ((es.map Prod.fst).take (cs.length + 1) = (es.map Prod.fst).take cs.length ++ [es[cs.length].1]) := Lib.hid (by rw [List.take_succ_eq_append_getElem (by rw [List.length_map]; exact hkl), List.getElem_map])
      clear hcell hv
      obtain ⟨na, nc, hnv⟩ := ownsRow_form (HNR0.out wr HM2.out.bel)
      rw [hnv] at x1 HNR0
      clear hnv
      generalize es[cs.length].1 = S at *
      obtain ⟨nm, ns⟩ := S
      simp only at x0 x1 HNR0 HNM
      obtain ⟨la, lc, rfl⟩ := ownsRow_form HM2.out.row
      have hba : Below wr.heap.size wr (wr.alloc (.cells #[.string nm, .slice na ns.length nc] 92)) := (Below.refl _ _).alloc (Nat.le_refl _) _
      have hq := heap_alloc_new wr (.cells #[.string nm, .slice na ns.length nc] 92)
      have HM3 := Lib.hid (HM2.out.later hba)
      clear hba HM2
      go_upto_region 5 with (fail)
      generalize wr.alloc (.cells #[.string nm, .slice na ns.length nc] 92) = W5 at *
      generalize wr.heap.size = Q at *
      obtain ⟨hQl, y0, y1, _⟩ := blk2 hq
      have HCN : Hid (CnG W5.heap.size W5 ns (.slice none 0 0) 0 W5) := Lib.hid ⟨Below.refl _ _, Nat.le_refl _, Nat.le_refl _, World.ownsRow_nil _ _ _ _⟩
      obtain ⟨T5, hT5⟩ : ∃ T5, W5.heap.size = T5 := ⟨_, rfl⟩
      have HT5 := Lib.hid hT5
      rw [hT5] at HCN
      clear x0 x1 hq hT5
      obtain ⟨WP, rfl⟩ : ∃ WP, WP = wr := ⟨_, rfl⟩
      go_wp2_with fail
      clear y0 y1
      go_loopw [6, 19] (fun lv i wr => CnAtG T5 W5 ns lv i wr) (fun _ i _ => ns.length - (intOf i).toNat)
      case atStart => exact ⟨_, 0, Nat.zero_le _, rfl, rfl, HCN.out⟩
      case round =>
        obtain ⟨lv, j, hj, rfl, rfl, hcn⟩ := hrel
        have HC2 := Lib.hid hcn
        have HM7 := Lib.hid (HM3.out.later hcn.bel)
        clear hcn HCN
        by_cases hjl : j < ns.length
        · have hji : (j : Int) < ns.length := by omega
          obtain ⟨g2, c2, hv2, hcc2, hg2, hcell2⟩ := row_el strCells 1 (fun _ => rfl) (HNR0.out wr HM7.out.bel) j hjl
          obtain ⟨rfl, rfl⟩ := slice_inj hv2
          have x0 : wr.cell? ⟨g2, j, none⟩ = some (.string ns[j]) := by have h := hcell2 0 (by omega); simpa [strCells] using h
          have hSZ := HNM.out.2 _ (List.getElem_mem hjl)
          have hnl := HNM.out.1
          have HAPP := Lib.hid (fun (W W8 : World) (v4 : Value) (h : CnG T5 W5 ns lv j W) ho hg => h.app (v4 := v4) (W8 := W8) hjl ho hg)
          clear hcell2 hv2
          generalize ns[j] = s at *
          obtain ⟨ba, bc, rfl⟩ := ownsRow_form HC2.out.row
          go_wp2_with fail
          refine (clone_any s wr (by omega)).mono ?_
          rintro e W6 ⟨rfl, hb6⟩
          have HC3 := Lib.hid (HC2.out.later hb6)
          obtain ⟨i0, hi0, hz0, hz1, hz2⟩ := info_parts jwstr_info
          have I1 := Lib.hid hi0
          have I2 := Lib.hid hz0
          have I3 := Lib.hid hz1
          have I4 := Lib.hid hz2
          have hal : Below W6.heap.size W6 (W6.alloc (.cells #[.string s] 9)) := (Below.refl _ _).alloc (Nat.le_refl _) _
          have HC5 := Lib.hid (HC3.out.later hal)
          have HBN := Lib.hid (heap_alloc_new W6 (.cells #[.string s] 9))
          have HTP := Lib.hid HC5.out.top
          clear hb6 hi0 hz0 hz1 hz2 hal x0 HC2 HC3 HM7
          go_upto_region 10 with (at_builtin; refine wpList_append_any _ rfl (.tmp 23) (.tmp 26) 188 188 rfl T5 9 i0 _ 1 Tryz.underlying188 I1.out I2.out I3.out rfl (.slice ba j bc) j (strsCells (ns.take j)) rfl HC5.out.row (.slice (some ⟨W6.heap.size, 0, none⟩) 1 1) 1 [.string s] rfl (Src.ofSlice _ Tryz.underlying188 ⟨W6.heap.size, 0, none⟩ 1 1 [.string s] rfl (World.news_of_block HBN.out) (by intro u hu; rw [List.mem_singleton.1 hu]; rfl)) (by unfold maxLen; omega) (by rw [I4.out]; omega) HTP.out ?_; intro v4 W8 hown4 hg4 hx4; clear hx4; have HF8 := Lib.hid (HAPP.out _ _ _ HC5.out hown4 hg4); clear hown4 hg4)
          go_wp2
          go_roundw
          case rel => exact ⟨_, j + 1, hjl, rfl, by go_num, HF8.out⟩
          case measure => simp [intOf]; omega
        · have hjn : j = ns.length := by omega
          have hji : ¬ (j : Int) < ns.length := by omega
          have HRW : Hid (wr.ownsRow T5 9 1 lv ns.length (strsCells ns)) := Lib.hid (by have h := HC2.out.row; rw [hjn, List.take_length] at h; exact h)
          have hT5 := HT5.out
          have hTop := HC2.out.top
          have hPt := HM3.out.top
          clear HC2 hjn
          obtain ⟨ba, bc, rfl⟩ := ownsRow_form HRW.out
          obtain ⟨i0, hi0, hz0, hz1, hz2⟩ := info_parts jwnms_info
          have I1 := Lib.hid hi0
          have I2 := Lib.hid hz0
          have I3 := Lib.hid hz1
          have I4 := Lib.hid hz2
          have hal : Below wr.heap.size wr (wr.alloc (.cells #[.slice ba ns.length bc] 188)) := (Below.refl _ _).alloc (Nat.le_refl _) _
          have HM5 := Lib.hid (HM7.out.later hal)
          have HIN5 := Lib.hid (ownsRow_base (row_keep hal HRW.out) (base' := w.heap.size + 1) (by omega))
          have HBN := Lib.hid (heap_alloc_new wr (.cells #[.slice ba ns.length bc] 188))
          have HTP := Lib.hid HM5.out.top
          clear hi0 hz0 hz1 hz2 hal HM7 HM3 HRW hT5 hTop hPt
          go_upto_region 12 with (at_builtin; refine wpList_append_any _ rfl (.tmp 29) (.tmp 31) 121 121 rfl (w.heap.size + 1) 188 i0 _ 1 Tryz.underlying121 I1.out I2.out I3.out rfl (.slice la cs.length lc) cs.length (cs.flatMap fun q => [q.2]) rfl HM5.out.row (.slice (some ⟨wr.heap.size, 0, none⟩) 1 1) 1 [.slice ba ns.length bc] rfl (Src.ofSlice _ Tryz.underlying121 ⟨wr.heap.size, 0, none⟩ 1 1 [.slice ba ns.length bc] rfl (World.news_of_block HBN.out) (by intro u hu; rw [List.mem_singleton.1 hu]; rfl)) (by unfold maxLen; omega) (by rw [I4.out]; omega) HTP.out ?_; intro v4 W8 hown4 hg4 hx4; clear hx4; have HF8 := Lib.hid (HM5.out.app (q := (⟨nm, ns⟩, .slice ba ns.length bc)) (Nat.le_succ _) HIN5.out hown4 hg4); clear hown4 hg4)
          go_wp2
          go_roundw
          case rel => exact ⟨_, cs ++ [(⟨nm, ns⟩, .slice ba ns.length bc)], by rw [List.length_append]; exact hkl, rfl, by rw [List.length_append, List.length_singleton]; go_num, by rw [List.length_append, List.length_singleton, HTK.out, ← HCS.out]; simp [jChos], HF8.out⟩
          case measure => simp [intOf]; omega
    · have hkn : cs.length = es.length := by omega
      have hki : ¬ (cs.length : Int) < es.length := by omega
      have HRE := Lib.hid (show jChos cs = es.map Prod.fst by rw [HCS.out, hkn]; exact List.take_of_length_le (by rw [List.length_map]; exact Nat.le_refl _))
      have HKN := Lib.hid hkn
      obtain ⟨la, lc, rfl⟩ := ownsRow_form HM2.out.row
      clear hkn
      go_wp2
      go_ret
      exact ⟨_, cs, rfl, HRE.out, HKN.out, ownsRow_base HM2.out.row (Nat.le_succ _), fun q hq => ownsRow_base (HM2.out.inn q hq) (Nat.le_succ _), HM2.out.bel⟩
end Go.Proofs.YtiknhkkeifemcaaGreatDoor
