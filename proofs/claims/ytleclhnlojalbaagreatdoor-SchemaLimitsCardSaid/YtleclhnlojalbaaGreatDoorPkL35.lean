/-
  The package schema's Check: is what lies in memory a schema? Conditions: those that each theorem names; the library's tables hold what the row lists.
-/
import Derived.Test.YtleclhnlojalbaaGreatDoorPkL19
import Derived.Test.YtleclhnlojalbaaGreatDoorPkL34
namespace Go.Proofs.YtleclhnlojalbaaGreatDoor
open Go.ChangeShapes Go.WideShapes Go.ChangeAt Go.RowKit Go.Shelf

def DclAt {α : Type} (o : Obj) (f : α → ByteArray) (n0 : Nat) (acc : List ByteArray) (l : List α) (w : World) (nv i : Value) (wr : World) : Prop :=
  ∃ k : Nat, k ≤ l.length ∧ i = .int .i64 k ∧ Below w.heap.size w wr ∧ wr.heap[w.heap.size]? = some o ∧ wr.ownsRow (w.heap.size + 1) 9 1 nv (k + n0) (strsCells (acc ++ (l.take k).map f))
theorem dcl_app {w wr W2 W8 : World} {o : Obj} {nv : Value} {n : Nat} {xs : List Value} (hb : Below w.heap.size w wr) (hbox : wr.heap[w.heap.size]? = some o) (hrow : wr.ownsRow (w.heap.size + 1) 9 1 nv n xs) (h2 : Below wr.heap.size wr W2)
    (hg : W2.grownBy W8 nv.ownBlock) : Below w.heap.size w W8 ∧ W8.heap[w.heap.size]? = some o := by
  have hlt := blk_lt hbox
  exact ⟨(hb.trans (h2.mono (Nat.le_of_lt hlt))).grown hg (by have := h2.size; omega) (fun k hk => by have := (ownsRow_lt hrow k hk).1; omega),
    (hg.block _ (Nat.lt_of_lt_of_le hlt h2.size) (fun e => by have := (ownsRow_lt hrow _ e.symm).1; omega)).trans ((h2.block _ hlt).trans hbox)⟩
set_option maxRecDepth 100000 in
set_option maxHeartbeats 4000000 in
theorem declared_any (w : World) {base : Nat} {ss : List (CRec × Value)} {es : List (SCho × Value)} {sv ev : Value} (root : Int) (h : CRows base w ss es sv ev) (h1 : ss.length ≤ 16) (h2 : es.length ≤ 8) :
    Calls Tryz.prog 31 #[.agg #[sv, ev, .int .i64 root]] w fun e w' => ∃ nv, e = .returned nv ∧ w'.ownsRow w.heap.size 9 1 nv (ss.length + es.length) (strsCells ((es.map fun q => q.1.name) ++ ss.map fun q => q.1.name)) ∧ Below w.heap.size w w' := by
  obtain ⟨sa, sc, ea, ec, rfl, rfl⟩ := h.forms
  have HH := Lib.hid h
  have h0 := heap_alloc_new w (.cells #[.slice sa ss.length sc, .slice ea es.length ec, .int .i64 root] 32)
  have HB0 := Lib.hid ((Below.refl w.heap.size w).alloc (Nat.le_refl _) (.cells #[.slice sa ss.length sc, .slice ea es.length ec, .int .i64 root] 32))
  have HBOX := Lib.hid h0
  obtain ⟨i0, hi0, hzz0, hzz1, hzz2⟩ := info_parts str_info
  have I1 := Lib.hid hi0
  have I2 := Lib.hid hzz0
  have I3 := Lib.hid hzz1
  have I4 := Lib.hid hzz2
  obtain ⟨_, p0, p1, p2, _⟩ := blk3 h0
  clear hi0 hzz0 hzz1 hzz2 h0 h
  go_enter Tryz.func31, Tryz.ntmps31
  go_wp2
  go_loopw [3, 11] (DclAt (.cells #[.slice sa ss.length sc, .slice ea es.length ec, .int .i64 root] 32 (0, 0)) (fun q : SCho × Value => q.1.name) 0 [] es w) (fun _ i _ => es.length - (intOf i).toNat)
  case atStart => exact ⟨0, Nat.zero_le _, rfl, HB0.out, HBOX.out, World.ownsRow_nil _ _ _ _⟩
  case round =>
    clear HB0 HBOX
    obtain ⟨k, hk, rfl, hb, hbox, hown⟩ := hrel
    have hlt := blk_lt hbox
    have HB := Lib.hid hb
    have HX := Lib.hid hbox
    have HOWN := Lib.hid hown
    obtain ⟨nva, nvc, rfl⟩ := ownsRow_form hown
    by_cases hkl : k < es.length
    · obtain ⟨g, cc, hv, hcc, hg, hcell⟩ := row_el schoCells 2 (fun _ => rfl) (row_keep hb HH.out.enums) k hkl
      obtain ⟨rfl, rfl⟩ := slice_inj hv
      obtain ⟨na, nc, hnv⟩ := ownsRow_form (HH.out.names _ (List.getElem_mem hkl))
      have x0 : wr.cell? ⟨g, k * 2, none⟩ = some (.string es[k].1.name) := hcell 0 (by omega)
      have x1 : wr.cell? ⟨g, k * 2 + 1, none⟩ = some (.slice na es[k].1.names.length nc) := by rw [← hnv]; exact hcell 1 (by omega)
      have HTK := Lib.hid (take_snoc_map (fun q : SCho × Value => q.1.name) es k hkl)
      generalize es[k] = q at *
      have HBT := Lib.hid ((Below.refl wr.heap.size wr).alloc (Nat.le_refl _) (.cells #[.string q.1.name, .slice na q.1.names.length nc] 60))
      have HTN := Lib.hid (heap_alloc_new wr (.cells #[.string q.1.name, .slice na q.1.names.length nc] 60))
      have hki : (k : Int) < es.length := by omega
      clear hb hbox hown hv hcell hnv
      go_upto_region 5 with (fail)
      generalize wr.alloc (.cells #[.string q.1.name, .slice na q.1.names.length nc] 60) = Wt at *
      clear x0 x1
      obtain ⟨_, z0, z1, _⟩ := blk2 HTN.out
      have hnt : wr.heap.size < Wt.heap.size := blk_lt HTN.out
      go_wp2_with (at_builtin; refine wpList_append_own _ rfl (.tmp 15) (.tmp 18) 36 rfl (w.heap.size + 1) 9 i0 _ 1 16 Tryz.underlying36 I1.out I2.out I3.out I4.out rfl (by decide) _ (k + 0) (strsCells ([] ++ (es.take k).map fun q => q.1.name)) rfl (row_keep (HBT.out.trans ((Below.refl _ _).alloc HBT.out.size _)) HOWN.out) _ 1 1 [.string q.1.name] rfl rfl (World.news_of_block (heap_alloc_new _ _)) (by intro u hu; rw [List.mem_singleton.1 hu]; rfl) (by unfold maxLen; omega) (by omega) (by simp; omega) ?_; intro v4 W8 hown4 hg4 hx; clear hx; obtain ⟨a4, m4, rfl⟩ := ownsRow_form hown4; obtain ⟨s1, s2⟩ := dcl_app HB.out HX.out HOWN.out (HBT.out.trans ((Below.refl _ _).alloc HBT.out.size _)) hg4; have S1 := Lib.hid s1; have S2 := Lib.hid s2; have S3 := Lib.hid hown4; clear s1 s2 hown4 hg4)
      go_roundw
      case rel => exact ⟨k + 1, by omega, by go_num, S1.out, S2.out, by rw [HTK.out, ← List.append_assoc, strsCells_snoc, Nat.succ_add_eq_add_succ k]; exact S3.out⟩
      case measure => simp [intOf]; omega
    · obtain rfl : k = es.length := by omega
      have hown := HOWN.out
      rw [List.take_length] at hown
      have HOWN2 := Lib.hid hown
      clear hb hbox hown HOWN
      obtain ⟨_, p0, p1, p2, _⟩ := blk3 HX.out
      go_wp2
      go_loopw [3, 24] (DclAt (.cells #[.slice sa ss.length sc, .slice ea es.length ec, .int .i64 root] 32 (0, 0)) (fun q : CRec × Value => q.1.name) es.length (es.map fun q => q.1.name) ss w) (fun _ i _ => ss.length - (intOf i).toNat)
      case atStart => exact ⟨0, Nat.zero_le _, rfl, HB.out, HX.out, by rw [Nat.zero_add]; simpa using HOWN2.out⟩
      case round =>
        clear HB HX p0 p1 p2 HOWN2
        obtain ⟨k, hk, rfl, hb, hbox, hown⟩ := hrel
        have hlt := blk_lt hbox
        have HB := Lib.hid hb
        have HX := Lib.hid hbox
        have HOWN := Lib.hid hown
        obtain ⟨nva, nvc, rfl⟩ := ownsRow_form hown
        by_cases hkl : k < ss.length
        · obtain ⟨g, cc, hv, hcc, hg, hcell⟩ := row_el crecCells 2 (fun _ => rfl) (row_keep hb HH.out.structs) k hkl
          obtain ⟨rfl, rfl⟩ := slice_inj hv
          obtain ⟨na, nc, hnv⟩ := ownsRow_form (HH.out.fields _ (List.getElem_mem hkl))
          have x0 : wr.cell? ⟨g, k * 2, none⟩ = some (.string ss[k].1.name) := hcell 0 (by omega)
          have x1 : wr.cell? ⟨g, k * 2 + 1, none⟩ = some (.slice na ss[k].1.fields.length nc) := by rw [← hnv]; exact hcell 1 (by omega)
          have HTK := Lib.hid (take_snoc_map (fun q : CRec × Value => q.1.name) ss k hkl)
          generalize ss[k] = q at *
          have HBT := Lib.hid ((Below.refl wr.heap.size wr).alloc (Nat.le_refl _) (.cells #[.string q.1.name, .slice na q.1.fields.length nc] 58))
          have HTN := Lib.hid (heap_alloc_new wr (.cells #[.string q.1.name, .slice na q.1.fields.length nc] 58))
          have hki : (k : Int) < ss.length := by omega
          clear hb hbox hown hv hcell hnv
          go_upto_region 10 with (fail)
          generalize wr.alloc (.cells #[.string q.1.name, .slice na q.1.fields.length nc] 58) = Wt at *
          clear x0 x1
          obtain ⟨_, z0, z1, _⟩ := blk2 HTN.out
          have hnt : wr.heap.size < Wt.heap.size := blk_lt HTN.out
          go_wp2_with (at_builtin; refine wpList_append_own _ rfl (.tmp 28) (.tmp 31) 36 rfl (w.heap.size + 1) 9 i0 _ 1 16 Tryz.underlying36 I1.out I2.out I3.out I4.out rfl (by decide) _ (k + es.length) (strsCells ((es.map fun q => q.1.name) ++ (ss.take k).map fun q => q.1.name)) rfl (row_keep (HBT.out.trans ((Below.refl _ _).alloc HBT.out.size _)) HOWN.out) _ 1 1 [.string q.1.name] rfl rfl (World.news_of_block (heap_alloc_new _ _)) (by intro u hu; rw [List.mem_singleton.1 hu]; rfl) (by unfold maxLen; omega) (by omega) (by simp; omega) ?_; intro v4 W8 hown4 hg4 hx; clear hx; obtain ⟨a4, m4, rfl⟩ := ownsRow_form hown4; obtain ⟨s1, s2⟩ := dcl_app HB.out HX.out HOWN.out (HBT.out.trans ((Below.refl _ _).alloc HBT.out.size _)) hg4; have S1 := Lib.hid s1; have S2 := Lib.hid s2; have S3 := Lib.hid hown4; clear s1 s2 hown4 hg4)
          go_roundw
          case rel => exact ⟨k + 1, by omega, by go_num, S1.out, S2.out, by rw [HTK.out, ← List.append_assoc, strsCells_snoc, Nat.succ_add_eq_add_succ k]; exact S3.out⟩
          case measure => simp [intOf]; omega
        · obtain rfl : k = ss.length := by omega
          have hown := HOWN.out
          rw [List.take_length] at hown
          have HOWN2 := Lib.hid hown
          clear hb hbox hown HOWN
          go_wp2
          go_ret
          exact ⟨_, rfl, ownsRow_base HOWN2.out (Nat.le_succ w.heap.size), HB.out⟩
end Go.Proofs.YtleclhnlojalbaaGreatDoor
namespace Go.Proofs.YtleclhnlojalbaaGreatDoor
open Go.ChangeShapes Go.WideShapes Go.ChangeAt Go.RowKit Go.Shelf

theorem tells_named (l : List ByteArray) (w : World) (hT : Tabs w) (hs : ∀ s ∈ l, s.size ≤ 281474976710656) : Tells w 70 #[] Value.string l namedB :=
  ⟨enters_of Tryz.func70 (by kernel_rfl) rfl, fun W x hx hb => snamed_any x W (hT.below (Nat.le_refl _) hb) (hs x hx)⟩
theorem tells_free (l : List ByteArray) (w : World) (hT : Tabs w) (hs : ∀ s ∈ l, s.size ≤ 281474976710656) : Tells w 33 #[] Value.string l freeB :=
  ⟨enters_of Tryz.func33 (by kernel_rfl) rfl, fun W x hx hb => sfree_any x W (hT.below (Nat.le_refl _) hb) (hs x hx)⟩
theorem dupI_neg (o : Option Nat) : (decide (dupI o < 0)) = decide (o = none) := by
  cases o with
  | none => rfl
  | some k =>
    show decide ((k : Int) < 0) = _
    rw [decide_eq_false (by omega), decide_eq_false (by simp)]
set_option maxRecDepth 100000 in
set_option maxHeartbeats 4000000 in
theorem schoice_any (c : SCho) (v : Value) (base : Nat) (w : World) (h : w.ownsRow base 9 1 v c.names.length (strsCells c.names)) (hT : Tabs w) (hs : ∀ s ∈ c.names, s.size ≤ 281474976710656) :
    Calls Tryz.prog 37 #[.agg #[.string c.name, v]] w fun e w' => e = .returned (.bool (choiceB c)) ∧ Below w.heap.size w w' := by
  obtain ⟨a, cp, rfl⟩ := ownsRow_form h
  have hfew := row_few h
  obtain ⟨res, hres⟩ : ∃ res, choiceB c = res := ⟨_, rfl⟩
  rw [hres]
  unfold choiceB at hres
  have HN := Lib.hid hres
  have h0 := heap_alloc_new w (.cells #[.string c.name, .slice a c.names.length cp] 60)
  have hb := (Below.refl w.heap.size w).alloc (Nat.le_refl _) (.cells #[.string c.name, .slice a c.names.length cp] 60)
  have HB := Lib.hid hb
  have HQ := Lib.hid h0
  have HR := Lib.hid (row_keep hb h)
  have HT := Lib.hid (hT.below (Nat.le_refl _) hb)
  have HS := Lib.hid hs
  obtain ⟨_, p0, p1, _⟩ := blk2 h0
  clear h0 hb h hT hs hres
  go_enter Tryz.func37, Tryz.ntmps37
  go_upto_region 1 with (fail)
  generalize (w.alloc (.cells #[.string c.name, .slice a c.names.length cp] 60)) = W0 at *
  go_wp2_with fail
  by_cases hl : 1 ≤ c.names.length ∧ c.names.length ≤ 32
  · refine (samong_any ((c.names.length : Int) - 1) 32 true (decide_eq_true (by omega)) _).mono ?_
    rintro e W1 ⟨rfl, rfl⟩
    have HN2 := Lib.hid (show res = _ from HN.out.symm.trans (by rw [decide_eq_true hl, Bool.true_and]))
    clear HN hl
    go_wp2_with fail
    refine (all_str c.names namedB _ _ W0 70 #[] HR.out (tells_named c.names W0 HT.out HS.out)).mono ?_
    rintro e W1 ⟨rfl, hb1⟩
    have HB1 := Lib.hid (HB.out.trans (hb1.mono HB.out.size))
    have HR1 := Lib.hid (row_keep hb1 HR.out)
    obtain ⟨_, r0, r1, _⟩ := blk2 (blk_below HQ.out hb1 (blk_lt HQ.out))
    clear hb1 p0 p1 HB HR
    cases ha : c.names.all namedB
    · have HE := Lib.hid (show res = false by rw [HN2.out, ha, Bool.false_and])
      clear HN2 ha
      go_wp2
      go_ret
      exact ⟨ret_bool HE.out.symm, HB1.out⟩
    have HE := Lib.hid (show res = decide (dup c.names = none) by rw [HN2.out, ha, Bool.true_and])
    clear HN2 ha
    go_wp2_with fail
    refine (again_strS c.names _ _ W1 HR1.out).mono ?_
    rintro e W2 ⟨rfl, hb2⟩
    have HB2 := Lib.hid (HB1.out.trans (hb2.mono HB1.out.size))
    clear hb2
    rw [List.map_id]
    have HD := Lib.hid (dupI_neg (dup c.names))
    generalize dupI (dup c.names) = d at *
    go_wp2
    go_ret
    exact ⟨ret_bool (by rw [HE.out]; exact HD.out), HB2.out⟩
  · refine (samong_any ((c.names.length : Int) - 1) 32 false (decide_eq_false (by omega)) _).mono ?_
    rintro e W1 ⟨rfl, rfl⟩
    have HE := Lib.hid (show res = false by rw [← HN.out, decide_eq_false hl, Bool.false_and])
    clear HN hl
    go_wp2
    go_ret
    exact ⟨ret_bool HE.out.symm, HB.out⟩
def FldFit (f : CFld) : Prop := f.kind ≤ 255 ∧ f.dflt ≤ 18446744073709551615 ∧ f.name.size ≤ 281474976710656
set_option maxRecDepth 100000 in
set_option maxHeartbeats 4000000 in
theorem rec1_any (w : World) (S : Nat) {base : Nat} {ss : List (CRec × Value)} {es : List (SCho × Value)} {sv ev : Value} (root : Int) (h : CRows base w ss es sv ev) (hS : w.heap[S]? = some (.cells #[sv, ev, .int .i64 root] 32 (0, 0))) (f : CFld) (hf : FldFit f) (hT : Tabs w) :
    Calls Tryz.prog 72 #[.agg #[.string f.name, .int .u8 (f.kind : Nat), .int .i64 f.ref, .int .i64 f.lists, .int .u64 (f.dflt : Nat)], .pointer (some ⟨S, 0, none⟩)] w fun e w' => e = .returned (.bool (fieldB ss.length (es.map Prod.fst) f)) ∧ Below w.heap.size w w' := by
  obtain ⟨sa, sc, ea, ec, rfl, rfl⟩ := h.forms
  have h0 := heap_alloc_new w (.cells #[.string f.name, .int .u8 (f.kind : Nat), .int .i64 f.ref, .int .i64 f.lists, .int .u64 (f.dflt : Nat)] 55)
  have hb := (Below.refl w.heap.size w).alloc (Nat.le_refl _) (.cells #[.string f.name, .int .u8 (f.kind : Nat), .int .i64 f.ref, .int .i64 f.lists, .int .u64 (f.dflt : Nat)] 55)
  have HB := Lib.hid hb
  have HC := Lib.hid (sfield_any _ root (h.below hb) f hf.1 hf.2.1 hf.2.2 (hT.below (Nat.le_refl _) hb))
  obtain ⟨_, p0, p1, p2, _⟩ := blk3 (blk_below hS hb (blk_lt hS))
  obtain ⟨_, q0, q1, q2, q3, q4, _⟩ := blk5c h0
  clear h0 hb h hT hS
  go_enter Tryz.func72, Tryz.ntmps72
  go_upto_region 1 with (fail)
  generalize (w.alloc (.cells #[.string f.name, .int .u8 (f.kind : Nat), .int .i64 f.ref, .int .i64 f.lists, .int .u64 (f.dflt : Nat)] 55)) = W0 at *
  go_wp2_with fail
  refine HC.out.mono ?_
  rintro e W1 ⟨rfl, hb1⟩
  have HB1 := Lib.hid (HB.out.trans (hb1.mono HB.out.size))
  clear hb1 p0 p1 p2 q0 q1 q2 q3 q4
  go_wp2
  go_ret
  exact ⟨rfl, HB1.out⟩
theorem tells_rec1 (w : World) (S : Nat) {base : Nat} {ss : List (CRec × Value)} {es : List (SCho × Value)} {sv ev : Value} (root : Int) (h : CRows base w ss es sv ev) (hS : w.heap[S]? = some (.cells #[sv, ev, .int .i64 root] 32 (0, 0))) (l : List CFld) (hf : ∀ f ∈ l, FldFit f) (hT : Tabs w) :
    Tells w 72 #[.pointer (some ⟨S, 0, none⟩)] (fun f : CFld => Value.agg #[.string f.name, .int .u8 (f.kind : Nat), .int .i64 f.ref, .int .i64 f.lists, .int .u64 (f.dflt : Nat)]) l (fieldB ss.length (es.map Prod.fst)) :=
  ⟨enters_of Tryz.func72 (by kernel_rfl) rfl, fun W x hx hb => rec1_any W S root (h.below hb) (blk_below hS hb (blk_lt hS)) x (hf x hx) (hT.below (Nat.le_refl _) hb)⟩
set_option maxRecDepth 100000 in
set_option maxHeartbeats 4000000 in
theorem srecord_any (w : World) {base : Nat} {ss : List (CRec × Value)} {es : List (SCho × Value)} {sv ev : Value} (root : Int) (h : CRows base w ss es sv ev) (r : CRec) (v : Value) (hr : w.ownsRow base 55 5 v r.fields.length (cfldsCells r.fields)) (hf : ∀ f ∈ r.fields, FldFit f) (hT : Tabs w) :
    Calls Tryz.prog 40 #[.agg #[sv, ev, .int .i64 root], .agg #[.string r.name, v]] w fun e w' => e = .returned (.bool (recordB ss.length (es.map Prod.fst) r)) ∧ Below w.heap.size w w' := by
  obtain ⟨sa, sc, ea, ec, rfl, rfl⟩ := h.forms
  obtain ⟨a, cp, rfl⟩ := ownsRow_form hr
  have hfew := row_few hr
  obtain ⟨hb, hq1, hq2⟩ := two_blk w #[.slice sa ss.length sc, .slice ea es.length ec, .int .i64 root] #[.string r.name, .slice a r.fields.length cp] 32 58
  obtain ⟨res, hres⟩ : ∃ res, recordB ss.length (es.map Prod.fst) r = res := ⟨_, rfl⟩
  rw [hres]
  unfold recordB at hres
  have HN := Lib.hid hres
  have HB := Lib.hid hb
  have HT := Lib.hid (tells_rec1 _ w.heap.size root (h.below hb) hq1 r.fields hf (hT.below (Nat.le_refl _) hb))
  have HR := Lib.hid (row_keep hb hr)
  have HQ2 := Lib.hid hq2
  obtain ⟨_, q0, q1, _⟩ := blk2 hq2
  clear hq1 hq2 hb h hres hr hf hT
  go_enter Tryz.func40, Tryz.ntmps40
  go_upto_region 1 with (fail)
  generalize ((w.alloc (.cells #[.slice sa ss.length sc, .slice ea es.length ec, .int .i64 root] 32)).alloc (.cells #[.string r.name, .slice a r.fields.length cp] 58)) = W0 at *
  go_wp2_with fail
  by_cases hl : 1 ≤ r.fields.length ∧ r.fields.length ≤ 16
  · refine (samong_any ((r.fields.length : Int) - 1) 16 true (decide_eq_true (by omega)) _).mono ?_
    rintro e W1 ⟨rfl, rfl⟩
    have HN2 := Lib.hid (show res = _ from HN.out.symm.trans (by rw [decide_eq_true hl, Bool.true_and]))
    clear HN hl
    go_wp2_with fail
    refine (all_cfld r.fields (fieldB ss.length (es.map Prod.fst)) _ _ W0 72 _ HR.out HT.out).mono ?_
    rintro e W1 ⟨rfl, hb1⟩
    have HB1 := Lib.hid (HB.out.trans (hb1.mono HB.out.size))
    have HR1 := Lib.hid (row_keep hb1 HR.out)
    obtain ⟨_, r0, r1, _⟩ := blk2 (blk_below HQ2.out hb1 (blk_lt HQ2.out))
    clear hb1 q0 q1 HB HR HT
    cases ha : r.fields.all (fieldB ss.length (es.map Prod.fst))
    · have HE := Lib.hid (show res = false by rw [HN2.out, ha, Bool.false_and])
      clear HN2 ha
      go_wp2
      go_ret
      exact ⟨ret_bool HE.out.symm, HB1.out⟩
    have HE := Lib.hid (show res = decide (dup (r.fields.map CFld.name) = none) by rw [HN2.out, ha, Bool.true_and])
    clear HN2 ha
    go_wp2_with fail
    refine (again_cfldS r.fields _ _ W1 HR1.out).mono ?_
    rintro e W2 ⟨rfl, hb2⟩
    have HB2 := Lib.hid (HB1.out.trans (hb2.mono HB1.out.size))
    clear hb2
    have HD := Lib.hid (dupI_neg (dup (r.fields.map CFld.name)))
    generalize dupI (dup (r.fields.map CFld.name)) = d at *
    go_wp2
    go_ret
    exact ⟨ret_bool (by rw [HE.out]; exact HD.out), HB2.out⟩
  · refine (samong_any ((r.fields.length : Int) - 1) 16 false (decide_eq_false (by omega)) _).mono ?_
    rintro e W1 ⟨rfl, rfl⟩
    have HE := Lib.hid (show res = false by rw [← HN.out, decide_eq_false hl, Bool.false_and])
    clear HN hl
    go_wp2
    go_ret
    exact ⟨ret_bool HE.out.symm, HB.out⟩
end Go.Proofs.YtleclhnlojalbaaGreatDoor
namespace Go.Proofs.YtleclhnlojalbaaGreatDoor
open Go.ChangeShapes Go.WideShapes Go.ChangeAt Go.RowKit Go.Shelf

set_option maxRecDepth 100000 in
set_option maxHeartbeats 4000000 in
theorem chk1_any (w : World) (S : Nat) {base : Nat} {ss : List (CRec × Value)} {es : List (SCho × Value)} {sv ev : Value} (root : Int) (h : CRows base w ss es sv ev) (hS : w.heap[S]? = some (.cells #[sv, ev, .int .i64 root] 32 (0, 0))) (q : CRec × Value) (hq : q ∈ ss) (hf : ∀ f ∈ q.1.fields, FldFit f) (hT : Tabs w) :
    Calls Tryz.prog 39 #[.agg #[.string q.1.name, q.2], .pointer (some ⟨S, 0, none⟩)] w fun e w' => e = .returned (.bool (recordB ss.length (es.map Prod.fst) q.1)) ∧ Below w.heap.size w w' := by
  obtain ⟨sa, sc, ea, ec, rfl, rfl⟩ := h.forms
  have hr := h.fields q hq
  obtain ⟨r, v⟩ := q
  simp only at hf hr
  obtain ⟨a, cp, rfl⟩ := ownsRow_form hr
  have h0 := heap_alloc_new w (.cells #[.string r.name, .slice a r.fields.length cp] 58)
  have hb := (Below.refl w.heap.size w).alloc (Nat.le_refl _) (.cells #[.string r.name, .slice a r.fields.length cp] 58)
  have HB := Lib.hid hb
  have HC := Lib.hid (srecord_any _ root (h.below hb) r _ (row_keep hb hr) hf (hT.below (Nat.le_refl _) hb))
  obtain ⟨_, p0, p1, p2, _⟩ := blk3 (blk_below hS hb (blk_lt hS))
  obtain ⟨_, q0, q1, _⟩ := blk2 h0
  clear h0 hb h hT hS hf hr hq
  go_enter Tryz.func39, Tryz.ntmps39
  go_upto_region 1 with (fail)
  generalize (w.alloc (.cells #[.string r.name, .slice a r.fields.length cp] 58)) = W0 at *
  go_wp2_with fail
  refine HC.out.mono ?_
  rintro e W1 ⟨rfl, hb1⟩
  have HB1 := Lib.hid (HB.out.trans (hb1.mono HB.out.size))
  clear hb1 p0 p1 p2 q0 q1
  go_wp2
  go_ret
  exact ⟨rfl, HB1.out⟩
theorem tells_chk1 (w : World) (S : Nat) {base : Nat} {ss : List (CRec × Value)} {es : List (SCho × Value)} {sv ev : Value} (root : Int) (h : CRows base w ss es sv ev) (hS : w.heap[S]? = some (.cells #[sv, ev, .int .i64 root] 32 (0, 0))) (hf : ∀ q ∈ ss, ∀ f ∈ q.1.fields, FldFit f) (hT : Tabs w) :
    Tells w 39 #[.pointer (some ⟨S, 0, none⟩)] (fun q : CRec × Value => Value.agg #[.string q.1.name, q.2]) ss (fun q => recordB ss.length (es.map Prod.fst) q.1) :=
  ⟨enters_of Tryz.func39 (by kernel_rfl) rfl, fun W x hx hb => chk1_any W S root (h.below hb) (blk_below hS hb (blk_lt hS)) x hx (hf x hx) (hT.below (Nat.le_refl _) hb)⟩
theorem tells_cho (w : World) {base : Nat} {es : List (SCho × Value)} (h : ∀ q ∈ es, w.ownsRow base 9 1 q.2 q.1.names.length (strsCells q.1.names)) (hs : ∀ q ∈ es, ∀ s ∈ q.1.names, s.size ≤ 281474976710656) (hT : Tabs w) :
    Tells w 37 #[] (fun q : SCho × Value => Value.agg #[.string q.1.name, q.2]) es (fun q => choiceB q.1) :=
  ⟨enters_of Tryz.func37 (by kernel_rfl) rfl, fun W x hx hb => schoice_any x.1 x.2 base W (row_keep hb (h x hx)) (hT.below (Nat.le_refl _) hb) (hs x hx)⟩
theorem namesC_rows (ss : List (CRec × Value)) (es : List (SCho × Value)) : namesC (ss.map Prod.fst) (es.map Prod.fst) = (es.map fun q => q.1.name) ++ ss.map fun q => q.1.name := by
  unfold namesC
  rw [List.map_map, List.map_map]
  rfl
set_option maxRecDepth 100000 in
set_option maxHeartbeats 4000000 in
theorem check_any (w : World) {base : Nat} {ss : List (CRec × Value)} {es : List (SCho × Value)} {sv ev : Value} (root : Int) (h : CRows base w ss es sv ev) (hf : ∀ q ∈ ss, q.1.name.size ≤ 281474976710656 ∧ ∀ f ∈ q.1.fields, FldFit f) (he : ∀ q ∈ es, q.1.name.size ≤ 281474976710656 ∧ ∀ s ∈ q.1.names, s.size ≤ 281474976710656) (hT : Tabs w) :
    Calls Tryz.prog 16 #[.agg #[sv, ev, .int .i64 root]] w fun e w' => e = .returned (.bool (checkB ⟨ss.map Prod.fst, es.map Prod.fst, root⟩)) ∧ Below w.heap.size w w' := by
  obtain ⟨sa, sc, ea, ec, rfl, rfl⟩ := h.forms
  obtain ⟨res, hres⟩ : ∃ res, checkB ⟨ss.map Prod.fst, es.map Prod.fst, root⟩ = res := ⟨_, rfl⟩
  rw [hres]
  unfold checkB at hres
  simp only [List.length_map, namesC_rows, List.all_map] at hres
  have hf1 := row_few h.structs
  have hf2 := row_few h.enums
  have h0 := heap_alloc_new w (.cells #[.slice sa ss.length sc, .slice ea es.length ec, .int .i64 root] 32)
  have hb := (Below.refl w.heap.size w).alloc (Nat.le_refl _) (.cells #[.slice sa ss.length sc, .slice ea es.length ec, .int .i64 root] 32)
  have HB := Lib.hid hb
  have HQ := Lib.hid h0
  have HR := Lib.hid (h.below hb)
  have HT := Lib.hid (hT.below (Nat.le_refl _) hb)
  have HF := Lib.hid hf
  have HE := Lib.hid he
  have HN := Lib.hid hres
  have hns : ∀ s ∈ (es.map fun q => q.1.name) ++ (ss.map fun q => q.1.name), s.size ≤ 281474976710656 := by
    intro s hs
    rcases List.mem_append.1 hs with h | h
    · obtain ⟨q, hq, rfl⟩ := List.mem_map.1 h
      exact (he q hq).1
    · obtain ⟨q, hq, rfl⟩ := List.mem_map.1 h
      exact (hf q hq).1
  have hln : ss.length + es.length = ((es.map fun q => q.1.name) ++ (ss.map fun q => q.1.name)).length := by
    rw [List.length_append, List.length_map, List.length_map]; omega
  have HNS := Lib.hid hns
  have HLN := Lib.hid hln
  obtain ⟨_, p0, p1, p2, _⟩ := blk3 h0
  clear h0 hb h hT hf he hres hns hln
  go_enter Tryz.func16, Tryz.ntmps16
  go_upto_region 1 with (fail)
  generalize (w.alloc (.cells #[.slice sa ss.length sc, .slice ea es.length ec, .int .i64 root] 32)) = W0 at *
  go_wp2_with fail
  by_cases hl : 1 ≤ ss.length ∧ ss.length ≤ 16
  rotate_left
  · refine (samong_any ((ss.length : Int) - 1) 16 false (decide_eq_false (by omega)) _).mono ?_
    rintro e W1 ⟨rfl, rfl⟩
    have HX := Lib.hid (show res = false by rw [← HN.out, if_pos (.inl hl)])
    clear HN hl
    go_wp2
    go_ret
    exact ⟨ret_bool HX.out.symm, HB.out⟩
  refine (samong_any ((ss.length : Int) - 1) 16 true (decide_eq_true (by omega)) _).mono ?_
  rintro e W1 ⟨rfl, rfl⟩
  by_cases h8 : 8 < es.length
  · have HX := Lib.hid (show res = false by rw [← HN.out, if_pos (.inr (.inl h8))])
    have g8 : (8 : Int) < (es.length : Int) := by omega
    clear HN hl
    go_wp2
    go_ret
    exact ⟨ret_bool HX.out.symm, HB.out⟩
  have g8 : ¬ (8 : Int) < (es.length : Int) := by omega
  have hl1 : ss.length ≤ 16 := hl.2
  have hl2 : es.length ≤ 8 := by omega
  by_cases hr : 0 ≤ root ∧ root < (ss.length : Int)
  rotate_left
  · have HX := Lib.hid (show res = false by rw [← HN.out, if_pos (.inr (.inr hr))])
    have HA := Lib.hid (samong_any root ss.length false (decide_eq_false hr))
    clear HN hl hr
    go_wp2_with fail
    refine (HA.out _).mono ?_
    rintro e W2 ⟨rfl, rfl⟩
    go_wp2
    go_ret
    exact ⟨ret_bool HX.out.symm, HB.out⟩
  have HN2 := Lib.hid (show res = _ from HN.out.symm.trans (if_neg (by omega)))
  have HA := Lib.hid (samong_any root ss.length true (decide_eq_true hr))
  clear HN hl hr
  go_wp2_with fail
  refine (HA.out _).mono ?_
  rintro e W2 ⟨rfl, rfl⟩
  clear HA
  go_wp2_with fail
  refine (declared_any _ root HR.out hl1 hl2).mono ?_
  rintro e W3 ⟨nv, rfl, hrow, hb3⟩
  rw [HLN.out] at hrow
  generalize (es.map fun q => q.1.name) ++ (ss.map fun q => q.1.name) = names at *
  obtain ⟨na, nc, rfl⟩ := ownsRow_form hrow
  have HB3 := Lib.hid (HB.out.trans (hb3.mono HB.out.size))
  have HR3 := Lib.hid (HR.out.below hb3)
  have HQ3 := Lib.hid (blk_below HQ.out hb3 (blk_lt HQ.out))
  have HT3 := Lib.hid (HT.out.below (Nat.le_refl _) hb3)
  have HROW := Lib.hid hrow
  clear hb3 hrow p0 p1 p2 HB HR HQ HT
  go_wp2_with fail
  refine (all_str names freeB _ _ W3 33 #[] HROW.out (tells_free names W3 HT3.out HNS.out)).mono ?_
  rintro e W4 ⟨rfl, hb4⟩
  have HB4 := Lib.hid (HB3.out.trans (hb4.mono HB3.out.size))
  have HR4 := Lib.hid (HR3.out.below hb4)
  have HQ4 := Lib.hid (blk_below HQ3.out hb4 (blk_lt HQ3.out))
  have HT4 := Lib.hid (HT3.out.below (Nat.le_refl _) hb4)
  have HROW4 := Lib.hid (row_keep hb4 HROW.out)
  clear hb4 HB3 HR3 HQ3 HT3 HROW
  obtain ⟨_, p0, p1, p2, _⟩ := blk3 HQ4.out
  cases h1 : names.all freeB
  · have HX := Lib.hid (show res = false by rw [HN2.out, h1, Bool.false_and])
    clear HN2 h1
    go_wp2
    go_ret
    exact ⟨ret_bool HX.out.symm, HB4.out⟩
  have HN3 := Lib.hid (show res = _ from HN2.out.trans (by rw [h1, Bool.true_and]))
  clear HN2 h1
  go_wp2_with fail
  refine (again_strS names _ _ W4 HROW4.out).mono ?_
  rintro e W5 ⟨rfl, hb5⟩
  have HB5 := Lib.hid (HB4.out.trans (hb5.mono HB4.out.size))
  have HR5 := Lib.hid (HR4.out.below hb5)
  have HQ5 := Lib.hid (blk_below HQ4.out hb5 (blk_lt HQ4.out))
  have HT5 := Lib.hid (HT4.out.below (Nat.le_refl _) hb5)
  clear hb5 p0 p1 p2 HB4 HR4 HQ4 HT4 HROW4
  obtain ⟨_, p0, p1, p2, _⟩ := blk3 HQ5.out
  rw [List.map_id]
  have HD := Lib.hid (dupI_neg (dup names))
  by_cases h2 : dup names = none
  rotate_left
  · have HX := Lib.hid (show res = false by rw [HN3.out, decide_eq_false h2, Bool.false_and])
    have hd : ¬ dupI (dup names) < 0 := by have := HD.out; rw [decide_eq_false h2] at this; exact of_decide_eq_false this
    generalize dupI (dup names) = d at *
    clear HN3 h2 HD
    go_wp2
    go_ret
    exact ⟨ret_bool HX.out.symm, HB5.out⟩
  have HN4 := Lib.hid (show res = _ from HN3.out.trans (by rw [decide_eq_true h2, Bool.true_and]))
  have hd : dupI (dup names) < 0 := by have := HD.out; rw [decide_eq_true h2] at this; exact of_decide_eq_true this
  generalize dupI (dup names) = d at *
  clear HN3 h2 HD
  go_wp2_with fail
  refine (all_cho es (fun q => choiceB q.1) _ _ W5 37 #[] HR5.out.enums (fun q hq => by obtain ⟨a, c, h⟩ := ownsRow_form (HR5.out.names q hq); exact ⟨_, _, _, h⟩) (tells_cho W5 HR5.out.names (fun q hq => (HE.out q hq).2) HT5.out)).mono ?_
  rintro e W6 ⟨rfl, hb6⟩
  have HB6 := Lib.hid (HB5.out.trans (hb6.mono HB5.out.size))
  have HR6 := Lib.hid (HR5.out.below hb6)
  have HQ6 := Lib.hid (blk_below HQ5.out hb6 (blk_lt HQ5.out))
  have HT6 := Lib.hid (HT5.out.below (Nat.le_refl _) hb6)
  clear hb6 p0 p1 p2 HB5 HR5 HQ5 HT5
  obtain ⟨_, p0, p1, p2, _⟩ := blk3 HQ6.out
  cases h3 : es.all (fun q => choiceB q.1)
  · have HX := Lib.hid (show res = false by rw [HN4.out, show es.all (choiceB ∘ Prod.fst) = false from h3, Bool.false_and])
    clear HN4 h3
    go_wp2
    go_ret
    exact ⟨ret_bool HX.out.symm, HB6.out⟩
  have HX := Lib.hid (show res = ss.all (fun q => recordB ss.length (es.map Prod.fst) q.1) from HN4.out.trans (by rw [show es.all (choiceB ∘ Prod.fst) = true from h3, Bool.true_and]; rfl))
  clear HN4 h3
  go_wp2_with fail
  refine (all_crec ss (fun q => recordB ss.length (es.map Prod.fst) q.1) _ _ W6 39 _ HR6.out.structs (fun q hq => by obtain ⟨a, c, h⟩ := ownsRow_form (HR6.out.fields q hq); exact ⟨_, _, _, h⟩) (tells_chk1 W6 w.heap.size root HR6.out HQ6.out (fun q hq => (HF.out q hq).2) HT6.out)).mono ?_
  rintro e W7 ⟨rfl, hb7⟩
  have HB7 := Lib.hid (HB6.out.trans (hb7.mono HB6.out.size))
  clear hb7
  go_wp2
  go_ret
  exact ⟨ret_bool HX.out.symm, HB7.out⟩
end Go.Proofs.YtleclhnlojalbaaGreatDoor
