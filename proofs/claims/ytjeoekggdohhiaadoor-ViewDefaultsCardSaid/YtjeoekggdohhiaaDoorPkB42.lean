/-
  The package view's Tree: of a list. Conditions: those that each theorem names.
-/
import Derived.Test.YtjeoekggdohhiaaDoorPkB3
import Derived.Test.YtjeoekggdohhiaaDoorPkB17
import Derived.Test.YtjeoekggdohhiaaDoorPkB23
import Derived.Test.YtjeoekggdohhiaaDoorPkB35
import Derived.Test.YtjeoekggdohhiaaDoorPkB37
import Derived.Deep.RegionHeld3
import Derived.BigQuiet
namespace Go.Proofs.YtjeoekggdohhiaaDoor
open Go.ChangeShapes Go.WideShapes Go.ChangeAt Go.RowKit Go.Shelf
theorem src_bytes {W W' : World} {a : Option Addr} {zs : List Int} (h : Bytes W a zs) (hw : ∀ p x, W.cell? p = some x → W'.cell? p = some x) (c : Nat) : Go.Src Tryd.prog 1 22 (.slice a zs.length c) zs.length (u8Cells zs) W' := by
  have hl : (u8Cells zs).length = zs.length * 1 := by simp [u8Cells]
  have h1 : ∀ u ∈ u8Cells zs, u.oneCell' = true := fun u hu => by
    obtain ⟨z, _, rfl⟩ := List.mem_map.1 hu
    rfl
  cases a with
  | none =>
    have : zs = [] := by
      rcases h0 : zs with _ | ⟨z, t⟩
      · rfl
      · obtain ⟨b, off, e, _⟩ := h.2 (by rw [h0]; exact List.cons_ne_nil _ _)
        cases e
    subst this
    exact Go.Src.ofNil W' Tryd.underlying22 c
  | some p =>
    refine Go.Src.ofSlice W' Tryd.underlying22 p zs.length c _ hl (fun j u hu => ?_) h1
    have hj : j < zs.length := by
      have := (List.getElem?_eq_some_iff.1 hu).1
      simpa [u8Cells] using this
    obtain ⟨b, off, e, hlt, hc⟩ := h.2 (fun h0 => by rw [h0] at hj; exact Nat.not_lt_zero _ hj)
    injection e with e
    subst e
    refine hw _ _ ?_
    rw [Addr.add_lit, hc j hj, ← hu]
    simp [u8Cells, List.getElem?_map, List.getElem?_eq_getElem hj, List.getD]
def oldS (S : Nat → Bool) (B T : Nat) : Nat → Bool := fun k => S k || decide (B ≤ k ∧ k < T)
theorem oldS_no {S : Nat → Bool} {B T k : Nat} : oldS S B T k = false ↔ S k = false ∧ ¬ (B ≤ k ∧ k < T) := by
  unfold oldS
  rw [Bool.or_eq_false_iff, decide_eq_false_iff_not]
theorem KidsIn.old {S : Nat → Bool} {w W : World} {l : List KV} (h : KidsIn S w l) (hb : Below w.heap.size w W) (T : Nat) : KidsIn (oldS S w.heap.size T) W l :=
  h.step hb.size (fun k hk hs => ⟨oldS_no.2 ⟨hs, by omega⟩, hb.block k hk⟩)
end Go.Proofs.YtjeoekggdohhiaaDoor
namespace Go.Proofs.YtjeoekggdohhiaaDoor
open Go.ChangeShapes Go.WideShapes Go.ChangeAt Go.RowKit Go.Shelf
theorem u8_info4 : (Tryd.prog.info? 5).map (fun i => (i.zero, i.size, i.bytes)) = some (some (.int .u8 0), 1, 1) := by kernel_rfl
end Go.Proofs.YtjeoekggdohhiaaDoor
namespace Go.Proofs.YtjeoekggdohhiaaDoor
open Go.ChangeShapes Go.WideShapes Go.ChangeAt Go.RowKit Go.Shelf

theorem nil_yes (c : Nat) (W : World) : (binOp .eql 22 (.slice none 0 c) (.slice none 0 0)).run Tryd.prog W = .ok (.bool true) W := by kernel_rfl
theorem nil_no (q : Addr) (n c : Nat) (W : World) : (binOp .eql 22 (.slice (some q) n c) (.slice none 0 0)).run Tryd.prog W = .ok (.bool false) W := by kernel_rfl
set_option maxRecDepth 100000 in
set_option maxHeartbeats 8000000 in
theorem bclone_any (w : World) (p : Option Addr) (zs : List Int) (c : Nat) (h : Bytes w p zs) (hl : zs.length ≤ 1000000) :
    Calls Tryd.prog 48 #[.slice p zs.length c] w fun e w' => (∃ v, e = .returned v ∧ w'.ownsRow w.heap.size 5 1 v zs.length (u8Cells zs)) ∧ Below w.heap.size w w' := by
  have HBB := Lib.hid h
  cases p with
  | none =>
    have hz : zs = [] := by
      rcases h0 : zs with _ | ⟨z, t⟩
      · rfl
      · obtain ⟨b, o, hh, _⟩ := h.2 (by rw [h0]; exact List.cons_ne_nil _ _)
        cases hh
    subst hz
    clear h HBB
    have e0 := nil_yes c
    go_enter Tryd.func48, Tryd.ntmps48
    go_wp2
    go_ret
    exact ⟨⟨_, rfl, World.ownsRow_nil _ _ _ _⟩, Below.refl _ _⟩
  | some q =>
    clear h
    have e0 := nil_no q zs.length c
    go_enter Tryd.func48, Tryd.ntmps48
    have HOWN0 := Lib.hid (own_blk (base := w.heap.size) (n := 0) (size := 1) (heap_alloc_new w (.cells #[] 5)) (Nat.le_refl _) (by decide) rfl)
    have HA0 := Lib.hid ((Below.refl w.heap.size w).alloc (Nat.le_refl _) (.cells #[] 5))
    have HSRC := Lib.hid (src_bytes HBB.out (fun p x hp => cell_stays HA0.out hp) c)
    obtain ⟨i0, hi0, hzz0, hzz1, hzz2⟩ := info_parts u8_info4
    have I1 := Lib.hid hi0
    have I2 := Lib.hid hzz0
    have I3 := Lib.hid hzz1
    have I4 := Lib.hid hzz2
    clear hi0 hzz0 hzz1 hzz2
    go_wp2_with (at_builtin; refine wpList_append_first _ rfl (.tmp 5) (.tmp 6) 22 22 rfl w.heap.size 5 i0 _ 1 Tryd.underlying22 I1.out I2.out I3.out rfl _ rfl HOWN0.out _ zs.length (u8Cells zs) rfl HSRC.out (by unfold maxLen; omega) (by rw [I4.out]; omega) (by simp) ?_; intro v4 W4 hown4 hg4 hat4; clear hat4; have HO4 := Lib.hid hown4; have HB4 := Lib.hid (HA0.out.grown hg4 (by simp) (fun k hk => (ownsRow_lt HOWN0.out k hk).1)); clear hown4 hg4)
    go_ret
    exact ⟨⟨_, rfl, HO4.out⟩, HB4.out⟩
set_option maxRecDepth 100000 in
set_option maxHeartbeats 4000000 in
theorem vbytes_any (w : World) (x : PV) (val : Value) (hx : IsV w x val) (i : Int) (hl : (kidP x i).bytes.length ≤ 1000000) :
    Calls Tryd.prog 73 #[val, .int .i64 i] w fun e w' => (∃ v, e = .returned v ∧ w'.ownsRow w.heap.size 5 1 v (kidP x i).bytes.length (u8Cells (kidP x i).bytes)) ∧ Below w.heap.size w w' := by
  have HX := Lib.hid hx
  have HL := Lib.hid hl
  obtain ⟨ba, ka, bc, kc, rfl, hn, hby, hbl, hbm, hkl, hkm, hks⟩ := hx.form
  have hb := (Below.refl w.heap.size w).alloc (Nat.le_refl _) (.cells #[.int .u64 x.num, .slice ba x.bytes.length bc, .slice ka x.kids.length kc, .bool x.has] 76)
  have HB := Lib.hid hb
  obtain ⟨_, s0, s1, s2, s3⟩ := blk4p (heap_alloc_new w (.cells #[.int .u64 x.num, .slice ba x.bytes.length bc, .slice ka x.kids.length kc, .bool x.has] 76))
  have HK := Lib.hid (kid_any _ x _ (hx.later hb) i)
  clear hb hby hks hx HX hn hbl hbm hkl hkm hl
  generalize kidP x i = q at *
  go_enter Tryd.func73, Tryd.ntmps73
  go_upto_region 1 with (fail)
  generalize w.alloc (.cells #[.int .u64 x.num, .slice ba x.bytes.length bc, .slice ka x.kids.length kc, .bool x.has] 76) = W0 at *
  go_wp2_with fail
  refine HK.out.mono ?_
  rintro e W1 ⟨⟨kv, rfl, hkv⟩, hb1⟩
  have HB1 := Lib.hid (HB.out.trans (hb1.mono HB.out.size))
  obtain ⟨ba', ka', bc', kc', rfl, _, hby1, _⟩ := hkv.form
  have HC := Lib.hid (bclone_any W1 ba' q.bytes bc' hby1 HL.out)
  clear hb1 hkv s0 s1 s2 s3 HK hby1
  have f0 := fldV
  have f1 := fldA1
  go_wp2_with fail
  refine HC.out.mono ?_
  rintro e W2 ⟨⟨v, rfl, ho⟩, hb2⟩
  have HO := Lib.hid (ownsRow_base ho HB1.out.size)
  have HB2 := Lib.hid (HB1.out.trans (hb2.mono HB1.out.size))
  clear ho hb2 HC
  go_wp2
  go_ret
  exact ⟨⟨_, rfl, HO.out⟩, HB2.out⟩
end Go.Proofs.YtjeoekggdohhiaaDoor
namespace Go.Proofs.YtjeoekggdohhiaaDoor
open Go.ChangeShapes Go.WideShapes Go.ChangeAt Go.RowKit Go.Shelf

def emptyP (k : Nat) (lists : Int) (d : Nat) (q : PV) : Bool :=
  if sortP k lists = 1 then decide (q.num = d) else if sortP k lists = 2 then decide (q.bytes.length = 0) else if sortP k lists = 3 then decide (q.kids.length = 0) else if sortP k lists = 4 then !q.has else false
set_option maxRecDepth 100000 in
theorem meth_num (N : Nat) (a b c e : Value) (W : World) (hN : N = Tryd.prog.types.size + Made.depth) : (method N 78 (.agg #[a, b, c, e]) "Num").run Tryd.prog W = .ok (75, .agg #[a, b, c, e]) W := by
  subst hN
  kernel_rfl
theorem view_no (v : Value) (W : World) : (binOp .eql 39 (.iface 78 v) .nilIface).run Tryd.prog W = .ok (.bool false) W := by kernel_rfl
theorem items_no (v : Value) (W : World) : (binOp .eql 88 (.iface 139 v) .nilIface).run Tryd.prog W = .ok (.bool false) W := by kernel_rfl
set_option maxRecDepth 100000 in
set_option maxHeartbeats 4000000 in
theorem length_any (w : World) (x : PV) (val : Value) (hx : IsV w x val) :
    Calls Tryd.prog 31 #[itemsI val] w fun e w' => e = .returned (.int .i64 x.kids.length) ∧ Below w.heap.size w w' := by
  have HX := Lib.hid hx
  obtain ⟨ba, ka, bc, kc, rfl, hn, hby, hbl, hbm, hkl, hkm, hks⟩ := hx.form
  clear hby hks hx hn hbl hbm hkl
  have e0 := items_no (.agg #[.int .u64 x.num, .slice ba x.bytes.length bc, .slice ka x.kids.length kc, .bool x.has])
  unfold itemsI
  go_enter Tryd.func31, Tryd.ntmps31
  go_wp2_with fail
  refine (vlen_any w x _ HX.out).mono ?_
  rintro e W1 ⟨rfl, hb1⟩
  have HB1 := Lib.hid hb1
  clear hb1
  go_wp2
  go_ret
  exact ⟨rfl, HB1.out⟩
set_option maxRecDepth 100000 in
set_option maxHeartbeats 8000000 in
theorem empty_any (w : World) (name : ByteArray) (k : Nat) (ref lists : Int) (d : Nat) (x : PV) (val : Value) (hx : IsV w x val) (i : Int) (hl : (kidP x i).bytes.length ≤ 1000000) :
    Calls Tryd.prog 20 #[.agg #[.string name, .int .u8 k, .int .i64 ref, .int .i64 lists, .int .u64 d], viewI val, .int .i64 i] w fun e w' => e = .returned (.bool (emptyP k lists d (kidP x i))) ∧ Below w.heap.size w w' := by
  have HX := Lib.hid hx
  have HL := Lib.hid hl
  obtain ⟨ba, ka, bc, kc, rfl, hn, hby, hbl, hbm, hkl, hkm, hks⟩ := hx.form
  have hb := (Below.refl w.heap.size w).alloc (Nat.le_refl _) (.cells #[.string name, .int .u8 k, .int .i64 ref, .int .i64 lists, .int .u64 d] 57)
  have HB := Lib.hid hb
  have HX1 := Lib.hid (HX.out.later hb)
  have HF := Lib.hid (heap_alloc_new w (.cells #[.string name, .int .u8 k, .int .i64 ref, .int .i64 lists, .int .u64 d] 57))
  obtain ⟨_, y0, y1, y2, y3, y4, _⟩ := blk5 HF.out
  clear hb hby hks hx HX hn hbl hbm hkl hkm hl
  have e0 := view_no (.agg #[.int .u64 x.num, .slice ba x.bytes.length bc, .slice ka x.kids.length kc, .bool x.has])
  unfold viewI
  obtain ⟨res, hres⟩ : ∃ res, emptyP k lists d (kidP x i) = res := ⟨_, rfl⟩
  rw [hres]
  have HRES := Lib.hid hres
  clear hres
  go_enter Tryd.func20, Tryd.ntmps20
  go_upto_region 1 with (fail)
  generalize w.alloc (.cells #[.string name, .int .u8 k, .int .i64 ref, .int .i64 lists, .int .u64 d] 57) = W0 at *
  go_wp2_with fail
  refine (sorts_any k ref lists W0).mono ?_
  rintro e W1 ⟨rfl, hb1⟩
  have HB1 := Lib.hid (HB.out.trans (hb1.mono HB.out.size))
  have HX2 := Lib.hid (HX1.out.later hb1)
  have z4 := cell_stays hb1 y4
  clear hb1 y0 y1 y2 y3 y4 e0 HB HX1 HF
  obtain ⟨s, hs⟩ : ∃ s, sortP k lists = s := ⟨_, rfl⟩
  have HR : Hid (res = if s = 1 then decide ((kidP x i).num = d) else if s = 2 then decide ((kidP x i).bytes.length = 0) else if s = 3 then decide ((kidP x i).kids.length = 0) else if s = 4 then !(kidP x i).has else false) := Lib.hid (by rw [← HRES.out, ← hs]; rfl)
  rw [hs]
  clear hs HRES
  by_cases s1 : s = 1
  case pos =>
    subst s1
    have HN := Lib.hid (fun W (hb : Below W1.heap.size W1 W) => num_any W x _ (HX2.out.later hb) i)
    have HR1 : Hid (res = decide ((kidP x i).num = d)) := Lib.hid HR.out
    generalize kidP x i = q at *
    clear HR
    by_cases hq : q.num = d
    case' pos => have tq : ((q.num : Int) == (d : Int)) = true := by simp; omega
    case' neg => have tq : ((q.num : Int) == (d : Int)) = false := by simp; omega
    case' pos => have HV : Hid (true = res) := Lib.hid (by rw [HR1.out]; simp [hq])
    case' neg => have HV : Hid (false = res) := Lib.hid (by rw [HR1.out]; simp [hq])
    case' pos => obtain ⟨bq, hbq⟩ : ∃ b, b = true := ⟨_, rfl⟩
    case' neg => obtain ⟨bq, hbq⟩ : ∃ b, b = false := ⟨_, rfl⟩
    all_goals
      rw [← hbq] at HV tq
      clear hq hbq
      go_upto_region 5 with (fail)
      refine wp_region_noPanic ?_
      refine wp_region_held_drew (S := (fun w' => w'.cell? ⟨w.heap.size, 4, none⟩ = some (.int .u64 d))) (by kernel_rfl) z4 ?_
      intro hS
      refine wpAnyH_take (i := 0) (v := .iface 78 (.agg #[.int .u64 x.num, .slice ba x.bytes.length bc, .slice ka x.kids.length kc, .bool x.has])) rfl (by kernel_rfl) (by kernel_rfl) (by kernel_rfl) (fun _ _ _ h => h) (Or.inl ⟨by rfl, ?_⟩) hS ?_
      · intro w' hSw
        have z4 := hSw
        go_simp
      simp only [Act.put, List.getElem_toArray, List.getElem_cons_zero, List.setIfInBounds_toArray, List.set_cons_zero, List.set_cons_succ]
      refine wpAnyH_take (i := 1) (v := .int .i64 i) rfl (by kernel_rfl) (by kernel_rfl) (by kernel_rfl) (fun _ _ _ h => h) (Or.inl ⟨by rfl, ?_⟩) hS ?_
      · intro w' hSw
        have z4 := hSw
        go_simp
      simp only [Act.put, List.getElem_toArray, List.getElem_cons_succ, List.getElem_cons_zero, List.setIfInBounds_toArray, List.set_cons_zero, List.set_cons_succ]
      refine wpAnyH_take (i := 3) (v := .pointer (some ⟨w.heap.size, 4, none⟩)) rfl (by kernel_rfl) (by kernel_rfl) (by kernel_rfl) (fun _ _ _ h => h) (Or.inl ⟨by rfl, ?_⟩) hS ?_
      · intro w' hSw
        have z4 := hSw
        go_simp
      simp only [Act.put, List.getElem_toArray, List.getElem_cons_succ, List.getElem_cons_zero, List.setIfInBounds_toArray, List.set_cons_zero, List.set_cons_succ]
      refine wpAnyH_take (i := 4) (v := .int .u64 d) rfl (by kernel_rfl) (by kernel_rfl) (by kernel_rfl) (fun _ _ _ h => h) (Or.inl ⟨by rfl, ?_⟩) hS ?_
      · intro w' hSw
        have z4 := hSw
        go_simp
      simp only [Act.put, List.getElem_toArray, List.getElem_cons_succ, List.getElem_cons_zero, List.setIfInBounds_toArray, List.set_cons_zero, List.set_cons_succ]
      refine wpAnyH_ready (rs := [2]) (by kernel_rfl) (by decide) (AllReadyH.cons rfl (fun K hK => ?_) AllReadyH.nil)
      rw [if_pos (by kernel_rfl)]
      go_simp
      rw [meth_num]
      case hN => kernel_rfl
      go_simp
      refine (HN.out _ (Below.refl _ W1).drew).mono ?_
      rintro e W3 ⟨rfl, hb3⟩
      have hx3 : Below W1.heap.size W1 W3 := (Below.refl _ W1).drew.trans hb3
      have HB3 := Lib.hid (HB1.out.trans (hx3.mono HB1.out.size))
      have b4 := cell_stays hx3 z4
      refine hK.out _ _ b4 (fun hS => ?_)
      refine wpAnyH_take (i := 5) (v := .bool bq) rfl (by kernel_rfl) (by kernel_rfl) (by kernel_rfl) (fun _ _ _ h => h) (Or.inl ⟨by rfl, ?_⟩) hS ?_
      · intro w' hSw
        have z4 := hSw
        go_simp
      simp only [Act.put, List.getElem_toArray, List.getElem_cons_succ, List.getElem_cons_zero, List.setIfInBounds_toArray, List.set_cons_zero, List.set_cons_succ]
      refine wpAnyH_take (i := 6) (v := .bool bq) rfl (by kernel_rfl) (by kernel_rfl) (by kernel_rfl) (fun _ _ _ h => h) (Or.inl ⟨by rfl, ?_⟩) hS ?_
      · intro w' hSw
        have z4 := hSw
        go_simp
      simp only [Act.put, List.getElem_toArray, List.getElem_cons_succ, List.getElem_cons_zero, List.setIfInBounds_toArray, List.set_cons_zero, List.set_cons_succ]
      refine wpAnyH_done (by kernel_rfl) ?_ _
      refine NoPanic.normal ?_
      simp only [Exit.then]
      go_wp2
      go_ret
      exact ⟨ret_bool HV.out, HB3.out⟩
  case neg =>
  by_cases s2 : s = 2
  case pos =>
    subst s2
    have HN := Lib.hid (vbytes_any W1 x _ HX2.out i HL.out)
    have HR1 : Hid (res = decide ((kidP x i).bytes.length = 0)) := Lib.hid HR.out
    generalize kidP x i = q at *
    clear HR s1
    go_wp2_with fail
    rw [recv_val]
    refine HN.out.mono ?_
    rintro e W2 ⟨⟨v, rfl, ho⟩, hb2⟩
    have HB2 := Lib.hid (HB1.out.trans (hb2.mono HB1.out.size))
    obtain ⟨A, cap, rfl⟩ := ownsRow_form ho
    clear ho hb2 HN
    by_cases hq : q.bytes.length = 0
    case' pos => have tq : ((q.bytes.length : Int) == 0) = true := beq_iff_eq.2 (by omega)
    case' neg => have tq : ((q.bytes.length : Int) == 0) = false := beq_eq_false_iff_ne.2 (by omega)
    case' pos => have HV : Hid (true = res) := Lib.hid (by rw [HR1.out]; simp [hq])
    case' neg => have HV : Hid (false = res) := Lib.hid (by rw [HR1.out]; simp [hq])
    all_goals
      clear hq
      go_wp2
      go_ret
      exact ⟨ret_bool HV.out, HB2.out⟩
  case neg =>
  by_cases s3 : s = 3
  case pos =>
    subst s3
    have HN := Lib.hid (vlistof_any W1 x _ HX2.out i)
    have HR1 : Hid (res = decide ((kidP x i).kids.length = 0)) := Lib.hid HR.out
    generalize kidP x i = q at *
    clear HR s1 s2
    go_wp2_with fail
    rw [recv_val]
    refine HN.out.mono ?_
    rintro e W2 ⟨⟨kv, rfl, hkv⟩, hb2⟩
    have HB2 := Lib.hid (HB1.out.trans (hb2.mono HB1.out.size))
    have HKV := Lib.hid (length_any W2 q kv hkv)
    clear hkv hb2 HN
    go_wp2_with fail
    refine HKV.out.mono ?_
    rintro e W3 ⟨rfl, hb3⟩
    have HB3 := Lib.hid (HB2.out.trans (hb3.mono HB2.out.size))
    clear hb3 HKV
    by_cases hq : q.kids.length = 0
    case' pos => have tq : ((q.kids.length : Int) == 0) = true := beq_iff_eq.2 (by omega)
    case' neg => have tq : ((q.kids.length : Int) == 0) = false := beq_eq_false_iff_ne.2 (by omega)
    case' pos => have HV : Hid (true = res) := Lib.hid (by rw [HR1.out]; simp [hq])
    case' neg => have HV : Hid (false = res) := Lib.hid (by rw [HR1.out]; simp [hq])
    all_goals
      clear hq
      go_wp2
      go_ret
      exact ⟨ret_bool HV.out, HB3.out⟩
  case neg =>
  by_cases s4 : s = 4
  case pos =>
    subst s4
    have HN := Lib.hid (vsub_any W1 x _ HX2.out i)
    have HR1 : Hid (res = !(kidP x i).has) := Lib.hid HR.out
    generalize kidP x i = q at *
    clear HR s1 s2 s3
    go_wp2_with fail
    refine HN.out.mono ?_
    rintro e W2 ⟨h2, hb2⟩
    have HB2 := Lib.hid (HB1.out.trans (hb2.mono HB1.out.size))
    clear hb2 HN
    rcases h2 with ⟨kv, rfl, hh, _⟩ | ⟨rfl, hh⟩
    · have HV : Hid (false = res) := Lib.hid (by rw [HR1.out, hh]; rfl)
      clear hh
      unfold viewI
      go_wp2
      go_ret
      exact ⟨ret_bool HV.out, HB2.out⟩
    · have HV : Hid (true = res) := Lib.hid (by rw [HR1.out, hh]; rfl)
      clear hh
      go_wp2
      go_ret
      exact ⟨ret_bool HV.out, HB2.out⟩
  case neg =>
    have HV : Hid (false = res) := Lib.hid (by rw [HR.out, if_neg s1, if_neg s2, if_neg s3, if_neg s4])
    have t1 : ((s : Int) == 1) = false := by simp; omega
    have t2 : ((s : Int) == 2) = false := by simp; omega
    have t3 : ((s : Int) == 3) = false := by simp; omega
    have t4 : ((s : Int) == 4) = false := by simp; omega
    clear s1 s2 s3 s4 HR
    go_wp2
    go_ret
    exact ⟨ret_bool HV.out, HB1.out⟩
end Go.Proofs.YtjeoekggdohhiaaDoor
namespace Go.Proofs.YtjeoekggdohhiaaDoor
open Go.ChangeShapes Go.WideShapes Go.ChangeAt Go.RowKit Go.Shelf

theorem own_put {W : World} {base sz n c K : Nat} {e : TypeId} {xs : List Value} (h : W.ownsRow base e sz (.slice (some ⟨K, 0, none⟩) n c) n xs) (k : Nat) (u : Value) : (W.setCell ⟨K, k, none⟩ u).ownsRow base e sz (.slice (some ⟨K, 0, none⟩) n c) n (xs.set k u) := by
  obtain ⟨hl, h'⟩ := h
  refine ⟨by rw [List.length_set]; exact hl, ?_⟩
  rcases h' with ⟨h1, _⟩ | ⟨g, cap, cur, hv, hb, hg, hnc, hm, hs, ht⟩
  · cases h1
  · injection hv with h1 h2 h3
    injection h1 with h1
    injection h1 with h1 _ _
    subst h1 h3
    refine .inr ⟨K, c, cur.setIfInBounds k u, rfl, hb, blk_set hg k u, hnc, hm, by rw [Array.size_setIfInBounds]; exact hs, ?_⟩
    rw [Array.toList_setIfInBounds, List.take_set, ht]
theorem kvs_set : ∀ (l : List KV) (i : Nat) (q : KV), i < l.length → ((((kvsCells l).set (i * 4) q.c0).set (i * 4 + 1) q.c1).set (i * 4 + 2) q.c2).set (i * 4 + 3) q.c3 = kvsCells (l.set i q)
  | [], _, _, h => absurd h (Nat.not_lt_zero _)
  | p :: l, 0, q, _ => rfl
  | p :: l, i + 1, q, h => by
    have ih := kvs_set l i q (by simpa using h)
    have e : ∀ k, (i + 1) * 4 + k = (i * 4 + k) + 4 := fun k => by omega
    have e0 : (i + 1) * 4 = i * 4 + 4 := by omega
    show ((((p.c0 :: p.c1 :: p.c2 :: p.c3 :: kvsCells l).set ((i + 1) * 4) q.c0).set ((i + 1) * 4 + 1) q.c1).set ((i + 1) * 4 + 2) q.c2).set ((i + 1) * 4 + 3) q.c3 = p.c0 :: p.c1 :: p.c2 :: p.c3 :: kvsCells (l.set i q)
    rw [e0, show i * 4 + 4 + 1 = i * 4 + 1 + 4 by omega, show i * 4 + 4 + 2 = i * 4 + 2 + 4 by omega, show i * 4 + 4 + 3 = i * 4 + 3 + 4 by omega]
    simp only [List.set_cons_succ]
    rw [ih]
end Go.Proofs.YtjeoekggdohhiaaDoor
namespace Go.Proofs.YtjeoekggdohhiaaDoor
open Go.ChangeShapes Go.WideShapes Go.ChangeAt Go.RowKit Go.Shelf

theorem blk_one {w : World} {g : Nat} {x : Value} {t : TypeId} (h : w.heap[g]? = some (.cells #[x] t (0, 0))) : g < w.heap.size ∧ w.cell? ⟨g, 0, none⟩ = some x ∧ w.frozen? ⟨g, 0, none⟩ = false :=
  ⟨blk_lt h, (blk_cell h 0).trans rfl, blk_frozen h 0⟩
def elemI (val : Value) : Value := .iface 116 (.agg #[itemsI val])
def viewB (b : Bool) (val : Value) : Value := if b = true then viewI val else elemI val
def TreePost (w : World) (q : PV) (e : Ending) (w' : World) : Prop := (∃ val, e = .returned (.tuple #[val, .bool true]) ∧ VH (newS w.heap.size) w' q val) ∧ Below w.heap.size w w'
def KidAt (ss : List (CRec × Value)) (es : List (SCho × Value)) (room : Nat) : Prop :=
  ∀ (w : World) (base : Nat) (sv ev : Value) (root : Int) (k : Nat) (ref lists : Int) (x : PV) (val : Value) (i : Nat) (b : Bool), CRows base w ss es sv ev → k ≤ 255 → -9223372036854775800 ≤ lists → lists ≤ 9223372036854775807 → IsV w x val → SmallV (kidP x i) →
    fitsP (ss.map Prod.fst) (es.map Prod.fst) room k ref lists (kidP x i) = true → (b = false → sortP k lists = 4 → (kidP x i).has = true) →
    Calls Tryd.prog 38 #[.agg #[sv, ev, .int .i64 root], .agg #[.int .u8 k, .int .i64 ref, .int .i64 lists], viewB b val, .int .i64 i, .int .i64 room] w (TreePost w (kidP x i))
def StructAt (ss : List (CRec × Value)) (es : List (SCho × Value)) (room : Nat) : Prop :=
  ∀ (w : World) (base : Nat) (sv ev : Value) (root rec : Int) (x : PV) (val : Value), CRows base w ss es sv ev → IsV w x val → SmallV x → x.num = 0 → x.bytes = [] → x.has = true → structP (ss.map Prod.fst) (es.map Prod.fst) room rec x.kids = true →
    Calls Tryd.prog 26 #[.agg #[sv, ev, .int .i64 root], .int .i64 rec, viewI val, .int .i64 room] w (TreePost w x)
def ListAt (ss : List (CRec × Value)) (es : List (SCho × Value)) (room : Nat) : Prop :=
  ∀ (w : World) (base : Nat) (sv ev : Value) (root : Int) (k : Nat) (ref lists : Int) (x : PV) (val : Value), CRows base w ss es sv ev → k ≤ 255 → -9223372036854775800 ≤ lists → lists ≤ 9223372036854775807 → IsV w x val → SmallV x → x.num = 0 → x.bytes = [] → x.has = false → x.kids.all (kidOk (ss.map Prod.fst) (es.map Prod.fst) room k ref lists) = true →
    Calls Tryd.prog 49 #[.agg #[sv, ev, .int .i64 root], .agg #[.int .u8 k, .int .i64 ref, .int .i64 lists], itemsI val, .int .i64 room] w (TreePost w x)
theorem IsV.kid {w : World} {x : PV} {val : Value} (h : IsV w x val) (i : Int) : ∃ kv, IsV w (kidP x i) kv := by
  by_cases h0 : 0 ≤ i ∧ i < (x.kids.length : Int)
  · obtain ⟨j, rfl⟩ := Int.eq_ofNat_of_zero_le h0.1
    obtain ⟨ba, ka, bc, kc, rfl, hn, hby, hbl, hbm, hkl, hkm, hks⟩ := h.form
    obtain ⟨_, _, u0, u1, u2, u3, _, _, _, _, _, hiv⟩ := hks j (by omega)
    rw [kidP_at x j (by omega)]
    exact ⟨_, hiv⟩
  · rw [kidP_no x i h0]
    exact ⟨_, isV_nil w⟩
theorem pv_eq (q : PV) : q = .mk q.num q.bytes q.kids q.has := by cases q; rfl
theorem bare_num {q : PV} (h : bareP 1 q = true) : q = .mk q.num [] [] false := by
  cases q with
  | mk n bs ks hs =>
    simp [bareP, PV.num, PV.bytes, PV.kids, PV.has] at h
    obtain ⟨h1, h2, h3⟩ := h
    subst h3
    simp at h2
    subst h1 h2
    rfl
theorem bare_bytes {q : PV} (h : bareP 2 q = true) : q = .mk 0 q.bytes [] false := by
  cases q with
  | mk n bs ks hs =>
    simp [bareP, PV.num, PV.bytes, PV.kids, PV.has] at h
    obtain ⟨h1, h2, h3⟩ := h
    replace h1 := of_decide_eq_true h1
    subst h3
    simp at h2
    subst h1 h2
    rfl
theorem bare_list {q : PV} (h : bareP 3 q = true) : q.num = 0 ∧ q.bytes = [] ∧ q.has = false := by
  cases q with
  | mk n bs ks hs =>
    simp [bareP, PV.num, PV.bytes, PV.kids, PV.has] at h
    exact ⟨of_decide_eq_true h.1, h.2.1, h.2.2⟩
theorem bare_struct {q : PV} (h : bareP 4 q = true) : q.num = 0 ∧ q.bytes = [] ∧ (q.has = false → q = nilV) := by
  cases q with
  | mk n bs ks hs =>
    simp [bareP, PV.num, PV.bytes, PV.kids, PV.has] at h
    obtain ⟨h1, h2, h3⟩ := h
    replace h1 := of_decide_eq_true h1
    refine ⟨h1, h2, fun h4 => ?_⟩
    have h5 : hs = false := h4
    subst h5
    simp at h3
    subst h1 h2 h3
    rfl
theorem fits_sort {ss : List CRec} {es : List SCho} {room k : Nat} {ref lists : Int} {q : PV} (h : fitsP ss es room k ref lists q = true) :
    (sortP k lists = 1 ∧ q = .mk q.num [] [] false) ∨ (sortP k lists = 2 ∧ q = .mk 0 q.bytes [] false) ∨ (sortP k lists = 3 ∧ (q.num = 0 ∧ q.bytes = [] ∧ q.has = false) ∧ q.kids.all (kidOk ss es room k ref (lists - 1)) = true) ∨
    (sortP k lists = 4 ∧ ((q.has = false ∧ q = nilV) ∨ (q.has = true ∧ q.num = 0 ∧ q.bytes = [] ∧ structP ss es room ref q.kids = true))) := by
  rw [fitsP_eq, Bool.and_eq_true] at h
  obtain ⟨h1, h2⟩ := h
  by_cases s1 : sortP k lists = 1
  · rw [s1] at h1
    exact .inl ⟨s1, bare_num h1⟩
  rw [if_neg s1] at h2
  by_cases s2 : sortP k lists = 2
  · rw [s2] at h1
    exact .inr (.inl ⟨s2, bare_bytes h1⟩)
  rw [if_neg s2] at h2
  by_cases s3 : sortP k lists = 3
  · rw [s3] at h1
    rw [if_pos s3] at h2
    exact .inr (.inr (.inl ⟨s3, bare_list h1, h2⟩))
  rw [if_neg s3] at h2
  by_cases s4 : sortP k lists = 4
  · rw [s4] at h1
    rw [if_pos s4] at h2
    obtain ⟨a, b, c⟩ := bare_struct h1
    refine .inr (.inr (.inr ⟨s4, ?_⟩))
    cases hh : q.has with
    | false => exact .inl ⟨rfl, c hh⟩
    | true => rw [hh] at h2; exact .inr ⟨rfl, a, b, by simpa using h2⟩
  rw [if_neg s4] at h2
  cases h2
theorem kidOk_parts {ss : List CRec} {es : List SCho} {room k : Nat} {ref lists : Int} {q : PV} (h : kidOk ss es room k ref lists q = true) : ∃ r, room = r + 1 ∧ (sortP k lists = 4 → q.has = true) ∧ fitsP ss es r k ref lists q = true := by
  unfold kidOk at h
  simp only [Bool.and_eq_true, Bool.not_eq_true', decide_eq_false_iff_not, Bool.and_eq_false_iff] at h
  obtain ⟨h1, h2, h3⟩ := h
  obtain ⟨r, rfl⟩ : ∃ r, room = r + 1 := ⟨room - 1, by omega⟩
  refine ⟨r, rfl, fun h4 => ?_, h3⟩
  rcases h2 with h2 | h2
  · exact absurd h4 h2
  · simpa using h2
set_option maxRecDepth 100000 in
theorem meth_elist (N : Nat) (a b c e : Value) (W : World) (hN : N = Tryd.prog.types.size + Made.depth) : (method N 116 (.agg #[.iface 139 (.agg #[a, b, c, e])]) "List").run Tryd.prog W = .ok (74, .agg #[a, b, c, e]) W := by
  subst hN
  kernel_rfl
set_option maxRecDepth 100000 in
theorem meth_list (N : Nat) (a b c e : Value) (W : World) (hN : N = Tryd.prog.types.size + Made.depth) : (method N 78 (.agg #[a, b, c, e]) "List").run Tryd.prog W = .ok (74, .agg #[a, b, c, e]) W := by
  subst hN
  kernel_rfl
set_option maxRecDepth 100000 in
set_option maxHeartbeats 4000000 in
theorem esub_any (w : World) (x : PV) (val : Value) (hx : IsV w x val) (i : Int) :
    Calls Tryd.prog 78 #[.agg #[itemsI val], .int .i64 i] w fun e w' => (∃ kv, e = .returned (.tuple #[viewI kv, .bool true]) ∧ IsV w' (kidP x i) kv) ∧ Below w.heap.size w w' := by
  have HX := Lib.hid hx
  obtain ⟨ba, ka, bc, kc, rfl, hn, hby, hbl, hbm, hkl, hkm, hks⟩ := hx.form
  have hb := (Below.refl w.heap.size w).alloc (Nat.le_refl _) (.cells #[itemsI (.agg #[.int .u64 x.num, .slice ba x.bytes.length bc, .slice ka x.kids.length kc, .bool x.has])] 116)
  have HB := Lib.hid hb
  obtain ⟨_, s0, _⟩ := blk_one (heap_alloc_new w (.cells #[itemsI (.agg #[.int .u64 x.num, .slice ba x.bytes.length bc, .slice ka x.kids.length kc, .bool x.has])] 116))
  have HK := Lib.hid (velem_any _ x _ (hx.later hb) i)
  clear hb hby hks hx HX hn hbl hbm hkl hkm
  unfold itemsI at *
  generalize kidP x i = q at *
  go_enter Tryd.func78, Tryd.ntmps78
  go_upto_region 1 with (fail)
  generalize w.alloc (.cells #[.iface 139 (.agg #[.int .u64 x.num, .slice ba x.bytes.length bc, .slice ka x.kids.length kc, .bool x.has])] 116) = W0 at *
  go_wp2_with fail
  refine HK.out.mono ?_
  rintro e W1 ⟨⟨kv, rfl, hkv⟩, hb1⟩
  have HB1 := Lib.hid (HB.out.trans (hb1.mono HB.out.size))
  have HKV := Lib.hid hkv
  clear hb1 hkv s0 HK
  go_wp2
  go_ret2
  exact ⟨⟨_, rfl, HKV.out⟩, HB1.out⟩
end Go.Proofs.YtjeoekggdohhiaaDoor
namespace Go.Proofs.YtjeoekggdohhiaaDoor
open Go.ChangeShapes Go.WideShapes Go.ChangeAt Go.RowKit Go.Shelf

theorem val_infoT : (Tryd.prog.info? 36).map (fun i => (i.zero, i.size, i.bytes)) = some (some (.agg #[.int .u64 0, .slice none 0 0, .slice none 0 0, .bool false]), 4, 64) := by kernel_rfl
def TrLtAt (w : World) (B : Nat) (ks : List PV) (sv ev : Value) (root : Int) (tcells : Array Value) (x : Value) (wr : World) : Prop := ∃ (j : Nat) (A : Option Addr) (cap : Nat) (l : List KV), j ≤ ks.length ∧ x = .int .i64 j ∧ wr.heap[B + 1 + 1 + 1]? = some (.cells #[.int .u64 0, .slice none 0 0, .slice A j cap, .bool false] 36 (0, 0)) ∧
  wr.ownsRow (B + 1 + 1 + 1 + 1) 36 4 (.slice A j cap) j (kvsCells l) ∧ KidsIn (rowS (B + 1 + 1 + 1 + 1) (.slice A j cap)) wr l ∧ l.map KV.v = ks.take j ∧ wr.heap[B + 1 + 1]? = some (.cells #[.int .u64 0, .slice none 0 0, .slice none 0 0, .bool false] 36 (0, 0)) ∧
  wr.heap[B]? = some (.cells #[sv, ev, .int .i64 root] 30 (0, 0)) ∧ wr.heap[B + 1]? = some (.cells tcells 55 (0, 0)) ∧ Exc B B w wr
set_option maxRecDepth 100000 in
set_option maxHeartbeats 8000000 in
theorem vlisttree {ss : List (CRec × Value)} {es : List (SCho × Value)} (room : Nat) (hr12 : room ≤ 12) (hnx : ∀ r, room = r + 1 → KidAt ss es r) : ListAt ss es room := by
  intro w base sv ev root k ref lists x val h hk hl0 hl1 hx hsm hn0 hb0 hh0 hall
  obtain ⟨sa, sc, ea, ec, rfl, rfl⟩ := h.forms
  obtain ⟨h0, h1, h2, h3, h4⟩ := four_blk w #[.slice sa ss.length sc, .slice ea es.length ec, .int .i64 root] #[.int .u8 k, .int .i64 ref, .int .i64 lists] #[.int .u64 0, .slice none 0 0, .slice none 0 0, .bool false] #[.int .u64 0, .slice none 0 0, .slice none 0 0, .bool false] 30 55 36 36
  have hkl : x.kids.length ≤ 100 := hsm.kids.2.1
  have HCW := Lib.hid h
  have HX := Lib.hid hx
  have HV := Lib.hid (hx.later h0)
  have HB := Lib.hid h0
  have Q1 := Lib.hid h1
  have Q2 := Lib.hid h2
  have Q3 := Lib.hid h3
  have Q4 := Lib.hid h4
  have HSM := Lib.hid hsm
  have HALL := Lib.hid hall
  have HNX := Lib.hid hnx
  have HX0 := Lib.hid (And.intro hn0 (And.intro hb0 hh0))
  clear h0 h1 h2 h3 h4 h hx hsm hall hnx hn0 hb0 hh0
  unfold itemsI at *
  go_enter Tryd.func49, Tryd.ntmps49
  go_upto_region 2 with (fail)
  generalize ((((w.alloc (.cells #[.slice sa ss.length sc, .slice ea es.length ec, .int .i64 root] 30)).alloc (.cells #[.int .u8 k, .int .i64 ref, .int .i64 lists] 55)).alloc (.cells #[.int .u64 0, .slice none 0 0, .slice none 0 0, .bool false] 36)).alloc (.cells #[.int .u64 0, .slice none 0 0, .slice none 0 0, .bool false] 36)) = W0 at *
  go_wp2_with fail
  refine (length_any W0 x val HV.out).mono ?_
  rintro e W1 ⟨rfl, hb1⟩
  have HB1 := Lib.hid (HB.out.trans (hb1.mono HB.out.size))
  have HST : Hid (TrLtAt w w.heap.size x.kids (.slice sa ss.length sc) (.slice ea es.length ec) root #[.int .u8 k, .int .i64 ref, .int .i64 lists] (.int .i64 ((0 : Nat) : Int)) W1) := Lib.hid ⟨0, none, 0, [], Nat.zero_le _, rfl, blk_below Q4.out hb1 (blk_lt Q4.out), World.ownsRow_nil _ _ _ _, fun q hq => by (cases hq), rfl, blk_below Q3.out hb1 (blk_lt Q3.out), blk_below Q1.out hb1 (blk_lt Q1.out), blk_below Q2.out hb1 (blk_lt Q2.out), Exc.of_below HB1.out⟩
  have HW1 : Hid (Below w.heap.size w W1) := Lib.hid HB1.out
  clear hb1 HB HV Q1 Q2 Q3 Q4 HB1
  go_wp2_with fail
  go_loopw [16] (fun y wr => TrLtAt w w.heap.size x.kids (.slice sa ss.length sc) (.slice ea es.length ec) root #[.int .u8 k, .int .i64 ref, .int .i64 lists] y wr) (fun y _ => x.kids.length - (intOf y).toNat)
  case atStart => exact HST.out
  case round =>
    obtain ⟨j, A, cap, l', hj, rfl, hO, hrow, hkin, hkv, hR, hSB, hTB, hx'⟩ := hrel
    have HO := Lib.hid hO
    have HROW := Lib.hid hrow
    have HKI := Lib.hid hkin
    have HKV := Lib.hid hkv
    have HR := Lib.hid hR
    have HSB := Lib.hid hSB
    have HTB := Lib.hid hTB
    have HXW := Lib.hid hx'
    clear hO hrow hkin hkv hR hSB hTB hx'
    have HBW := Lib.hid (HXW.out.below (Nat.le_refl _))
    by_cases hjl : j < x.kids.length
    · have hji : (j : Int) < (x.kids.length : Int) := by omega
      have hal := List.all_eq_true.1 HALL.out _ (List.getElem_mem hjl)
      obtain ⟨q, hq⟩ : ∃ q, x.kids[j] = q := ⟨_, rfl⟩
      rw [hq] at hal
      obtain ⟨r, hr, hs4, hfit⟩ := kidOk_parts hal
      have hrn : ((room : Int) == 0) = false := by simp; omega
      have hrw : (room : Int) - 1 = (r : Int) := by omega
      have hrw2 : IntKind.i64.wrap (r : Int) = r := IntWalk.i64_in _ (by omega)
      have hkq : kidP x j = q := by rw [kidP_at x j hjl, hq]
      have HK : Hid (Calls Tryd.prog 38 #[.agg #[.slice sa ss.length sc, .slice ea es.length ec, .int .i64 root], .agg #[.int .u8 k, .int .i64 ref, .int .i64 lists], .iface 116 (.agg #[.iface 139 val]), .int .i64 j, .int .i64 r] wr (TreePost wr q)) := Lib.hid (by
        have h := HNX.out r hr wr base _ _ root k ref lists x val j false (HCW.out.below HBW.out) hk hl0 hl1 (HX.out.later HBW.out) (HSM.out.kid j) (by rw [hkq]; exact hfit) (fun _ => by rw [hkq]; exact hs4)
        rw [hkq] at h
        exact h)
      have HQ := Lib.hid hq
      obtain ⟨_, s0, s1, s2, _⟩ := blk3 HSB.out
      obtain ⟨_, t0, t1, t2, _⟩ := blk3 HTB.out
      clear hal hs4 hfit hr hq hkq
      go_wp2_with fail
      refine HK.out.mono ?_
      rintro e W6 ⟨⟨val6, rfl, hvh6⟩, hb6⟩
      obtain ⟨ba, ka, bcc, kcc, rfl, _⟩ := IsV.form hvh6
      clear s0 s1 s2 t0 t1 t2 HK
      go_upto_region 10 with (fail)
      have q1 : Exc w.heap.size wr.heap.size wr (W6.alloc (.cells #[.int .u64 q.num, .slice ba q.bytes.length bcc, .slice ka q.kids.length kcc, .bool q.has] 36)) := (Exc.of_below hb6).alloc hb6.size _
      have q2 : VH (newS wr.heap.size) (W6.alloc (.cells #[.int .u64 q.num, .slice ba q.bytes.length bcc, .slice ka q.kids.length kcc, .bool q.has] 36)) q (.agg #[.int .u64 q.num, .slice ba q.bytes.length bcc, .slice ka q.kids.length kcc, .bool q.has]) := VH.alloc (show VH (newS wr.heap.size) W6 q (.agg #[.int .u64 q.num, .slice ba q.bytes.length bcc, .slice ka q.kids.length kcc, .bool q.has]) from hvh6) _
      have q3 : (W6.alloc (.cells #[.int .u64 q.num, .slice ba q.bytes.length bcc, .slice ka q.kids.length kcc, .bool q.has] 36)).heap[W6.heap.size]? = some (.cells #[.int .u64 q.num, .slice ba q.bytes.length bcc, .slice ka q.kids.length kcc, .bool q.has] 36 (0, 0)) := heap_alloc_new W6 _
      have HK6 := Lib.hid (hb6.alloc hb6.size (.cells #[.int .u64 q.num, .slice ba q.bytes.length bcc, .slice ka q.kids.length kcc, .bool q.has] 36))
      generalize W6.alloc (.cells #[.int .u64 q.num, .slice ba q.bytes.length bcc, .slice ka q.kids.length kcc, .bool q.has] 36) = W7 at *
      generalize W6.heap.size = V at *
      have hOlt := blk_lt HO.out
      have HX7 := Lib.hid (HXW.out.thenB (Nat.le_refl _) q1)
      have HO7 := Lib.hid (blk_exc HO.out q1 (blk_lt HO.out) (by omega))
      have HROW7 := Lib.hid (q1.ownsRow HROW.out (fun e => by have := (ownsRow_lt HROW.out _ e).1; omega))
      have HR7 := Lib.hid (blk_exc HR.out q1 (blk_lt HR.out) (by omega))
      have HSB7 := Lib.hid ((HK6.out.block w.heap.size (blk_lt HSB.out)).trans HSB.out)
      have HTB7 := Lib.hid (blk_exc HTB.out q1 (blk_lt HTB.out) (by omega))
      have HBN := Lib.hid (heap_alloc_new W7 (.cells #[.int .u64 q.num, .slice ba q.bytes.length bcc, .slice ka q.kids.length kcc, .bool q.has] 36))
      have HBA := Lib.hid ((Below.refl W7.heap.size W7).alloc (Nat.le_refl _) (.cells #[.int .u64 q.num, .slice ba q.bytes.length bcc, .slice ka q.kids.length kcc, .bool q.has] 36))
      have hO1 := blk_lt HO7.out
      have hjj : j ≤ 1000 := by omega
      obtain ⟨_, v0, v1, v2, v3⟩ := blk4p HO7.out
      obtain ⟨_, w0, w1, w2, w3⟩ := blk4p q3
      obtain ⟨i0, hi0, hzz0, hzz1, hzz2⟩ := info_parts val_infoT
      have I1 := Lib.hid hi0
      have I2 := Lib.hid hzz0
      have I3 := Lib.hid hzz1
      have I4 := Lib.hid hzz2
      have Q1 := Lib.hid q1
      have Q2 := Lib.hid q2
      have HOW := Lib.hid hOlt
      clear q1 q2 hi0 hzz0 hzz1 hzz2 hvh6 hb6 hOlt
      go_wp2_with (at_builtin; refine wpList_append_own_at _ rfl (.tmp 38) (.tmp 40) 34 rfl (w.heap.size + 1 + 1 + 1 + 1) 36 i0 _ 4 64 Tryd.underlying34 I1.out I2.out I3.out I4.out rfl (by decide) _ j (kvsCells l') rfl (row_keep HBA.out HROW7.out) _ 1 1 [.int .u64 q.num, .slice ba q.bytes.length bcc, .slice ka q.kids.length kcc, .bool q.has] rfl rfl (World.news_of_block HBN.out) (by intro u hu; simp at hu; rcases hu with rfl | rfl | rfl | rfl <;> rfl) (by unfold maxLen; omega) (by omega) (by simp; omega) ?_; intro v4 W8 hown4 hg4 hx hat4; clear hx; obtain ⟨a4, m4, rfl⟩ := ownsRow_form hown4; obtain ⟨s1, s2, s3, s4, s5⟩ := stepV 2 HX7.out (show w.heap.size ≤ w.heap.size + 1 + 1 + 1 by omega) HO7.out HROW7.out HBA.out hg4 hown4; have hkk := kids_step (q := ⟨q, .int .u64 q.num, .slice ba q.bytes.length bcc, .slice ka q.kids.length kcc, .bool q.has⟩) HKI.out Q1.out (show w.heap.size ≤ w.heap.size + 1 + 1 + 1 by omega) HOW.out (fun k hk => (ownsRow_lt HROW.out k hk).2) Q2.out HBA.out hg4 hat4 (Nat.le_refl _) 2 (.slice a4 (j + 1) m4); obtain ⟨_, d0, d1, d2, d3⟩ := blk4p s4; have e1 := blk_frozen s4 2; have S1 := Lib.hid s1; have S2 := Lib.hid s2; have S3 := Lib.hid s3; have S5 := Lib.hid s5; have HKK := Lib.hid hkk; clear s1 s2 s3 s4 s5 hkk hown4 hg4 hat4)
      go_roundw
      case rel => exact ⟨j + 1, a4, m4, l' ++ [⟨q, .int .u64 q.num, .slice ba q.bytes.length bcc, .slice ka q.kids.length kcc, .bool q.has⟩], by omega, by go_num, S2.out.trans rfl, by rw [kvsCells_snoc]; exact S3.out, HKK.out, by rw [List.map_append, HKV.out, List.take_succ_eq_append_getElem hjl, HQ.out]; rfl, (S5.out _ (by omega)).trans HR7.out, (S5.out _ (by omega)).trans HSB7.out, (S5.out _ (by omega)).trans HTB7.out, S1.out⟩
      case measure => simp [intOf]; omega
    · obtain rfl : j = x.kids.length := by omega
      obtain ⟨_, u0, u1, u2, u3⟩ := blk4p HR.out
      obtain ⟨_, v0, v1, v2, v3⟩ := blk4p HO.out
      have p0 := blk_frozen HR.out 0
      have p1 := blk_frozen HR.out 1
      have p2 := blk_frozen HR.out 2
      have p3 := blk_frozen HR.out 3
      clear hjl
      go_wp2
      refine post_gen (fun Wf => Wf.heap[w.heap.size + 1 + 1]? = some (.cells #[.int .u64 0, .slice none 0 0, .slice A x.kids.length cap, .bool false] 36 (0, 0)) ∧ Exc w.heap.size w.heap.size w Wf ∧ Wf.ownsRow (w.heap.size + 1 + 1 + 1 + 1) 36 4 (.slice A x.kids.length cap) x.kids.length (kvsCells l') ∧ KidsIn (rowS (w.heap.size + 1 + 1 + 1 + 1) (.slice A x.kids.length cap)) Wf l') ⟨?_, ?_, ?_, ?_⟩ ?_
      · exact blk_set4 (w := wr) HR.out _ _ _ _
      · exact exc_put4 HXW.out (Nat.le_succ_of_le (Nat.le_succ _)) _ _ _ _
      · exact own_set4 HROW.out (by omega) _ _ _ _
      · exact HKI.out.step (by simp [World.setCell]) (fun k hk hS => ⟨hS, set4_blk wr (by have := (rowS_no.1 hS).1; omega) _ _ _ _⟩)
      · rintro Wf ⟨e1, e2, e3, e4⟩
        obtain ⟨_, d0, d1, d2, d3⟩ := blk4p e1
        have hxe : PV.mk 0 [] (l'.map KV.v) false = x := by
          rw [HKV.out, List.take_length, pv_eq x, HX0.out.1, HX0.out.2.1, HX0.out.2.2]
          rfl
        have hvh := vh_kids (S' := newS w.heap.size) e3 e4 (fun k hS => by have := (rowS_no.1 hS).1; unfold newS; simp; omega) (fun k hk => by unfold newS; simp; omega) false
        rw [hxe] at hvh
        exact bodyPost_ret (v := .tuple #[.agg #[.int .u64 0, .slice none 0 0, .slice A x.kids.length cap, .bool false], .bool true]) (by simp [results, Tryd.results49, go_sem, d0, d1, d2, d3]) rfl ⟨⟨_, rfl, hvh⟩, e2.below (Nat.le_refl _)⟩
end Go.Proofs.YtjeoekggdohhiaaDoor
