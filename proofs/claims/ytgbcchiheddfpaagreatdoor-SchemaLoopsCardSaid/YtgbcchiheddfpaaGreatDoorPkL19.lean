/-
  The program's walk over structs, and Loops: it says whether a struct comes back to itself. Conditions: those that each theorem names.
-/
import Derived.Test.YtgbcchiheddfpaaGreatDoorPkL10
import Derived.Test.YtgbcchiheddfpaaGreatDoorPkL13
import Derived.Test.YtgbcchiheddfpaaGreatDoorPkL17
import Derived.IntWalk
namespace Go.Proofs.YtgbcchiheddfpaaGreatDoor
open Go.ChangeShapes Go.WideShapes Go.ChangeAt Go.RowKit Go.Shelf

structure LpA where
  lk : Nat
  ck : Nat
  sk : Nat
  ik : Nat
  ek : Nat
  yk : Nat
  rk : Nat
structure LpSt (w0 W : World) (a : LpA) (g : FuncId) (sv ev : Value) (root : Int) (n : Nat) (count : Int) (ways : List Int) : Prop where
  below : Below w0.heap.size w0 W
  later : W.heap[a.lk]? = some (.cells #[.slice none 0 0] 35 (0, 0))
  cnt : W.heap[a.ck]? = some (.cells #[.int .i64 count] 3 (0, 0))
  sch : W.heap[a.sk]? = some (.cells #[sv, ev, .int .i64 root] 30 (0, 0))
  into : W.heap[a.ik]? = some (.cells #[.func (.func g) #[] #[.pointer (some ⟨a.yk, 0, none⟩)]] 130 (0, 0))
  ent : W.heap[a.ek]? = some (.cells #[.func (.func 88) #[] #[.pointer (some ⟨a.lk, 0, none⟩), .pointer (some ⟨a.ck, 0, none⟩), .pointer (some ⟨a.sk, 0, none⟩), .pointer (some ⟨a.ik, 0, none⟩), .pointer (some ⟨a.ek, 0, none⟩)]] 192 (0, 0))
  box : W.heap[a.yk]? = some (.cells #[.slice (some ⟨a.rk, 0, none⟩) n n] 35 (0, 0))
  row : W.heap[a.rk]? = some (.cells (i64Cells ways).toArray 3 (0, 0))
  nec : a.ck ≠ a.lk ∧ a.ck ≠ a.sk ∧ a.ck ≠ a.ik ∧ a.ck ≠ a.ek ∧ a.ck ≠ a.yk ∧ a.ck ≠ a.rk
  ner : a.rk ≠ a.lk ∧ a.rk ≠ a.sk ∧ a.rk ≠ a.ik ∧ a.rk ≠ a.ek ∧ a.rk ≠ a.yk
  c0 : w0.heap.size ≤ a.ck
  r0 : w0.heap.size ≤ a.rk
section
variable {w0 W W' : World} {a : LpA} {g : FuncId} {sv ev : Value} {root : Int} {n : Nat} {count : Int} {ways : List Int}
theorem LpSt.later' (h : LpSt w0 W a g sv ev root n count ways) (hb : Below W.heap.size W W') : LpSt w0 W' a g sv ev root n count ways :=
  ⟨h.below.trans (hb.mono h.below.size), blk_below h.later hb (blk_lt h.later), blk_below h.cnt hb (blk_lt h.cnt), blk_below h.sch hb (blk_lt h.sch), blk_below h.into hb (blk_lt h.into), blk_below h.ent hb (blk_lt h.ent), blk_below h.box hb (blk_lt h.box), blk_below h.row hb (blk_lt h.row), h.nec, h.ner, h.c0, h.r0⟩
theorem LpSt.counted (h : LpSt w0 W a g sv ev root n count ways) (c : Int) : LpSt w0 (W.setCell ⟨a.ck, 0, none⟩ (.int .i64 c)) a g sv ev root n c ways :=
  ⟨h.below.setCell h.c0 _, blk_set_ne h.later (fun e => h.nec.1 e) _, (blk_set h.cnt 0 _).trans rfl, blk_set_ne h.sch (fun e => h.nec.2.1 e) _, blk_set_ne h.into (fun e => h.nec.2.2.1 e) _, blk_set_ne h.ent (fun e => h.nec.2.2.2.1 e) _, blk_set_ne h.box (fun e => h.nec.2.2.2.2.1 e) _, blk_set_ne h.row (fun e => h.nec.2.2.2.2.2 e) _, h.nec, h.ner, h.c0, h.r0⟩
theorem LpSt.wayed {ways' : List Int} (h : LpSt w0 W a g sv ev root n count ways) (hx : Exc a.rk W.heap.size W W') (hr : W'.heap[a.rk]? = some (.cells (i64Cells ways').toArray 3 (0, 0))) : LpSt w0 W' a g sv ev root n count ways' :=
  ⟨h.below.trans ⟨hx.os, hx.tape, hx.output, hx.size, fun k hk => hx.block k (Nat.lt_of_lt_of_le hk h.below.size) (by have := h.r0; omega)⟩, blk_exc h.later hx (blk_lt h.later) (fun e => h.ner.1 e.symm), blk_exc h.cnt hx (blk_lt h.cnt) (fun e => h.nec.2.2.2.2.2 e), blk_exc h.sch hx (blk_lt h.sch) (fun e => h.ner.2.1 e.symm), blk_exc h.into hx (blk_lt h.into) (fun e => h.ner.2.2.1 e.symm), blk_exc h.ent hx (blk_lt h.ent) (fun e => h.ner.2.2.2.1 e.symm), blk_exc h.box hx (blk_lt h.box) (fun e => h.ner.2.2.2.2 e.symm), hr, h.nec, h.ner, h.c0, h.r0⟩
end
theorem exw_of_exc {R S B : Nat} {w w' : World} (h : Exc S B w w') : Exw R S B w w' := ⟨h.os, h.tape, h.output, h.size, fun k hk _ h2 => h.block k hk h2⟩
theorem ways_at {W : World} {g : Nat} {t : TypeId} {ways : List Int} (h : W.heap[g]? = some (.cells (i64Cells ways).toArray t (0, 0))) (k : Nat) (hk : k < ways.length) : W.cell? ⟨g, k, none⟩ = some (.int .i64 (wy ways k)) := by
  rw [blk_cell h, List.getElem?_toArray, i64Cells_map, List.getElem?_map, List.getElem?_eq_getElem hk]
  unfold wy
  rw [List.getD, List.getElem?_eq_getElem hk]
  rfl
theorem ways_set {W : World} {g : Nat} {t : TypeId} {ways : List Int} (h : W.heap[g]? = some (.cells (i64Cells ways).toArray t (0, 0))) (k : Nat) (x : Int) : (W.setCell ⟨g, k, none⟩ (.int .i64 x)).heap[g]? = some (.cells (i64Cells (ways.set k x)).toArray t (0, 0)) := by
  rw [blk_set h, i64Cells_map, i64Cells_map, List.map_set, List.setIfInBounds_toArray]
structure IntoAt (g : FuncId) (n : Nat) (M d t : Int) : Prop where
  enters : ∀ args w, (callFunc g args).run Tryz.prog w = .ok (.enter g args) w
  gives : ∀ (W : World) (yk rk k : Nat) (ways : List Int), W.heap[yk]? = some (.cells #[.slice (some ⟨rk, 0, none⟩) n n] 35 (0, 0)) → W.heap[rk]? = some (.cells (i64Cells ways).toArray 3 (0, 0)) → rk ≠ yk → ways.length = n → k < n → 0 ≤ wy ways k → wy ways k ≤ M →
    Calls Tryz.prog g #[.int .i64 k, .pointer (some ⟨yk, 0, none⟩)] W fun e w' => e = .returned (.bool (decide (wy ways k + d = t))) ∧ w'.heap[rk]? = some (.cells (i64Cells (ways.set k (wy ways k + d))).toArray 3 (0, 0)) ∧ Exc rk W.heap.size W w'
set_option maxRecDepth 100000 in
set_option maxHeartbeats 1000000 in
theorem loops1_any (n : Nat) (M : Int) (hM : M ≤ 4611686018427387904) : IntoAt 52 n M 1 1 := by
  refine ⟨enters_of Tryz.func52 (by kernel_rfl) rfl, ?_⟩
  intro W yk rk k ways hy hr hne hl hk h0 h1
  have hx : wy (ways.set k (wy ways k + 1)) k = wy ways k + 1 := by rw [wy_set _ _ _ _ (by omega), if_pos rfl]
  have hE := Lib.hid ((Exc.refl rk W.heap.size W).setCell (p := ⟨rk, k, none⟩) (.inl rfl) (.int .i64 (wy ways k + 1)))
  have hR := Lib.hid (ways_set hr k (wy ways k + 1))
  have hY := Lib.hid (blk_set_ne hy (p := ⟨rk, k, none⟩) hne (.int .i64 (wy ways k + 1)))
  have x0 : W.cell? ⟨yk, 0, none⟩ = some (.slice (some ⟨rk, 0, none⟩) n n) := (blk_cell hy 0).trans rfl
  have x1 := ways_at hr k (by omega)
  have x2 := blk_frozen hr k
  have hc0 : (0 : Int) ≤ k := Int.natCast_nonneg _
  have hc1 : (k : Int) < n := by omega
  have k1 := IntWalk.i64_in (wy ways k + 1) (by omega)
  have x3 := (ways_at hR.out k (by rw [List.length_set]; omega)).trans (by rw [hx])
  have x4 : (W.setCell ⟨rk, k, none⟩ (.int .i64 (wy ways k + 1))).cell? ⟨yk, 0, none⟩ = some (.slice (some ⟨rk, 0, none⟩) n n) := (blk_cell hY.out 0).trans rfl
  have hD : Hid ((wy ways k + 1 == 1) = decide (wy ways k + 1 = 1)) := Lib.hid rfl
  clear hy hr hx
  generalize wy ways k = x at *
  go_enter Tryz.func52, Tryz.ntmps52
  go_upto_region 2 with (fail)
  generalize W.setCell ⟨rk, k, none⟩ (.int .i64 (x + 1)) = W1 at *
  go_wp2
  go_ret
  exact ⟨ret_bool hD.out, hR.out, hE.out⟩
set_option maxRecDepth 100000 in
set_option maxHeartbeats 1000000 in
theorem loops2_any (n : Nat) (M : Int) (hM : M ≤ 4611686018427387904) : IntoAt 53 n M (-1) 0 := by
  refine ⟨enters_of Tryz.func53 (by kernel_rfl) rfl, ?_⟩
  intro W yk rk k ways hy hr hne hl hk h0 h1
  show Calls _ _ _ _ fun e w' => e = .returned (.bool (decide (wy ways k - 1 = 0))) ∧ w'.heap[rk]? = some (.cells (i64Cells (ways.set k (wy ways k - 1))).toArray 3 (0, 0)) ∧ Exc rk W.heap.size W w'
  have hx : wy (ways.set k (wy ways k - 1)) k = wy ways k - 1 := by rw [wy_set _ _ _ _ (by omega), if_pos rfl]
  have hE := Lib.hid ((Exc.refl rk W.heap.size W).setCell (p := ⟨rk, k, none⟩) (.inl rfl) (.int .i64 (wy ways k - 1)))
  have hR := Lib.hid (ways_set hr k (wy ways k - 1))
  have hY := Lib.hid (blk_set_ne hy (p := ⟨rk, k, none⟩) hne (.int .i64 (wy ways k - 1)))
  have x0 : W.cell? ⟨yk, 0, none⟩ = some (.slice (some ⟨rk, 0, none⟩) n n) := (blk_cell hy 0).trans rfl
  have x1 := ways_at hr k (by omega)
  have x2 := blk_frozen hr k
  have hc0 : (0 : Int) ≤ k := Int.natCast_nonneg _
  have hc1 : (k : Int) < n := by omega
  have k1 := IntWalk.i64_in (wy ways k - 1) (by omega)
  have x3 := (ways_at hR.out k (by rw [List.length_set]; omega)).trans (by rw [hx])
  have x4 : (W.setCell ⟨rk, k, none⟩ (.int .i64 (wy ways k - 1))).cell? ⟨yk, 0, none⟩ = some (.slice (some ⟨rk, 0, none⟩) n n) := (blk_cell hY.out 0).trans rfl
  have hD : Hid ((wy ways k - 1 == 0) = decide (wy ways k - 1 = 0)) := Lib.hid rfl
  clear hy hr hx
  generalize wy ways k = x at *
  go_enter Tryz.func53, Tryz.ntmps53
  go_upto_region 2 with (fail)
  generalize W.setCell ⟨rk, k, none⟩ (.int .i64 (x - 1)) = W1 at *
  go_wp2
  go_ret
  exact ⟨ret_bool hD.out, hR.out, hE.out⟩
end Go.Proofs.YtgbcchiheddfpaaGreatDoor
namespace Go.Proofs.YtgbcchiheddfpaaGreatDoor
open Go.ChangeShapes Go.WideShapes Go.ChangeAt Go.RowKit Go.Shelf

theorem CRows.strct {base : Nat} {W : World} {ss : List (CRec × Value)} {es : List (SCho × Value)} {sv ev : Value} (h : CRows base W ss es sv ev) (k : Nat) (hk : k < ss.length) :
    ∃ g c a m, sv = .slice (some ⟨g, 0, none⟩) ss.length c ∧ W.cell? ⟨g, k * 2 + 1, none⟩ = some (.slice a ss[k].1.fields.length m) ∧ ss[k].2 = .slice a ss[k].1.fields.length m := by
  obtain ⟨g, c, hv, _, _, hcell⟩ := row_el crecCells 2 (fun _ => rfl) h.structs k hk
  obtain ⟨a, m, hf⟩ := ownsRow_form (h.fields _ (List.getElem_mem hk))
  exact ⟨g, c, a, m, hv, by rw [hcell 1 (by omega), ← hf]; rfl, hf⟩
theorem CRows.fld {base : Nat} {W : World} {ss : List (CRec × Value)} {es : List (SCho × Value)} {sv ev : Value} (h : CRows base W ss es sv ev) (k : Nat) (hk : k < ss.length) {a : Option Addr} {m : Nat} (ha : ss[k].2 = .slice a ss[k].1.fields.length m) (j : Nat) (hj : j < ss[k].1.fields.length) :
    ∃ g, a = some ⟨g, 0, none⟩ ∧ W.cell? ⟨g, j * 5, none⟩ = some (.string ss[k].1.fields[j].name) ∧ W.cell? ⟨g, j * 5 + 1, none⟩ = some (.int .u8 (ss[k].1.fields[j].kind : Nat)) ∧ W.cell? ⟨g, j * 5 + 2, none⟩ = some (.int .i64 ss[k].1.fields[j].ref) ∧ W.cell? ⟨g, j * 5 + 3, none⟩ = some (.int .i64 ss[k].1.fields[j].lists) ∧ W.cell? ⟨g, j * 5 + 4, none⟩ = some (.int .u64 (ss[k].1.fields[j].dflt : Nat)) := by
  obtain ⟨g, c, hv, _, _, hcell⟩ := row_el cfldCells 5 (fun _ => rfl) (h.fields _ (List.getElem_mem hk)) j hj
  rw [ha] at hv
  injection hv with hv
  subst hv
  exact ⟨g, rfl, hcell 0 (by omega), hcell 1 (by omega), hcell 2 (by omega), hcell 3 (by omega), hcell 4 (by omega)⟩

section
variable (w0 : World) (a : LpA) (g : FuncId) (sv ev : Value) (root : Int) (ss : List (CRec × Value)) (M d t : Int) (OK : Nat → Prop) (Inv : List Nat → (Nat → Nat) → List Int → Prop) (In : List Nat → List Int → Prop) (In' : Nat → List Nat → List Int → Prop)
def LpPost (E : List Nat) (rem : Nat → Nat) (w : World) (w' : World) : Prop :=
  ∃ F ways', Inv (E ++ F) rem ways' ∧ In (E ++ F) ways' ∧ LpSt w0 w' a g sv ev root ss.length ((E ++ F).length : Nat) ways' ∧ Exw a.ck a.rk w.heap.size w w'
def EnterAt (m : Nat) : Prop :=
  ∀ (u deep : Nat) (E : List Nat) (rem : Nat → Nat) (ways : List Int) (W : World), ss.length - E.length ≤ m → deep ≤ E.length → OK u → Inv E rem ways → In' u E ways → LpSt w0 W a g sv ev root ss.length (E.length : Nat) ways →
    Calls Tryz.prog 88 #[.int .i64 u, .int .i64 deep, .pointer (some ⟨a.lk, 0, none⟩), .pointer (some ⟨a.ck, 0, none⟩), .pointer (some ⟨a.sk, 0, none⟩), .pointer (some ⟨a.ik, 0, none⟩), .pointer (some ⟨a.ek, 0, none⟩)] W fun e w' => e = .returned (.tuple #[]) ∧ LpPost w0 a g sv ev root ss Inv In E rem W w'
def LpEnAt (E : List Nat) (rem : Nat → Nat) (fs : List CFld) (W : World) (i : Value) (wr : World) : Prop :=
  ∃ (j : Nat) (F : List Nat) (ways' : List Int), j ≤ fs.length ∧ i = .int .i64 j ∧ Inv (E ++ F) (fun x => rem x + (outsF (fs.drop j)).count x) ways' ∧ In (E ++ F) ways' ∧ LpSt w0 wr a g sv ev root ss.length ((E ++ F).length : Nat) ways' ∧ Exw a.ck a.rk W.heap.size W wr
end
set_option maxRecDepth 100000 in
set_option maxHeartbeats 4000000 in
theorem enter_step {w0 : World} {a : LpA} {g : FuncId} {sv ev : Value} {root : Int} {ss : List (CRec × Value)} {es : List (SCho × Value)} {M d t : Int} {OK : Nat → Prop} {Inv : List Nat → (Nat → Nat) → List Int → Prop} {In : List Nat → List Int → Prop} {In' : Nat → List Nat → List Int → Prop}
    {base : Nat} (hC : CRows base w0 ss es sv ev) (hL : LeadOk (ss.map Prod.fst)) (hg : IntoAt g ss.length M d t) (hI : LpInv (outsC (ss.map Prod.fst)) ss.length M d t OK Inv In In') (hn : ss.length ≤ 16) (m : Nat) (hnext : ∀ r, m = r + 1 → EnterAt w0 a g sv ev root ss OK Inv In In' r) : EnterAt w0 a g sv ev root ss OK Inv In In' m := by
  intro u deep E rem ways W hm hdeep hu hinv hin' hst
  have hroom := hI.room hinv hu hin'
  have hul := hI.lt hu
  obtain ⟨r, rfl⟩ : ∃ r, m = r + 1 := ⟨m - 1, by omega⟩
  have HN := Lib.hid (hnext r rfl)
  obtain ⟨hi1, hi2⟩ := hI.enter hinv hu hin'
  have hEn : ∀ args w, (callFunc g args).run Tryz.prog w = .ok (.enter g args) w := hg.enters
  have HG := Lib.hid hg
  have HI := Lib.hid hI
  have HC := Lib.hid hC
  have HL := Lib.hid hL
  have hS2 := hst.counted (((E.length : Nat) : Int) + 1)
  have hX2 : Exw a.ck a.rk W.heap.size W (W.setCell ⟨a.ck, 0, none⟩ (.int .i64 (((E.length : Nat) : Int) + 1))) := (Exw.refl a.ck a.rk W.heap.size W).setCell (p := ⟨a.ck, 0, none⟩) (.inl rfl) _
  have x0 : W.cell? ⟨a.ck, 0, none⟩ = some (.int .i64 (E.length : Nat)) := (blk_cell hst.cnt 0).trans rfl
  have x1 := blk_frozen hst.cnt 0
  have k1 := IntWalk.i64_in (((E.length : Nat) : Int) + 1) (by omega)
  have hd1 : ((deep : Int) == 16) = false := by simp; omega
  have H1 := Lib.hid hi1
  have H2 := Lib.hid hi2
  have HS := Lib.hid hS2
  have HX := Lib.hid hX2
  have HIN := Lib.hid hinv
  clear hnext hinv hin' hst hi1 hi2 hS2 hX2 hg hI hC hL
  go_enter Tryz.func88, Tryz.ntmps88
  go_upto_region 3 with (fail)
  generalize W.setCell ⟨a.ck, 0, none⟩ (.int .i64 (((E.length : Nat) : Int) + 1)) = W1 at *
  clear x0 x1
  obtain ⟨sg, sc, fa, fc, rfl, y1, hfr⟩ := (HC.out.below HS.out.below).strct u hul
  have z0 : W1.cell? ⟨a.sk, 0, none⟩ = some (.slice (some ⟨sg, 0, none⟩) ss.length sc) := (blk_cell HS.out.sch 0).trans rfl
  have hu0 : (0 : Int) ≤ u := Int.natCast_nonneg _
  have hu1 : (u : Int) < ss.length := by omega
  have hHF := Lib.hid hfr
  have hout : outsC (ss.map Prod.fst) u = outsF ss[u].1.fields := by
    unfold outsC
    rw [List.getD, List.getElem?_map, List.getElem?_eq_getElem hul]
    rfl
  have hlead : ∀ f ∈ ss[u].1.fields, f.kind = 13 → 0 ≤ f.ref ∧ f.ref < ss.length := fun f hf hk => by
    have h := HL.out ss[u].1 (List.mem_map.2 ⟨_, List.getElem_mem hul, rfl⟩) f hf hk
    rwa [List.length_map] at h
  have hok : ∀ f ∈ ss[u].1.fields, f.kind = 13 → OK f.ref.toNat := fun f hf hk => HI.out.ok hu (by
    rw [hout]
    exact List.mem_filterMap.2 ⟨f, hf, by rw [if_pos hk]⟩)
  have hfl : ∀ (j : Nat) (hj : j < ss[u].1.fields.length) (V : World), Below w0.heap.size w0 V → ∃ fg, fa = some ⟨fg, 0, none⟩ ∧ V.cell? ⟨fg, j * 5, none⟩ = some (.string ss[u].1.fields[j].name) ∧ V.cell? ⟨fg, j * 5 + 1, none⟩ = some (.int .u8 (ss[u].1.fields[j].kind : Nat)) ∧ V.cell? ⟨fg, j * 5 + 2, none⟩ = some (.int .i64 ss[u].1.fields[j].ref) ∧ V.cell? ⟨fg, j * 5 + 3, none⟩ = some (.int .i64 ss[u].1.fields[j].lists) ∧ V.cell? ⟨fg, j * 5 + 4, none⟩ = some (.int .u64 (ss[u].1.fields[j].dflt : Nat)) := fun j hj V hV => (HC.out.below hV).fld u hul hHF.out j hj
  have hfew := row_few (HC.out.fields _ (List.getElem_mem hul))
  have HFL := Lib.hid hfl
  have HLE := Lib.hid hlead
  have HOK := Lib.hid hok
  have H1' := Lib.hid (show Inv (E ++ [u]) (fun v => rem v + (outsF ss[u].1.fields).count v) ways by rw [← hout]; exact H1.out)
  clear hfr hout hlead hok hfl H1 hHF
  generalize ss[u].1.fields = fs at *
  go_upto_region 4 with (fail)
  go_loopw [26] (fun i wr => LpEnAt w0 a g (.slice (some ⟨sg, 0, none⟩) ss.length sc) ev root ss Inv In (E ++ [u]) rem fs W i wr) (fun i _ => fs.length - (intOf i).toNat)
  case atStart => exact ⟨0, [], ways, Nat.zero_le _, rfl, by rw [List.append_nil]; exact H1'.out, by rw [List.append_nil]; exact H2.out, by rw [List.append_nil, List.length_append]; exact HS.out, HX.out⟩
  case round =>
    obtain ⟨j, F, ways', hj, rfl, hv, hin, hst, hx⟩ := hrel
    have hj0 : (0 : Int) ≤ j := Int.natCast_nonneg _
    by_cases hlt : j < fs.length
    · have hj1 : (j : Int) < fs.length := by omega
      obtain ⟨fg, rfl, c0, c1, c2, c3, c4⟩ := HFL.out j hlt wr hst.below
      have hmem := List.getElem_mem hlt
      rw [List.drop_eq_getElem_cons hlt] at hv
      generalize fs[j] = f at *
      obtain ⟨nm, kd, rf, li, df⟩ := f
      have hb2 : Below wr.heap.size wr (wr.alloc (.cells #[.string nm, .int .u8 kd, .int .i64 rf, .int .i64 li, .int .u64 df] 64)) := (Below.refl _ _).alloc (Nat.le_refl _) _
      have hq := heap_alloc_new wr (.cells #[.string nm, .int .u8 kd, .int .i64 rf, .int .i64 li, .int .u64 df] 64)
      have hst2 := hst.later' hb2
      have hx2 := hx.bel hb2
      have hrk := blk_lt hst.row
      have HV := Lib.hid hv
      have HIN2 := Lib.hid hin
      have HST := Lib.hid hst2
      have HX2 := Lib.hid hx2
      have HQ := Lib.hid hq
      have HME := Lib.hid hmem
      clear hv hin hst hx hx2 hb2 hq hst2 hmem
      go_upto_region 6 with (fail)
      generalize wr.alloc (.cells #[.string nm, .int .u8 kd, .int .i64 rf, .int .i64 li, .int .u64 df] 64) = W2 at *
      clear c0 c1 c2 c3 c4
      obtain ⟨_, b0, b1, b2, b3, b4, _⟩ := blk5c HQ.out
      by_cases hk : kd = 13
      · subst hk
        have hle := HLE.out _ HME.out rfl
        have hov := HOK.out _ HME.out rfl
        simp only at hle hov
        obtain ⟨v, rfl⟩ := Int.eq_ofNat_of_zero_le hle.1
        rw [Int.toNat_natCast] at hov
        have hvn := HI.out.lt hov
        obtain ⟨hlen, _, _⟩ := HI.out.len HV.out
        obtain ⟨hs1, hs2⟩ := HI.out.small HV.out hov
        have HV2 := Lib.hid (show Inv (E ++ [u] ++ F) (fun x => rem x + (v :: outsF (fs.drop (j + 1))).count x) ways' by
          have h := HV.out
          rwa [outsF_cons, if_pos rfl, Int.toNat_natCast] at h)
        obtain ⟨e1, e2, e3⟩ := HI.out.edge HV2.out HIN2.out hov
        have HE1 := Lib.hid e1
        have HE2 := Lib.hid e2
        have HE3 := Lib.hid e3
        have HGV := Lib.hid (HG.out.gives W2 a.yk a.rk v ways' HST.out.box HST.out.row HST.out.ner.2.2.2.2 hlen hvn hs1 hs2)
        have s0 : W2.cell? ⟨a.sk, 0, none⟩ = some (.slice (some ⟨sg, 0, none⟩) ss.length sc) := (blk_cell HST.out.sch 0).trans rfl
        have i0 : W2.cell? ⟨a.ik, 0, none⟩ = some (.func (.func g) #[] #[.pointer (some ⟨a.yk, 0, none⟩)]) := (blk_cell HST.out.into 0).trans rfl
        have hlt2 := hle.2
        clear hle e1 e2 e3 hs1 hs2 HV HV2
        go_wp2_with fail
        refine (samong_any v ss.length true (decide_eq_true ⟨Int.natCast_nonneg _, hlt2⟩) W2).mono ?_
        rintro e W3 ⟨rfl, rfl⟩
        go_wp2_with fail
        refine HGV.out.mono ?_
        rintro e W3 ⟨rfl, hrow3, hexc3⟩
        have HST3 := Lib.hid (HST.out.wayed hexc3 hrow3)
        have HX3 := Lib.hid (HX2.out.then (exw_of_exc hexc3))
        have HQ3 := Lib.hid (blk_exc HQ.out hexc3 (blk_lt HQ.out) (by omega))
        obtain ⟨_, b0, b1, b2, b3, b4, _⟩ := blk5c HQ3.out
        have n0 : W3.cell? ⟨a.ek, 0, none⟩ = some (.func (.func 88) #[] #[.pointer (some ⟨a.lk, 0, none⟩), .pointer (some ⟨a.ck, 0, none⟩), .pointer (some ⟨a.sk, 0, none⟩), .pointer (some ⟨a.ik, 0, none⟩), .pointer (some ⟨a.ek, 0, none⟩)]) := (blk_cell HST3.out.ent 0).trans rfl
        clear hrow3 hexc3 s0 i0 HGV HST HX2 HQ
        by_cases ht : wy ways' v + d = t
        · rw [decide_eq_true ht]
          have k2 := IntWalk.i64_in ((deep : Int) + 1) (by omega)
          have hl3 : ss.length - (E ++ [u] ++ F).length ≤ r := by
            rw [List.length_append, List.length_append, List.length_singleton]
            omega
          have hd3 : deep + 1 ≤ (E ++ [u] ++ F).length := by
            rw [List.length_append, List.length_append, List.length_singleton]
            omega
          have HGO := Lib.hid (HN.out v (deep + 1) (E ++ [u] ++ F) (fun x => rem x + (outsF (fs.drop (j + 1))).count x) _ W3 hl3 hd3 hov HE1.out (HE2.out ht) HST3.out)
          clear HE1 HE2 HE3 hl3 hd3
          go_wp2_with fail
          refine HGO.out.mono ?_
          rintro e W4 ⟨rfl, F2, ways3, h1, h2, h3, h4⟩
          have HEND := Lib.hid (show LpEnAt w0 a g (.slice (some ⟨sg, 0, none⟩) ss.length sc) ev root ss Inv In (E ++ [u]) rem fs W (.int .i64 ((j + 1 : Nat) : Int)) W4 from ⟨j + 1, F ++ F2, ways3, by omega, rfl, by rw [← List.append_assoc]; exact h1, by rw [← List.append_assoc]; exact h2, by rw [← List.append_assoc]; exact h3, HX3.out.then h4⟩)
          clear h1 h2 h3 h4 HGO HST3 HX3 n0
          go_wp2
          go_roundw
          case rel => exact HEND.out
          case measure => simp [intOf]; omega
        · rw [decide_eq_false ht]
          have HEND := Lib.hid (show LpEnAt w0 a g (.slice (some ⟨sg, 0, none⟩) ss.length sc) ev root ss Inv In (E ++ [u]) rem fs W (.int .i64 ((j + 1 : Nat) : Int)) W3 from ⟨j + 1, F, _, by omega, rfl, HE1.out, HE3.out ht, HST3.out, HX3.out⟩)
          clear HE1 HE2 HE3 HST3 HX3 n0
          go_wp2
          go_roundw
          case rel => exact HEND.out
          case measure => simp [intOf]; omega
      · have hk1 : ((kd : Int) == 13) = false := by simp; omega
        have HEND := Lib.hid (show LpEnAt w0 a g (.slice (some ⟨sg, 0, none⟩) ss.length sc) ev root ss Inv In (E ++ [u]) rem fs W (.int .i64 ((j + 1 : Nat) : Int)) W2 from ⟨j + 1, F, _, by omega, rfl, by
          have h := HV.out
          rwa [outsF_cons, if_neg hk] at h, HIN2.out, HST.out, HX2.out⟩)
        clear HV HIN2 HST HX2
        go_wp2
        go_roundw
        case rel => exact HEND.out
        case measure => simp [intOf]; omega
    · obtain rfl : j = fs.length := by omega
      have hj2 : ¬ ((fs.length : Nat) : Int) < fs.length := by omega
      rw [List.drop_length] at hv
      have hrem : (fun x => rem x + (outsF []).count x) = rem := by
        funext x
        simp [outsF]
      rw [hrem] at hv
      have HEND := Lib.hid (show LpPost w0 a g (.slice (some ⟨sg, 0, none⟩) ss.length sc) ev root ss Inv In E rem W wr from ⟨[u] ++ F, ways', by rw [← List.append_assoc]; exact hv, by rw [← List.append_assoc]; exact hin, by rw [← List.append_assoc]; exact hst, hx⟩)
      clear hv hin hst hx hrem
      go_wp2
      first | refine bodyPost_end (v := .tuple #[]) (by simp [results, Tryz.results88, go_sem]) rfl ?_ | refine bodyPost_ret (v := .tuple #[]) (by simp [results, Tryz.results88, go_sem]) rfl ?_
      exact ⟨rfl, HEND.out⟩
theorem enter_all {w0 : World} {a : LpA} {g : FuncId} {sv ev : Value} {root : Int} {ss : List (CRec × Value)} {es : List (SCho × Value)} {M d t : Int} {OK : Nat → Prop} {Inv : List Nat → (Nat → Nat) → List Int → Prop} {In : List Nat → List Int → Prop} {In' : Nat → List Nat → List Int → Prop}
    {base : Nat} (hC : CRows base w0 ss es sv ev) (hL : LeadOk (ss.map Prod.fst)) (hg : IntoAt g ss.length M d t) (hI : LpInv (outsC (ss.map Prod.fst)) ss.length M d t OK Inv In In') (hn : ss.length ≤ 16) : ∀ m, EnterAt w0 a g sv ev root ss OK Inv In In' m
  | 0 => enter_step hC hL hg hI hn 0 (fun r hr => by cases hr)
  | m + 1 => enter_step hC hL hg hI hn (m + 1) (fun r hr => by injection hr with hr; exact hr ▸ enter_all hC hL hg hI hn m)
end Go.Proofs.YtgbcchiheddfpaaGreatDoor
namespace Go.Proofs.YtgbcchiheddfpaaGreatDoor
open Go.ChangeShapes Go.WideShapes Go.ChangeAt Go.RowKit Go.Shelf

theorem new_at {w : World} {s : Nat} (h : w.heap.size = s) (o : Obj) : (w.alloc o).heap[s]? = some o := by subst h; exact heap_alloc_new w o
set_option maxRecDepth 100000 in
set_option maxHeartbeats 4000000 in
theorem walk_any {w0 : World} {g : FuncId} {sv ev : Value} {r : Nat} {ss : List (CRec × Value)} {es : List (SCho × Value)} {M d t : Int} {OK : Nat → Prop} {Inv : List Nat → (Nat → Nat) → List Int → Prop} {In : List Nat → List Int → Prop} {In' : Nat → List Nat → List Int → Prop}
    {base : Nat} (hC : CRows base w0 ss es sv ev) (hL : LeadOk (ss.map Prod.fst)) (hg : IntoAt g ss.length M d t) (hI : LpInv (outsC (ss.map Prod.fst)) ss.length M d t OK Inv In In') (hn : ss.length ≤ 16)
    (w : World) (hb : Below w0.heap.size w0 w) (yk rk : Nat) (ways : List Int) (hy : w.heap[yk]? = some (.cells #[.slice (some ⟨rk, 0, none⟩) ss.length ss.length] 35 (0, 0))) (hr : w.heap[rk]? = some (.cells (i64Cells ways).toArray 3 (0, 0))) (hry : rk ≠ yk) (hr0 : w0.heap.size ≤ rk)
    (hl : ways.length = ss.length) (hrn : r < ss.length) (hOK : OK r) (h0 : 0 ≤ wy ways r) (h1 : wy ways r ≤ M) (hi1 : Inv [] (fun _ => 0) (ways.set r (wy ways r + d))) (hi2 : wy ways r + d = t → In' r [] (ways.set r (wy ways r + d))) (hi3 : wy ways r + d ≠ t → In [] (ways.set r (wy ways r + d))) :
    Calls Tryz.prog 51 #[.agg #[sv, ev, .int .i64 r], .func (.func g) #[] #[.pointer (some ⟨yk, 0, none⟩)]] w fun e w' => ∃ F ways2, e = .returned (.int .i64 (F.length : Nat)) ∧ Inv F (fun _ => 0) ways2 ∧ In F ways2 ∧ w'.heap[rk]? = some (.cells (i64Cells ways2).toArray 3 (0, 0)) ∧ Exc rk w.heap.size w w' := by
  have hEn : ∀ args w, (callFunc g args).run Tryz.prog w = .ok (.enter g args) w := hg.enters
  have HG := Lib.hid hg
  have HI := Lib.hid hI
  have HC := Lib.hid hC
  have HL := Lib.hid hL
  have HY := Lib.hid hy
  have HR := Lib.hid hr
  have HB := Lib.hid hb
  clear hg hI hC hL hy hr hb
  go_enter Tryz.func51, Tryz.ntmps51
  go_upto_region 5 with (fail)
  have hw5 : ∃ W5, (((((w.alloc (Obj.cells #[sv, ev, Value.int IntKind.i64 r] 30)).alloc (Obj.cells #[Value.func (Fn.func g) #[] #[Value.pointer (some ⟨yk, 0, none⟩)]] 130)).alloc (Obj.cells #[Value.int IntKind.i64 0] 3)).alloc (Obj.cells #[Value.slice none 0 0] 35)).alloc
      (Obj.cells #[Value.func (Fn.func 88) #[] #[Value.pointer (some ⟨w.heap.size + 1 + 1 + 1, 0, none⟩), Value.pointer (some ⟨w.heap.size + 1 + 1, 0, none⟩), Value.pointer (some ⟨w.heap.size, 0, none⟩), Value.pointer (some ⟨w.heap.size + 1, 0, none⟩), Value.pointer (some ⟨w.heap.size + 1 + 1 + 1 + 1, 0, none⟩)]] 192)) = W5 := ⟨_, rfl⟩
  obtain ⟨W5, hW5⟩ := hw5
  rw [hW5]
  have hbw : Below w.heap.size w W5 := by
    rw [← hW5]
    exact (((((Below.refl _ _).alloc (Nat.le_refl _) _).alloc (by simp) _).alloc (by simp; omega) _).alloc (by simp; omega) _).alloc (by simp; omega) _
  have q1 : W5.heap[w.heap.size]? = some (.cells #[sv, ev, Value.int IntKind.i64 r] 30 (0, 0)) := by
    rw [← hW5]
    exact blk_alloc (blk_alloc (blk_alloc (blk_alloc (new_at rfl _) _) _) _) _
  have q2 : W5.heap[w.heap.size + 1]? = some (.cells #[Value.func (Fn.func g) #[] #[Value.pointer (some ⟨yk, 0, none⟩)]] 130 (0, 0)) := by
    rw [← hW5]
    exact blk_alloc (blk_alloc (blk_alloc (new_at (by simp) _) _) _) _
  have q3 : W5.heap[w.heap.size + 1 + 1]? = some (.cells #[Value.int IntKind.i64 0] 3 (0, 0)) := by
    rw [← hW5]
    exact blk_alloc (blk_alloc (new_at (by simp) _) _) _
  have q4 : W5.heap[w.heap.size + 1 + 1 + 1]? = some (.cells #[Value.slice none 0 0] 35 (0, 0)) := by
    rw [← hW5]
    exact blk_alloc (new_at (by simp) _) _
  have q5 : W5.heap[w.heap.size + 1 + 1 + 1 + 1]? = some (.cells #[Value.func (Fn.func 88) #[] #[Value.pointer (some ⟨w.heap.size + 1 + 1 + 1, 0, none⟩), Value.pointer (some ⟨w.heap.size + 1 + 1, 0, none⟩), Value.pointer (some ⟨w.heap.size, 0, none⟩), Value.pointer (some ⟨w.heap.size + 1, 0, none⟩), Value.pointer (some ⟨w.heap.size + 1 + 1 + 1 + 1, 0, none⟩)]] 192 (0, 0)) := by
    rw [← hW5]
    exact new_at (by simp) _
  have hyl := blk_lt HY.out
  have hrl := blk_lt HR.out
  have hwl := HB.out.size
  have hst : LpSt w0 W5 ⟨w.heap.size + 1 + 1 + 1, w.heap.size + 1 + 1, w.heap.size, w.heap.size + 1, w.heap.size + 1 + 1 + 1 + 1, yk, rk⟩ g sv ev r ss.length ((([] : List Nat).length : Nat) : Int) ways :=
    ⟨HB.out.trans (hbw.mono hwl), q4, q3, q1, q2, q5, blk_below HY.out hbw hyl, blk_below HR.out hbw hrl, ⟨by simp, by simp; omega, by simp, by simp, by simp; omega, by simp; omega⟩, ⟨by simp; omega, by simp; omega, by simp; omega, by simp; omega, hry⟩, by simp; omega, hr0⟩
  have HST := Lib.hid hst
  have HBW := Lib.hid hbw
  have hro := Int.natCast_nonneg r
  have HGV := Lib.hid (HG.out.gives W5 yk rk r ways hst.box hst.row hry hl hrn h0 h1)
  have i0 : W5.cell? ⟨w.heap.size + 1, 0, none⟩ = some (.func (.func g) #[] #[.pointer (some ⟨yk, 0, none⟩)]) := (blk_cell q2 0).trans rfl
  have s2 : W5.cell? ⟨w.heap.size, 2, none⟩ = some (.int .i64 r) := (blk_cell q1 2).trans rfl
  clear hst hbw q1 q2 q3 q4 q5 hW5
  go_wp2_with fail
  refine HGV.out.mono ?_
  rintro e W6 ⟨rfl, hrow, hexc⟩
  have HST6 := Lib.hid (HST.out.wayed hexc hrow)
  have HX6 : Hid (Exc rk w.heap.size w W6) := Lib.hid ((Exc.of_below HBW.out).then hexc)
  have n0 : W6.cell? ⟨w.heap.size + 1 + 1 + 1 + 1, 0, none⟩ = some (.func (.func 88) #[] #[.pointer (some ⟨w.heap.size + 1 + 1 + 1, 0, none⟩), .pointer (some ⟨w.heap.size + 1 + 1, 0, none⟩), .pointer (some ⟨w.heap.size, 0, none⟩), .pointer (some ⟨w.heap.size + 1, 0, none⟩), .pointer (some ⟨w.heap.size + 1 + 1 + 1 + 1, 0, none⟩)]) := (blk_cell HST6.out.ent 0).trans rfl
  have s2 : W6.cell? ⟨w.heap.size, 2, none⟩ = some (.int .i64 r) := (blk_cell HST6.out.sch 2).trans rfl
  clear hrow hexc i0 HGV
  by_cases ht : wy ways r + d = t
  · rw [decide_eq_true ht]
    have HGO := Lib.hid (enter_all HC.out HL.out HG.out HI.out hn ss.length r 0 [] (fun _ => 0) _ W6 (Nat.sub_le _ _) (Nat.le_refl _) hOK hi1 (hi2 ht) HST6.out)
    clear hi1 hi2 hi3
    go_wp2_with fail
    refine HGO.out.mono ?_
    rintro e W7 ⟨rfl, F, ways3, h1, h2, h3, h4⟩
    rw [List.nil_append] at h1 h2 h3
    have l0 : W7.cell? ⟨w.heap.size + 1 + 1 + 1, 0, none⟩ = some (.slice none 0 0) := (blk_cell h3.later 0).trans rfl
    have c0 : W7.cell? ⟨w.heap.size + 1 + 1, 0, none⟩ = some (.int .i64 (F.length : Nat)) := (blk_cell h3.cnt 0).trans rfl
    have HX7 : Hid (Exc rk w.heap.size w W7) := Lib.hid (HX6.out.trans ⟨h4.os, h4.tape, h4.output, h4.size, fun k hk hne => h4.block k (Nat.lt_of_lt_of_le hk HX6.out.size) (by simp; omega) hne⟩)
    have H1 := Lib.hid h1
    have H2 := Lib.hid h2
    have H3 := Lib.hid h3.row
    clear h1 h2 h3 h4 HGO HST6 HX6 n0 s2
    go_wp2_with fail
    go_loopw [] (fun wr => wr = W7) (fun _ => 0)
    case atStart => rfl
    case round =>
      subst hrel
      go_wp2
      go_ret
      exact ⟨F, ways3, rfl, H1.out, H2.out, H3.out, HX7.out⟩
  · rw [decide_eq_false ht]
    have l0 : W6.cell? ⟨w.heap.size + 1 + 1 + 1, 0, none⟩ = some (.slice none 0 0) := (blk_cell HST6.out.later 0).trans rfl
    have c0 : W6.cell? ⟨w.heap.size + 1 + 1, 0, none⟩ = some (.int .i64 0) := (blk_cell HST6.out.cnt 0).trans rfl
    have H3 := Lib.hid HST6.out.row
    have H2 := Lib.hid (hi3 ht)
    clear n0 s2 HST6 hi2 hi3
    go_wp2_with fail
    go_loopw [] (fun wr => wr = W6) (fun _ => 0)
    case atStart => rfl
    case round =>
      subst hrel
      go_wp2
      go_ret
      exact ⟨[], _, rfl, hi1, H2.out, H3.out, HX6.out⟩
end Go.Proofs.YtgbcchiheddfpaaGreatDoor
