/-
  The package schema's maker: its third step, all structs' fields. Conditions: those that each theorem names.
-/
import Derived.Test.YtgbcchiheddfpaaGreatDoorPkL42
namespace Go.Proofs.YtgbcchiheddfpaaGreatDoor
open Go.ChangeShapes Go.WideShapes Go.ChangeAt Go.RowKit Go.Shelf

theorem srecsCells_set : ∀ (L : List (SRec × Value)) (i : Nat) (h : i < L.length) (q : SRec × Value), q.1.name = L[i].1.name → srecsCells (L.set i q) = (srecsCells L).set (i * 2 + 1) q.2
  | [], i, h, _, _ => absurd h (Nat.not_lt_zero i)
  | p :: r, 0, _, q, hn => by
    rw [List.set_cons_zero]
    show srecCells q ++ srecsCells r = (srecCells p ++ srecsCells r).set 1 q.2
    have hn' : q.1.name = p.1.name := hn
    simp [srecCells, hn']
  | p :: r, i + 1, h, q, hn => by
    rw [List.set_cons_succ]
    show srecCells p ++ srecsCells (r.set i q) = (srecCells p ++ srecsCells r).set ((i + 1) * 2 + 1) q.2
    rw [srecsCells_set r i (Nat.lt_of_succ_lt_succ h) q hn, show (i + 1) * 2 + 1 = 2 + (i * 2 + 1) by omega]
    simp [srecCells, Nat.add_comm 2 (i * 2 + 1)]
theorem flds_step (m : List NEnt) (es : List RCho) (l : List RField) (acc : List SFld) (j : Nat) (hj : j < l.length) (h : fldsM m es l = (fldsM m es (l.drop j)).bind fun r => .ok (acc ++ r)) :
    (∀ c p, fieldM m es l[j] = .no c p → fldsM m es l = .no c p) ∧ ∀ f, fieldM m es l[j] = .ok f → fldsM m es l = (fldsM m es (l.drop (j + 1))).bind fun r => .ok (acc ++ [f] ++ r) := by
  rw [List.drop_eq_getElem_cons hj] at h
  constructor
  · intro c p hf
    rw [h, fldsM, hf]
    rfl
  · intro f hf
    rw [h, fldsM, hf, mbind_ok]
    cases fldsM m es (l.drop (j + 1)) with
    | ok r => simp [mbind_ok]
    | no c p => rfl
theorem bodies_step (m : List NEnt) (es : List RCho) (l : List RRec) (acc : List SRec) (k : Nat) (hk : k < l.length) (h : bodiesM m es l = (bodiesM m es (l.drop k)).bind fun r => .ok (acc ++ r)) :
    (∀ c p, fldsM m es l[k].fields = .no c p → bodiesM m es l = .no c p) ∧ ∀ fs, fldsM m es l[k].fields = .ok fs → bodiesM m es l = (bodiesM m es (l.drop (k + 1))).bind fun r => .ok (acc ++ [⟨strOfNums l[k].name, fs⟩] ++ r) := by
  rw [List.drop_eq_getElem_cons hk] at h
  constructor
  · intro c p hf
    rw [h, bodiesM, hf]
    rfl
  · intro f hf
    rw [h, bodiesM, hf, mbind_ok]
    cases bodiesM m es (l.drop (k + 1)) with
    | ok r => simp [mbind_ok]
    | no c p => rfl
theorem bind_self {α : Type} (x : MRes (List α)) : (x.bind fun r => .ok ([] ++ r)) = x := by cases x <;> rfl
theorem fieldM_no {m : List NEnt} {es : List RCho} {f : RField} {c : Int} {p : Nat} (h : fieldM m es f = .no c p) : c = 14 ∨ c = 15 := by
  unfold fieldM at h
  split at h
  · injection h with h _
    exact .inl h.symm
  · split at h
    · injection h with h _
      exact .inl h.symm
    · split at h
      · injection h with h _
        exact .inr h.symm
      · cases h
theorem srecsCells_len (L : List (SRec × Value)) : (srecsCells L).length = L.length * 2 := by
  induction L with
  | nil => rfl
  | cons a r ih =>
    show (srecCells a ++ srecsCells r).length = _
    rw [List.length_append, ih, List.length_cons]
    simp [srecCells]
    omega
theorem row_blk {w : World} {base : Nat} {e : TypeId} {size g n c : Nat} {xs : List Value} (h : w.ownsRow base e size (.slice (some ⟨g, 0, none⟩) n c) n xs) : ∃ cur, w.heap[g]? = some (.cells cur e (0, 0)) ∧ cur.toList.take (n * size) = xs := by
  rcases h.2 with ⟨h', _⟩ | ⟨g', cap', cur, h', hb, hg, hnc, hcm, hcs, htake⟩
  · simp at h'
  · simp only [Value.slice.injEq, Option.some.injEq, Addr.mk.injEq, and_true, true_and] at h'
    obtain ⟨rfl, rfl⟩ := h'
    exact ⟨cur, hg, htake⟩
theorem row_cell {w : World} {base : Nat} {e : TypeId} {size g n c i : Nat} {xs : List Value} {v : Value} (h : w.ownsRow base e size (.slice (some ⟨g, 0, none⟩) n c) n xs) (hi : i < n * size) (hv : xs[i]? = some v) : w.cell? ⟨g, i, none⟩ = some v ∧ w.frozen? ⟨g, i, none⟩ = false := by
  obtain ⟨cur, hg, ht⟩ := row_blk h
  refine ⟨?_, blk_frozen hg i⟩
  rw [cell_of_row w g i cur _ (0, 0) hg, ← hv, ← ht, List.getElem?_take, if_pos hi, Array.getElem?_toList]
theorem fi_more {wi w4 Wb W8 : World} {G i n c j b0 : Nat} {fv v4 : Value} {cs cl cl' : List Value} (hx : Exc G wi.heap.size wi w4) (hGi : G < wi.heap.size) (hrow : w4.ownsRow b0 67 2 (.slice (some ⟨G, 0, none⟩) n c) n (cs.set i fv))
    (hfr : w4.ownsRow wi.heap.size 64 5 fv j cl) (h2 : Below w4.heap.size w4 Wb) (hg : Wb.grownBy W8 fv.ownBlock) (ho : W8.ownsRow wi.heap.size 64 5 v4 (j + 1) cl') :
    W8.heap[G]? = w4.heap[G]? ∧ Exc G wi.heap.size wi (W8.setCell ⟨G, i, none⟩ v4) ∧ (W8.setCell ⟨G, i, none⟩ v4).ownsRow b0 67 2 (.slice (some ⟨G, 0, none⟩) n c) n (cs.set i v4) ∧ (W8.setCell ⟨G, i, none⟩ v4).ownsRow wi.heap.size 64 5 v4 (j + 1) cl' := by
  have hlow : ∀ k, fv.ownBlock = some k → wi.heap.size ≤ k := fun k hk => (ownsRow_lt hfr k hk).1
  have hs := hx.size
  have h2s := h2.size
  have hne : fv.ownBlock ≠ some G := fun e => by have := hlow G e; omega
  have hr8 : W8.ownsRow b0 67 2 (.slice (some ⟨G, 0, none⟩) n c) n (cs.set i fv) := rws_other hg (row_keep h2 hrow) (fun k hk => by simp [Value.ownBlock] at hk; subst hk; exact hne)
  have hst := (hr8.stored i v4).1
  rw [List.set_set] at hst
  refine ⟨(hg.block G (by omega) (fun e => hne e.symm)).trans (h2.block G (by omega)), ?_, hst, ownsRow_setCell_below ho hGi _⟩
  exact ((hx.trans (.of_below (h2.mono hs))).grown hg (by omega) (fun k hk => .inl (hlow k hk))).setCell (p := ⟨G, i, none⟩) (.inl rfl) v4
theorem row_far {w : World} {base : Nat} {e : TypeId} {size n R : Nat} {v : Value} {xs : List Value} (h : w.ownsRow base e size v n xs) (hR : ∀ g, v.ownBlock = some g → g ≠ R) (x y : Value) : ((w.setCell ⟨R, 0, none⟩ x).setCell ⟨R, 1, none⟩ y).ownsRow base e size v n xs := by
  have h1 : Exc R w.heap.size w ((w.setCell ⟨R, 0, none⟩ x).setCell ⟨R, 1, none⟩ y) := ((Exc.refl R _ w).setCell (p := ⟨R, 0, none⟩) (.inl rfl) x).setCell (p := ⟨R, 1, none⟩) (.inl rfl) y
  exact h1.ownsRow h (fun e' => hR R e' rfl)
def FdKeeps (w : World) (G M b : Nat) (sv ev rv : Value) (m : List NEnt) (ssv esv : Value) (root : Nat) (be rb : Nat) (es : List (SCho × Value)) (xs : List (RRec × Value)) : Prop :=
  ∀ W, Exc G w.heap.size w W → MAt W M b sv ev rv m ssv esv root ∧ ChoRows be W es esv ∧ ErrV W ∧ W.ownsRow rb 298 3 sv xs.length (recsCells xs) ∧ ∀ p ∈ xs, W.ownsRow rb 303 8 p.2 p.1.fields.length (fieldsCells p.1.fields)
def FdAt (w : World) (G M : Nat) (a : Option Addr) (c : Nat) (ssv : Value) (m : List NEnt) (es : List RCho) (xs : List (RRec × Value)) (b0 : Nat) (cf : Act) (wr : World) : Prop :=
  ∃ (k : Nat) (L : List (SRec × Value)), k ≤ xs.length ∧ FdO M w.heap.size a xs.length c k cf ∧ Exc G w.heap.size w wr ∧ wr.heap[w.heap.size]? = some (.cells #[.int .i64 0, .int .i64 0] 125 (0, 0)) ∧ L.length = xs.length ∧
    wr.ownsRow b0 67 2 ssv xs.length (srecsCells L) ∧ (∀ q ∈ L, wr.ownsRow (w.heap.size + 1) 64 5 q.2 q.1.fields.length (sfldsCells q.1.fields)) ∧ L.drop k = (xs.drop k).map rec0p ∧
    bodiesM m es (xs.map Prod.fst) = (bodiesM m es ((xs.map Prod.fst).drop k)).bind fun r => .ok ((L.take k).map Prod.fst ++ r)
def FiAt (w wi : World) (G M : Nat) (a : Option Addr) (n c k : Nat) (ssv : Value) (m : List NEnt) (es : List RCho) (cs : List Value) (l : List RField) (na : Option Addr) (nc b0 : Nat) (cf : Act) (wq : World) : Prop :=
  ∃ (j : Nat) (acc : List SFld) (fv : Value), j ≤ l.length ∧ FdI M w.heap.size a n c k na l.length nc j cf ∧ Exc G wi.heap.size wi wq ∧ acc.length = j ∧ wq.ownsRow b0 67 2 ssv n (cs.set (k * 2 + 1) fv) ∧
    wq.ownsRow wi.heap.size 64 5 fv j (sfldsCells acc) ∧ fldsM m es l = (fldsM m es (l.drop j)).bind fun r => .ok (acc ++ r)
def FdPost (w : World) (G : Nat) (ssv : Value) (m : List NEnt) (es : List RCho) (xs : List (RRec × Value)) (b0 : Nat) (e : Ending) (w' : World) : Prop :=
  Exc G w.heap.size w w' ∧ match bodiesM m es (xs.map Prod.fst) with
  | .no c p => e = .returned (.agg #[.int .i64 c, .int .i64 (p : Nat)])
  | .ok l => e = .returned (.agg #[.int .i64 0, .int .i64 0]) ∧ ∃ L, L.map Prod.fst = l ∧ w'.ownsRow b0 67 2 ssv xs.length (srecsCells L) ∧ ∀ q ∈ L, w'.ownsRow w.heap.size 64 5 q.2 q.1.fields.length (sfldsCells q.1.fields)
set_option maxRecDepth 100000 in
set_option maxHeartbeats 8000000 in
theorem fields_any (w : World) {G M b root be rb b0 : Nat} {sv ev rv ssv esv : Value} {m : List NEnt} {es : List (SCho × Value)} {ecs : List RCho} {xs : List (RRec × Value)} (hkeep : FdKeeps w G M b sv ev rv m ssv esv root be rb es xs) (hes : es.map Prod.fst = ecs.map choOut)
    (hrow : w.ownsRow b0 67 2 ssv xs.length (srecsCells (xs.map rec0p))) (hG : ∀ g c, ssv = .slice (some ⟨g, 0, none⟩) xs.length c → g = G) (hGw : G < w.heap.size) (hfew : ∀ p ∈ xs, p.1.fields.length ≤ 16)
    (hm : ∀ s q, lookN m s = some q → (q.1 = 10 → q.2 < ecs.length) ∧ q.1 ≤ 13) (hsz : ∀ p ∈ xs, ∀ f ∈ p.1.fields, f.dflt.text.length ≤ 281474976710656 ∧ f.name.length ≤ 281474976710656) :
    Calls Tryz.prog 123 #[.pointer (some ⟨M, 0, none⟩)] w (FdPost w G ssv m ecs xs b0) := by
  have HKEEP := Lib.hid hkeep
  have HES := Lib.hid hes
  have HG := Lib.hid hG
  have HFEW := Lib.hid hfew
  have HMM := Lib.hid hm
  have HSZ := Lib.hid hsz
  obtain ⟨hM, _, _, hraw0, _⟩ := hkeep w (Exc.refl _ _ _)
  obtain ⟨sva, svc, rfl⟩ := ownsRow_form hraw0
  have hmost := row_few hraw0
  have hMw : M < w.heap.size := blk_lt hM.blk
  have hb0 : Below w.heap.size w (w.alloc (.cells #[.int .i64 0, .int .i64 0] 125)) := (Below.refl _ _).alloc (Nat.le_refl _) _
  have HX0 := Lib.hid (Exc.of_below (R := G) hb0)
  have HM0 := Lib.hid (hM.fell hb0)
  have HR0 := Lib.hid (heap_alloc_new w (.cells #[.int .i64 0, .int .i64 0] 125))
  have HROW0 := Lib.hid (row_keep hb0 hrow)
  have HNEq := Lib.hid (show ∀ g, ssv.ownBlock = some g → g ≠ w.heap.size from fun g hg => by have := (ownsRow_lt hrow g hg).2; omega)
  clear hkeep hes hG hfew hm hsz hb0 hM hraw0 hrow
  go_enter Tryz.func123, Tryz.ntmps123
  go_upto_region 1 with (fail)
  generalize w.alloc (.cells #[.int .i64 0, .int .i64 0] 125) = W0 at *
  obtain ⟨_, z0, z1, z2, z3, z4, z5, z6, _⟩ := HM0.out.cells
  go_wp2_with fail
  clear z0 z1 z2 z3 z4 z5 z6
  refine wp_loop (FdAt w G M sva svc ssv m ecs xs b0) (fun c' _ => xs.length - (intOf (c'.tmps.getD 15 undef)).toNat) ⟨0, xs.map rec0p, Nat.zero_le _, ⟨rfl, rfl, rfl, rfl, rfl, rfl, rfl⟩, HX0.out, HR0.out, by simp, HROW0.out, fun q hq => by
    obtain ⟨p, _, rfl⟩ := List.mem_map.1 hq
    exact World.ownsRow_nil _ _ _ _, rfl, by
    rw [List.drop_zero, List.take_zero]; exact (bind_self _).symm⟩ ?_
  clear HX0 HM0 HR0 HROW0
  rintro cf wr ⟨k, L, hk, hcf, hx, hR, hL, hrow, hflds, hdrop, hbod⟩
  obtain ⟨u, rfl⟩ := hcf.lit
  clear hcf
  conv => arg 2; whnf
  by_cases hkl : k < xs.length
  · obtain ⟨_, _, _, hraw, hfl⟩ := HKEEP.out wr hx
    obtain ⟨g, cc, hv, hcc, hg, hcell⟩ := row_el recCells 3 (fun _ => rfl) hraw k hkl
    obtain ⟨rfl, rfl⟩ := slice_inj hv
    have hn := hfl _ (List.getElem_mem hkl)
    obtain ⟨na, nc, hnv⟩ := ownsRow_form hn
    have x0 : wr.cell? ⟨g, k * 3, none⟩ = some (.string (strOfNums xs[k].1.name)) := hcell 0 (by omega)
    have x1 : wr.cell? ⟨g, k * 3 + 1, none⟩ = some (.int .i64 xs[k].1.place) := hcell 1 (by omega)
    have x2 : wr.cell? ⟨g, k * 3 + 2, none⟩ = some (.slice na xs[k].1.fields.length nc) := by rw [← hnv]; exact hcell 2 (by omega)
    have HFL := Lib.hid (show ∀ W, Exc G w.heap.size w W → W.ownsRow rb 303 8 (.slice na xs[k].1.fields.length nc) xs[k].1.fields.length (fieldsCells xs[k].1.fields) from fun W hW => by rw [← hnv]; exact (HKEEP.out W hW).2.2.2.2 _ (List.getElem_mem hkl))
    have hkL : k < L.length := by omega
    have hLk : L[k] = rec0p xs[k] ∧ L.drop (k + 1) = (xs.drop (k + 1)).map rec0p := by
      rw [List.drop_eq_getElem_cons hkL, List.drop_eq_getElem_cons hkl, List.map_cons] at hdrop
      injection hdrop with h1 h2
      exact ⟨h1, h2⟩
    obtain ⟨g', c', hsv, hcs, _, hgs, _⟩ := row_at hrow (by omega)
    obtain rfl := HG.out g' c' hsv
    subst hsv
    have hbs := bodies_step m ecs (xs.map Prod.fst) ((L.take k).map Prod.fst) k (by simpa using hkl) hbod
    rw [List.getElem_map] at hbs
    obtain ⟨hb1, hb2⟩ := hbs
    have h16 := HFEW.out _ (List.getElem_mem hkl)
    have HSZF := Lib.hid (HSZ.out _ (List.getElem_mem hkl))
    have hs0 : (srecsCells L).set (k * 2 + 1) (.slice none 0 0) = srecsCells L := by
      have h1 := srecsCells_set L k hkL L[k] rfl
      rw [List.set_getElem_self] at h1
      have h2 : L[k].2 = .slice none 0 0 := by rw [hLk.1]; rfl
      rw [h2] at h1
      exact h1.symm
    have HLN := Lib.hid (show strOfNums xs[k].1.name = L[k].1.name by rw [hLk.1]; rfl)
    have HLD := Lib.hid hLk.2
    generalize xs[k].1 = q at *
    have HX := Lib.hid hx
    have HR := Lib.hid hR
    have HROW := Lib.hid hrow
    have HFLD := Lib.hid hflds
    have HL := Lib.hid hL
    have HB1 := Lib.hid hb1
    have HB2 := Lib.hid hb2
    have HS0 := Lib.hid hs0
    have hxs := hx.size
    have hba : Below wr.heap.size wr (wr.alloc (.cells #[.string (strOfNums q.name), .int .i64 q.place, .slice na q.fields.length nc] 298)) := (Below.refl _ _).alloc (Nat.le_refl _) _
    have HBA := Lib.hid hba
    have HQ4 := Lib.hid (heap_alloc_new wr (.cells #[.string (strOfNums q.name), .int .i64 q.place, .slice na q.fields.length nc] 298))
    clear hx hR hrow hflds hdrop hbod hL hb1 hb2 hs0 hLk hraw hfl hnv hcell hv hn hba
    go_upto_region 4 with (fail)
    generalize wr.alloc (.cells #[.string (strOfNums q.name), .int .i64 q.place, .slice na q.fields.length nc] 298) = W1 at *
    clear x0 x1 x2
    obtain ⟨hl4, y0, y1, y2, _⟩ := blk3 HQ4.out
    go_wp2_with fail
    clear y0 y1 y2
    have HX1 := Lib.hid (HX.out.bel (Nat.le_refl _) HBA.out)
    have HR1 := Lib.hid (blk_below HR.out HBA.out (blk_lt HR.out))
    refine wp_loop (FiAt w W1 g' M (some ⟨g, 0, none⟩) xs.length svc k (.slice (some ⟨g', 0, none⟩) xs.length c') m ecs (srecsCells L) q.fields na nc b0) (fun c' _ => q.fields.length - (intOf (c'.tmps.getD 23 undef)).toNat) ⟨0, [], .slice none 0 0, Nat.zero_le _, ⟨rfl, rfl, rfl, rfl, rfl, rfl, rfl, rfl, rfl, rfl, rfl⟩, Exc.refl _ _ _, rfl, by rw [HS0.out]; exact row_keep HBA.out HROW.out, World.ownsRow_nil _ _ _ _, by rw [List.drop_zero]; exact (bind_self _).symm⟩ ?_
    rintro cf wq ⟨j, acc, fv, hj, hcf, hxq, hac, hgrow, hfrow, hfm⟩
    obtain ⟨u, rfl⟩ := hcf.lit
    clear hcf
    conv => arg 2; whnf
    have hsq := hxq.size
    have hRl : w.heap.size < wr.heap.size := blk_lt HR.out
    have HXQ := Lib.hid (HX1.out.thenB (Nat.le_refl _) hxq)
    have HRQ := Lib.hid (blk_exc HR1.out hxq (by omega) (by omega))
    by_cases hjl : j < q.fields.length
    · obtain ⟨gn, cn, hvn, hcn, hgn, hcelln⟩ := row_el fieldCells 8 (fun _ => rfl) (HFL.out _ HXQ.out) j hjl
      obtain ⟨rfl, rfl⟩ := slice_inj hvn
      have v0 : wq.cell? ⟨gn, j * 8, none⟩ = some (.string (strOfNums q.fields[j].name)) := hcelln 0 (by omega)
      have v1 : wq.cell? ⟨gn, j * 8 + 1, none⟩ = some (.int .i64 q.fields[j].place) := hcelln 1 (by omega)
      have v2 : wq.cell? ⟨gn, j * 8 + 2, none⟩ = some (.string (strOfNums q.fields[j].ty.name)) := hcelln 2 (by omega)
      have v3 : wq.cell? ⟨gn, j * 8 + 3, none⟩ = some (.int .i64 q.fields[j].ty.lists) := hcelln 3 (by omega)
      have v4 : wq.cell? ⟨gn, j * 8 + 4, none⟩ = some (.int .i64 q.fields[j].ty.place) := hcelln 4 (by omega)
      have v5 : wq.cell? ⟨gn, j * 8 + 5, none⟩ = some (.int .i64 q.fields[j].dflt.kind) := hcelln 5 (by omega)
      have v6 : wq.cell? ⟨gn, j * 8 + 6, none⟩ = some (.string (strOfNums q.fields[j].dflt.text)) := hcelln 6 (by omega)
      have v7 : wq.cell? ⟨gn, j * 8 + 7, none⟩ = some (.int .i64 q.fields[j].dflt.place) := hcelln 7 (by omega)
      have HFS := Lib.hid (flds_step m ecs q.fields acc j hjl hfm)
      have hszf := HSZF.out _ (List.getElem_mem hjl)
      generalize q.fields[j] = f at *
      have HXQ1 := Lib.hid hxq
      have HGR := Lib.hid hgrow
      have HFR := Lib.hid hfrow
      have HAC := Lib.hid hac
      have hji : (j : Int) < q.fields.length := by omega
      have hbx : Below wq.heap.size wq (wq.alloc (.cells #[.string (strOfNums f.name), .int .i64 f.place, .string (strOfNums f.ty.name), .int .i64 f.ty.lists, .int .i64 f.ty.place, .int .i64 f.dflt.kind, .string (strOfNums f.dflt.text), .int .i64 f.dflt.place] 303)) := (Below.refl _ _).alloc (Nat.le_refl _) _
      have HBX := Lib.hid hbx
      have HT6 := Lib.hid (heap_alloc_new wq (.cells #[.string (strOfNums f.name), .int .i64 f.place, .string (strOfNums f.ty.name), .int .i64 f.ty.lists, .int .i64 f.ty.place, .int .i64 f.dflt.kind, .string (strOfNums f.dflt.text), .int .i64 f.dflt.place] 303))
      clear hxq hac hgrow hfrow hfm hvn hcelln hbx
      go_upto_region 7 with (fail)
      generalize wq.alloc (.cells #[.string (strOfNums f.name), .int .i64 f.place, .string (strOfNums f.ty.name), .int .i64 f.ty.lists, .int .i64 f.ty.place, .int .i64 f.dflt.kind, .string (strOfNums f.dflt.text), .int .i64 f.dflt.place] 303) = W2 at *
      clear v0 v1 v2 v3 v4 v5 v6 v7
      have HX2 := Lib.hid (HXQ.out.bel (Nat.le_refl _) HBX.out)
      obtain ⟨hM2, hC2, hE2, _, _⟩ := HKEEP.out W2 HX2.out
      have HFD := Lib.hid (mfield_any W2 hM2 hC2 HES.out f HMM.out hE2 hszf)
      unfold fldV at HFD
      obtain ⟨hl6, y0, y1, y2, y3, y4, y5, y6, y7⟩ := blk8' HT6.out
      clear hM2 hC2 hE2
      go_wp2_with fail
      refine HFD.out.mono ?_
      rintro e W3 ⟨rfl, hb3⟩
      have hs2 := HX2.out.size
      have hs3 : w.heap.size ≤ W3.heap.size := Nat.le_trans hs2 hb3.size
      have HX3 := Lib.hid (HX2.out.bel (Nat.le_refl _) hb3)
      have HR3 := Lib.hid (blk_below (blk_below HRQ.out HBX.out (blk_lt HRQ.out)) hb3 (by have := blk_lt HRQ.out; have := HBX.out.size; omega))
      have HB3 := Lib.hid (HBX.out.trans (hb3.mono HBX.out.size))
      have hb1 := HB1.out
      have hb2 := HB2.out
      obtain ⟨_, r0, r1, p0, p1⟩ := blk2 HR3.out
      clear y0 y1 y2 y3 y4 y5 y6 y7 hb3 HFD
      cases hV : fieldM m ecs f with
      | no c p =>
        rcases fieldM_no hV with rfl | rfl
        · have HB := Lib.hid (hb1 _ _ (HFS.out.1 _ _ hV))
          clear hV hb1 hb2
          simp only [fldR, sfldV, noSfld]
          go_wp2
          refine post_gen (fun Wf => Wf.heap[w.heap.size]? = some (.cells #[.int .i64 14, .int .i64 p] 125 (0, 0)) ∧ Exc g' w.heap.size w Wf) ⟨?_, ?_⟩ ?_
          · exact blk_alloc (blk_alloc (blk_set2 HR3.out _ _) _) _
          · exact ((((HX3.out.setCell (p := ⟨w.heap.size, 0, none⟩) (.inr (Nat.le_refl _)) _).setCell (p := ⟨w.heap.size, 1, none⟩) (.inr (Nat.le_refl _)) _).alloc (by simp [World.setCell]; omega) _).alloc (by simp [World.setCell]; omega) _)
          rintro Wf ⟨e1, e2⟩
          obtain ⟨_, c0, c1, _⟩ := blk2 e1
          exact bodyPost_ret (v := .agg #[.int .i64 14, .int .i64 p]) (by simp [results, Tryz.results123, go_sem, c0, c1]) rfl (by unfold FdPost; rw [HB.out]; exact ⟨e2, rfl⟩)
        · have HB := Lib.hid (hb1 _ _ (HFS.out.1 _ _ hV))
          clear hV hb1 hb2
          simp only [fldR, sfldV, noSfld]
          go_wp2
          refine post_gen (fun Wf => Wf.heap[w.heap.size]? = some (.cells #[.int .i64 15, .int .i64 p] 125 (0, 0)) ∧ Exc g' w.heap.size w Wf) ⟨?_, ?_⟩ ?_
          · exact blk_alloc (blk_alloc (blk_set2 HR3.out _ _) _) _
          · exact ((((HX3.out.setCell (p := ⟨w.heap.size, 0, none⟩) (.inr (Nat.le_refl _)) _).setCell (p := ⟨w.heap.size, 1, none⟩) (.inr (Nat.le_refl _)) _).alloc (by simp [World.setCell]; omega) _).alloc (by simp [World.setCell]; omega) _)
          rintro Wf ⟨e1, e2⟩
          obtain ⟨_, c0, c1, _⟩ := blk2 e1
          exact bodyPost_ret (v := .agg #[.int .i64 15, .int .i64 p]) (by simp [results, Tryz.results123, go_sem, c0, c1]) rfl (by unfold FdPost; rw [HB.out]; exact ⟨e2, rfl⟩)
      | ok f' =>
        have HFM := Lib.hid (HFS.out.2 _ hV)
        clear hV hb1 hb2
        simp only [fldR, sfldV]
        go_upto_region 8 with (fail)
        obtain ⟨hb4, ht7, ht8⟩ := two_blk W3 #[.string f'.name, .int .u8 f'.kind, .int .i64 f'.ref, .int .i64 f'.lists, .int .u64 f'.dflt] #[.int .i64 0, .int .i64 0] 64 125
        have hBW4 := hb4
        generalize (W3.alloc (.cells #[.string f'.name, .int .u8 f'.kind, .int .i64 f'.ref, .int .i64 f'.lists, .int .u64 f'.dflt] 64)).alloc (.cells #[.int .i64 0, .int .i64 0] 125) = W4 at *
        have HX4 := Lib.hid (HX3.out.bel (Nat.le_refl _) hb4)
        have HB4 := Lib.hid (HB3.out.trans (hb4.mono HB3.out.size))
        have HT7 := Lib.hid ht7
        obtain ⟨_, q0, q1, q2, q3, q4, _⟩ := blk5' ht7
        obtain ⟨_, f0, f1, _⟩ := blk2 ht8
        clear hb4 ht7 ht8 hBW4 r0 r1 p0 p1 HX3 HR3 HB3
        obtain ⟨hM4, _⟩ := HKEEP.out W4 HX4.out
        obtain ⟨_, z0, z1, z2, z3, z4, z5, z6, _⟩ := hM4.cells
        obtain ⟨fva, fvc, rfl⟩ := ownsRow_form HFR.out
        have HGR4 := Lib.hid (row_keep HB4.out HGR.out)
        have HFR4 := Lib.hid (row_keep HB4.out HFR.out)
        obtain ⟨gc1, gf1⟩ := row_cell (v := .slice fva j fvc) HGR4.out (show k * 2 + 1 < xs.length * 2 by omega) (by rw [List.getElem?_set_self (by rw [srecsCells_len, HL.out]; omega)])
        have HXI4 := Lib.hid (HXQ1.out.bel (Nat.le_refl _) HB4.out)
        have hgW1 : g' < W1.heap.size := by have := HBA.out.size; omega
        obtain ⟨i0, hi0, hzz0, hzz1, hzz2⟩ := info_parts sfld_info
        have I1 := Lib.hid hi0
        have I2 := Lib.hid hzz0
        have I3 := Lib.hid hzz1
        have I4 := Lib.hid hzz2
        have HBD := Lib.hid ((Below.refl W4.heap.size W4).drew.alloc (Nat.le_refl _) (.cells #[.string f'.name, .int .u8 f'.kind, .int .i64 f'.ref, .int .i64 f'.lists, .int .u64 f'.dflt] 64))
        have HNW := Lib.hid (heap_alloc_new W4.drew (.cells #[.string f'.name, .int .u8 f'.kind, .int .i64 f'.ref, .int .i64 f'.lists, .int .u64 f'.dflt] 64))
        have hs4 := HXI4.out.size
        have hgW4 : g' < W4.heap.size := by omega
        have hMW4 : M < W4.heap.size := by have := HX4.out.size; omega
        have hki : (k : Int) < xs.length := by omega
        clear hM4 hi0 hzz0 hzz1 hzz2 z0 z1 z2 z3 z5 z6
        go_upto_region 10 with (fail)
        refine wp_region_noPanic ?_
        go_region_law (first | (refine step_append_lies _ rfl (.tmp 51) (.tmp 53) 65 rfl W1.heap.size 64 i0 _ 5 48 Tryz.underlying65 I1.out I2.out I3.out I4.out rfl (by decide) _ j (sfldsCells acc) rfl (row_keep HBD.out HFR4.out) _ 1 1 [.string f'.name, .int .u8 f'.kind, .int .i64 f'.ref, .int .i64 f'.lists, .int .u64 f'.dflt] rfl rfl (World.news_of_block HNW.out) (by intro u hu; simp at hu; rcases hu with rfl | rfl | rfl | rfl | rfl <;> rfl) (by decide) (by unfold maxLen; omega) (by omega) (by simp; omega) _ rfl ?_; rintro g4 c4 W8 hown4 hg4 hat4 hlt4; obtain ⟨s4, s5, s6, s7⟩ := fi_more HXI4.out hgW1 HGR4.out HFR4.out HBD.out hg4 hown4; have d1 : W8.cell? ⟨g', k * 2 + 1, none⟩ = some (.slice fva j fvc) := (World.cell?_of_block (w := W4) (a := ⟨g', k * 2 + 1, none⟩) s4).trans gc1; have e1 : W8.frozen? ⟨g', k * 2 + 1, none⟩ = false := (World.frozen?_of_block (w := W4) (a := ⟨g', k * 2 + 1, none⟩) s4).trans gf1; have d4 : W8.cell? ⟨M, 4, none⟩ = some (.slice (some ⟨g', 0, none⟩) xs.length c') := (World.grownBy.cell_far hg4 ⟨M, 4, none⟩ (by first | (simp; omega) | (show M < W4.heap.size + 1; omega)) (fun e => by have := (ownsRow_lt HFR4.out M e.symm).1; omega)).trans ((HBD.out.cell (p := ⟨M, 4, none⟩) hMW4).trans z4); have S5 := Lib.hid s5; have S6 := Lib.hid s6; have S7 := Lib.hid s7; clear s4 s5 s6 s7 hown4 hg4 hat4))
        all_goals
          refine NoPanic.normal ?_
          simp only [Exit.inBlock, Exit.then]
          apply_assumption
          go_wp2
          refine ⟨⟨j + 1, acc ++ [f'], _, by omega, ⟨rfl, rfl, rfl, rfl, rfl, rfl, rfl, rfl, rfl, rfl, rfl⟩, S5.out, by rw [List.length_append, HAC.out]; rfl, S6.out, by rw [sfldsCells_snoc]; exact S7.out, HFM.out⟩, ?_⟩
          show q.fields.length - (intOf (.int .i64 ((j : Int) + 1))).toNat < q.fields.length - (intOf (.int .i64 (j : Int))).toNat
          simp [intOf]; omega
    · obtain rfl : j = q.fields.length := by omega
      have HFD : Hid (fldsM m ecs q.fields = .ok acc) := Lib.hid (by rw [hfm, List.drop_length]; simp [fldsM, mbind_ok])
      have HBD := Lib.hid (HB2.out _ HFD.out)
      have hbas : w.heap.size + 1 ≤ W1.heap.size := by have := HBA.out.size; omega
      have hLs : srecsCells (L.set k (⟨strOfNums q.name, acc⟩, fv)) = (srecsCells L).set (k * 2 + 1) fv := srecsCells_set L k hkL (⟨strOfNums q.name, acc⟩, fv) HLN.out
      have hnf : ∀ q' ∈ L.set k (⟨strOfNums q.name, acc⟩, fv), wq.ownsRow (w.heap.size + 1) 64 5 q'.2 q'.1.fields.length (sfldsCells q'.1.fields) := fun q' hq' => by
        rcases List.mem_or_eq_of_mem_set hq' with h | rfl
        · exact row_exc hxq (row_keep HBA.out (HFLD.out q' h)) (by omega)
        · rw [show ((⟨strOfNums q.name, acc⟩, fv) : SRec × Value).1.fields.length = q.fields.length from hac]
          exact ownsRow_base hfrow hbas
      have hrn : wq.ownsRow b0 67 2 (.slice (some ⟨g', 0, none⟩) xs.length c') xs.length (srecsCells (L.set k (⟨strOfNums q.name, acc⟩, fv))) := by rw [hLs]; exact hgrow
      have htk : ((L.set k (⟨strOfNums q.name, acc⟩, fv)).take (k + 1)).map Prod.fst = (L.take k).map Prod.fst ++ [⟨strOfNums q.name, acc⟩] := by
        rw [List.take_succ_eq_append_getElem (by rw [List.length_set]; exact hkL), List.take_set_of_le (Nat.le_refl k), List.getElem_set_self, List.map_append]
        rfl
      have HNF := Lib.hid hnf
      have HRN := Lib.hid hrn
      have HTK := Lib.hid htk
      have HDR := Lib.hid (show (L.set k (⟨strOfNums q.name, acc⟩, fv)).drop (k + 1) = (xs.drop (k + 1)).map rec0p by rw [List.drop_set_of_lt (Nat.lt_succ_self k)]; exact HLD.out)
      clear hxq hac hgrow hfrow hfm hLs hnf hrn htk hjl
      go_wp2
      refine ⟨⟨k + 1, L.set k (⟨strOfNums q.name, acc⟩, fv), by omega, ⟨rfl, rfl, rfl, rfl, rfl, rfl, rfl⟩, HXQ.out, HRQ.out, by rw [List.length_set]; exact HL.out, HRN.out, HNF.out, HDR.out, by rw [HBD.out, HTK.out]⟩, ?_⟩
      show xs.length - (intOf (.int .i64 ((k : Int) + 1))).toNat < xs.length - (intOf (.int .i64 (k : Int))).toNat
      simp [intOf]; omega
  · obtain rfl : k = xs.length := by omega
    have HBE : Hid (bodiesM m ecs (xs.map Prod.fst) = .ok (L.map Prod.fst)) := Lib.hid (by
      rw [hbod, List.drop_eq_nil_of_le (by simp), List.take_of_length_le (by omega)]
      simp [bodiesM, mbind_ok])
    have HX := Lib.hid hx
    have HR := Lib.hid hR
    have HROW := Lib.hid hrow
    have HFLD := Lib.hid hflds
    have hxs := hx.size
    obtain ⟨_, r0, r1, p0, p1⟩ := blk2 hR
    clear hx hR hrow hflds hdrop hbod hL hkl
    go_wp2
    refine post_gen (fun Wf => Wf.heap[w.heap.size]? = some (.cells #[.int .i64 0, .int .i64 0] 125 (0, 0)) ∧ Exc G w.heap.size w Wf ∧ Wf.ownsRow b0 67 2 ssv xs.length (srecsCells L) ∧ ∀ q ∈ L, Wf.ownsRow w.heap.size 64 5 q.2 q.1.fields.length (sfldsCells q.1.fields)) ⟨blk_set2 HR.out _ _, (HX.out.setCell (p := ⟨w.heap.size, 0, none⟩) (.inr (Nat.le_refl _)) _).setCell (p := ⟨w.heap.size, 1, none⟩) (.inr (Nat.le_refl _)) _, ?_, ?_⟩ ?_
    · exact row_far HROW.out (fun g hg => HNEq.out g hg) _ _
    · exact fun q hq => ownsRow_base (ownsRow_setCell_below (ownsRow_setCell_below (HFLD.out q hq) (Nat.lt_succ_self _) _) (Nat.lt_succ_self _) _) (Nat.le_succ _)
    · rintro Wf ⟨e1, e2, e3, e4⟩
      obtain ⟨_, c0, c1, _⟩ := blk2 e1
      exact bodyPost_ret (v := .agg #[.int .i64 0, .int .i64 0]) (by simp [results, Tryz.results123, go_sem, c0, c1]) rfl (by unfold FdPost; rw [HBE.out]; exact ⟨e2, rfl, L, rfl, e3, e4⟩)
end Go.Proofs.YtgbcchiheddfpaaGreatDoor
