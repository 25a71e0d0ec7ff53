/-
  The document's own parser: bad, is, want, in whatever state. Conditions: those that each theorem names.
-/
import Derived.Test.YtleclhnlojalbaaGreatDoorPkW5
import Derived.Test.YtleclhnlojalbaaGreatDoorPkW27
import Derived.Deep.RegionWith
import Derived.Deep.Cut
namespace Go.Proofs.YtleclhnlojalbaaGreatDoor
open Go.ChangeShapes Go.WideShapes Go.ChangeAt Go.RowKit Go.Shelf

def RMakePost (w : World) (r : MRes Sch) (e : Ending) (w' : World) : Prop :=
  Below w.heap.size w w' ∧ match r with
  | .no c p => e = .returned (.tuple #[.agg #[.slice none 0 0, .slice none 0 0, .int .i64 0], .int .i64 c, .int .i64 (p : Nat)])
  | .ok S => ∃ ss es sv ev, e = .returned (.tuple #[.agg #[sv, ev, .int .i64 S.root], .int .i64 0, .int .i64 0]) ∧ S.structs = ss.map Prod.fst ∧ S.enums = es.map Prod.fst ∧ SchRows w.heap.size w' ss es sv ev
theorem rmake_no {w Wf : World} {c : Int} {p : Nat} (hb : Below w.heap.size w Wf) : RMakePost w (.no c p) (.returned (.tuple #[.agg #[.slice none 0 0, .slice none 0 0, .int .i64 0], .int .i64 c, .int .i64 (p : Nat)])) Wf := ⟨hb, rfl⟩
theorem choM_few {i : Nat} {m m' : List NEnt} {x : RCho} (h : choM i m x = .ok m') : x.names.length ≤ 32 := by
  unfold choM at h
  split at h
  · cases h
  · split at h
    · rename_i hc
      exact hc.2.2
    · cases h
theorem chosM_few : ∀ {i : Nat} {m m' : List NEnt} {l : List RCho}, chosM i m l = .ok m' → ∀ x ∈ l, x.names.length ≤ 32
  | _, _, _, [], _, x, hx => by cases hx
  | i, m, m', y :: r, h, x, hx => by
    rw [chosM] at h
    cases hy : choM i m y with
    | no c p =>
      rw [hy] at h
      cases h
    | ok m1 =>
      rw [hy, mbind_ok] at h
      rcases List.mem_cons.1 hx with rfl | hx
      · exact choM_few hy
      · exact chosM_few h x hx
theorem raw_make (rs : List (RRec × Value)) (re : List (RCho × Value)) (rt : List Tok) : makeM (rawOf rs re rt) = (chosM 0 basicN (re.map Prod.fst)).bind fun m1 => (recsM 0 m1 (rs.map Prod.fst)).bind fun m => (bodiesM m (re.map Prod.fst) (rs.map Prod.fst)).bind fun l => (rootM m rt).bind fun r => .ok ⟨l, (re.map Prod.fst).map choOut, r⟩ := rfl
theorem root_one {m : List NEnt} {es ss : List ByteArray} (h : Named m es ss) (t : Tok) : rootM m [t] = match idx ss (tokT t) with
    | some i => .ok i
    | none => .no 17 t.place := by
  rw [← h.root (tokT t), rootM]
  cases lookN m (tokT t) with
  | none => rfl
  | some q =>
    by_cases h13 : q.1 = 13
    · simp [h13]
    · simp [h13]
set_option maxRecDepth 100000 in
theorem rm_ret {w w' : World} {c' : Act} {code : Int} {p : Nat} {res : MRes Sch} (hres : res = .no code p) (hc : RmR w.heap.size code p c') (hr : noRes w' (w.heap.size + 1)) (hb : Below w.heap.size w w') : bodyPost Tryz.prog Tryz.f28 (RMakePost w res) .ret c' w' := by
  obtain ⟨u, rfl⟩ := hc.lit
  obtain ⟨_, c0, c1, c2, _⟩ := blk3 hr
  subst hres
  exact bodyPost_ret (v := .tuple #[.agg #[.slice none 0 0, .slice none 0 0, .int .i64 0], .int .i64 code, .int .i64 p]) (by simp [results, Tryz.results28, go_sem, c0, c1, c2]) rfl (rmake_no hb)
set_option maxRecDepth 100000 in
set_option maxHeartbeats 8000000 in
theorem rmake_any {w : World} {rb : Nat} {rs : List (RRec × Value)} {re : List (RCho × Value)} {rt : List Tok} {sv ev rv : Value} (h : RawRows rb w rs re rt sv ev rv) (hok : RawOk (rawOf rs re rt)) :
    Calls Tryz.prog 28 #[.agg #[sv, ev, rv]] w (RMakePost w (makeM (rawOf rs re rt))) := by
  obtain ⟨hb, hz1, hz2⟩ := two_blk w #[sv, ev, rv] #[.slice none 0 0, .slice none 0 0, .int .i64 0] 69 32
  have HM := Lib.hid (raw_make rs re rt)
  generalize makeM (rawOf rs re rt) = res at *
  have HRAW := Lib.hid h
  have HOK := Lib.hid hok
  have HK := Lib.hid (show RmKeep w sv ev rv _ from ⟨hb, hz1, hz2⟩)
  have hrt := row_few h.roots
  obtain ⟨sa, sc, ea, ec, ra, rc, rfl, rfl, rfl⟩ := h.forms
  clear h hok hb hz1 hz2
  go_enter Tryz.func28, Tryz.ntmps28
  go_upto_region 2 with (fail)
  generalize (w.alloc (.cells #[.slice sa rs.length sc, .slice ea re.length ec, .slice ra rt.length rc] 69)).alloc (.cells #[.slice none 0 0, .slice none 0 0, .int .i64 0] 32) = W0 at *
  go_wp2_with fail
  refine rma_wp (m0 := basicN) (U0 := []) (e0 := 0) (a0 := none) HRAW.out (by simp [basicS]) (by simp) ⟨rfl, rfl, rfl, rfl, rfl, rfl⟩ HK.out (World.ownsRow_nil _ _ _ _) ?_ ?_
  · intro c2 w2 a2 e2 m1 hm1 hl8 hc2 hk2 hu2
    have HM1 := Lib.hid hm1
    have HK2 := Lib.hid hk2
    have HU2 := Lib.hid hu2
    obtain ⟨u2, rfl⟩ := hc2.lit
    clear hm1 hc2 hk2 hu2 HK
    simp only [Exit.inBlock, Exit.then]
    apply_assumption
    go_wp2_with fail
    refine rmb_wp (m0 := m1) (U0 := choNms re) (e0 := e2) (a0 := a2) HRAW.out ?_ (by rw [choNms_len]; exact hl8) ⟨rfl, rfl, rfl, rfl, by simp [choNms_len], rfl⟩ HK2.out (by rw [choNms_len]; have := HU2.out; simpa using this) ?_ ?_
    · obtain ⟨h1, _⟩ := chosM_ents HM1.out
      rw [h1, List.map_append, ents_names]
      rfl
    · intro c3 w3 a3 e3 m hm hl16 hc3 hk3 hu3
      have HM2 := Lib.hid hm
      have HK3 := Lib.hid hk3
      have HNM := Lib.hid (named_of HM1.out hm)
      have HGD := Lib.hid (recsM_good (chosM_good (ne := re.length) (basic_good _) (by simp) HM1.out) hm)
      have HFW := Lib.hid (chosM_few HM1.out)
      obtain ⟨u3, rfl⟩ := hc3.lit
      clear hm hc3 hk3 hu3 HK2 HU2
      simp only [Exit.inBlock, Exit.then]
      apply_assumption
      go_upto_region 37 with (fail)
      have hb4 : Below w3.heap.size w3 (w3.alloc (.cells #[.slice none 0 0, .slice none 0 0, .int .i64 0] 32)) := (Below.refl _ _).alloc (Nat.le_refl _) _
      have hq3 : w.heap.size + 2 ≤ w3.heap.size := blk_lt HK3.out.res
      have HK4 := Lib.hid (HK3.out.below hb4 hq3)
      have HS4 : Hid (SchAt w3.heap.size (w3.alloc (.cells #[.slice none 0 0, .slice none 0 0, .int .i64 0] 32)) [] [] (.slice none 0 0) (.slice none 0 0) 0) := Lib.hid ⟨heap_alloc_new w3 _, World.ownsRow_nil _ _ _ _, World.ownsRow_nil _ _ _ _, (fun q hq => by cases hq), (fun q hq => by cases hq)⟩
      generalize w3.alloc (.cells #[.slice none 0 0, .slice none 0 0, .int .i64 0] 32) = W4 at *
      generalize w3.heap.size = S at *
      clear hb4 HK3
      go_wp2_with fail
      refine rmc_wp (S := S) HRAW.out ⟨rfl, rfl, rfl, rfl, rfl, rfl⟩ HK4.out HS4.out hq3 (fun p hp => Nat.le_trans (HFW.out p.1 (List.mem_map_of_mem hp)) (by decide)) hl8 ?_
      intro c5 w5 es esv hc5 hk5 hs5 hes
      have HK5 := Lib.hid hk5
      have HS5 := Lib.hid hs5
      have HES := Lib.hid hes
      obtain ⟨u5, rfl⟩ := hc5.lit
      clear hc5 hk5 hs5 hes HK4 HS4
      simp only [Exit.inBlock, Exit.then]
      apply_assumption
      go_wp2_with fail
      refine rmd_wp (S := S) HRAW.out HNM.out HGD.out.1 ⟨rfl, rfl, rfl, rfl, rfl, rfl⟩ HK5.out HS5.out hq3 (fun p hp => Nat.le_trans (HGD.out.2 p.1 (List.mem_map_of_mem hp)) (by decide)) hl16 (fun p hp f hf => ((HOK.out.st p.1 (List.mem_map_of_mem hp)).2 f hf).1) ?_ ?_
      · intro c6 w6 ss ssv hc6 hk6 hs6 hbod
        have HK6 := Lib.hid hk6
        have HS6 := Lib.hid hs6
        have HR6 : Hid (res = (rootM m rt).bind fun r => .ok ⟨ss.map Prod.fst, es.map Prod.fst, r⟩) := Lib.hid (by rw [HM.out, HM1.out, mbind_ok, HM2.out, mbind_ok, hbod, mbind_ok, HES.out])
        obtain ⟨u6, rfl⟩ := hc6.lit
        obtain ⟨_, p0, p1, p2, _⟩ := blk3 hk6.raw
        obtain ⟨_, _, _, _, f0, f1, f2⟩ := blk3 hk6.res
        clear hc6 hk6 hs6 hbod HK5 HS5 HM HM1 HM2
        simp only [Exit.inBlock, Exit.then]
        apply_assumption
        cases rt with
        | nil =>
          have HE := Lib.hid (show res = .no 17 0 from HR6.out)
          simp only [List.length_nil] at *
          go_wp2
          exact rm_ret HE.out ⟨rfl, rfl, rfl, rfl, rfl⟩ HK6.out.res.put (bel_put HK6.out.bel (Nat.le_succ _) _ _ _)
        | cons t r =>
          cases r with
          | cons t2 r2 =>
            obtain ⟨g, cc, hv, hcc, hg, hcell⟩ := row_el tokCells 3 (fun _ => rfl) (row_keep HK6.out.bel HRAW.out.roots) 1 (by simp)
            obtain ⟨rfl, rfl⟩ := slice_inj hv
            have x2 : w6.cell? ⟨g, 5, none⟩ = some (.int .i64 t2.place) := hcell 2 (by omega)
            have HE := Lib.hid (show res = .no 13 t2.place from HR6.out)
            have hgl : g < w.heap.size := (ownsRow_lt HRAW.out.roots g rfl).2
            have hgq : g ≠ w.heap.size + 1 := by omega
            clear hv hcell
            obtain ⟨n, hln⟩ : ∃ n, (t :: t2 :: r2).length = n + 2 := ⟨r2.length, by simp⟩
            rw [hln] at *
            generalize t2.place = pl at *
            have hn1 : (1 : Int) < ((n + 2 : Nat) : Int) := by omega
            have hn0 : ¬ ((n + 2 : Nat) : Int) = 0 := by omega
            have hnb : (((n + 2 : Nat) : Int) == 0) = false := by simp; omega
            clear hln
            go_wp2_with fail
            go_region
            all_goals
              simp only [Exit.then]
              apply_assumption
              go_wp2
              exact rm_ret HE.out ⟨rfl, rfl, rfl, rfl, rfl⟩ HK6.out.res.put (bel_put HK6.out.bel (Nat.le_succ _) _ _ _).drew
          | nil =>
            have HE := Lib.hid (root_one HNM.out t)
            simp only [List.length_singleton] at *
            go_wp2_with fail
            refine rme_wp (S := S) HRAW.out ⟨rfl, rfl, rfl, rfl, rfl, rfl⟩ HK6.out HS6.out hq3 ?_ ?_
            · intro c7 w7 hno hc7 hk7
              have HF := Lib.hid (show res = .no 17 t.place by rw [HR6.out, HE.out]; rw [show idx ((List.map Prod.fst rs).map recNm) (tokT t) = none from hno]; rfl)
              have HK7 := Lib.hid hk7
              obtain ⟨u7, rfl⟩ := hc7.lit
              obtain ⟨g, cc, hv, hcc, hg, hcell⟩ := row_el tokCells 3 (fun _ => rfl) (row_keep hk7.bel HRAW.out.roots) 0 (by simp)
              obtain ⟨rfl, rfl⟩ := slice_inj hv
              have x2 : w7.cell? ⟨g, 2, none⟩ = some (.int .i64 t.place) := hcell 2 (by omega)
              obtain ⟨_, p0, p1, p2, _⟩ := blk3 hk7.raw
              obtain ⟨_, _, _, _, f0, f1, f2⟩ := blk3 hk7.res
              have hone : (0 : Int) < (1 : Int) := by decide
              have hgl : g < w.heap.size := (ownsRow_lt HRAW.out.roots g rfl).2
              have hgq : g ≠ w.heap.size + 1 := by omega
              generalize t.place = pl at *
              clear hc7 hk7 hno hv hcell
              simp only [Exit.inBlock, Exit.then]
              apply_assumption
              go_wp2_with fail
              go_region
              all_goals
                simp only [Exit.then]
                apply_assumption
                go_wp2
                exact rm_ret HF.out ⟨rfl, rfl, rfl, rfl, rfl⟩ HK7.out.res.put (bel_put HK7.out.bel (Nat.le_succ _) _ _ _).drew
            · intro c7 w7 i hyes hc7 hr7 hrows hb7
              have HF := Lib.hid (show res = .ok ⟨ss.map Prod.fst, es.map Prod.fst, i⟩ by rw [HR6.out, HE.out]; rw [show idx ((List.map Prod.fst rs).map recNm) (tokT t) = some i from hyes]; rfl)
              obtain ⟨u7, rfl⟩ := hc7.lit
              obtain ⟨_, c0, c1, c2, _⟩ := blk3 hr7
              obtain ⟨a1, b1, a2, b2, rfl, rfl⟩ := hrows.forms
              simp only [Exit.inBlock, Exit.then]
              refine bodyPost_ret (v := .tuple #[.agg #[.slice a1 ss.length b1, .slice a2 es.length b2, .int .i64 i], .int .i64 0, .int .i64 0]) (by simp [results, Tryz.results28, go_sem, c0, c1, c2]) rfl ?_
              rw [HF.out]
              exact ⟨hb7, ss, es, _, _, rfl, rfl, rfl, hrows.base (by omega)⟩
      · intro c6 w6 code p hno hc6 hr6 hb6
        simp only [Exit.inBlock, Exit.then]
        exact rm_ret (by rw [HM.out, HM1.out, mbind_ok, HM2.out, mbind_ok, hno]; rfl) hc6 hr6 hb6
    · intro c3 w3 code p hno hc3 hr3 hb3
      simp only [Exit.inBlock, Exit.then]
      exact rm_ret (by rw [HM.out, HM1.out, mbind_ok, hno]; rfl) hc3 hr3 hb3
  · intro c2 w2 code p hno hc2 hr2 hb2
    simp only [Exit.inBlock, Exit.then]
    exact rm_ret (by rw [HM.out, hno]; rfl) hc2 hr2 hb2
end Go.Proofs.YtleclhnlojalbaaGreatDoor
namespace Go.Proofs.YtleclhnlojalbaaGreatDoor
open Go.ChangeShapes Go.WideShapes Go.ChangeAt Go.RowKit Go.Shelf

structure Dp (w : World) (P g c : Nat) (l r : List Tok) (F : Int × Nat) : Prop where
  blk : w.heap[P]? = some (.cells #[.slice (some ⟨g, 0, none⟩) l.length c, .int .i64 (l.length - r.length : Nat), .int .i64 F.1, .int .i64 F.2] 107 (0, 0))
  suf : l.drop (l.length - r.length) = r
  len : r.length ≤ l.length
  glt : g < w.heap.size
  gne : g ≠ P
  cells : ∀ k, k < l.length * 3 → w.cell? ⟨g, k, none⟩ = (toksCells l)[k]?
  cap : l.length ≤ c ∧ c ≤ maxLen
  ends : Ends r
  byt : ∀ t ∈ l, ∀ z ∈ t.text, 0 ≤ z ∧ z ≤ 255
  few : l.length ≤ 2048
theorem Dp.keep {w W : World} {P g c : Nat} {l r : List Tok} {F : Int × Nat} (h : Dp w P g c l r F) (hb : Below w.heap.size w W) : Dp W P g c l r F :=
  ⟨(hb.block P (blk_lt h.blk)).trans h.blk, h.suf, h.len, Nat.lt_of_lt_of_le h.glt hb.size, h.gne, fun k hk => (hb.cell (p := ⟨g, k, none⟩) h.glt).trans (h.cells k hk), h.cap, h.ends, h.byt, h.few⟩
theorem Dp.other {w W : World} {P X g c : Nat} {l r : List Tok} {F : Int × Nat} (h : Dp w P g c l r F) (hb : Exc X w.heap.size w W) (hP : P ≠ X) (hg : g ≠ X) : Dp W P g c l r F :=
  ⟨(hb.block P (blk_lt h.blk) hP).trans h.blk, h.suf, h.len, Nat.lt_of_lt_of_le h.glt hb.size, h.gne, fun k hk => (hb.cell (p := ⟨g, k, none⟩) h.glt hg).trans (h.cells k hk), h.cap, h.ends, h.byt, h.few⟩
theorem Dp.deep {w W : World} {P g c B : Nat} {l r : List Tok} {F : Int × Nat} (h : Dp w P g c l r F) (hb : Below B w W) (hP : P < B) (hg : g < B) : Dp W P g c l r F :=
  ⟨(hb.block P hP).trans h.blk, h.suf, h.len, Nat.lt_of_lt_of_le h.glt hb.size, h.gne, fun k hk => (hb.cell (p := ⟨g, k, none⟩) hg).trans (h.cells k hk), h.cap, h.ends, h.byt, h.few⟩
theorem Dp.alloc {w : World} {P g c : Nat} {l r : List Tok} {F : Int × Nat} (h : Dp w P g c l r F) (o : Obj) : Dp (w.alloc o) P g c l r F := h.keep ((Below.refl _ _).alloc (Nat.le_refl _) _)
theorem Dp.set3 {w : World} {P g c : Nat} {l r : List Tok} {F : Int × Nat} (h : Dp w P g c l r F) {X : Nat} (hP : P ≠ X) (hg : g ≠ X) (x y z : Value) : Dp (((w.setCell ⟨X, 0, none⟩ x).setCell ⟨X, 1, none⟩ y).setCell ⟨X, 2, none⟩ z) P g c l r F := h.other (exc_set3 w X x y z) hP hg
theorem Dp.set1 {w : World} {P g c : Nat} {l r : List Tok} {F : Int × Nat} (h : Dp w P g c l r F) {X : Nat} (hP : P ≠ X) (hg : g ≠ X) (i : Nat) (x : Value) : Dp (w.setCell ⟨X, i, none⟩ x) P g c l r F := h.other (exc_set w X i x) hP hg
theorem blk4 {w : World} {g : Nat} {x y z u : Value} {t : TypeId} (h : w.heap[g]? = some (.cells #[x, y, z, u] t (0, 0))) :
    g < w.heap.size ∧ w.cell? ⟨g, 0, none⟩ = some x ∧ w.cell? ⟨g, 1, none⟩ = some y ∧ w.cell? ⟨g, 2, none⟩ = some z ∧ w.cell? ⟨g, 3, none⟩ = some u ∧ w.frozen? ⟨g, 1, none⟩ = false ∧ w.frozen? ⟨g, 2, none⟩ = false ∧ w.frozen? ⟨g, 3, none⟩ = false :=
  ⟨blk_lt h, (blk_cell h 0).trans rfl, (blk_cell h 1).trans rfl, (blk_cell h 2).trans rfl, (blk_cell h 3).trans rfl, blk_frozen h 1, blk_frozen h 2, blk_frozen h 3⟩
theorem Dp.next {w : World} {P g c : Nat} {l r : List Tok} {F : Int × Nat} (h : Dp w P g c l r F) :
    l.length - r.length < l.length ∧ w.cell? ⟨g, (l.length - r.length) * 3, none⟩ = some (.int .i64 (hd r).kind) ∧ w.cell? ⟨g, (l.length - r.length) * 3 + 1, none⟩ = some (.string (strOfNums (hd r).text)) ∧ w.cell? ⟨g, (l.length - r.length) * 3 + 2, none⟩ = some (.int .i64 (hd r).place) :=
  tok_cell h.cells h.glt (Below.refl _ _) _ _ _ (h.suf.trans h.ends.cons)
theorem Dp.mem {w : World} {P g c : Nat} {l r : List Tok} {F : Int × Nat} (h : Dp w P g c l r F) : hd r ∈ l := by
  have h1 : ∀ q : List Tok, Ends q → hd q ∈ q := fun q hq => by
    cases q with
    | nil => exact hq.elim
    | cons t q => exact List.mem_cons_self
  have h2 := h1 r h.ends
  have h3 : ∀ x, x ∈ r → x ∈ l := fun x hx => List.mem_of_mem_drop (h.suf ▸ hx)
  exact h3 _ h2
theorem Dp.taken {w W : World} {P g c : Nat} {l r : List Tok} {F : Int × Nat} (h : Dp w P g c l r F) (h0 : (hd r).kind ≠ 0) (hb : Exc P w.heap.size w W)
    (hblk : W.heap[P]? = some (.cells #[.slice (some ⟨g, 0, none⟩) l.length c, .int .i64 (((l.length - r.length : Nat) : Int) + 1), .int .i64 F.1, .int .i64 F.2] 107 (0, 0))) : Dp W P g c l r.tail F := by
  have hl := h.ends.len
  have hl2 := h.len
  have e : l.length - r.tail.length = l.length - r.length + 1 := by omega
  refine ⟨?_, ?_, by omega, Nat.lt_of_lt_of_le h.glt hb.size, h.gne, fun k hk => (hb.cell (p := ⟨g, k, none⟩) h.glt h.gne).trans (h.cells k hk), h.cap, h.ends.tail h0, h.byt, h.few⟩
  · rw [hblk, e]
    rfl
  · rw [e, ← List.drop_drop, h.suf]
    cases r with
    | nil => exact h.ends.elim
    | cons t q => rfl
theorem Dp.faulted {w W : World} {P g c : Nat} {l r : List Tok} {F F' : Int × Nat} (h : Dp w P g c l r F) (hb : Exc P w.heap.size w W)
    (hblk : W.heap[P]? = some (.cells #[.slice (some ⟨g, 0, none⟩) l.length c, .int .i64 (l.length - r.length : Nat), .int .i64 F'.1, .int .i64 F'.2] 107 (0, 0))) : Dp W P g c l r F' :=
  ⟨hblk, h.suf, h.len, Nat.lt_of_lt_of_le h.glt hb.size, h.gne, fun k hk => (hb.cell (p := ⟨g, k, none⟩) h.glt h.gne).trans (h.cells k hk), h.cap, h.ends, h.byt, h.few⟩
set_option maxRecDepth 100000 in
theorem dhere_any (w : World) (P g c : Nat) (l r : List Tok) (F : Int × Nat) (h : Dp w P g c l r F) :
    Calls Tryz.prog 50 #[.pointer (some ⟨P, 0, none⟩)] w fun e w' => e = .returned (tokV (hd r)) ∧ Below w.heap.size w w' := by
  have hZ := heap_alloc_new w (.cells #[.int .i64 0, .string ⟨#[]⟩, .int .i64 0] 109)
  have HZ := Lib.hid hZ
  have hbA : Below w.heap.size w (w.alloc (.cells #[.int .i64 0, .string ⟨#[]⟩, .int .i64 0] 109)) := (Below.refl _ _).alloc (Nat.le_refl _) _
  have HB := Lib.hid hbA
  have h1 := h.keep hbA
  obtain ⟨hP, r0, r1, _⟩ := blk4 h1.blk
  obtain ⟨hk, x0, x1, x2⟩ := h1.next
  have hg := h1.glt
  have hlen := h.few
  clear hZ hbA h1 h
  unfold tokV
  generalize l.length - r.length = j at *
  generalize hd r = t at *
  go_enter Tryz.func50, Tryz.ntmps50
  go_upto_region 1 with (fail)
  generalize w.alloc (.cells #[.int .i64 0, .string ⟨#[]⟩, .int .i64 0] 109) = W1 at *
  obtain ⟨hz, z0, z1, z2, y0, y1, y2⟩ := blk3 HZ.out
  go_region_with (fail)
  all_goals
    go_wp2
    refine post_gen (fun Wf => Wf.heap[w.heap.size]? = some (.cells #[.int .i64 t.kind, .string (strOfNums t.text), .int .i64 t.place] 109 (0, 0)) ∧ Below w.heap.size w Wf) ⟨?_, ?_⟩ ?_
    · exact blk_set3 (w := W1) HZ.out _ _ _
    · exact (((HB.out.setCell (p := ⟨w.heap.size, 0, none⟩) (Nat.le_refl _) _).setCell (p := ⟨w.heap.size, 1, none⟩) (Nat.le_refl _) _).setCell (p := ⟨w.heap.size, 2, none⟩) (Nat.le_refl _) _).drew
    · rintro Wf ⟨e1, e2⟩
      obtain ⟨_, c0, c1, c2, _⟩ := blk3 e1
      exact bodyPost_ret (v := .agg #[.int .i64 t.kind, .string (strOfNums t.text), .int .i64 t.place]) (by simp [results, Tryz.results50, go_sem, c0, c1, c2]) rfl ⟨rfl, e2⟩
/-! ### where the parser is -/
inductive Sto where
  | go (r : List Tok) : Sto
  | fell (c : Int) (p : Nat) : Sto
def DpS (w : World) (P g c : Nat) (l : List Tok) : Sto → Prop
  | .go r => Dp w P g c l r (0, 0)
  | .fell c' p => c' ≠ 0 ∧ ∃ r, Dp w P g c l r (c', p)
def isS (k : Int) (s : List Int) : Sto → Bool
  | .go r => isT k s r
  | .fell _ _ => false
def Sto.step {α : Type} (f : List Tok → Res α) : Sto → Sto
  | .go r => match f r with
    | .ok _ r' => .go r'
    | .no c p => .fell c p
  | .fell c p => .fell c p
theorem DpS.form {w : World} {P g c : Nat} {l : List Tok} {st : Sto} (h : DpS w P g c l st) : ∃ r F, Dp w P g c l r F ∧ ((st = .go r ∧ F = (0, 0)) ∨ (st = .fell F.1 F.2 ∧ F.1 ≠ 0)) := by
  cases st with
  | go r => exact ⟨r, _, h, .inl ⟨rfl, rfl⟩⟩
  | fell c' p => exact ⟨_, _, h.2.choose_spec, .inr ⟨rfl, h.1⟩⟩
theorem DpS.keep {w W : World} {P g c : Nat} {l : List Tok} {st : Sto} (h : DpS w P g c l st) (hb : Below w.heap.size w W) : DpS W P g c l st := by
  cases st with
  | go r => exact Dp.keep h hb
  | fell c' p => exact ⟨h.1, _, h.2.choose_spec.keep hb⟩
theorem DpS.other {w W : World} {P X g c : Nat} {l : List Tok} {st : Sto} (h : DpS w P g c l st) (hb : Exc X w.heap.size w W) (hP : P ≠ X) (hg : g ≠ X) : DpS W P g c l st := by
  cases st with
  | go r => exact Dp.other h hb hP hg
  | fell c' p => exact ⟨h.1, _, h.2.choose_spec.other hb hP hg⟩
theorem DpS.deep {w W : World} {P g c B : Nat} {l : List Tok} {st : Sto} (h : DpS w P g c l st) (hb : Below B w W) (hP : P < B) (hg : g < B) : DpS W P g c l st := by
  cases st with
  | go r => exact Dp.deep h hb hP hg
  | fell c' p => exact ⟨h.1, _, h.2.choose_spec.deep hb hP hg⟩
theorem DpS.facts {w : World} {P g c : Nat} {l : List Tok} {st : Sto} (h : DpS w P g c l st) : P < w.heap.size ∧ g < w.heap.size ∧ g ≠ P := by
  obtain ⟨r, F, hd, _⟩ := h.form
  exact ⟨blk_lt hd.blk, hd.glt, hd.gne⟩
set_option maxRecDepth 100000 in
theorem dbad_go (w : World) (P g c : Nat) (l r : List Tok) (code : Int) (h : Dp w P g c l r (0, 0)) :
    Calls Tryz.prog 56 #[.pointer (some ⟨P, 0, none⟩), .int .i64 code] w fun e w' => e = .returned (.tuple #[]) ∧ Dp w' P g c l r (code, (hd r).place) ∧ Exc P w.heap.size w w' := by
  obtain ⟨hP, r0, r1, r2, r3, s1, s2, s3⟩ := blk4 h.blk
  have HD := Lib.hid h
  have hg := h.glt
  have hf := fld2
  simp only at r2 r3
  go_enter Tryz.func56, Tryz.ntmps56
  go_upto_region 2 with (fail)
  have HX1 := Lib.hid (exc_set w P 2 (.int .i64 code))
  have HD1 := Lib.hid (HD.out.faulted (F' := (code, 0)) HX1.out ((blk_set HD.out.blk 2 _).trans rfl))
  clear r0 r1 r2 r3 s1 s2 s3 h
  generalize w.setCell ⟨P, 2, none⟩ (.int .i64 code) = W1 at *
  go_wp2_with fail
  refine (dhere_any _ P g c l r _ HD1.out).mono ?_
  rintro e W2 ⟨rfl, hb2⟩
  have HD2 := Lib.hid (HD1.out.keep hb2)
  have HX2 := Lib.hid (HX1.out.then (.of_below hb2))
  obtain ⟨hP2, r0, r1, r2, r3, s1, s2, s3⟩ := blk4 HD2.out.blk
  clear hb2 HX1 HD1
  unfold tokV
  go_wp2
  first | refine bodyPost_end (v := .tuple #[]) (by simp [results, Tryz.results56, go_sem]) rfl ?_ | refine bodyPost_ret (v := .tuple #[]) (by simp [results, Tryz.results56, go_sem]) rfl ?_
  exact ⟨rfl, HD2.out.faulted (exc_set W2 P 3 _) ((blk_set HD2.out.blk 3 _).trans rfl), HX2.out.setCell (p := ⟨P, 3, none⟩) (.inl rfl) _⟩
end Go.Proofs.YtleclhnlojalbaaGreatDoor
namespace Go.Proofs.YtleclhnlojalbaaGreatDoor
open Go.ChangeShapes Go.WideShapes Go.ChangeAt Go.RowKit Go.Shelf

theorem step_ok {α : Type} {f : List Tok → Res α} {r r' : List Tok} {a : α} (h : f r = .ok a r') : (Sto.go r).step f = .go r' := by
  simp only [Sto.step, h]
theorem step_no {α : Type} {f : List Tok → Res α} {r : List Tok} {c : Int} {p : Nat} (h : f r = .no c p) : (Sto.go r).step f = .fell c p := by
  simp only [Sto.step, h]
def badS (code : Int) : Sto → Sto
  | .go r => .fell code (hd r).place
  | .fell c p => .fell c p
theorem dbad_any (w : World) (P g c : Nat) (l : List Tok) (st : Sto) (code : Int) (hcode : code ≠ 0) (h : DpS w P g c l st) :
    Calls Tryz.prog 56 #[.pointer (some ⟨P, 0, none⟩), .int .i64 code] w fun e w' => e = .returned (.tuple #[]) ∧ DpS w' P g c l (badS code st) ∧ Exc P w.heap.size w w' := by
  cases st with
  | go r => exact (dbad_go w P g c l r code h).mono fun e w' ⟨he, hd', hx⟩ => ⟨he, ⟨hcode, r, hd'⟩, hx⟩
  | fell c' p =>
    obtain ⟨h0, r, hd'⟩ := h
    have HD := Lib.hid hd'
    obtain ⟨hP, r0, r1, r2, r3, _⟩ := blk4 hd'.blk
    simp only at r2 r3
    have t0 : (c' == 0) = false := by simp [h0]
    have H0 := Lib.hid h0
    clear h0 hd' hcode
    go_enter Tryz.func56, Tryz.ntmps56
    go_wp2
    first | refine bodyPost_end (v := .tuple #[]) (by simp [results, Tryz.results56, go_sem]) rfl ?_ | refine bodyPost_ret (v := .tuple #[]) (by simp [results, Tryz.results56, go_sem]) rfl ?_
    exact ⟨rfl, ⟨H0.out, r, HD.out⟩, Exc.refl _ _ _⟩
theorem dis_any (w : World) (P g c : Nat) (l : List Tok) (st : Sto) (k : Int) (S : ByteArray) (s : List Int) (hs : bts S = s) (h : DpS w P g c l st) :
    Calls Tryz.prog 51 #[.pointer (some ⟨P, 0, none⟩), .int .i64 k, .string S] w fun e w' => e = .returned (.bool (isS k s st)) ∧ Below w.heap.size w w' := by
  cases st with
  | fell c' p =>
    obtain ⟨h0, r, hd'⟩ := h
    obtain ⟨hP, r0, r1, r2, r3, _⟩ := blk4 hd'.blk
    simp only at r2 r3
    have t0 : (c' == 0) = false := by simp [h0]
    clear h0 hd' hs
    go_enter Tryz.func51, Tryz.ntmps51
    go_wp2
    go_ret
    exact ⟨rfl, Below.refl _ _⟩
  | go r =>
    have HD : Hid (Dp w P g c l r (0, 0)) := Lib.hid h
    have HS := Lib.hid hs
    obtain ⟨hP, r0, r1, r2, r3, _⟩ := blk4 HD.out.blk
    simp only at r2 r3
    have hf := fld0
    have hf1 := fld1
    have HI := Lib.hid (str_eq (hd r).text S (HD.out.byt _ HD.out.mem))
    obtain ⟨b, hb⟩ : ∃ b, isT k s r = b := ⟨_, rfl⟩
    have HB := Lib.hid hb
    show Calls _ _ _ w fun e w' => e = .returned (.bool (isT k s r)) ∧ Below w.heap.size w w'
    rw [hb]
    clear h hs hb
    by_cases hk : (hd r).kind = k
    · have tk : ((hd r).kind == k) = true := by simp [hk]
      have HK := Lib.hid hk
      clear hk
      go_enter Tryz.func51, Tryz.ntmps51
      go_wp2_with fail
      refine (dhere_any _ P g c l r _ HD.out).mono ?_
      rintro e W1 ⟨rfl, hb1⟩
      have HB1 := Lib.hid hb1
      have HD1 := Lib.hid (HD.out.keep hb1)
      clear hb1
      unfold tokV
      go_wp2_with fail
      refine (dhere_any _ P g c l r _ HD1.out).mono ?_
      rintro e W2 ⟨rfl, hb2⟩
      have HB2 := Lib.hid (HB1.out.trans (hb2.mono HB1.out.size))
      clear hb2
      unfold tokV
      go_wp2
      go_ret
      refine ⟨ret_bool ?_, HB2.out⟩
      rw [← HB.out]
      unfold isT
      rw [HI.out, HS.out, decide_eq_true HK.out, Bool.true_and]
    · have tk : ((hd r).kind == k) = false := by simp [hk]
      have HK := Lib.hid hk
      clear hk
      go_enter Tryz.func51, Tryz.ntmps51
      go_wp2_with fail
      refine (dhere_any _ P g c l r _ HD.out).mono ?_
      rintro e W1 ⟨rfl, hb1⟩
      have HB1 := Lib.hid hb1
      clear hb1
      unfold tokV
      go_wp2
      go_ret
      refine ⟨ret_bool ?_, HB1.out⟩
      rw [← HB.out]
      unfold isT
      rw [decide_eq_false HK.out, Bool.false_and]
theorem dp_next {w : World} {P g c : Nat} {l r : List Tok} (h : Dp w P g c l r (0, 0)) (h0 : (hd r).kind ≠ 0) : Dp (w.setCell ⟨P, 1, none⟩ (.int .i64 (((l.length - r.length : Nat) : Int) + 1))) P g c l r.tail (0, 0) :=
  h.taken h0 (exc_set w P 1 _) ((blk_set h.blk 1 _).trans rfl)
theorem dwant_any (w : World) (P g c : Nat) (l : List Tok) (st : Sto) (S : ByteArray) (s : List Int) (hs : bts S = s) (h : DpS w P g c l st) :
    Calls Tryz.prog 55 #[.pointer (some ⟨P, 0, none⟩), .string S] w fun e w' => e = .returned (.tuple #[]) ∧ DpS w' P g c l (st.step (wantR s)) ∧ Exc P w.heap.size w w' := by
  have HD := Lib.hid h
  have HI := Lib.hid (dis_any w P g c l st 4 S s hs h)
  obtain ⟨b, hb⟩ : ∃ b, isS 4 s st = b := ⟨_, rfl⟩
  rw [hb] at HI
  cases b
  · have HS : Hid (st.step (wantR s) = badS 11 st) := Lib.hid (by
      cases st with
      | fell c' p => rfl
      | go r =>
        exact step_no (c := 11) (p := (hd r).place) (by unfold wantR; rw [if_neg (by rw [show isT 4 s r = false from hb]; decide)]; rfl))
    rw [HS.out]
    clear hb hs h
    go_enter Tryz.func55, Tryz.ntmps55
    go_wp2_with fail
    refine HI.out.mono ?_
    rintro e W1 ⟨rfl, hb1⟩
    have HX1 := Lib.hid (Exc.of_below (R := P) hb1)
    have HB := Lib.hid (dbad_any W1 P g c l st 11 (by decide) (HD.out.keep hb1))
    clear hb1
    go_wp2_with fail
    refine HB.out.mono ?_
    rintro e W2 ⟨rfl, hd2, hx2⟩
    have HD2 := Lib.hid hd2
    have HX2 := Lib.hid (HX1.out.then hx2)
    clear hd2 hx2
    go_wp2
    first | refine bodyPost_end (v := .tuple #[]) (by simp [results, Tryz.results55, go_sem]) rfl ?_ | refine bodyPost_ret (v := .tuple #[]) (by simp [results, Tryz.results55, go_sem]) rfl ?_
    exact ⟨rfl, HD2.out, HX2.out⟩
  · cases st with
    | fell c' p => cases hb
    | go r =>
      have hb' : isT 4 s r = true := hb
      have HK := Lib.hid (show (hd r).kind ≠ 0 by rw [(isT_kind hb').1]; decide)
      have HS : Hid ((Sto.go r).step (wantR s) = .go r.tail) := Lib.hid (by
        exact step_ok (by unfold wantR; rw [if_pos hb']))
      rw [HS.out]
      clear hb hb' hs h
      go_enter Tryz.func55, Tryz.ntmps55
      go_wp2_with fail
      refine HI.out.mono ?_
      rintro e W1 ⟨rfl, hb1⟩
      have HX1 := Lib.hid (Exc.of_below (R := P) hb1)
      have HD1 : Hid (Dp W1 P g c l r (0, 0)) := Lib.hid (Dp.keep HD.out hb1)
      obtain ⟨hP, r0, r1, r2, r3, s1, s2, s3⟩ := blk4 HD1.out.blk
      have hfew := HD1.out.few
      have hn := HD1.out.len
      clear hb1
      go_wp2
      first | refine bodyPost_end (v := .tuple #[]) (by simp [results, Tryz.results55, go_sem]) rfl ?_ | refine bodyPost_ret (v := .tuple #[]) (by simp [results, Tryz.results55, go_sem]) rfl ?_
      exact ⟨rfl, dp_next HD1.out HK.out, HX1.out.setCell (p := ⟨P, 1, none⟩) (.inl rfl) _⟩
end Go.Proofs.YtleclhnlojalbaaGreatDoor
