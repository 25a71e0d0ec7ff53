/-
  The document's own Make: of what is written the schema, or the first fault and its place. Conditions: those that each theorem names.
-/
import Derived.Test.YtleclhnlojalbaaGreatDoorPkL43
namespace Go.Proofs.YtleclhnlojalbaaGreatDoor
open Go.ChangeShapes Go.WideShapes Go.ChangeAt Go.RowKit Go.Shelf

theorem SchRows.keep3 {base g i : Nat} {W : World} {ss : List (SRec × Value)} {es : List (SCho × Value)} {sv ev : Value} (h : SchRows base W ss es sv ev) (hg : g < base) (x : Value) : SchRows base (W.setCell ⟨g, i, none⟩ x) ss es sv ev :=
  ⟨ownsRow_setCell_below h.structs hg x, ownsRow_setCell_below h.enums hg x, fun q hq => ownsRow_setCell_below (h.fields q hq) hg x, fun q hq => ownsRow_setCell_below (h.names q hq) hg x⟩
def RmEAt (w : World) (rs : List (RRec × Value)) (s : ByteArray) (S : Nat) (w0 : World) (c' : Act) (w' : World) : Prop := ∃ i : Nat, i ≤ rs.length ∧ RmE w.heap.size S i c' ∧ Below w0.heap.size w0 w' ∧ hasS ((recNms rs).take i) s = false
set_option maxRecDepth 100000 in
set_option maxHeartbeats 8000000 in
theorem rme_wp {Q : Exit → Act → World → Prop} {c : Act} {w w0 : World} {rb S : Nat} {ss : List (SRec × Value)} {es : List (SCho × Value)} {ssv esv : Value} {rs : List (RRec × Value)} {re : List (RCho × Value)} {t : Tok} {sv ev rv : Value} (h : RawRows rb w rs re [t] sv ev rv) (hc : RmE w.heap.size S 0 c) (hk : RmKeep w sv ev rv w0)
    (hs : SchAt S w0 ss es ssv esv 0) (hSq : w.heap.size + 2 ≤ S)
    (hQ : ∀ c' w', idx (recNms rs) (tokT t) = none → RmE w.heap.size S rs.length c' → RmKeep w sv ev rv w' → Q (.exit 20) c' w')
    (hR : ∀ c' w' (i : Nat), idx (recNms rs) (tokT t) = some i → RmR w.heap.size 0 0 c' → w'.heap[w.heap.size + 1]? = some (.cells #[ssv, esv, .int .i64 i] 32 (0, 0)) → SchRows (w.heap.size + 2) w' ss es ssv esv → Below w.heap.size w w' → Q .ret c' w') :
    Code.wp Tryz.prog (Code.loop (loopsRm 10)) Q c w0 := by
  refine wp_loop (RmEAt w rs (tokT t) S w0) (fun c' _ => rs.length - (intOf (c'.tmps.getD 27 undef)).toNat) ⟨0, Nat.zero_le _, hc, Below.refl _ _, rfl⟩ ?_
  clear hc
  rintro c wr ⟨i, hi, hc, hb, hn⟩
  have HRAW := Lib.hid h
  have HQ := Lib.hid hQ
  have HRT := Lib.hid hR
  have HK := Lib.hid (hk.below hb (by have := blk_lt hk.res; omega))
  have HS := Lib.hid (hs.below hb)
  have HN := Lib.hid hn
  have HB := Lib.hid hb
  obtain ⟨sa, sc, ea, ec, ra, rc, rfl, rfl, rfl⟩ := h.forms
  obtain ⟨a1, b1, a2, b2, rfl, rfl⟩ := hs.rows.forms
  have hfs := row_few h.structs
  obtain ⟨u, rfl⟩ := hc.lit
  obtain ⟨_, p0, p1, p2, _⟩ := blk3 HK.out.raw
  clear hc hQ hR hk hs h hb hn
  conv => arg 2; whnf
  by_cases hlt : i < rs.length
  · obtain ⟨g, cc, hv, hcc, hg, hcell⟩ := row_el recCells 3 (fun _ => rfl) (row_keep HK.out.bel HRAW.out.structs) i hlt
    obtain ⟨rfl, rfl⟩ := slice_inj hv
    obtain ⟨g2, cc2, hv2, hcc2, hg2, hcell2⟩ := row_el tokCells 3 (fun _ => rfl) (row_keep HK.out.bel HRAW.out.roots) 0 (by simp)
    obtain ⟨rfl, rfl⟩ := slice_inj hv2
    have x0 : wr.cell? ⟨g, i * 3, none⟩ = some (.string (strOfNums rs[i].1.name)) := hcell 0 (by omega)
    have y1 : wr.cell? ⟨g2, 1, none⟩ = some (.string (tokT t)) := hcell2 1 (by omega)
    have hst := has_take_succ (recNms rs) (tokT t) i (by rw [recNms_len]; exact hlt)
    have HD := Lib.hid (idx_at (recNms rs) (tokT t) i (by rw [recNms_len]; exact hlt) HN.out)
    rw [recNms_at rs i hlt] at hst HD
    have hii : (i : Int) < rs.length := by omega
    have hone : (0 : Int) < (([t] : List Tok).length : Int) := by simp
    simp only [List.length_singleton] at *
    generalize strOfNums rs[i].1.name = nm at *
    generalize hs : tokT t = s at *
    by_cases hq : nm = s
    · have HE := Lib.hid (HD.out hq)
      have t3 : (nm.toList == s.toList) = true := ba_yes hq
      clear hq hst hcell hcell2 hv hv2 HD
      go_wp2_with fail
      go_quiet (fail)
      have HW2 := Lib.hid (bel_drewN (Below.refl wr.heap.size wr) nq)
      have HK2 := Lib.hid (HK.out.below HW2.out (by have := blk_lt HK.out.res; omega))
      have HS2 := Lib.hid (HS.out.below HW2.out)
      generalize wr.drewN nq = W2 at *
      clear p0 p1 p2 x0 y1
      obtain ⟨hSl, z0, z1, z2, f0, f1, f2⟩ := blk3 HS2.out.blk
      have hb3 := (blk_set HS2.out.blk 2 (.int .i64 (i : Nat))).trans rfl
      go_upto_region 75 with (fail)
      have HS3 : Hid ((W2.setCell ⟨S, 2, none⟩ (.int .i64 (i : Nat))).heap[S]? = some (.cells #[.slice a1 ss.length b1, .slice a2 es.length b2, .int .i64 (i : Nat)] 32 (0, 0))) := Lib.hid hb3
      have HR3 : Hid (noRes (W2.setCell ⟨S, 2, none⟩ (.int .i64 (i : Nat))) (w.heap.size + 1)) := Lib.hid (blk_set_ne HK2.out.res (by show S ≠ _; omega) _)
      have HB3 := Lib.hid (HK2.out.bel.setCell (p := ⟨S, 2, none⟩) (by show _ ≤ S; omega) (.int .i64 (i : Nat)))
      have HRO3 := Lib.hid (SchRows.keep3 (i := 2) HS2.out.rows (Nat.lt_succ_self S) (.int .i64 (i : Nat)))
      generalize W2.setCell ⟨S, 2, none⟩ (.int .i64 (i : Nat)) = W3 at *
      clear z0 z1 z2 f0 f1 f2 hb3
      obtain ⟨_, z0, z1, z2, _⟩ := blk3 HS3.out
      obtain ⟨_, _, _, _, f0, f1, f2⟩ := blk3 HR3.out
      go_wp2
      refine HRT.out _ _ i HE.out ⟨rfl, rfl, rfl, rfl, rfl⟩ (blk_set3 HR3.out _ _ _) ?_ (bel_put HB3.out (Nat.le_succ _) _ _ _)
      exact (SchRows.keep3 (SchRows.keep3 (SchRows.keep3 HRO3.out (by omega) _) (by omega) _) (by omega) _).base (by omega)
    · have HI := Lib.hid (show hasS ((recNms rs).take (i + 1)) s = false by rw [hst, HN.out, Bool.false_or]; exact decide_eq_false fun e => hq e.symm)
      have t3 : (nm.toList == s.toList) = false := ba_no hq
      clear hq hst hcell hcell2 hv hv2 HD
      go_wp2_with fail
      go_quiet (fail)
      go_wp2_with fail
      refine ⟨⟨i + 1, by omega, ⟨rfl, rfl, rfl, rfl, rfl, rfl⟩, bel_drewN HB.out _, HI.out⟩, ?_⟩
      show rs.length - (intOf (.int .i64 ((i : Int) + 1))).toNat < rs.length - (intOf (.int .i64 (i : Int))).toNat
      simp [intOf]; omega
  · obtain rfl : i = rs.length := by omega
    have HI := Lib.hid (idx_no (recNms rs) (tokT t) (by have := HN.out; rwa [← recNms_len, List.take_length] at this))
    clear hlt
    go_wp2
    exact HQ.out _ _ HI.out ⟨rfl, rfl, rfl, rfl, rfl, rfl⟩ HK.out
end Go.Proofs.YtleclhnlojalbaaGreatDoor
namespace Go.Proofs.YtleclhnlojalbaaGreatDoor
open Go.ChangeShapes Go.WideShapes Go.ChangeAt Go.RowKit Go.Shelf

def RMakePost (w : World) (r : MRes Sch) (e : Ending) (w' : World) : Prop :=
  Below w.heap.size w w' ∧ match r with
  | .no c p => e = .returned (.tuple #[.agg #[.slice none 0 0, .slice none 0 0, .int .i64 0], .int .i64 c, .int .i64 (p : Nat)])
  | .ok S => ∃ ss es sv ev, e = .returned (.tuple #[.agg #[sv, ev, .int .i64 S.root], .int .i64 0, .int .i64 0]) ∧ S.structs = ss.map Prod.fst ∧ S.enums = es.map Prod.fst ∧ SchRows w.heap.size w' ss es sv ev
theorem rmake_no {w Wf : World} {c : Int} {p : Nat} (hb : Below w.heap.size w Wf) : RMakePost w (.no c p) (.returned (.tuple #[.agg #[.slice none 0 0, .slice none 0 0, .int .i64 0], .int .i64 c, .int .i64 (p : Nat)])) Wf := ⟨hb, rfl⟩
theorem choM_few {i : Nat} {m m' : List NEnt} {x : RCho} (h : choM i m x = .ok m') : x.names.length ≤ 32 := by
  unfold choM at h
  split at h
  · cases h
  · split at h
    · rename_i hc
      exact hc.2.2
    · cases h
theorem chosM_few : ∀ {i : Nat} {m m' : List NEnt} {l : List RCho}, chosM i m l = .ok m' → ∀ x ∈ l, x.names.length ≤ 32
  | _, _, _, [], _, x, hx => by cases hx
  | i, m, m', y :: r, h, x, hx => by
    rw [chosM] at h
    cases hy : choM i m y with
    | no c p =>
      rw [hy] at h
      cases h
    | ok m1 =>
      rw [hy, mbind_ok] at h
      rcases List.mem_cons.1 hx with rfl | hx
      · exact choM_few hy
      · exact chosM_few h x hx
theorem raw_make (rs : List (RRec × Value)) (re : List (RCho × Value)) (rt : List Tok) : makeM (rawOf rs re rt) = (chosM 0 basicN (re.map Prod.fst)).bind fun m1 => (recsM 0 m1 (rs.map Prod.fst)).bind fun m => (bodiesM m (re.map Prod.fst) (rs.map Prod.fst)).bind fun l => (rootM m rt).bind fun r => .ok ⟨l, (re.map Prod.fst).map choOut, r⟩ := rfl
theorem root_one {m : List NEnt} {es ss : List ByteArray} (h : Named m es ss) (t : Tok) : rootM m [t] = match idx ss (tokT t) with
    | some i => .ok i
    | none => .no 17 t.place := by
  rw [← h.root (tokT t), rootM]
  cases lookN m (tokT t) with
  | none => rfl
  | some q =>
    by_cases h13 : q.1 = 13
    · simp [h13]
    · simp [h13]
set_option maxRecDepth 100000 in
theorem rm_ret {w w' : World} {c' : Act} {code : Int} {p : Nat} {res : MRes Sch} (hres : res = .no code p) (hc : RmR w.heap.size code p c') (hr : noRes w' (w.heap.size + 1)) (hb : Below w.heap.size w w') : bodyPost Tryz.prog Tryz.f28 (RMakePost w res) .ret c' w' := by
  obtain ⟨u, rfl⟩ := hc.lit
  obtain ⟨_, c0, c1, c2, _⟩ := blk3 hr
  subst hres
  exact bodyPost_ret (v := .tuple #[.agg #[.slice none 0 0, .slice none 0 0, .int .i64 0], .int .i64 code, .int .i64 p]) (by simp [results, Tryz.results28, go_sem, c0, c1, c2]) rfl (rmake_no hb)
set_option maxRecDepth 100000 in
set_option maxHeartbeats 8000000 in
theorem rmake_any {w : World} {rb : Nat} {rs : List (RRec × Value)} {re : List (RCho × Value)} {rt : List Tok} {sv ev rv : Value} (h : RawRows rb w rs re rt sv ev rv) (hok : RawOk (rawOf rs re rt)) :
    Calls Tryz.prog 28 #[.agg #[sv, ev, rv]] w (RMakePost w (makeM (rawOf rs re rt))) := by
  obtain ⟨hb, hz1, hz2⟩ := two_blk w #[sv, ev, rv] #[.slice none 0 0, .slice none 0 0, .int .i64 0] 69 32
  have HM := Lib.hid (raw_make rs re rt)
  generalize makeM (rawOf rs re rt) = res at *
  have HRAW := Lib.hid h
  have HOK := Lib.hid hok
  have HK := Lib.hid (show RmKeep w sv ev rv _ from ⟨hb, hz1, hz2⟩)
  have hrt := row_few h.roots
  obtain ⟨sa, sc, ea, ec, ra, rc, rfl, rfl, rfl⟩ := h.forms
  clear h hok hb hz1 hz2
  go_enter Tryz.func28, Tryz.ntmps28
  go_upto_region 2 with (fail)
  generalize (w.alloc (.cells #[.slice sa rs.length sc, .slice ea re.length ec, .slice ra rt.length rc] 69)).alloc (.cells #[.slice none 0 0, .slice none 0 0, .int .i64 0] 32) = W0 at *
  go_wp2_with fail
  refine rma_wp (m0 := basicN) (U0 := []) (e0 := 0) (a0 := none) HRAW.out (by simp [basicS]) (by simp) ⟨rfl, rfl, rfl, rfl, rfl, rfl⟩ HK.out (World.ownsRow_nil _ _ _ _) ?_ ?_
  · intro c2 w2 a2 e2 m1 hm1 hl8 hc2 hk2 hu2
    have HM1 := Lib.hid hm1
    have HK2 := Lib.hid hk2
    have HU2 := Lib.hid hu2
    obtain ⟨u2, rfl⟩ := hc2.lit
    clear hm1 hc2 hk2 hu2 HK
    simp only [Exit.inBlock, Exit.then]
    apply_assumption
    go_wp2_with fail
    refine rmb_wp (m0 := m1) (U0 := choNms re) (e0 := e2) (a0 := a2) HRAW.out ?_ (by rw [choNms_len]; exact hl8) ⟨rfl, rfl, rfl, rfl, by simp [choNms_len], rfl⟩ HK2.out (by rw [choNms_len]; have := HU2.out; simpa using this) ?_ ?_
    · obtain ⟨h1, _⟩ := chosM_ents HM1.out
      rw [h1, List.map_append, ents_names]
      rfl
    · intro c3 w3 a3 e3 m hm hl16 hc3 hk3 hu3
      have HM2 := Lib.hid hm
      have HK3 := Lib.hid hk3
      have HNM := Lib.hid (named_of HM1.out hm)
      have HGD := Lib.hid (recsM_good (chosM_good (ne := re.length) (basic_good _) (by simp) HM1.out) hm)
      have HFW := Lib.hid (chosM_few HM1.out)
      obtain ⟨u3, rfl⟩ := hc3.lit
      clear hm hc3 hk3 hu3 HK2 HU2
      simp only [Exit.inBlock, Exit.then]
      apply_assumption
      go_upto_region 37 with (fail)
      have hb4 : Below w3.heap.size w3 (w3.alloc (.cells #[.slice none 0 0, .slice none 0 0, .int .i64 0] 32)) := (Below.refl _ _).alloc (Nat.le_refl _) _
      have hq3 : w.heap.size + 2 ≤ w3.heap.size := blk_lt HK3.out.res
      have HK4 := Lib.hid (HK3.out.below hb4 hq3)
      have HS4 : Hid (SchAt w3.heap.size (w3.alloc (.cells #[.slice none 0 0, .slice none 0 0, .int .i64 0] 32)) [] [] (.slice none 0 0) (.slice none 0 0) 0) := Lib.hid ⟨heap_alloc_new w3 _, World.ownsRow_nil _ _ _ _, World.ownsRow_nil _ _ _ _, (fun q hq => by cases hq), (fun q hq => by cases hq)⟩
      generalize w3.alloc (.cells #[.slice none 0 0, .slice none 0 0, .int .i64 0] 32) = W4 at *
      generalize w3.heap.size = S at *
      clear hb4 HK3
      go_wp2_with fail
      refine rmc_wp (S := S) HRAW.out ⟨rfl, rfl, rfl, rfl, rfl, rfl⟩ HK4.out HS4.out hq3 (fun p hp => Nat.le_trans (HFW.out p.1 (List.mem_map_of_mem hp)) (by decide)) hl8 ?_
      intro c5 w5 es esv hc5 hk5 hs5 hes
      have HK5 := Lib.hid hk5
      have HS5 := Lib.hid hs5
      have HES := Lib.hid hes
      obtain ⟨u5, rfl⟩ := hc5.lit
      clear hc5 hk5 hs5 hes HK4 HS4
      simp only [Exit.inBlock, Exit.then]
      apply_assumption
      go_wp2_with fail
      refine rmd_wp (S := S) HRAW.out HNM.out HGD.out.1 ⟨rfl, rfl, rfl, rfl, rfl, rfl⟩ HK5.out HS5.out hq3 (fun p hp => Nat.le_trans (HGD.out.2 p.1 (List.mem_map_of_mem hp)) (by decide)) hl16 (fun p hp f hf => ((HOK.out.st p.1 (List.mem_map_of_mem hp)).2 f hf).1) ?_ ?_
      · intro c6 w6 ss ssv hc6 hk6 hs6 hbod
        have HK6 := Lib.hid hk6
        have HS6 := Lib.hid hs6
        have HR6 : Hid (res = (rootM m rt).bind fun r => .ok ⟨ss.map Prod.fst, es.map Prod.fst, r⟩) := Lib.hid (by rw [HM.out, HM1.out, mbind_ok, HM2.out, mbind_ok, hbod, mbind_ok, HES.out])
        obtain ⟨u6, rfl⟩ := hc6.lit
        obtain ⟨_, p0, p1, p2, _⟩ := blk3 hk6.raw
        obtain ⟨_, _, _, _, f0, f1, f2⟩ := blk3 hk6.res
        clear hc6 hk6 hs6 hbod HK5 HS5 HM HM1 HM2
        simp only [Exit.inBlock, Exit.then]
        apply_assumption
        cases rt with
        | nil =>
          have HE := Lib.hid (show res = .no 17 0 from HR6.out)
          simp only [List.length_nil] at *
          go_wp2
          exact rm_ret HE.out ⟨rfl, rfl, rfl, rfl, rfl⟩ HK6.out.res.put (bel_put HK6.out.bel (Nat.le_succ _) _ _ _)
        | cons t r =>
          cases r with
          | cons t2 r2 =>
            obtain ⟨g, cc, hv, hcc, hg, hcell⟩ := row_el tokCells 3 (fun _ => rfl) (row_keep HK6.out.bel HRAW.out.roots) 1 (by simp)
            obtain ⟨rfl, rfl⟩ := slice_inj hv
            have x2 : w6.cell? ⟨g, 5, none⟩ = some (.int .i64 t2.place) := hcell 2 (by omega)
            have HE := Lib.hid (show res = .no 13 t2.place from HR6.out)
            have hgl : g < w.heap.size := (ownsRow_lt HRAW.out.roots g rfl).2
            have hgq : g ≠ w.heap.size + 1 := by omega
            clear hv hcell
            obtain ⟨n, hln⟩ : ∃ n, (t :: t2 :: r2).length = n + 2 := ⟨r2.length, by simp⟩
            rw [hln] at *
            generalize t2.place = pl at *
            have hn1 : (1 : Int) < ((n + 2 : Nat) : Int) := by omega
            have hn0 : ¬ ((n + 2 : Nat) : Int) = 0 := by omega
            have hnb : (((n + 2 : Nat) : Int) == 0) = false := by simp; omega
            clear hln
            go_wp2_with fail
            go_region
            all_goals
              simp only [Exit.then]
              apply_assumption
              go_wp2
              exact rm_ret HE.out ⟨rfl, rfl, rfl, rfl, rfl⟩ HK6.out.res.put (bel_put HK6.out.bel (Nat.le_succ _) _ _ _).drew
          | nil =>
            have HE := Lib.hid (root_one HNM.out t)
            simp only [List.length_singleton] at *
            go_wp2_with fail
            refine rme_wp (S := S) HRAW.out ⟨rfl, rfl, rfl, rfl, rfl, rfl⟩ HK6.out HS6.out hq3 ?_ ?_
            · intro c7 w7 hno hc7 hk7
              have HF := Lib.hid (show res = .no 17 t.place by rw [HR6.out, HE.out]; rw [show idx ((List.map Prod.fst rs).map recNm) (tokT t) = none from hno]; rfl)
              have HK7 := Lib.hid hk7
              obtain ⟨u7, rfl⟩ := hc7.lit
              obtain ⟨g, cc, hv, hcc, hg, hcell⟩ := row_el tokCells 3 (fun _ => rfl) (row_keep hk7.bel HRAW.out.roots) 0 (by simp)
              obtain ⟨rfl, rfl⟩ := slice_inj hv
              have x2 : w7.cell? ⟨g, 2, none⟩ = some (.int .i64 t.place) := hcell 2 (by omega)
              obtain ⟨_, p0, p1, p2, _⟩ := blk3 hk7.raw
              obtain ⟨_, _, _, _, f0, f1, f2⟩ := blk3 hk7.res
              have hone : (0 : Int) < (1 : Int) := by decide
              have hgl : g < w.heap.size := (ownsRow_lt HRAW.out.roots g rfl).2
              have hgq : g ≠ w.heap.size + 1 := by omega
              generalize t.place = pl at *
              clear hc7 hk7 hno hv hcell
              simp only [Exit.inBlock, Exit.then]
              apply_assumption
              go_wp2_with fail
              go_region
              all_goals
                simp only [Exit.then]
                apply_assumption
                go_wp2
                exact rm_ret HF.out ⟨rfl, rfl, rfl, rfl, rfl⟩ HK7.out.res.put (bel_put HK7.out.bel (Nat.le_succ _) _ _ _).drew
            · intro c7 w7 i hyes hc7 hr7 hrows hb7
              have HF := Lib.hid (show res = .ok ⟨ss.map Prod.fst, es.map Prod.fst, i⟩ by rw [HR6.out, HE.out]; rw [show idx ((List.map Prod.fst rs).map recNm) (tokT t) = some i from hyes]; rfl)
              obtain ⟨u7, rfl⟩ := hc7.lit
              obtain ⟨_, c0, c1, c2, _⟩ := blk3 hr7
              obtain ⟨a1, b1, a2, b2, rfl, rfl⟩ := hrows.forms
              simp only [Exit.inBlock, Exit.then]
              refine bodyPost_ret (v := .tuple #[.agg #[.slice a1 ss.length b1, .slice a2 es.length b2, .int .i64 i], .int .i64 0, .int .i64 0]) (by simp [results, Tryz.results28, go_sem, c0, c1, c2]) rfl ?_
              rw [HF.out]
              exact ⟨hb7, ss, es, _, _, rfl, rfl, rfl, hrows.base (by omega)⟩
      · intro c6 w6 code p hno hc6 hr6 hb6
        simp only [Exit.inBlock, Exit.then]
        exact rm_ret (by rw [HM.out, HM1.out, mbind_ok, HM2.out, mbind_ok, hno]; rfl) hc6 hr6 hb6
    · intro c3 w3 code p hno hc3 hr3 hb3
      simp only [Exit.inBlock, Exit.then]
      exact rm_ret (by rw [HM.out, HM1.out, mbind_ok, hno]; rfl) hc3 hr3 hb3
  · intro c2 w2 code p hno hc2 hr2 hb2
    simp only [Exit.inBlock, Exit.then]
    exact rm_ret (by rw [HM.out, hno]; rfl) hc2 hr2 hb2
end Go.Proofs.YtleclhnlojalbaaGreatDoor
