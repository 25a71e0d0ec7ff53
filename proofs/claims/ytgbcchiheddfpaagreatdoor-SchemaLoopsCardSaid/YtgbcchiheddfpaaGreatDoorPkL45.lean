/-
  The frame of the package schema's Make where some of its slots are known, and written out. No run stands in this text. (Made by program: wip/tools/gen-mkf.py.)
-/
import Derived.Test.YtgbcchiheddfpaaGreatDoorPkL11
import Derived.Test.YtgbcchiheddfpaaGreatDoorPkL17
import Derived.Test.YtgbcchiheddfpaaGreatDoorPkL33
import Derived.Test.YtgbcchiheddfpaaGreatDoorPkL43
import Derived.Test.YtgbcchiheddfpaaGreatDoorPkL44
namespace Go.Proofs.YtgbcchiheddfpaaGreatDoor
open Go.ChangeShapes Go.WideShapes Go.ChangeAt Go.RowKit Go.Shelf

theorem choM_code {i : Nat} {m : List NEnt} {x : RCho} {c : Int} {p : Nat} (h : choM i m x = .no c p) : c ≠ 0 := by
  unfold choM at h
  split at h
  · cases h; decide
  · split at h
    · split at h
      · cases h; decide
      · cases h
    · cases h; decide
theorem chosM_code : ∀ {i : Nat} {m : List NEnt} {l : List RCho} {c : Int} {p : Nat}, chosM i m l = .no c p → c ≠ 0
  | _, _, [], _, _, h => by cases h
  | i, m, x :: r, c, p, h => by
    rw [chosM] at h
    cases hx : choM i m x with
    | no c' p' =>
      rw [hx] at h
      cases h
      exact choM_code hx
    | ok m1 =>
      rw [hx, mbind_ok] at h
      exact chosM_code h
theorem recM_code {i : Nat} {m : List NEnt} {x : RRec} {c : Int} {p : Nat} (h : recM i m x = .no c p) : c ≠ 0 := by
  unfold recM at h
  split at h
  · cases h; decide
  · split at h
    · split at h
      · cases h; decide
      · cases h
    · cases h; decide
theorem recsM_code : ∀ {i : Nat} {m : List NEnt} {l : List RRec} {c : Int} {p : Nat}, recsM i m l = .no c p → c ≠ 0
  | _, _, [], _, _, h => by cases h
  | i, m, x :: r, c, p, h => by
    rw [recsM] at h
    cases hx : recM i m x with
    | no c' p' =>
      rw [hx] at h
      cases h
      exact recM_code hx
    | ok m1 =>
      rw [hx, mbind_ok] at h
      exact recsM_code h
theorem fldsM_code {m : List NEnt} {es : List RCho} : ∀ {l : List RField} {c : Int} {p : Nat}, fldsM m es l = .no c p → c ≠ 0
  | [], _, _, h => by cases h
  | f :: r, c, p, h => by
    rw [fldsM] at h
    cases hx : fieldM m es f with
    | no c' p' =>
      rw [hx] at h
      cases h
      rcases fieldM_no hx with rfl | rfl <;> decide
    | ok a =>
      rw [hx, mbind_ok] at h
      cases hr : fldsM m es r with
      | no c' p' =>
        rw [hr] at h
        cases h
        exact fldsM_code hr
      | ok l =>
        rw [hr] at h
        cases h
theorem bodiesM_code {m : List NEnt} {es : List RCho} : ∀ {l : List RRec} {c : Int} {p : Nat}, bodiesM m es l = .no c p → c ≠ 0
  | [], _, _, h => by cases h
  | x :: r, c, p, h => by
    rw [bodiesM] at h
    cases hx : fldsM m es x.fields with
    | no c' p' =>
      rw [hx] at h
      cases h
      exact fldsM_code hx
    | ok a =>
      rw [hx, mbind_ok] at h
      cases hr : bodiesM m es r with
      | no c' p' =>
        rw [hr] at h
        cases h
        exact bodiesM_code hr
      | ok l =>
        rw [hr] at h
        cases h
theorem rootM_code {m : List NEnt} {l : List Tok} {c : Int} {p : Nat} (h : rootM m l = .no c p) : c ≠ 0 := by
  unfold rootM at h
  split at h
  · cases h; decide
  · split at h
    · cases h; decide
    · split at h
      · cases h
      · cases h; decide
  · cases h; decide
structure MkKeep (w : World) (M b : Nat) (fs : Array Value) (W : World) : Prop where
  bel : Below w.heap.size w W
  box : w.heap.size < W.heap.size
  sch : W.heap[w.heap.size + 1]? = some (.cells #[.slice none 0 0, .slice none 0 0, .int .i64 0] 30 (0, 0))
  flt : W.heap[w.heap.size + 2]? = some (.cells #[.int .i64 0, .int .i64 0] 125 (0, 0))
  fns : ∃ t, W.heap[M + 1]? = some (.cells fs t (0, 0))
  hb : w.heap.size + 2 < b
  hM : b < M
theorem MkKeep.ex2 {w W W' : World} {M b : Nat} {fs : Array Value} (h : MkKeep w M b fs W) (hx : Ex2 M b W.heap.size W W') : MkKeep w M b fs W' := by
  obtain ⟨t, hf⟩ := h.fns
  have hb := h.hb
  have hM := h.hM
  have l1 := blk_lt h.sch
  have l2 := blk_lt h.flt
  have l3 := blk_lt hf
  exact ⟨h.bel.trans ((hx.mono h.bel.size).below (by omega) (by omega)), by have := hx.size; have := h.box; omega, hx.far h.sch l1 (by omega) (by omega), hx.far h.flt l2 (by omega) (by omega), ⟨t, hx.far hf l3 (by omega) (by omega)⟩, h.hb, h.hM⟩
theorem MkKeep.exc {w W W' : World} {M b G : Nat} {fs : Array Value} (h : MkKeep w M b fs W) (hx : Exc G W.heap.size W W') (hG : G = w.heap.size ∨ M + 2 ≤ G ∨ G = M) : MkKeep w M b fs W' := by
  obtain ⟨t, hf⟩ := h.fns
  have hb := h.hb
  have hM := h.hM
  have l1 := blk_lt h.sch
  have l2 := blk_lt h.flt
  have l3 := blk_lt hf
  exact ⟨h.bel.trans ((hx.mono h.bel.size).below (by omega)), by have := hx.size; have := h.box; omega, (hx.block _ l1 (by omega)).trans h.sch, (hx.block _ l2 (by omega)).trans h.flt, ⟨t, (hx.block _ l3 (by omega)).trans hf⟩, h.hb, h.hM⟩
def StgAt (M b : Nat) (sv ev rv : Value) (rs : List (RRec × Value)) (re : List (RCho × Value)) (rt : List Tok) : Nat → World → Prop
  | 0, W => MAt W M b sv ev rv basicN (.slice none 0 0) (.slice none 0 0) 0
  | 1, W => ∃ m1 es esv, chosM 0 basicN (re.map Prod.fst) = .ok m1 ∧ MAt W M b sv ev rv m1 (.slice none 0 0) esv 0 ∧ ChoRows (M + 2) W es esv ∧ es.map Prod.fst = (re.map Prod.fst).map choOut
  | 2, W => ∃ m1 m es esv ssv, chosM 0 basicN (re.map Prod.fst) = .ok m1 ∧ recsM 0 m1 (rs.map Prod.fst) = .ok m ∧ MAt W M b sv ev rv m ssv esv 0 ∧ ChoRows (M + 2) W es esv ∧ es.map Prod.fst = (re.map Prod.fst).map choOut ∧
      W.ownsRow (M + 2) 67 2 ssv rs.length (srecsCells (rs.map rec0p))
  | 3, W => ∃ m1 m L es esv ssv, chosM 0 basicN (re.map Prod.fst) = .ok m1 ∧ recsM 0 m1 (rs.map Prod.fst) = .ok m ∧ bodiesM m (re.map Prod.fst) (rs.map Prod.fst) = .ok (L.map Prod.fst) ∧ MAt W M b sv ev rv m ssv esv 0 ∧ es.map Prod.fst = (re.map Prod.fst).map choOut ∧
      SchRows (M + 2) W L es ssv esv
  | _, W => ∃ m1 m L es esv ssv r, chosM 0 basicN (re.map Prod.fst) = .ok m1 ∧ recsM 0 m1 (rs.map Prod.fst) = .ok m ∧ bodiesM m (re.map Prod.fst) (rs.map Prod.fst) = .ok (L.map Prod.fst) ∧ rootM m rt = .ok r ∧ es.map Prod.fst = (re.map Prod.fst).map choOut ∧
      SchRows (M + 2) W L es ssv esv ∧ W.heap[M]? = some (.cells #[sv, ev, rv, .map (some b), ssv, esv, .int .i64 r] 244 (0, 0))
def StpPost (w : World) (M b : Nat) (fs : Array Value) (sv ev rv : Value) (rs : List (RRec × Value)) (re : List (RCho × Value)) (rt : List Tok) (k : Nat) (e : Ending) (W' : World) : Prop :=
  MkKeep w M b fs W' ∧ ((∃ (c : Int) (p : Nat), c ≠ 0 ∧ makeM (rawOf rs re rt) = .no c p ∧ e = .returned (.agg #[.int .i64 c, .int .i64 (p : Nat)])) ∨ (e = .returned (.agg #[.int .i64 0, .int .i64 0]) ∧ StgAt M b sv ev rv rs re rt (k + 1) W'))
theorem ChoRows.exc {B G : Nat} {W W' : World} {es : List (SCho × Value)} {esv : Value} (h : ChoRows B W es esv) (hx : Exc G W.heap.size W W') (h1 : esv.ownBlock ≠ some G) (h2 : ∀ q ∈ es, q.2.ownBlock ≠ some G) : ChoRows B W' es esv :=
  ⟨hx.ownsRow h.enums h1, fun q hq => hx.ownsRow (h.names q hq) (h2 q hq)⟩
theorem raw_makeM {rs : List (RRec × Value)} {re : List (RCho × Value)} {rt : List Tok} : makeM (rawOf rs re rt) = (chosM 0 basicN (re.map Prod.fst)).bind fun m1 => (recsM 0 m1 (rs.map Prod.fst)).bind fun m => (bodiesM m (re.map Prod.fst) (rs.map Prod.fst)).bind fun l => (rootM m rt).bind fun r => .ok ⟨l, (re.map Prod.fst).map choOut, r⟩ := rfl
theorem mkstep0 {w W : World} {M b rb : Nat} {fs : Array Value} {sv ev rv : Value} {rs : List (RRec × Value)} {re : List (RCho × Value)} {rt : List Tok} (h : RawRows rb w rs re rt sv ev rv) (hok : RawOk (rawOf rs re rt)) (hK : MkKeep w M b fs W) (hS : StgAt M b sv ev rv rs re rt 0 W) :
    Calls Tryz.prog 121 #[.pointer (some ⟨M, 0, none⟩)] W (StpPost w M b fs sv ev rv rs re rt 0) := by
  have hb := hK.hb
  have hM := hK.hM
  have hst : MAt W M b sv ev rv basicN (.slice none 0 0) (.slice none 0 0) 0 := hS
  have hMs := blk_lt hK.fns.choose_spec
  refine (enums_any W M b sv ev rv (.slice none 0 0) 0 re basicN rb hst (fun W' hx => ?_) fun p hp => ?_).mono ?_
  · have hw := (hK.ex2 hx).bel
    exact ⟨row_keep hw h.enums, fun p hp => row_keep hw (h.names p hp)⟩
  · exact hok.en p.1 (List.mem_map_of_mem hp)
  · rintro e W' ⟨hx, hp⟩
    refine ⟨hK.ex2 hx, ?_⟩
    cases hc : chosM 0 basicN (re.map Prod.fst) with
    | no c p =>
      rw [hc] at hp
      exact .inl ⟨c, p, chosM_code hc, by rw [raw_makeM, hc]; rfl, hp⟩
    | ok m1 =>
      rw [hc] at hp
      obtain ⟨rfl, es, esv, h1, h2, h3⟩ := hp
      exact .inr ⟨rfl, m1, es, esv, hc, h1, h2.base (by omega), by rw [h3, List.map_map]; rfl⟩
theorem mkstep1 {w W : World} {M b rb : Nat} {fs : Array Value} {sv ev rv : Value} {rs : List (RRec × Value)} {re : List (RCho × Value)} {rt : List Tok} (h : RawRows rb w rs re rt sv ev rv) (hok : RawOk (rawOf rs re rt)) (hK : MkKeep w M b fs W) (hS : StgAt M b sv ev rv rs re rt 1 W) :
    Calls Tryz.prog 122 #[.pointer (some ⟨M, 0, none⟩)] W (StpPost w M b fs sv ev rv rs re rt 1) := by
  have hb := hK.hb
  have hM := hK.hM
  obtain ⟨m1, es, esv, hm1, hst, hrows, hes⟩ := hS
  have hMs := blk_lt hK.fns.choose_spec
  refine (structs_any W M b sv ev rv esv 0 rs m1 rb hst (fun W' hx => ?_) fun p hp => ?_).mono ?_
  · have hw := (hK.ex2 hx).bel
    exact ⟨row_keep hw h.structs, fun p hp => row_keep hw (h.fields p hp)⟩
  · exact (hok.st p.1 (List.mem_map_of_mem hp)).1
  · rintro e W' ⟨hx, hp⟩
    refine ⟨hK.ex2 hx, ?_⟩
    cases hc : recsM 0 m1 (rs.map Prod.fst) with
    | no c p =>
      rw [hc] at hp
      exact .inl ⟨c, p, recsM_code hc, by rw [raw_makeM, hm1, mbind_ok, hc]; rfl, hp⟩
    | ok m =>
      rw [hc] at hp
      obtain ⟨rfl, ssv, h1, h2⟩ := hp
      exact .inr ⟨rfl, m1, m, es, esv, ssv, hm1, hc, h1, hrows.ex2 hx (by omega) (by omega), hes, ownsRow_base h2 (by omega)⟩
theorem sch_exc {B G : Nat} {W W' : World} {L : List (SRec × Value)} {es : List (SCho × Value)} {sv ev : Value} (h : SchRows B W L es sv ev) (hx : Exc G W.heap.size W W') (hG : G < B) : SchRows B W' L es sv ev :=
  have key : ∀ {e : TypeId} {size : Nat} {v : Value} {n : Nat} {xs : List Value}, W.ownsRow B e size v n xs → W'.ownsRow B e size v n xs := fun ho => hx.ownsRow ho (fun e => by have := (ownsRow_lt ho G e).1; omega)
  ⟨key h.structs, key h.enums, fun q hq => key (h.fields q hq), fun q hq => key (h.names q hq)⟩
theorem mkstep2 {w W : World} {M b rb : Nat} {fs : Array Value} {sv ev rv : Value} {rs : List (RRec × Value)} {re : List (RCho × Value)} {rt : List Tok} (h : RawRows rb w rs re rt sv ev rv) (hE : ErrV w) (hok : RawOk (rawOf rs re rt)) (hK : MkKeep w M b fs W) (hS : StgAt M b sv ev rv rs re rt 2 W) :
    Calls Tryz.prog 123 #[.pointer (some ⟨M, 0, none⟩)] W (StpPost w M b fs sv ev rv rs re rt 2) := by
  have hb := hK.hb
  have hM := hK.hM
  obtain ⟨m1, m, es, esv, ssv, hm1, hm, hst, hrows, hes, hrow⟩ := hS
  have hMs := blk_lt hK.fns.choose_spec
  obtain ⟨G, hG, hGs, hGw⟩ : ∃ G, (G = w.heap.size ∨ (M + 2 ≤ G ∧ ssv.ownBlock = some G)) ∧ (∀ g c, ssv = .slice (some ⟨g, 0, none⟩) rs.length c → g = G) ∧ G < W.heap.size := by
    rcases hrow.2 with ⟨hv, _⟩ | ⟨g, cap, cur, hv, hg, _⟩
    · exact ⟨w.heap.size, .inl rfl, fun g c e => (by rw [hv] at e; cases e), hK.box⟩
    · refine ⟨g, .inr ⟨hg, by rw [hv]; rfl⟩, fun g' c e => (by rw [hv] at e; cases e; rfl), (ownsRow_lt hrow g (by rw [hv]; rfl)).2⟩
  have hne : ∀ {e : TypeId} {size : Nat} {v : Value} {n : Nat} {xs : List Value}, W.ownsRow (M + 2) e size v n xs → e ≠ 67 → v.ownBlock ≠ some G := by
    intro e size v n xs ho hne hk
    rcases hG with rfl | ⟨_, hs⟩
    · have := (ownsRow_lt ho _ hk).1
      omega
    · exact rws_ne ho hrow hne G hk hs
  have hG' : G = w.heap.size ∨ M + 2 ≤ G ∨ G = M := by
    rcases hG with h | ⟨h, _⟩
    · exact .inl h
    · exact .inr (.inl h)
  obtain ⟨hgood1, _⟩ := recsM_good (chosM_good (ne := (re.map Prod.fst).length) (basic_good _) (by omega) hm1) hm
  have hfew := (recsM_good (chosM_good (ne := (re.map Prod.fst).length) (basic_good _) (by omega) hm1) hm).2
  refine (fields_any W (G := G) (M := M) (b := b) (root := 0) (be := M + 2) (rb := rb) (b0 := M + 2) (sv := sv) (ev := ev) (rv := rv) (ssv := ssv) (esv := esv) (m := m) (es := es) (ecs := re.map Prod.fst) (xs := rs) ?_ hes hrow hGs hGw (fun p hp => hfew p.1 (List.mem_map_of_mem hp)) (fun s q hq => hgood1.look s q hq) (fun p hp f hf => (hok.st p.1 (List.mem_map_of_mem hp)).2 f hf)).mono ?_
  · intro W' hx
    have hw := (hK.exc hx hG').bel
    refine ⟨⟨(hx.block M (by omega) (by omega)).trans hst.blk, hst.map.exc hx hst.map.lt (by omega), hst.ne⟩, hrows.exc hx (hne hrows.enums (by decide)) (fun q hq => hne (hrows.names q hq) (by decide)), hE.later hw, row_keep hw h.structs, fun p hp => row_keep hw (h.fields p hp)⟩
  · rintro e W' ⟨hx, hp⟩
    refine ⟨hK.exc hx hG', ?_⟩
    cases hc : bodiesM m (re.map Prod.fst) (rs.map Prod.fst) with
    | no c p =>
      rw [hc] at hp
      exact .inl ⟨c, p, bodiesM_code hc, by rw [raw_makeM, hm1, mbind_ok, hm, mbind_ok, hc]; rfl, hp⟩
    | ok l =>
      rw [hc] at hp
      obtain ⟨rfl, L, hL, h1, h2⟩ := hp
      have hc' := hrows.exc hx (hne hrows.enums (by decide)) (fun q hq => hne (hrows.names q hq) (by decide))
      have hl : L.length = rs.length := by
        have := congrArg List.length hL
        have h3 := h1.1
        rw [srecsCells_len] at h3
        omega
      refine .inr ⟨rfl, m1, m, L, es, esv, ssv, hm1, hm, by rw [hc, hL], ⟨(hx.block M (by omega) (by omega)).trans hst.blk, hst.map.exc hx hst.map.lt (by omega), hst.ne⟩, hes, ⟨by rw [hl]; exact h1, hc'.enums, fun q hq => ownsRow_base (h2 q hq) (by omega), hc'.names⟩⟩
theorem mkstep3 {w W : World} {M b rb : Nat} {fs : Array Value} {sv ev rv : Value} {rs : List (RRec × Value)} {re : List (RCho × Value)} {rt : List Tok} (h : RawRows rb w rs re rt sv ev rv) (hK : MkKeep w M b fs W) (hS : StgAt M b sv ev rv rs re rt 3 W) :
    Calls Tryz.prog 124 #[.pointer (some ⟨M, 0, none⟩)] W (StpPost w M b fs sv ev rv rs re rt 3) := by
  have hb := hK.hb
  have hM := hK.hM
  obtain ⟨m1, m, L, es, esv, ssv, hm1, hm, hbod, hst, hes, hrows⟩ := hS
  refine (root_any' W (l := rt) hst (row_keep hK.bel h.roots)).mono ?_
  intro e W' hp
  unfold RtPost at hp
  cases hc : rootM m rt with
  | no c p =>
    rw [hc] at hp
    exact ⟨hK.exc hp.2 (.inr (.inr rfl)), .inl ⟨c, p, rootM_code hc, by rw [raw_makeM, hm1, mbind_ok, hm, mbind_ok, hbod, mbind_ok, hc]; rfl, hp.1⟩⟩
  | ok r =>
    rw [hc] at hp
    obtain ⟨rfl, hx, hblk⟩ := hp
    exact ⟨hK.exc hx (.inr (.inr rfl)), .inr ⟨rfl, m1, m, L, es, esv, ssv, r, hm1, hm, hbod, hc, hes, sch_exc hrows hx (by omega), hblk⟩⟩
theorem stg4_make {M b : Nat} {sv ev rv : Value} {rs : List (RRec × Value)} {re : List (RCho × Value)} {rt : List Tok} {W : World} (h : StgAt M b sv ev rv rs re rt 4 W) :
    ∃ (L : List (SRec × Value)) (es : List (SCho × Value)) (esv ssv : Value) (r : Nat), makeM (rawOf rs re rt) = .ok ⟨L.map Prod.fst, es.map Prod.fst, r⟩ ∧ SchRows (M + 2) W L es ssv esv ∧ W.heap[M]? = some (.cells #[sv, ev, rv, .map (some b), ssv, esv, .int .i64 r] 244 (0, 0)) := by
  obtain ⟨m1, m, L, es, esv, ssv, r, hm1, hm, hbod, hr, hes, hrows, hblk⟩ := h
  exact ⟨L, es, esv, ssv, r, by rw [raw_makeM, hm1, mbind_ok, hm, mbind_ok, hbod, mbind_ok, hr, hes]; rfl, hrows, hblk⟩
end Go.Proofs.YtgbcchiheddfpaaGreatDoor
namespace Go.Proofs.YtgbcchiheddfpaaGreatDoor
open Go.ChangeShapes Go.WideShapes Go.ChangeAt Go.RowKit

theorem arr_litMf (t : Array Value) (h : t.size = 39) : t = ((List.range 39).map fun n => t.getD n undef).toArray := by
  apply Array.ext'
  apply List.ext_getElem?
  intro i
  by_cases hi : i < 39
  · have h' : i < t.size := by omega
    simp [hi, h', Array.getD]
  · have h' : ¬ i < t.size := by omega
    simp [hi, h']
set_option maxRecDepth 100000 in
theorem lit_allMf (u : Nat → Value) : ((List.range 39).map u).toArray = #[u 0, u 1, u 2, u 3, u 4, u 5, u 6, u 7, u 8, u 9, u 10, u 11, u 12, u 13, u 14, u 15, u 16, u 17, u 18, u 19, u 20, u 21, u 22, u 23, u 24, u 25, u 26, u 27, u 28, u 29, u 30, u 31, u 32, u 33, u 34, u 35, u 36, u 37, u 38] := rfl
structure MfO (q M k : Nat) (c : Act) : Prop where
  df : c.defers = []
  sz : c.tmps.size = 39
  s2 : c.tmps.getD 2 undef = .pointer (some ⟨q + 1, 0, none⟩)
  s3 : c.tmps.getD 3 undef = .pointer (some ⟨q + 1 + 1, 0, none⟩)
  s4 : c.tmps.getD 4 undef = .pointer (some ⟨M, 0, none⟩)
  s20 : c.tmps.getD 20 undef = .slice (some ⟨M + 1, 0, none⟩) 4 4
  s21 : c.tmps.getD 21 undef = .int .i64 4
  s22 : c.tmps.getD 22 undef = .int .i64 k
set_option maxRecDepth 100000 in
theorem MfO.lit {q M k : Nat} {c : Act} (h : MfO q M k c) : ∃ u : Nat → Value, c = ⟨#[u 0, u 1, .pointer (some ⟨q + 1, 0, none⟩), .pointer (some ⟨q + 1 + 1, 0, none⟩), .pointer (some ⟨M, 0, none⟩), u 5, u 6, u 7, u 8, u 9, u 10, u 11, u 12, u 13, u 14, u 15, u 16, u 17, u 18, u 19, .slice (some ⟨M + 1, 0, none⟩) 4 4, .int .i64 4, .int .i64 k, u 23, u 24, u 25, u 26, u 27, u 28, u 29, u 30, u 31, u 32, u 33, u 34, u 35, u 36, u 37, u 38], []⟩ := by
  obtain ⟨hd, hs, h2, h3, h4, h20, h21, h22⟩ := h
  refine ⟨fun n => c.tmps.getD n undef, ?_⟩
  obtain ⟨t, d⟩ := c
  simp only at hd hs h2 h3 h4 h20 h21 h22 ⊢
  subst hd
  congr 1
  refine (arr_litMf t hs).trans ?_
  rw [lit_allMf]
  simp only [h2, h3, h4, h20, h21, h22]
end Go.Proofs.YtgbcchiheddfpaaGreatDoor
