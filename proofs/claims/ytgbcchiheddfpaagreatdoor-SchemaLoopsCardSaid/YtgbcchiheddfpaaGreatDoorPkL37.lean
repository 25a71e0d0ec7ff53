/-
  The hand's Made: the loop over a struct's fields. Conditions: those that each theorem names.
-/
import Derived.Test.YtgbcchiheddfpaaGreatDoorPkL17
import Derived.Test.YtgbcchiheddfpaaGreatDoorPkL18
import Derived.Test.YtgbcchiheddfpaaGreatDoorPkL20
import Derived.Test.YtgbcchiheddfpaaGreatDoorPkL21
import Derived.Test.YtgbcchiheddfpaaGreatDoorPkL32
import Derived.Test.YtgbcchiheddfpaaGreatDoorPkL33
import Derived.Test.YtgbcchiheddfpaaGreatDoorPkL34
import Derived.Deep.RegionHeld3
namespace Go.Proofs.YtgbcchiheddfpaaGreatDoor
open Go.ChangeShapes Go.WideShapes Go.ChangeAt Go.RowKit Go.Shelf

set_option maxRecDepth 100000 in
set_option maxHeartbeats 4000000 in
theorem names_wp {Q : Exit → Act → World → Prop} {c : Act} {w0 : World} {M R T n e k nc rb : Nat} {a na : Option Addr} {name : ByteArray} {l : List Tok} (hc : EnFr M R T a n e k na l.length nc 0 c)
    (hT : w0.heap[T]? = some (.cells #[.string name, .slice none 0 0] 74 (0, 0))) (hrow : ∀ W, Below T w0 W → W.ownsRow rb 282 3 (.slice na l.length nc) l.length (toksCells l)) (hsz : ∀ t ∈ l, t.text.length ≤ 100) (hlen : l.length ≤ 100)
    (hQ : ∀ c' w' nv, EnFr M R T a n e k na l.length nc l.length c' → Below T w0 w' → w'.heap[T]? = some (.cells #[.string name, nv] 74 (0, 0)) → w'.ownsRow (T + 1) 9 1 nv l.length (strsCells (l.map tokT)) → Q (.exit 2) c' w') :
    Code.wp Tryz.prog (Code.loop (loopsEn 1)) Q c w0 := by
  refine wp_loop (fun c' w' => ∃ (j : Nat) (nv : Value), j ≤ l.length ∧ EnFr M R T a n e k na l.length nc j c' ∧ Below T w0 w' ∧ w'.heap[T]? = some (.cells #[.string name, nv] 74 (0, 0)) ∧ w'.ownsRow (T + 1) 9 1 nv j (strsCells ((l.take j).map tokT)))
    (fun c' _ => l.length - (intOf (c'.tmps.getD 63 undef)).toNat) ⟨0, _, Nat.zero_le _, hc, Below.refl _ _, hT, World.ownsRow_nil _ _ _ _⟩ ?_
  clear hc hT
  rintro c wr ⟨j, nv, hj, hc, hb, hC, hr⟩
  have HB := Lib.hid hb
  have HQ := Lib.hid hQ
  have HCB := Lib.hid hC
  have HROW := Lib.hid hr
  have hfew := row_few (hrow w0 (Below.refl _ _))
  obtain ⟨u, rfl⟩ := hc.lit
  obtain ⟨nva, nvc, rfl⟩ := ownsRow_form hr
  obtain ⟨hCl, c0', c1', f0, f1⟩ := blk2 hC
  obtain ⟨i0, hi0, hzz0, hzz1, hzz2⟩ := info_parts str_info
  have I1 := Lib.hid hi0
  have I2 := Lib.hid hzz0
  have I3 := Lib.hid hzz1
  have I4 := Lib.hid hzz2
  clear hi0 hzz0 hzz1 hzz2
  conv => arg 2; whnf
  by_cases hjl : j < l.length
  · obtain ⟨gn, cn, hvn, hcn, hgn, hcelln⟩ := row_el tokCells 3 (fun _ => rfl) (hrow _ hb) j hjl
    obtain ⟨rfl, rfl⟩ := slice_inj hvn
    have x0 : wr.cell? ⟨gn, j * 3, none⟩ = some (.int .i64 l[j].kind) := hcelln 0 (by omega)
    have x1 : wr.cell? ⟨gn, j * 3 + 1, none⟩ = some (.string (tokT l[j])) := hcelln 1 (by omega)
    have x2 : wr.cell? ⟨gn, j * 3 + 2, none⟩ = some (.int .i64 l[j].place) := hcelln 2 (by omega)
    have hts : (tokT l[j]).size ≤ 281474976710656 := by
      have := hsz _ (List.getElem_mem hjl)
      rw [tokT, strOfNums_size]
      omega
    have HTK := Lib.hid (take_snoc_map tokT l j hjl)
    generalize l[j] = t at *
    have HTS := Lib.hid hts
    have hbt : Below wr.heap.size wr (wr.alloc (.cells #[.int .i64 t.kind, .string (tokT t), .int .i64 t.place] 282)) := (Below.refl _ _).alloc (Nat.le_refl _) _
    have HBT := Lib.hid hbt
    have HTN := Lib.hid (heap_alloc_new wr (.cells #[.int .i64 t.kind, .string (tokT t), .int .i64 t.place] 282))
    have HCT := Lib.hid (blk_below hC hbt hCl)
    have hji : (j : Int) < l.length := by omega
    clear hc hQ hb hC hr hrow hsz hts hvn hcelln hbt
    go_upto_region 15 with (fail)
    generalize wr.alloc (.cells #[.int .i64 t.kind, .string (tokT t), .int .i64 t.place] 282) = Wt at *
    clear x0 x1 x2 c0' c1' f0 f1
    obtain ⟨_, z0, z1, z2, _⟩ := blk3 HTN.out
    obtain ⟨hCt, c0', c1', f0, f1⟩ := blk2 HCT.out
    have hnt : wr.heap.size < Wt.heap.size := blk_lt HTN.out
    have hmost : j + 1 ≤ 9223372036854775807 := by omega
    refine wp_region_noPanic ?_
    go_region_law (first | (go_simp; go_at_call 163; (with_reducible refine (clone_any (tokT t) Wt.drew HTS.out).mono ?_); rintro e Wc ⟨rfl, hbc⟩; have hBC : Below Wt.heap.size Wt Wc := drew_below hbc; have HBC := Lib.hid hBC; obtain ⟨_, q0, q1, q2, q3⟩ := blk2 (blk_below HCT.out hBC hCt); have q5 : Wc.cell? ⟨wr.heap.size, 1, none⟩ = some (.string (tokT t)) := (hBC.cell (p := ⟨wr.heap.size, 1, none⟩) hnt).trans z1; clear hbc hBC) | (refine step_append_lies _ rfl (.tmp 68) (.tmp 72) 72 rfl (T + 1) 9 i0 _ 1 16 Tryz.underlying72 I1.out I2.out I3.out I4.out rfl (by decide) _ j (strsCells ((l.take j).map tokT)) rfl (row_keep (HBT.out.trans ((HBC.out.alloc HBC.out.size _).mono HBT.out.size)) HROW.out) _ 1 1 [.string (tokT t)] rfl rfl (World.news_of_block (heap_alloc_new _ _)) (by intro u hu; rw [List.mem_singleton.1 hu]; rfl) (by decide) (by unfold maxLen; omega) (by omega) (by simp; omega) _ rfl ?_; rintro g4 c4 W8 hown4 hg4 hat4 hlt4; obtain ⟨s1, s2, s3, s4⟩ := step2 HB.out HCB.out HROW.out (HBT.out.trans ((HBC.out.alloc HBC.out.size _).mono HBT.out.size)) hg4 hown4; obtain ⟨_, d0, d1, e0, e1⟩ := blk2 s4; have S1 := Lib.hid s1; have S2 := Lib.hid s2; have S3 := Lib.hid s3; clear s1 s2 s3 s4 hown4 hg4 hat4))
    all_goals
      refine NoPanic.normal ?_
      simp only [Exit.inBlock, Exit.then]
      apply_assumption
      go_wp2
      refine ⟨⟨j + 1, _, by omega, ⟨rfl, rfl, rfl, rfl, rfl, rfl, rfl, rfl, rfl, rfl, rfl⟩, S1.out, S2.out, by rw [HTK.out, strsCells_snoc]; exact S3.out⟩, ?_⟩
      show l.length - (intOf (.int .i64 ((j : Int) + 1))).toNat < l.length - (intOf (.int .i64 (j : Int))).toNat
      simp [intOf]; omega
  · obtain rfl : j = l.length := by omega
    clear hc hQ hb hC hr hrow hsz
    go_wp2
    exact HQ.out _ _ _ ⟨rfl, rfl, rfl, rfl, rfl, rfl, rfl, rfl, rfl, rfl, rfl⟩ HB.out HCB.out (by have h := HROW.out; rw [List.take_length] at h; exact h)
end Go.Proofs.YtgbcchiheddfpaaGreatDoor
namespace Go.Proofs.YtgbcchiheddfpaaGreatDoor
open Go.ChangeShapes Go.WideShapes Go.ChangeAt Go.RowKit Go.Shelf

def idlSigns : ByteArray := ⟨#[123, 125, 58, 59, 61, 44, 60, 62]⟩
def rawL : List Tok × Int × Nat → RRaw × Int × Nat
  | (l, code, p) => if code = 0 then (match schemaL noRaw l with
    | .ok a _ => (a, 0, 0)
    | .no c q => (noRaw, c, q)) else (noRaw, code, p)
def rawT (s : ByteArray) : RRaw × Int × Nat := rawL (toks okU (amg idlSigns) (bts s))
theorem chain_ends : ∀ (l : List Tok), EndLast l → (∀ t ∈ l, t.kind = 0 → t.text = []) → Ends l
  | [], h, _ => h
  | t :: r, h, ht => by
    rcases h with ⟨h1, h2⟩ | ⟨h1, h2⟩
    · exact .inl ⟨h1, ht t List.mem_cons_self h1, h2⟩
    · exact .inr ⟨h1, chain_ends r h2 (fun u hu => ht u (List.mem_cons_of_mem _ hu))⟩
theorem toks_good {s : ByteArray} {sg : Int → Bool} {l : List Tok} {p : Nat} (h : toks okU sg (bts s) = (l, 0, p)) : Ends l ∧ l.length ≤ 2048 ∧ ∀ t ∈ l, ∀ z ∈ t.text, 0 ≤ z ∧ z ≤ 255 := by
  obtain ⟨hc, hl⟩ := toks_chain h
  have ha := chain_all (s := s) l 0 (Nat.zero_le _) (.inr hc)
  refine ⟨chain_ends l (chain_last l 0 hc) (fun t ht h0 => ?_), hl, fun t ht => (ha t ht).2.2⟩
  rcases (ha t ht).1 with h | h | h | h | h
  · exact h.2
  all_goals omega
def ParsePost (w : World) (x : RRaw × Int × Nat) (e : Ending) (w' : World) : Prop :=
  ∃ ss es ts sv ev rv, e = .returned (.tuple #[.agg #[sv, ev, rv], .agg #[.int .i64 x.2.1, .int .i64 (x.2.2 : Nat)]]) ∧ x.1 = rawOf ss es ts ∧ RawRows w.heap.size w' ss es ts sv ev rv ∧ Below w.heap.size w w'
theorem rows_nil (base : Nat) (W : World) : RawRows base W [] [] [] (.slice none 0 0) (.slice none 0 0) (.slice none 0 0) :=
  ⟨World.ownsRow_nil _ _ _ _, World.ownsRow_nil _ _ _ _, World.ownsRow_nil _ _ _ _, (fun p hp => by cases hp), (fun p hp => by cases hp)⟩
theorem parse_none {w w' : World} {x : RRaw × Int × Nat} {code : Int} {p : Nat} (hx : x = (noRaw, code, p)) (hb : Below w.heap.size w w') :
    ParsePost w x (.returned (.tuple #[.agg #[.slice none 0 0, .slice none 0 0, .slice none 0 0], .agg #[.int .i64 code, .int .i64 (p : Nat)]])) w' := by
  subst hx
  exact ⟨[], [], [], _, _, _, rfl, rfl, rows_nil _ _, hb⟩
theorem parse_start (w : World) (a b : Array Value) (s t : TypeId) : Below w.heap.size w ((w.alloc (.cells a s)).alloc (.cells b t)) ∧ ((w.alloc (.cells a s)).alloc (.cells b t)).heap[w.heap.size]? = some (.cells a s (0, 0)) ∧ ((w.alloc (.cells a s)).alloc (.cells b t)).heap[w.heap.size + 1]? = some (.cells b t (0, 0)) := by
  refine ⟨((Below.refl _ _).alloc (Nat.le_refl _) _).alloc (by simp) _, blk_alloc (heap_alloc_new w _) _, ?_⟩
  have := heap_alloc_new (w.alloc (.cells a s)) (.cells b t)
  rwa [World.size_alloc] at this
def set5 (W : World) (g : Nat) (x y z u v : Value) : World := ((((W.setCell ⟨g, 0, none⟩ x).setCell ⟨g, 1, none⟩ y).setCell ⟨g, 2, none⟩ z).setCell ⟨g + 1, 0, none⟩ u).setCell ⟨g + 1, 1, none⟩ v
structure PEnd (w : World) (x y z u v : Value) (W : World) : Prop where
  raw : W.heap[w.heap.size]? = some (.cells #[x, y, z] 188 (0, 0))
  flt : W.heap[w.heap.size + 1]? = some (.cells #[u, v] 125 (0, 0))
  bel : Below w.heap.size w W
theorem pend {w W : World} {a b c d e : Value} (hz : W.heap[w.heap.size]? = some (.cells #[a, b, c] 188 (0, 0))) (hf : W.heap[w.heap.size + 1]? = some (.cells #[d, e] 125 (0, 0))) (hb : Below w.heap.size w W) (x y z u v : Value) : PEnd w x y z u v (set5 W w.heap.size x y z u v) := by
  have h3 := blk_set3 hz x y z
  refine ⟨?_, ?_, ((((hb.setCell (p := ⟨w.heap.size, 0, none⟩) (Nat.le_refl _) x).setCell (p := ⟨w.heap.size, 1, none⟩) (Nat.le_refl _) y).setCell (p := ⟨w.heap.size, 2, none⟩) (Nat.le_refl _) z).setCell (p := ⟨w.heap.size + 1, 0, none⟩) (Nat.le_succ _) u).setCell (p := ⟨w.heap.size + 1, 1, none⟩) (Nat.le_succ _) v⟩
  · exact blk_set_ne (blk_set_ne h3 (by simp only; omega) _) (by simp only; omega) _
  · exact blk_set2 (blk_set_ne (blk_set_ne (blk_set_ne hf (by simp only; omega) _) (by simp only; omega) _) (by simp only; omega) _) u v
theorem PEnd.drew {w W : World} {x y z u v : Value} (h : PEnd w x y z u v W) : PEnd w x y z u v W.drew := ⟨h.raw, h.flt, h.bel.drew⟩
theorem RawRows.set5 {base : Nat} {W : World} {ss : List (RRec × Value)} {es : List (RCho × Value)} {ts : List Tok} {sv ev rv : Value} (h : RawRows base W ss es ts sv ev rv) {g : Nat} (hg : g + 1 < base) (x y z u v : Value) : RawRows base (set5 W g x y z u v) ss es ts sv ev rv :=
  ((h.exc (exc_set3 W g x y z) (by omega)).exc (exc_set _ (g + 1) 0 u) hg).exc (exc_set _ (g + 1) 1 v) hg
theorem RawRows.drew {base : Nat} {W : World} {ss : List (RRec × Value)} {es : List (RCho × Value)} {ts : List Tok} {sv ev rv : Value} (h : RawRows base W ss es ts sv ev rv) : RawRows base W.drew ss es ts sv ev rv := h.below (Below.refl _ _).drew
set_option maxRecDepth 100000 in
set_option maxHeartbeats 2000000 in
theorem parse_fault (s : ByteArray) (w : World) (hT : Tabs w) (hs : s.size ≤ 9223372036854775807) (l : List Tok) (code : Int) (p : Nat) (hr : toks okU (amg idlSigns) (bts s) = (l, code, p)) (hc : code ≠ 0) :
    Calls Tryz.prog 86 #[.string s] w (ParsePost w (rawT s)) := by
  have HX : Hid (rawT s = (noRaw, code, p)) := Lib.hid (by unfold rawT; rw [hr]; exact if_neg hc)
  obtain ⟨hb0, hz0, hf0⟩ := parse_start w #[.slice none 0 0, .slice none 0 0, .slice none 0 0] #[.int .i64 0, .int .i64 0] 188 125
  have HL := Lib.hid (lexTokens_any s idlSigns _ (hT.below (Nat.le_refl _) hb0) hs)
  rw [hr] at HL
  have HB0 := Lib.hid hb0
  have HZ0 := Lib.hid hz0
  have HF0 := Lib.hid hf0
  have hlt : w.heap.size + 1 < _ := blk_lt hf0
  have hcz : (code != 0) = true := bne_iff_ne.2 hc
  clear hb0 hz0 hf0 hT hr hc
  go_enter Tryz.func86, Tryz.ntmps86
  go_upto_region 1 with (fail)
  generalize ((w.alloc (.cells #[.slice none 0 0, .slice none 0 0, .slice none 0 0] 188)).alloc (.cells #[.int .i64 0, .int .i64 0] 125)) = W0 at *
  go_wp2_with fail
  refine HL.out.mono ?_
  rintro e W1 ⟨v, rfl, _, hb1⟩
  have HB1 := Lib.hid (HB0.out.trans (hb1.mono (by omega)))
  have HZ1 := Lib.hid (blk_below HZ0.out hb1 (blk_lt HZ0.out))
  have HF1 := Lib.hid (blk_below HF0.out hb1 (blk_lt HF0.out))
  clear hb1
  simp only
  go_upto_region 2 with (fail)
  have HB2 := Lib.hid (HB1.out.alloc HB1.out.size (.cells #[.int .i64 code, .int .i64 (p : Nat)] 125))
  have HZ2 := Lib.hid (blk_alloc HZ1.out (.cells #[.int .i64 code, .int .i64 (p : Nat)] 125))
  have HF2 := Lib.hid (blk_alloc HF1.out (.cells #[.int .i64 code, .int .i64 (p : Nat)] 125))
  have HT2 := Lib.hid (heap_alloc_new W1 (.cells #[.int .i64 code, .int .i64 (p : Nat)] 125))
  have hlt1 : w.heap.size + 1 < W1.heap.size := blk_lt HF1.out
  clear HB1 HZ1 HF1
  generalize W1.alloc (.cells #[.int .i64 code, .int .i64 (p : Nat)] 125) = W2 at *
  generalize W1.heap.size = BT at *
  obtain ⟨_, t0, t1, _⟩ := blk2 HT2.out
  obtain ⟨hz, z0, z1, z2, y0, y1, y2⟩ := blk3 HZ2.out
  obtain ⟨hf, f0, f1, g0, g1⟩ := blk2 HF2.out
  go_wp2_with fail
  go_region_with (fail)
  all_goals
    go_wp2
    refine post_gen (PEnd w (.slice none 0 0) (.slice none 0 0) (.slice none 0 0) (.int .i64 code) (.int .i64 (p : Nat))) ?_ ?_
    · first
        | exact (pend HZ2.out HF2.out HB2.out _ _ _ _ _).drew
        | exact pend (w := w) (W := W2.drew) HZ2.out HF2.out HB2.out.drew _ _ _ _ _
    · rintro Wf ⟨e1, e2, e3⟩
      obtain ⟨_, c0, c1, c2, _⟩ := blk3 e1
      obtain ⟨_, d0, d1, _⟩ := blk2 e2
      exact bodyPost_ret (v := .tuple #[.agg #[.slice none 0 0, .slice none 0 0, .slice none 0 0], .agg #[.int .i64 code, .int .i64 (p : Nat)]]) (by simp [results, Tryz.results86, go_sem, c0, c1, c2, d0, d1]) rfl (parse_none HX.out e3)
theorem rd_start {W : World} {g c : Nat} {l : List Tok} (hg : g < W.heap.size) (hcells : ∀ k, k < l.length * 3 → W.cell? ⟨g, k, none⟩ = (toksCells l)[k]?) (hc : l.length ≤ c) (hm : c ≤ maxLen) (he : Ends l) (hb : ∀ t ∈ l, ∀ z ∈ t.text, 0 ≤ z ∧ z ≤ 255) :
    Rd (W.alloc (.cells #[.slice (some ⟨g, 0, none⟩) l.length c, .int .i64 0, .int .i64 0] 237)) W.heap.size g c l l (0, 0) := by
  have hbel : Below W.heap.size W (W.alloc (.cells #[.slice (some ⟨g, 0, none⟩) l.length c, .int .i64 0, .int .i64 0] 237)) := (Below.refl _ _).alloc (Nat.le_refl _) _
  refine ⟨?_, by rw [Nat.sub_self]; rfl, Nat.le_refl _, Nat.lt_of_lt_of_le hg hbel.size, Nat.ne_of_lt hg, fun k hk => (hbel.cell (p := ⟨g, k, none⟩) hg).trans (hcells k hk), ⟨hc, hm⟩, he, hb⟩
  rw [heap_alloc_new W _, Nat.sub_self]
  rfl
set_option maxRecDepth 100000 in
set_option maxHeartbeats 2000000 in
theorem parse_good (s : ByteArray) (w : World) (hT : Tabs w) (hs : s.size ≤ 9223372036854775807) (l : List Tok) (p : Nat) (hr : toks okU (amg idlSigns) (bts s) = (l, 0, p)) :
    Calls Tryz.prog 86 #[.string s] w (ParsePost w (rawT s)) := by
  have HX : Hid (rawT s = match schemaL noRaw l with
    | .ok a _ => (a, 0, 0)
    | .no c q => (noRaw, c, q)) := Lib.hid (by unfold rawT; rw [hr]; rfl)
  obtain ⟨hend, hlen, hbyt⟩ := toks_good hr
  have HEND := Lib.hid hend
  have HBYT := Lib.hid hbyt
  obtain ⟨hb0, hz0, hf0⟩ := parse_start w #[.slice none 0 0, .slice none 0 0, .slice none 0 0] #[.int .i64 0, .int .i64 0] 188 125
  have HL := Lib.hid (lexTokens_any s idlSigns _ (hT.below (Nat.le_refl _) hb0) hs)
  rw [hr] at HL
  have HB0 := Lib.hid hb0
  have HZ0 := Lib.hid hz0
  have HF0 := Lib.hid hf0
  have hlt : w.heap.size + 1 < _ := blk_lt hf0
  clear hb0 hz0 hf0 hT hr hend hbyt
  go_enter Tryz.func86, Tryz.ntmps86
  go_upto_region 1 with (fail)
  generalize ((w.alloc (.cells #[.slice none 0 0, .slice none 0 0, .slice none 0 0] 188)).alloc (.cells #[.int .i64 0, .int .i64 0] 125)) = W0 at *
  go_wp2_with fail
  refine HL.out.mono ?_
  rintro e W1 ⟨v, rfl, ho, hb1⟩
  obtain ⟨g, c, rfl, hc, hgb, hg, hcells⟩ := ho.cells HEND.out.ne
  have hcm : c ≤ maxLen := by
    rcases ho.2 with ⟨h, _⟩ | ⟨g', cap', cur, h, _, _, _, hm, _⟩
    · cases h
    · injection h with _ _ h
      subst h
      exact hm
  have HC := Lib.hid hcells
  have HB1 := Lib.hid (HB0.out.trans (hb1.mono (by omega)))
  have HZ1 := Lib.hid (blk_below HZ0.out hb1 (blk_lt HZ0.out))
  have HF1 := Lib.hid (blk_below HF0.out hb1 (blk_lt HF0.out))
  clear hb1 ho hcells
  simp only
  go_upto_region 2 with (fail)
  have hlt1 : w.heap.size + 1 < W1.heap.size := blk_lt HF1.out
  have HB2 := Lib.hid (HB1.out.alloc HB1.out.size (.cells #[.int .i64 0, .int .i64 (p : Nat)] 125))
  have HZ2 := Lib.hid (blk_alloc HZ1.out (.cells #[.int .i64 0, .int .i64 (p : Nat)] 125))
  have HF2 := Lib.hid (blk_alloc HF1.out (.cells #[.int .i64 0, .int .i64 (p : Nat)] 125))
  have HT2 := Lib.hid (heap_alloc_new W1 (.cells #[.int .i64 0, .int .i64 (p : Nat)] 125))
  have HC2 := Lib.hid (show ∀ k, k < l.length * 3 → (W1.alloc (.cells #[.int .i64 0, .int .i64 (p : Nat)] 125)).cell? ⟨g, k, none⟩ = (toksCells l)[k]? from fun k hk => (((Below.refl _ W1).alloc (Nat.le_refl _) (.cells #[.int .i64 0, .int .i64 (p : Nat)] 125)).cell (p := ⟨g, k, none⟩) hg).trans (HC.out k hk))
  have hg2 : g < (W1.alloc (.cells #[.int .i64 0, .int .i64 (p : Nat)] 125)).heap.size := by simp; omega
  clear HB1 HZ1 HF1 HC
  generalize W1.alloc (.cells #[.int .i64 0, .int .i64 (p : Nat)] 125) = W2 at *
  generalize W1.heap.size = BT at *
  obtain ⟨_, t0, t1, _⟩ := blk2 HT2.out
  go_upto_region 5 with (fail)
  have hlt2 : w.heap.size + 1 < W2.heap.size := blk_lt HF2.out
  have HRD := Lib.hid (rd_start hg2 HC2.out hc hcm HEND.out HBYT.out)
  have HB3 := Lib.hid (HB2.out.alloc HB2.out.size (.cells #[.slice (some ⟨g, 0, none⟩) l.length c, .int .i64 0, .int .i64 0] 237))
  have HZ3 := Lib.hid (blk_alloc HZ2.out (.cells #[.slice (some ⟨g, 0, none⟩) l.length c, .int .i64 0, .int .i64 0] 237))
  have HF3 := Lib.hid (blk_alloc HF2.out (.cells #[.slice (some ⟨g, 0, none⟩) l.length c, .int .i64 0, .int .i64 0] 237))
  clear HB2 HZ2 HF2 HC2 t0 t1
  have hR3 : W2.heap.size < (W2.alloc (.cells #[.slice (some ⟨g, 0, none⟩) l.length c, .int .i64 0, .int .i64 0] 237)).heap.size := by simp
  generalize W2.alloc (.cells #[.slice (some ⟨g, 0, none⟩) l.length c, .int .i64 0, .int .i64 0] 237) = W3 at *
  generalize W2.heap.size = R at *
  go_wp2_with fail
  refine (schema_any W3 R g c l l hlen HRD.out).mono ?_
  rintro e W4 hp
  have HP := Lib.hid hp
  clear hp
  generalize schemaL noRaw l = q at *
  obtain ⟨a', r'⟩ | ⟨cc, pp⟩ := q
  · obtain ⟨ss, es, ts, sv, ev, rv, rfl, rfl, hrow, hrd, hx⟩ := HP.out
    obtain ⟨sa, sc, ea, ec, ra, rc, rfl, rfl, rfl⟩ := hrow.forms
    have HB4 := Lib.hid (HB3.out.trans ((hx.mono (by omega : w.heap.size ≤ W3.heap.size)).below (by omega)))
    have HZ4 := Lib.hid (blk_exc HZ3.out hx (by omega) (by omega))
    have HF4 := Lib.hid (blk_exc HF3.out hx (by omega) (by omega))
    have HROW := Lib.hid hrow
    clear hrow hrd hx HP
    go_upto_region 6 with (fail)
    have hs4 : w.heap.size + 1 < W4.heap.size := blk_lt HF4.out
    have HB5 := Lib.hid (HB4.out.alloc HB4.out.size (.cells #[.slice sa ss.length sc, .slice ea es.length ec, .slice ra ts.length rc] 188))
    have HZ5 := Lib.hid (blk_alloc HZ4.out (.cells #[.slice sa ss.length sc, .slice ea es.length ec, .slice ra ts.length rc] 188))
    have HF5 := Lib.hid (blk_alloc HF4.out (.cells #[.slice sa ss.length sc, .slice ea es.length ec, .slice ra ts.length rc] 188))
    have HT5 := Lib.hid (heap_alloc_new W4 (.cells #[.slice sa ss.length sc, .slice ea es.length ec, .slice ra ts.length rc] 188))
    have HR5 := Lib.hid (HROW.out.below ((Below.refl _ _).alloc (Nat.le_refl _) (.cells #[.slice sa ss.length sc, .slice ea es.length ec, .slice ra ts.length rc] 188)))
    clear HB4 HZ4 HF4 HROW
    generalize W4.alloc (.cells #[.slice sa ss.length sc, .slice ea es.length ec, .slice ra ts.length rc] 188) = W5 at *
    generalize W4.heap.size = BR at *
    obtain ⟨_, t0, t1, t2, _⟩ := blk3 HT5.out
    obtain ⟨hz, z0, z1, z2, y0, y1, y2⟩ := blk3 HZ5.out
    obtain ⟨hf, f0, f1, g0, g1⟩ := blk2 HF5.out
    go_wp2
    refine post_gen (fun Wf => PEnd w (.slice sa ss.length sc) (.slice ea es.length ec) (.slice ra ts.length rc) (.int .i64 0) (.int .i64 0) Wf ∧ RawRows (W3.heap.size + 1) Wf ss es ts (.slice sa ss.length sc) (.slice ea es.length ec) (.slice ra ts.length rc)) ⟨?_, ?_⟩ ?_
    · exact pend HZ5.out HF5.out HB5.out _ _ _ _ _
    · exact HR5.out.set5 (by omega) _ _ _ _ _
    · rintro Wf ⟨⟨e1, e2, e3⟩, e4⟩
      obtain ⟨_, c0, c1, c2, _⟩ := blk3 e1
      obtain ⟨_, d0, d1, _⟩ := blk2 e2
      rw [HX.out]
      exact bodyPost_ret (v := .tuple #[.agg #[.slice sa ss.length sc, .slice ea es.length ec, .slice ra ts.length rc], .agg #[.int .i64 0, .int .i64 0]]) (by simp [results, Tryz.results86, go_sem, c0, c1, c2, d0, d1]) rfl ⟨ss, es, ts, _, _, _, rfl, rfl, e4.base (by omega), e3⟩
  · obtain ⟨rfl, ⟨r', hrd⟩, hx⟩ := HP.out
    have HB4 := Lib.hid (HB3.out.trans ((hx.mono (by omega : w.heap.size ≤ W3.heap.size)).below (by omega)))
    have HZ4 := Lib.hid (blk_exc HZ3.out hx (by omega) (by omega))
    have HF4 := Lib.hid (blk_exc HF3.out hx (by omega) (by omega))
    have HRB := Lib.hid hrd.blk
    clear hrd hx HP
    go_upto_region 6 with (fail)
    have hs4 : w.heap.size + 1 < W4.heap.size := blk_lt HF4.out
    have HB5 := Lib.hid (HB4.out.alloc HB4.out.size (.cells #[.slice none 0 0, .slice none 0 0, .slice none 0 0] 188))
    have HZ5 := Lib.hid (blk_alloc HZ4.out (.cells #[.slice none 0 0, .slice none 0 0, .slice none 0 0] 188))
    have HF5 := Lib.hid (blk_alloc HF4.out (.cells #[.slice none 0 0, .slice none 0 0, .slice none 0 0] 188))
    have HR5 := Lib.hid (blk_alloc HRB.out (.cells #[.slice none 0 0, .slice none 0 0, .slice none 0 0] 188))
    clear HB4 HZ4 HF4 HRB
    generalize W4.alloc (.cells #[.slice none 0 0, .slice none 0 0, .slice none 0 0] 188) = W5 at *
    obtain ⟨_, t0, t1, t2, _⟩ := blk3 HR5.out
    obtain ⟨hz, z0, z1, z2, y0, y1, y2⟩ := blk3 HZ5.out
    obtain ⟨hf, f0, f1, g0, g1⟩ := blk2 HF5.out
    go_wp2_with fail
    go_region_with (fail)
    all_goals
      go_wp2
      refine post_gen (PEnd w (.slice none 0 0) (.slice none 0 0) (.slice none 0 0) (.int .i64 cc) (.int .i64 (pp : Nat))) ?_ ?_
      · first
          | exact (pend HZ5.out HF5.out HB5.out _ _ _ _ _).drew
          | exact pend (w := w) (W := W5.drew) HZ5.out HF5.out HB5.out.drew _ _ _ _ _
      · rintro Wf ⟨e1, e2, e3⟩
        obtain ⟨_, c0, c1, c2, _⟩ := blk3 e1
        obtain ⟨_, d0, d1, _⟩ := blk2 e2
        exact bodyPost_ret (v := .tuple #[.agg #[.slice none 0 0, .slice none 0 0, .slice none 0 0], .agg #[.int .i64 cc, .int .i64 (pp : Nat)]]) (by simp [results, Tryz.results86, go_sem, c0, c1, c2, d0, d1]) rfl (parse_none HX.out e3)
theorem parse_any (s : ByteArray) (w : World) (hT : Tabs w) (hs : s.size ≤ 9223372036854775807) :
    Calls Tryz.prog 86 #[.string s] w (ParsePost w (rawT s)) := by
  obtain ⟨r, hr⟩ : ∃ r, toks okU (amg idlSigns) (bts s) = r := ⟨_, rfl⟩
  obtain ⟨l, code, p⟩ := r
  by_cases hc : code = 0
  · subst hc
    exact parse_good s w hT hs l p hr
  · exact parse_fault s w hT hs l code p hr hc
end Go.Proofs.YtgbcchiheddfpaaGreatDoor
namespace Go.Proofs.YtgbcchiheddfpaaGreatDoor
open Go.ChangeShapes Go.WideShapes Go.ChangeAt Go.RowKit Go.Shelf

theorem isNum_kinds {kd ls : Nat} (h : isNumP kd ls = true) : 1 ≤ kd ∧ kd ≤ 10 := by
  unfold isNumP at h
  have h2 := (Bool.and_eq_true_iff.1 h).2
  have h3 : 0 < kSize kd := of_decide_eq_true h2
  rcases Nat.lt_or_ge kd 1 with h4 | h4
  · rw [kSize_else _ (.inl (by omega))] at h3
    omega
  · rcases Nat.lt_or_ge 10 kd with h5 | h5
    · rw [kSize_else _ (.inr (by omega))] at h3
      omega
    · exact ⟨h4, h5⟩
theorem kind_enum {p : Plan} {f : PF} {i : Nat} (h : kindP p i f = 10) : p.enums.length ≠ 0 ∧ refP p i f = f.ref % p.enums.length := by
  by_cases h10 : f.kind % 13 + 1 = 10
  · by_cases h0 : p.enums.length = 0
    · have := (kp_a (i := i) h10 h0).1
      omega
    · exact ⟨h0, (kp_b h10 h0).2⟩
  · by_cases h13 : f.kind % 13 + 1 = 13
    · cases ht : p.tree with
      | true =>
        by_cases hl : i + 1 = p.structs.length
        · have := (kp_c h13 ht hl).1
          omega
        · have := (kp_d h13 ht hl).1
          omega
      | false =>
        have := (kp_e (i := i) h13 ht).1
        omega
    · have := (kp_f (p := p) (i := i) h10 h13).1
      omega
theorem kindP_le (p : Plan) (i : Nat) (f : PF) : 1 ≤ kindP p i f ∧ kindP p i f ≤ 13 := by
  have h := Nat.mod_lt f.kind (show 0 < 13 by decide)
  unfold kindP
  split
  · omega
  · unfold kind0
    split <;> omega
theorem enum_at {p : Plan} {n0 : Nat} {es : List (SCho × Value)} (hes : es.map Prod.fst = chosP p n0) {k : Nat} (hk : k < n0) : ∃ h : k < es.length, es[k].1 = choP p k := by
  have hl : es.length = n0 := by have := congrArg List.length hes; rw [chosP_length] at this; simpa using this
  refine ⟨by omega, ?_⟩
  have h1 : (es.map Prod.fst)[k]? = (chosP p n0)[k]? := by rw [hes]
  rw [List.getElem?_map, List.getElem?_eq_getElem (by omega)] at h1
  unfold chosP at h1
  rw [List.getElem?_map, List.getElem?_range hk] at h1
  exact Option.some.inj h1
theorem nums_of {p : Plan} {f : PF} {i n0 base ls rt : Nat} {W : World} {ss : List (SRec × Value)} {es : List (SCho × Value)} {sv ev : Value} (hs : SchRows base W ss es sv ev) (hes : es.map Prod.fst = chosP p n0) (hel : p.enums.length = n0) (hd : (f.dflt : Int) ≤ 18446744073709551615) (h : isNumP (kindP p i f) ls = true) :
    NumsAre p (kindP p i f) (refP p i f) ls f.dflt sv ev rt W := by
  obtain ⟨h1, h10⟩ := isNum_kinds h
  by_cases hk : kindP p i f = 10
  · obtain ⟨h0, hr⟩ := kind_enum hk
    rw [hel] at h0 hr
    obtain ⟨hlt, he⟩ := enum_at hes (show refP p i f < n0 by rw [hr]; exact Nat.mod_lt _ (by omega))
    have hc : es[refP p i f].1.names.length = cntOf p (refP p i f) := by rw [he]; simp [choP]
    intro W' hb
    rw [hk, ← hc]
    exact numberE_any (refP p i f) ls f.dflt rt W' (hs.below hb) hlt (by rw [hc]; unfold cntOf; omega) hd
  · intro W' _
    exact hnumber_any (kindP p i f) (refP p i f) ls f.dflt (cntOf p (refP p i f)) sv ev rt W' hd h1 (by omega)
def FldsInv (w0 : World) (p : Plan) (l : List PF) (b i n c0 R : Nat) (a : Option Addr) (rn : Value) (c' : Act) (w' : World) : Prop :=
  ∃ (k : Nat) (fv : Value), k ≤ n ∧ FrD b i a n c0 R k c' ∧ Below R w0 w' ∧ w'.heap[R]? = some (.cells #[rn, fv] 67 (0, 0)) ∧ w'.ownsRow (R + 1) 64 5 fv k (sfldsCells (fldsP p i l k))
set_option maxRecDepth 100000 in
set_option maxHeartbeats 4000000 in
theorem flds_wp {Q : Exit → Act → World → Prop} {c : Act} {w wS w0 : World} {p : Plan} {a a0 a1 : Option Addr} {b i n c0 n0 e0 n1 c1 R rt : Nat} {rn sv ev : Value} {ss : List (SRec × Value)} {es : List (SCho × Value)} {l : List PF}
    (hF : ∀ k, k < n → ∃ B off, PFAt w a k (l.getD k noPF) B off) (hn : n ≤ 16) (hkp : MKeeps w b (.slice a0 n0 e0) (.slice a1 n1 c1) p.root p.tree wS) (hs : SchAt (b + 2) wS ss es sv ev rt) (hes : es.map Prod.fst = chosP p n0) (hel : p.enums.length = n0) (hsl : p.structs.length = n1)
    (hi : i < n1) (h16 : n1 ≤ 16) (h8 : n0 ≤ 8) (hbS : Below wS.heap.size wS w0) (hSR : wS.heap.size ≤ R) (hR : w0.heap[R]? = some (.cells #[rn, .slice none 0 0] 67 (0, 0))) (hc : FrD b i a n c0 R 0 c)
    (hQ : ∀ c' w' fv, FrD b i a n c0 R n c' → Below R w0 w' → w'.heap[R]? = some (.cells #[rn, fv] 67 (0, 0)) → w'.ownsRow (R + 1) 64 5 fv n (sfldsCells (fldsP p i l n)) → Q (.exit 6) c' w') :
    Code.wp Tryz.prog (Code.loop (madeLoop 3)) Q c w0 := by
  refine wp_loop (FldsInv w0 p l b i n c0 R a rn)
    (fun c' _ => n - (intOf (c'.tmps.getD 11 undef)).toNat) ⟨0, _, Nat.zero_le _, hc, Below.refl _ _, hR, World.ownsRow_nil _ _ _ _⟩ ?_
  clear hc hR
  rintro c wr ⟨k, fv, hk, hc, hb, hR, hrow⟩
  have hbb : Below wS.heap.size wS wr := hbS.trans (hb.mono hSR)
  have HSA := Lib.hid (hs.below hbb)
  have HKP := Lib.hid (hkp.below hbb (Nat.le_of_lt (blk_lt hs.blk)))
  have HQ := Lib.hid hQ
  have HB := Lib.hid hb
  have HR := Lib.hid hR
  have HROW := Lib.hid hrow
  have HES := Lib.hid hes
  have HEL := Lib.hid hel
  have HSL := Lib.hid hsl
  have hbR : b + 2 < R := Nat.lt_of_lt_of_le (blk_lt hs.blk) hSR
  have hRw : R < wr.heap.size := blk_lt hR
  have hbeq := hkp.hb
  obtain ⟨u, rfl⟩ := frd_lit hc
  by_cases hkl : k < n
  · obtain ⟨B, off, hpf⟩ := hF k hkl
    have HFX := Lib.hid (rfl : l.getD k noPF = l.getD k noPF)
    have HSN := Lib.hid (fldsP_succ p i l k)
    generalize l.getD k noPF = f at *
    have HPF := Lib.hid hpf
    obtain ⟨rfl, hB, x0, x1, x2, x3, x4, l0, l1, l2, l3, l4⟩ := hpf
    have y0 := (HKP.out.bel.cell (p := ⟨B, off + k * 5, none⟩) (by show B < b; omega)).trans x0
    have y1 := (HKP.out.bel.cell (p := ⟨B, off + k * 5 + 1, none⟩) (by show B < b; omega)).trans x1
    have hBb : B < b := by omega
    have HBEQ := Lib.hid hbeq
    clear hc hQ hb hR hrow hes hel hsl hbb hs hkp hF x0 x1 x2 x3 x4 l2 l3 hbS hB hbeq
    have m0 : (f.kind : Int).tmod 13 = ((f.kind % 13 : Nat) : Int) := by rw [Int.tmod_eq_emod_of_nonneg (by omega)]; omega
    have m1 : (f.lists : Int).tmod 4 = ((f.lists % 4 : Nat) : Int) := by rw [Int.tmod_eq_emod_of_nonneg (by omega)]; omega
    have hk13 : f.kind % 13 < 13 := by omega
    have hl4 : f.lists % 4 < 4 := by omega
    obtain ⟨kq, hkq⟩ : ∃ kq, f.kind % 13 = kq := ⟨_, rfl⟩
    obtain ⟨lq, hlq⟩ : ∃ lq, f.lists % 4 = lq := ⟨_, rfl⟩
    rw [hkq] at m0 hk13
    rw [hlq] at m1 hl4
    have HKQ := Lib.hid hkq
    have HLQ := Lib.hid hlq
    clear hkq hlq
    have v0 := u8_in (kq : Int) (by omega) (by omega)
    have v1 := u8_in ((kq : Int) + 1) (by omega) (by omega)
    have v2 := u8_in (lq : Int) (by omega) (by omega)
    have v3 := IntWalk.i64_in (lq : Int) (by omega)
    have hki : (k : Int) < n := by omega
    conv => arg 2; whnf
    go_upto_region 23 with (fail)
    go_region_held3 (fun w' => w'.cell? ⟨B, off + k * 5, none⟩ = some (.int .u8 (f.kind : Nat)) ∧ w'.cell? ⟨B, off + k * 5 + 1, none⟩ = some (.int .u8 (f.lists : Nat))) (first | assumption | go_keep) (first | fail)
    all_goals
      simp only [Exit.then]
      apply_assumption
      have hbt : Below wr.heap.size wr (wr.alloc (.cells #[.int .u8 ((kq : Int) + 1), .int .i64 0, .int .i64 lq] 62)).drew := ((Below.refl _ _).alloc (Nat.le_refl _) _).drew
      have hty : MTyAt (wr.alloc (.cells #[.int .u8 ((kq : Int) + 1), .int .i64 0, .int .i64 lq] 62)).drew wr.heap.size (f.kind % 13 + 1) 0 (f.lists % 4) := by
        rw [HKQ.out, HLQ.out]
        exact heap_alloc_new wr _
      generalize (wr.alloc (.cells #[.int .u8 ((kq : Int) + 1), .int .i64 0, .int .i64 lq] 62)).drew = W1 at *
      have hs1 := HSA.out.below hbt
      have hk1 := HKP.out.below hbt (by omega)
      obtain ⟨eva, evc, hevf⟩ := ownsRow_form hs1.rows.enums
      have hesl : es.length = n0 := by have := congrArg List.length HES.out; rw [chosP_length] at this; simpa using this
      rw [hesl] at hevf
      subst hevf
      refine kinds_wp (a0 := a0) (c1 := c1) ⟨rfl, rfl, rfl, rfl, rfl, rfl, rfl, rfl, rfl, rfl, rfl⟩ ⟨HPF.out, by rw [← HBEQ.out]; exact hk1.bel, HBEQ.out, by omega, (blk_cell hs1.blk 1).trans rfl, (blk_cell hk1.box 1).trans rfl, (blk_cell hk1.box 3).trans rfl, HEL.out, HSL.out, hi, h16, h8, hkl, hn⟩ hty ?_
      intro c2 W2 G hf2 hTG hbel hty2 hfl
      have hT : wr.heap.size < W1.heap.size := blk_lt hty
      have HS1 := Lib.hid hs1
      have hs2 : SchAt (b + 2) W2 ss es sv (.slice eva n0 evc) rt := HSA.out.below (hbt.trans hbel)
      have hb2 : Below wr.heap.size wr W2 := hbt.trans hbel
      have hR2 := blk_below HR.out hb2 (by omega)
      have hrow2 := row_keep hb2 HROW.out
      refine dflt_wp (w := w) (p := p) (fv := fv) (rn := rn) (xs := sfldsCells (fldsP p i l k)) hf2 HPF.out (by rw [← HBEQ.out]; exact (HKP.out.below hb2 (by omega)).bel) hkl hn hty2 (by have := (kindP_le p i f).2; omega) hfl hTG hRw hbR (by omega) hs2.blk (fun h => nums_of hs2.rows HES.out HEL.out l4 h) hR2 hrow2 (fun g hg => (ownsRow_lt HROW.out g hg).2) ?_
      intro c3 W4 fv' h1 h2 h3 h4
      have HF1 := Lib.hid h1
      have HB4 := Lib.hid ((HB.out.trans (hb2.mono (Nat.le_of_lt hRw))).trans h2)
      have HR4 := Lib.hid h3
      have HROW4 := Lib.hid h4
      obtain ⟨u3, rfl⟩ := frd_lit h1
      clear h1 h2 h3 h4 hR2 hrow2 hs2 hb2 hf2 hbel hty2 hfl hs1 hk1 hbt hty
      simp only [Exit.inBlock, Exit.then]
      apply_assumption
      go_wp2
      refine ⟨⟨k + 1, fv', by omega, ⟨rfl, rfl, rfl, rfl, rfl, rfl, rfl, rfl, rfl, rfl⟩, HB4.out, HR4.out, ?_⟩, ?_⟩
      · rw [HSN.out, sfldsCells_snoc]
        exact HROW4.out
      · show n - (intOf (.int .i64 ((k : Int) + 1))).toNat < n - (intOf (.int .i64 (k : Int))).toNat
        simp [intOf]; omega
  · obtain rfl : k = n := by omega
    clear hc hQ hb hR hrow hes hel hsl hbb hs hkp hF hbS hbeq
    conv => arg 2; whnf
    go_wp2
    exact HQ.out _ _ _ ⟨rfl, rfl, rfl, rfl, rfl, rfl, rfl, rfl, rfl, rfl⟩ HB.out HR.out HROW.out
end Go.Proofs.YtgbcchiheddfpaaGreatDoor
