/-
  The document's own SameTokens at two slices of the same tokens: true. Conditions: those that each theorem names.
  Rows of the call's own: their elements, cell by cell; rows stay where nothing below is written. Conditions: those that each theorem names.
  The fixed facts of the fourth chapter's examples (the function Awake) come out true, and nothing that was there is written. Condition: the library's tables hold what the row lists.
  The document's own SameRaw at two schemas that are written alike: true. Conditions: those that each theorem names.
-/
import Derived.Test.YtmjmblbaojchcaaDoorPkC2
import Derived.Test.YtmjmblbaojchcaaDoorPkC30
import Derived.Test.YtmjmblbaojchcaaDoorPkC33
import Derived.Test.YtmjmblbaojchcaaDoorPkC34
import Derived.Test.YtmjmblbaojchcaaDoorPkC37
import Derived.Test.YtmjmblbaojchcaaDoorPkC38
import Derived.StillTailTactics
namespace Go.Proofs.YtmjmblbaojchcaaDoor
open Go.ChangeShapes Go.WideShapes Go.ChangeAt Go.RowKit Go.Shelf

theorem same_nil (v1 v2 : Value) (b1 b2 : Nat) (w : World) (h1 : OwnT w b1 v1 []) (h2 : OwnT w b2 v2 []) :
    Calls Tryd.prog 33 #[v1, v2] w fun e w' => e = .returned (.bool true) ∧ Below w.heap.size w w' := by
  obtain ⟨a1, c1, rfl⟩ := h1.form
  obtain ⟨a2, c2, rfl⟩ := h2.form
  clear h1 h2
  simp only [List.length_nil]
  go_enter Tryd.func33, Tryd.ntmps33
  go_wp2
  go_loopw [5] (fun i wr => wr = w ∧ i = .int .i64 0) (fun _ _ => 0)
  case atStart => exact ⟨rfl, rfl⟩
  case round =>
    obtain ⟨rfl, rfl⟩ := hrel
    go_wp2
    go_ret
    exact ⟨rfl, Below.refl _ _⟩
set_option maxHeartbeats 1600000 in
set_option maxRecDepth 100000 in
theorem same_any (l : List Tok) (v1 v2 : Value) (b1 b2 : Nat) (w : World) (h1 : OwnT w b1 v1 l) (h2 : OwnT w b2 v2 l) (hll : l.length ≤ 281474976710656) :
    Calls Tryd.prog 33 #[v1, v2] w fun e w' => e = .returned (.bool true) ∧ Below w.heap.size w w' := by
  by_cases hne : l = []
  · subst hne
    exact same_nil v1 v2 b1 b2 w h1 h2
  obtain ⟨g1, c1, rfl, hc1, _, hg1, hcell1⟩ := h1.cells hne
  obtain ⟨g2, c2, rfl, hc2, _, hg2, hcell2⟩ := h2.cells hne
  have HC1 := Lib.hid hcell1
  have HC2 := Lib.hid hcell2
  clear hcell1 hcell2 h1 h2 hne
  go_enter Tryd.func33, Tryd.ntmps33
  go_wp2
  go_loopw [5] (fun i wr => Below w.heap.size w wr ∧ ∃ k : Nat, k ≤ l.length ∧ i = .int .i64 k) (fun i _ => l.length - (intOf i).toNat)
  case atStart => exact ⟨Below.refl _ _, 0, Nat.zero_le _, rfl⟩
  case round =>
    obtain ⟨hb, k, hk, rfl⟩ := hrel
    have HQ := Lib.hid hb
    cases hd : l.drop k with
    | nil =>
      have hkl : k = l.length := by have := List.drop_eq_nil_iff.1 hd; omega
      subst hkl
      clear hd hb
      go_wp2
      go_ret
      exact ⟨rfl, HQ.out⟩
    | cons t q =>
      obtain ⟨hkl, x0, x1, x2⟩ := tok_cell HC1.out hg1 hb k t q hd
      obtain ⟨_, y0, y1, y2⟩ := tok_cell HC2.out hg2 hb k t q hd
      have hgq : g1 < wr.heap.size := Nat.lt_of_lt_of_le hg1 hb.size
      have hgq' : g2 < wr.heap.size := Nat.lt_of_lt_of_le hg2 hb.size
      clear hd hb
      go_upto_region 6 with (fail)
      go_quiet (fail)
      go_wp2
      go_roundw
      case rel => exact ⟨bel_drewN HQ.out nq, k + 1, hkl, by go_num⟩
      case measure => simp [intOf]; omega
end Go.Proofs.YtmjmblbaojchcaaDoor
namespace Go.Proofs.YtmjmblbaojchcaaDoor
open Go.ChangeShapes Go.WideShapes Go.ChangeAt Go.RowKit Go.Shelf

/-- A row that is not empty, cell by cell. -/
theorem row_at {w : World} {base : Nat} {e : TypeId} {size : Nat} {v : Value} {n : Nat} {xs : List Value} (h : w.ownsRow base e size v n xs) (hn : 0 < n) :
    ∃ g c, v = .slice (some ⟨g, 0, none⟩) n c ∧ n ≤ c ∧ base ≤ g ∧ g < w.heap.size ∧ ∀ k, k < n * size → w.cell? ⟨g, k, none⟩ = xs[k]? := by
  rcases h.2 with ⟨_, h0⟩ | ⟨g, cap, cur, rfl, hb, hg, hnc, hm, hs, ht⟩
  · omega
  · refine ⟨g, cap, rfl, hnc, hb, blk_lt hg, fun k hk => ?_⟩
    rw [cell_of_row w g k cur _ (0, 0) hg, ← ht, List.getElem?_take, if_pos hk, Array.getElem?_toList]
/-- The cells of a list whose things have so many cells each. -/
theorem flat_at {α : Type} (f : α → List Value) (m : Nat) (hm : ∀ a, (f a).length = m) : ∀ (l : List α) (k : Nat) (hk : k < l.length) (j : Nat), j < m → (l.flatMap f)[k * m + j]? = (f l[k])[j]?
  | [], k, hk, _, _ => absurd hk (Nat.not_lt_zero k)
  | a :: r, 0, _, j, hj => by
    rw [List.flatMap_cons, Nat.zero_mul, Nat.zero_add, List.getElem?_append_left (by rw [hm]; exact hj)]
    rfl
  | a :: r, k + 1, hk, j, hj => by
    have e : (k + 1) * m + j = m + (k * m + j) := by rw [Nat.succ_mul]; omega
    rw [List.flatMap_cons, List.getElem?_append_right (by rw [hm, e]; omega), hm, show (k + 1) * m + j - m = k * m + j by omega]
    exact flat_at f m hm r k (Nat.lt_of_succ_lt_succ hk) j hj
/-- A row's element, cell by cell. -/
theorem row_el {α : Type} (f : α → List Value) (m : Nat) (hm : ∀ a, (f a).length = m) {w : World} {base : Nat} {e : TypeId} {v : Value} {l : List α} (h : w.ownsRow base e m v l.length (l.flatMap f)) (k : Nat) (hk : k < l.length) :
    ∃ g c, v = .slice (some ⟨g, 0, none⟩) l.length c ∧ l.length ≤ c ∧ g < w.heap.size ∧ ∀ j, j < m → w.cell? ⟨g, k * m + j, none⟩ = (f l[k])[j]? := by
  obtain ⟨g, c, hv, hc, _, hg, hcell⟩ := row_at h (by omega)
  refine ⟨g, c, hv, hc, hg, fun j hj => ?_⟩
  have hlt : k * m + j < l.length * m := by
    have h1 : (k + 1) * m ≤ l.length * m := Nat.mul_le_mul_right m hk
    rw [Nat.succ_mul] at h1
    omega
  rw [hcell _ hlt, flat_at f m hm l k hk j hj]
theorem row_few {w : World} {base : Nat} {e : TypeId} {size : Nat} {v : Value} {n : Nat} {xs : List Value} (h : w.ownsRow base e size v n xs) : n ≤ 9223372036854775807 := by
  rcases h.2 with ⟨_, h0⟩ | ⟨g, cap, cur, rfl, hb, hg, hnc, hm, _⟩
  · omega
  · unfold maxLen at hm
    omega
theorem slice_inj {a b : Option Addr} {n c n' c' : Nat} (h : Value.slice a n c = .slice b n' c') : a = b ∧ c = c' := by
  injection h with h1 _ h3
  exact ⟨h1, h3⟩
theorem row_keep {w w' : World} (h : Below w.heap.size w w') {base : Nat} {e : TypeId} {size : Nat} {v : Value} {n : Nat} {xs : List Value} (ho : w.ownsRow base e size v n xs) : w'.ownsRow base e size v n xs := by
  obtain ⟨hl, h'⟩ := ho
  refine ⟨hl, ?_⟩
  rcases h' with h1 | ⟨g', cap', cur, hv, h1, hg', h2⟩
  · exact .inl h1
  · exact .inr ⟨g', cap', cur, hv, h1, (h.block g' (blk_lt hg')).trans hg', h2⟩
end Go.Proofs.YtmjmblbaojchcaaDoor
namespace Go.Proofs.YtmjmblbaojchcaaDoor
open Go.ChangeShapes Go.WideShapes Go.ChangeAt Go.RowKit Go.Shelf

/-- A text of one struct: its row, and the first of its fields. -/
def OnePost (w : World) (f : RField) (n : Nat) (e : Ending) (w' : World) : Prop :=
  ∃ gs cs ea en ec ra rn rc gf cf, e = .returned (.tuple #[.agg #[.slice (some ⟨gs, 0, none⟩) 1 cs, .slice ea en ec, .slice ra rn rc], .agg #[.int .i64 0, .int .i64 0]]) ∧ 1 ≤ cs ∧ gs < w'.heap.size ∧ w'.cell? ⟨gs, 2, none⟩ = some (.slice (some ⟨gf, 0, none⟩) n cf) ∧
    n ≤ cf ∧ gf < w'.heap.size ∧ w'.cell? ⟨gf, 2, none⟩ = some (.string (strOfNums f.ty.name)) ∧ w'.cell? ⟨gf, 3, none⟩ = some (.int .i64 f.ty.lists) ∧ Below w.heap.size w w'
theorem parse_one (s : ByteArray) (w : World) (hT : Tabs w) (hs : s.size ≤ 9223372036854775807) (d : RRec) (f : RField) (fs : List RField) (h1 : (rawT s).1.structs = [d]) (h2 : (rawT s).2 = (0, 0)) (h3 : d.fields = f :: fs) :
    Calls Tryd.prog 11 #[.string s] w (OnePost w f (fs.length + 1)) := by
  refine (parse_any s w hT hs).mono ?_
  rintro e w' ⟨ss, es, ts, sv, ev, rv, rfl, hx, hr, hb⟩
  rw [h2]
  rw [hx] at h1
  obtain ⟨p, rfl, rfl⟩ : ∃ p : RRec × Value, ss = [p] ∧ p.1 = d := by
    cases ss with
    | nil => cases h1
    | cons p r =>
      cases r with
      | nil => exact ⟨p, rfl, (List.cons.inj h1).1⟩
      | cons q r => cases (List.cons.inj h1).2
  obtain ⟨gs, cs, rfl, hcs, _, hgs, hcell⟩ := row_at hr.structs (by simp)
  have hf := hr.fields p List.mem_cons_self
  rw [h3] at hf
  obtain ⟨gf, cf, hp, hcf, _, hgf, hfc⟩ := row_at hf (by simp)
  obtain ⟨ea, ec, rfl⟩ := ownsRow_form hr.enums
  obtain ⟨ra, rc, rfl⟩ := ownsRow_form hr.roots
  refine ⟨gs, cs, _, _, _, _, _, _, gf, cf, rfl, hcs, hgs, ?_, by simpa using hcf, hgf, ?_, ?_, hb⟩
  · rw [hcell 2 (by simp), show recsCells [p] = [.string (strOfNums p.1.name), .int .i64 p.1.place, p.2] from rfl, hp]
    rfl
  · rw [hfc 2 (by simp; omega)]
    rfl
  · rw [hfc 3 (by simp; omega)]
    rfl
theorem parse_told (s : ByteArray) (w : World) (hT : Tabs w) (hs : s.size ≤ 9223372036854775807) (code : Int) (p : Nat) (h : (rawT s).2 = (code, p)) :
    Calls Tryd.prog 11 #[.string s] w fun e w' => ∃ sa sn sc ea en ec ra rn rc, e = .returned (.tuple #[.agg #[.slice sa sn sc, .slice ea en ec, .slice ra rn rc], .agg #[.int .i64 code, .int .i64 (p : Nat)]]) ∧ Below w.heap.size w w' := by
  refine (parse_any s w hT hs).mono ?_
  rintro e w' ⟨ss, es, ts, sv, ev, rv, rfl, hx, hr, hb⟩
  rw [h]
  obtain ⟨sa, sc, ea, ec, ra, rc, rfl, rfl, rfl⟩ := hr.forms
  exact ⟨_, _, _, _, _, _, _, _, _, rfl, hb⟩
theorem two_newI (W : World) (a : Array Value) (b : Array Value) (s t : TypeId) : ((W.alloc (.cells a s)).alloc (.cells b t)).heap[W.heap.size]? = some (.cells a s (0, 0)) ∧ ((W.alloc (.cells a s)).alloc (.cells b t)).heap[W.heap.size + 1]? = some (.cells b t (0, 0)) :=
  (parse_start W a b s t).2
def exOne : ByteArray := ⟨#[115, 116, 114, 117, 99, 116, 32, 65, 32, 123, 32, 120, 58, 32, 108, 105, 115, 116, 60, 117, 56, 62, 59, 32, 34, 195, 169, 34, 58, 32, 66, 32, 61, 32, 99, 59, 32, 125, 32, 114, 111, 111, 116, 32, 65, 59]⟩
def exTwo : ByteArray := ⟨#[115, 116, 114, 117, 99, 116, 32, 65, 32, 123, 32, 120, 32, 125]⟩
theorem raw_one : rawT exOne = (⟨[⟨[65], 7, [⟨[120], 11, ⟨[117, 56], 1, 14⟩, noTok⟩, ⟨[195, 169], 24, ⟨[66], 0, 30⟩, ⟨1, [99], 34⟩⟩]⟩], [], [⟨1, [65], 44⟩]⟩, 0, 0) := by kernel_rfl
theorem raw_two : rawT exTwo = (noRaw, 11, 13) := by kernel_rfl
set_option maxRecDepth 100000 in
set_option maxHeartbeats 2000000 in
theorem iawake_any (w : World) (hT : Tabs w) : Calls Tryd.prog 7 #[] w fun e w' => e = .returned (.bool true) ∧ Below w.heap.size w w' := by
  have HT := Lib.hid hT
  clear hT
  go_enter Tryd.func7, Tryd.ntmps7
  go_wp2_with fail
  refine (parse_one exOne w HT.out (by decide) _ _ _ (by rw [raw_one]) (by rw [raw_one]) rfl).mono ?_
  rintro e W1 ⟨gs, cs, ea, en, ec, ra, rn, rc, gf, cf, rfl, hcs, hgs, c1, hcf, hgf, c2, c3, hb1⟩
  have HB1 := Lib.hid hb1
  clear hb1 c2
  go_upto_region 2 with (fail)
  have HB2 := Lib.hid ((HB1.out.alloc HB1.out.size (.cells #[.slice (some ⟨gs, 0, none⟩) 1 cs, .slice ea en ec, .slice ra rn rc] 43)).alloc (by simp; have := HB1.out.size; omega) (.cells #[.int .i64 0, .int .i64 0] 46))
  have hq2 := two_newI W1 #[.slice (some ⟨gs, 0, none⟩) 1 cs, .slice ea en ec, .slice ra rn rc] #[.int .i64 0, .int .i64 0] 43 46
  have HQ2 := Lib.hid hq2
  have hbb : Below W1.heap.size W1 ((W1.alloc (.cells #[.slice (some ⟨gs, 0, none⟩) 1 cs, .slice ea en ec, .slice ra rn rc] 43)).alloc (.cells #[.int .i64 0, .int .i64 0] 46)) := ((Below.refl _ _).alloc (Nat.le_refl _) _).alloc (by simp) _
  have HC1 := Lib.hid ((hbb.cell (p := ⟨gs, 2, none⟩) hgs).trans c1)
  have HC3 := Lib.hid ((hbb.cell (p := ⟨gf, 3, none⟩) hgf).trans c3)
  have hlt2 : W1.heap.size + 1 < ((W1.alloc (.cells #[.slice (some ⟨gs, 0, none⟩) 1 cs, .slice ea en ec, .slice ra rn rc] 43)).alloc (.cells #[.int .i64 0, .int .i64 0] 46)).heap.size := blk_lt hq2.2
  clear hbb c1 c3 hq2 HB1
  generalize (W1.alloc (.cells #[.slice (some ⟨gs, 0, none⟩) 1 cs, .slice ea en ec, .slice ra rn rc] 43)).alloc (.cells #[.int .i64 0, .int .i64 0] 46) = W2 at *
  go_wp2_with fail
  refine (parse_told exTwo _ (HT.out.below (Nat.le_refl _) HB2.out) (by decide) 11 13 (by rw [raw_two])).mono ?_
  rintro e W3 ⟨sa2, sn2, sc2, ea2, en2, ec2, ra2, rn2, rc2, rfl, hb3⟩
  have HB3 := Lib.hid (HB2.out.trans (hb3.mono HB2.out.size))
  have HQ3 := Lib.hid (show _ ∧ _ from ⟨blk_below HQ2.out.1 hb3 (blk_lt HQ2.out.1), blk_below HQ2.out.2 hb3 (blk_lt HQ2.out.2)⟩)
  have HD1 := Lib.hid ((hb3.cell (p := ⟨gs, 2, none⟩) (by show gs < _; omega)).trans HC1.out)
  have HD3 := Lib.hid ((hb3.cell (p := ⟨gf, 3, none⟩) (by show gf < _; omega)).trans HC3.out)
  have hs3 := hb3.size
  clear hb3 HC1 HC3 HQ2 HB2
  go_upto_region 3 with (fail)
  have HB4 := Lib.hid ((HB3.out.alloc HB3.out.size (.cells #[.slice sa2 sn2 sc2, .slice ea2 en2 ec2, .slice ra2 rn2 rc2] 43)).alloc (by simp; have := HB3.out.size; omega) (.cells #[.int .i64 11, .int .i64 13] 46))
  have HQ4 := Lib.hid (two_newI W3 #[.slice sa2 sn2 sc2, .slice ea2 en2 ec2, .slice ra2 rn2 rc2] #[.int .i64 11, .int .i64 13] 43 46)
  have hbb : Below W3.heap.size W3 ((W3.alloc (.cells #[.slice sa2 sn2 sc2, .slice ea2 en2 ec2, .slice ra2 rn2 rc2] 43)).alloc (.cells #[.int .i64 11, .int .i64 13] 46)) := ((Below.refl _ _).alloc (Nat.le_refl _) _).alloc (by simp) _
  have HP4 := Lib.hid (show _ ∧ _ from ⟨blk_below HQ3.out.1 hbb (blk_lt HQ3.out.1), blk_below HQ3.out.2 hbb (blk_lt HQ3.out.2)⟩)
  have c1 := (hbb.cell (p := ⟨gs, 2, none⟩) (by show gs < _; omega)).trans HD1.out
  have c3 := (hbb.cell (p := ⟨gf, 3, none⟩) (by show gf < _; omega)).trans HD3.out
  clear hbb HD1 HD3 HQ3 HB3
  generalize (W3.alloc (.cells #[.slice sa2 sn2 sc2, .slice ea2 en2 ec2, .slice ra2 rn2 rc2] 43)).alloc (.cells #[.int .i64 11, .int .i64 13] 46) = W4 at *
  obtain ⟨_, r0, r1, r2, _⟩ := blk3 HP4.out.1
  obtain ⟨_, f0, f1, _⟩ := blk2 HP4.out.2
  obtain ⟨_, g0, g1, _⟩ := blk2 HQ4.out.2
  go_wp2
  go_ret
  exact ⟨rfl, HB4.out⟩
end Go.Proofs.YtmjmblbaojchcaaDoor
namespace Go.Proofs.YtmjmblbaojchcaaDoor
open Go.ChangeShapes Go.WideShapes Go.ChangeAt Go.RowKit Go.Shelf

theorem dparse_any (s : ByteArray) (w : World) (hT : Tabs w) (hs : s.size ≤ 9223372036854775807) :
    Calls Tryd.prog 17 #[.string s] w (DParsePost w (rawT s)) := by
  obtain ⟨r, hr⟩ : ∃ r, toks okU (amg idlSigns) (bts s) = r := ⟨_, rfl⟩
  obtain ⟨l, code, p⟩ := r
  by_cases hc : code = 0
  · subst hc
    exact dparse_good s w hT hs l p hr
  · exact dparse_fault s w hT hs l code p hr hc
set_option maxHeartbeats 1600000 in
set_option maxRecDepth 100000 in
theorem same2_any (l : List Tok) (v1 v2 : Value) (b1 b2 : Nat) (w : World) (h1 : OwnT w b1 v1 l) (h2 : OwnT w b2 v2 l) :
    Calls Tryd.prog 33 #[v1, v2] w fun e w' => e = .returned (.bool true) ∧ Below w.heap.size w w' := by
  by_cases hne : l = []
  · subst hne
    exact same_nil v1 v2 b1 b2 w h1 h2
  have hll := row_few h1
  obtain ⟨g1, c1, rfl, hc1, _, hg1, hcell1⟩ := h1.cells hne
  obtain ⟨g2, c2, rfl, hc2, _, hg2, hcell2⟩ := h2.cells hne
  have HC1 := Lib.hid hcell1
  have HC2 := Lib.hid hcell2
  clear hcell1 hcell2 h1 h2 hne
  go_enter Tryd.func33, Tryd.ntmps33
  go_wp2
  go_loopw [5] (fun i wr => Below w.heap.size w wr ∧ ∃ k : Nat, k ≤ l.length ∧ i = .int .i64 k) (fun i _ => l.length - (intOf i).toNat)
  case atStart => exact ⟨Below.refl _ _, 0, Nat.zero_le _, rfl⟩
  case round =>
    obtain ⟨hb, k, hk, rfl⟩ := hrel
    have HQ := Lib.hid hb
    cases hd : l.drop k with
    | nil =>
      have hkl : k = l.length := by have := List.drop_eq_nil_iff.1 hd; omega
      subst hkl
      clear hd hb
      go_wp2
      go_ret
      exact ⟨rfl, HQ.out⟩
    | cons t q =>
      obtain ⟨hkl, x0, x1, x2⟩ := tok_cell HC1.out hg1 hb k t q hd
      obtain ⟨_, y0, y1, y2⟩ := tok_cell HC2.out hg2 hb k t q hd
      have hgq : g1 < wr.heap.size := Nat.lt_of_lt_of_le hg1 hb.size
      have hgq' : g2 < wr.heap.size := Nat.lt_of_lt_of_le hg2 hb.size
      clear hd hb
      go_upto_region 6 with (fail)
      go_quiet (fail)
      go_wp2
      go_roundw
      case rel => exact ⟨bel_drewN HQ.out nq, k + 1, hkl, by go_num⟩
      case measure => simp [intOf]; omega
end Go.Proofs.YtmjmblbaojchcaaDoor
