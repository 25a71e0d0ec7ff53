/-
  The fixed facts of the fourth chapter's examples (the function Awake) come out true, and nothing that was there is written. Condition: the library's tables hold what the row lists.
-/
import Derived.Test.YtmjmblbaojchcaaDoorParse
namespace Go.Proofs.YtmjmblbaojchcaaDoor
open Go.ChangeShapes Go.WideShapes Go.ChangeAt Go.RowKit Go.Shelf

/-- A row that is not empty, cell by cell. -/
theorem row_at {w : World} {base : Nat} {e : TypeId} {size : Nat} {v : Value} {n : Nat} {xs : List Value} (h : w.ownsRow base e size v n xs) (hn : 0 < n) :
    ∃ g c, v = .slice (some ⟨g, 0, none⟩) n c ∧ n ≤ c ∧ base ≤ g ∧ g < w.heap.size ∧ ∀ k, k < n * size → w.cell? ⟨g, k, none⟩ = xs[k]? := by
  rcases h.2 with ⟨_, h0⟩ | ⟨g, cap, cur, rfl, hb, hg, hnc, hm, hs, ht⟩
  · omega
  · refine ⟨g, cap, rfl, hnc, hb, blk_lt hg, fun k hk => ?_⟩
    rw [cell_of_row w g k cur _ (0, 0) hg, ← ht, List.getElem?_take, if_pos hk, Array.getElem?_toList]
/-- A text of one struct: its row, and the first of its fields. -/
def OnePost (w : World) (f : RField) (n : Nat) (e : Ending) (w' : World) : Prop :=
  ∃ gs cs ea en ec ra rn rc gf cf, e = .returned (.tuple #[.agg #[.slice (some ⟨gs, 0, none⟩) 1 cs, .slice ea en ec, .slice ra rn rc], .agg #[.int .i64 0, .int .i64 0]]) ∧ 1 ≤ cs ∧ gs < w'.heap.size ∧ w'.cell? ⟨gs, 2, none⟩ = some (.slice (some ⟨gf, 0, none⟩) n cf) ∧
    n ≤ cf ∧ gf < w'.heap.size ∧ w'.cell? ⟨gf, 2, none⟩ = some (.string (strOfNums f.ty.name)) ∧ w'.cell? ⟨gf, 3, none⟩ = some (.int .i64 f.ty.lists) ∧ Below w.heap.size w w'
theorem parse_one (s : ByteArray) (w : World) (hT : Tabs w) (hs : s.size ≤ 9223372036854775807) (d : RRec) (f : RField) (fs : List RField) (h1 : (rawT s).1.structs = [d]) (h2 : (rawT s).2 = (0, 0)) (h3 : d.fields = f :: fs) :
    Calls Tryd.prog 11 #[.string s] w (OnePost w f (fs.length + 1)) := by
  refine (parse_any s w hT hs).mono ?_
  rintro e w' ⟨ss, es, ts, sv, ev, rv, rfl, hx, hr, hb⟩
  rw [h2]
  rw [hx] at h1
  obtain ⟨p, rfl, rfl⟩ : ∃ p : RRec × Value, ss = [p] ∧ p.1 = d := by
    cases ss with
    | nil => cases h1
    | cons p r =>
      cases r with
      | nil => exact ⟨p, rfl, (List.cons.inj h1).1⟩
      | cons q r => cases (List.cons.inj h1).2
  obtain ⟨gs, cs, rfl, hcs, _, hgs, hcell⟩ := row_at hr.structs (by simp)
  have hf := hr.fields p List.mem_cons_self
  rw [h3] at hf
  obtain ⟨gf, cf, hp, hcf, _, hgf, hfc⟩ := row_at hf (by simp)
  obtain ⟨ea, ec, rfl⟩ := ownsRow_form hr.enums
  obtain ⟨ra, rc, rfl⟩ := ownsRow_form hr.roots
  refine ⟨gs, cs, _, _, _, _, _, _, gf, cf, rfl, hcs, hgs, ?_, by simpa using hcf, hgf, ?_, ?_, hb⟩
  · rw [hcell 2 (by simp), show recsCells [p] = [.string (strOfNums p.1.name), .int .i64 p.1.place, p.2] from rfl, hp]
    rfl
  · rw [hfc 2 (by simp; omega)]
    rfl
  · rw [hfc 3 (by simp; omega)]
    rfl
theorem parse_told (s : ByteArray) (w : World) (hT : Tabs w) (hs : s.size ≤ 9223372036854775807) (code : Int) (p : Nat) (h : (rawT s).2 = (code, p)) :
    Calls Tryd.prog 11 #[.string s] w fun e w' => ∃ sa sn sc ea en ec ra rn rc, e = .returned (.tuple #[.agg #[.slice sa sn sc, .slice ea en ec, .slice ra rn rc], .agg #[.int .i64 code, .int .i64 (p : Nat)]]) ∧ Below w.heap.size w w' := by
  refine (parse_any s w hT hs).mono ?_
  rintro e w' ⟨ss, es, ts, sv, ev, rv, rfl, hx, hr, hb⟩
  rw [h]
  obtain ⟨sa, sc, ea, ec, ra, rc, rfl, rfl, rfl⟩ := hr.forms
  exact ⟨_, _, _, _, _, _, _, _, _, rfl, hb⟩
theorem two_new (W : World) (a : Array Value) (b : Array Value) (s t : TypeId) : ((W.alloc (.cells a s)).alloc (.cells b t)).heap[W.heap.size]? = some (.cells a s (0, 0)) ∧ ((W.alloc (.cells a s)).alloc (.cells b t)).heap[W.heap.size + 1]? = some (.cells b t (0, 0)) :=
  (parse_start W a b s t).2
def exOne : ByteArray := ⟨#[115, 116, 114, 117, 99, 116, 32, 65, 32, 123, 32, 120, 58, 32, 108, 105, 115, 116, 60, 117, 56, 62, 59, 32, 34, 195, 169, 34, 58, 32, 66, 32, 61, 32, 99, 59, 32, 125, 32, 114, 111, 111, 116, 32, 65, 59]⟩
def exTwo : ByteArray := ⟨#[115, 116, 114, 117, 99, 116, 32, 65, 32, 123, 32, 120, 32, 125]⟩
theorem raw_one : rawT exOne = (⟨[⟨[65], 7, [⟨[120], 11, ⟨[117, 56], 1, 14⟩, noTok⟩, ⟨[195, 169], 24, ⟨[66], 0, 30⟩, ⟨1, [99], 34⟩⟩]⟩], [], [⟨1, [65], 44⟩]⟩, 0, 0) := by kernel_rfl
theorem raw_two : rawT exTwo = (noRaw, 11, 13) := by kernel_rfl
set_option maxRecDepth 100000 in
set_option maxHeartbeats 2000000 in
theorem iawake_any (w : World) (hT : Tabs w) : Calls Tryd.prog 7 #[] w fun e w' => e = .returned (.bool true) ∧ Below w.heap.size w w' := by
  have HT := Lib.hid hT
  clear hT
  go_enter Tryd.func7, Tryd.ntmps7
  go_wp2_with fail
  refine (parse_one exOne w HT.out (by decide) _ _ _ (by rw [raw_one]) (by rw [raw_one]) rfl).mono ?_
  rintro e W1 ⟨gs, cs, ea, en, ec, ra, rn, rc, gf, cf, rfl, hcs, hgs, c1, hcf, hgf, c2, c3, hb1⟩
  have HB1 := Lib.hid hb1
  clear hb1 c2
  go_upto_region 2 with (fail)
  have HB2 := Lib.hid ((HB1.out.alloc HB1.out.size (.cells #[.slice (some ⟨gs, 0, none⟩) 1 cs, .slice ea en ec, .slice ra rn rc] 43)).alloc (by simp; have := HB1.out.size; omega) (.cells #[.int .i64 0, .int .i64 0] 46))
  have hq2 := two_new W1 #[.slice (some ⟨gs, 0, none⟩) 1 cs, .slice ea en ec, .slice ra rn rc] #[.int .i64 0, .int .i64 0] 43 46
  have HQ2 := Lib.hid hq2
  have hbb : Below W1.heap.size W1 ((W1.alloc (.cells #[.slice (some ⟨gs, 0, none⟩) 1 cs, .slice ea en ec, .slice ra rn rc] 43)).alloc (.cells #[.int .i64 0, .int .i64 0] 46)) := ((Below.refl _ _).alloc (Nat.le_refl _) _).alloc (by simp) _
  have HC1 := Lib.hid ((hbb.cell (p := ⟨gs, 2, none⟩) hgs).trans c1)
  have HC3 := Lib.hid ((hbb.cell (p := ⟨gf, 3, none⟩) hgf).trans c3)
  have hlt2 : W1.heap.size + 1 < ((W1.alloc (.cells #[.slice (some ⟨gs, 0, none⟩) 1 cs, .slice ea en ec, .slice ra rn rc] 43)).alloc (.cells #[.int .i64 0, .int .i64 0] 46)).heap.size := blk_lt hq2.2
  clear hbb c1 c3 hq2 HB1
  generalize (W1.alloc (.cells #[.slice (some ⟨gs, 0, none⟩) 1 cs, .slice ea en ec, .slice ra rn rc] 43)).alloc (.cells #[.int .i64 0, .int .i64 0] 46) = W2 at *
  go_wp2_with fail
  refine (parse_told exTwo _ (HT.out.below (Nat.le_refl _) HB2.out) (by decide) 11 13 (by rw [raw_two])).mono ?_
  rintro e W3 ⟨sa2, sn2, sc2, ea2, en2, ec2, ra2, rn2, rc2, rfl, hb3⟩
  have HB3 := Lib.hid (HB2.out.trans (hb3.mono HB2.out.size))
  have HQ3 := Lib.hid (show _ ∧ _ from ⟨blk_below HQ2.out.1 hb3 (blk_lt HQ2.out.1), blk_below HQ2.out.2 hb3 (blk_lt HQ2.out.2)⟩)
  have HD1 := Lib.hid ((hb3.cell (p := ⟨gs, 2, none⟩) (by show gs < _; omega)).trans HC1.out)
  have HD3 := Lib.hid ((hb3.cell (p := ⟨gf, 3, none⟩) (by show gf < _; omega)).trans HC3.out)
  have hs3 := hb3.size
  clear hb3 HC1 HC3 HQ2 HB2
  go_upto_region 3 with (fail)
  have HB4 := Lib.hid ((HB3.out.alloc HB3.out.size (.cells #[.slice sa2 sn2 sc2, .slice ea2 en2 ec2, .slice ra2 rn2 rc2] 43)).alloc (by simp; have := HB3.out.size; omega) (.cells #[.int .i64 11, .int .i64 13] 46))
  have HQ4 := Lib.hid (two_new W3 #[.slice sa2 sn2 sc2, .slice ea2 en2 ec2, .slice ra2 rn2 rc2] #[.int .i64 11, .int .i64 13] 43 46)
  have hbb : Below W3.heap.size W3 ((W3.alloc (.cells #[.slice sa2 sn2 sc2, .slice ea2 en2 ec2, .slice ra2 rn2 rc2] 43)).alloc (.cells #[.int .i64 11, .int .i64 13] 46)) := ((Below.refl _ _).alloc (Nat.le_refl _) _).alloc (by simp) _
  have HP4 := Lib.hid (show _ ∧ _ from ⟨blk_below HQ3.out.1 hbb (blk_lt HQ3.out.1), blk_below HQ3.out.2 hbb (blk_lt HQ3.out.2)⟩)
  have c1 := (hbb.cell (p := ⟨gs, 2, none⟩) (by show gs < _; omega)).trans HD1.out
  have c3 := (hbb.cell (p := ⟨gf, 3, none⟩) (by show gf < _; omega)).trans HD3.out
  clear hbb HD1 HD3 HQ3 HB3
  generalize (W3.alloc (.cells #[.slice sa2 sn2 sc2, .slice ea2 en2 ec2, .slice ra2 rn2 rc2] 43)).alloc (.cells #[.int .i64 11, .int .i64 13] 46) = W4 at *
  obtain ⟨_, r0, r1, r2, _⟩ := blk3 HP4.out.1
  obtain ⟨_, f0, f1, _⟩ := blk2 HP4.out.2
  obtain ⟨_, g0, g1, _⟩ := blk2 HQ4.out.2
  go_wp2
  go_ret
  exact ⟨rfl, HB4.out⟩
end Go.Proofs.YtmjmblbaojchcaaDoor
