/-
  The fixed facts of the fifth chapter's examples (the function Awake) come out true, and nothing that was there is written. Conditions: the library's tables hold what the row lists, its error lies there.
-/
import Derived.Test.YtgbcchiheddfpaaGreatDoorPkL47
namespace Go.Proofs.YtgbcchiheddfpaaGreatDoor
open Go.ChangeShapes Go.WideShapes Go.ChangeAt Go.RowKit Go.Shelf

def exA : ByteArray := ⟨#[101, 110, 117, 109, 32, 69, 32, 123, 32, 97, 44, 32, 98, 32, 125, 32, 115, 116, 114, 117, 99, 116, 32, 83, 32, 123, 32, 120, 58, 32, 69, 32, 61, 32, 98, 59, 32, 125, 32, 114, 111, 111, 116, 32, 83, 59]⟩
def exB : ByteArray := ⟨#[115, 116, 114, 117, 99, 116, 32, 83, 32, 123, 32, 120, 58, 32, 117, 56, 32, 61, 32, 50, 53, 54, 59, 32, 125, 32, 114, 111, 111, 116, 32, 83, 59]⟩
def exC : ByteArray := ⟨#[115, 116, 114, 117, 99, 116, 32, 83, 32, 123, 32, 120, 58, 32, 84, 59, 32, 125, 32, 114, 111, 111, 116, 32, 83, 59]⟩
theorem read_a : readM exA = .ok ⟨[⟨⟨#[83]⟩, [⟨⟨#[120]⟩, 10, 0, 0, 1⟩]⟩], [⟨⟨#[69]⟩, [⟨#[97]⟩, ⟨#[98]⟩]⟩], 0⟩ := by kernel_rfl
theorem read_b : readM exB = .no 15 19 := by kernel_rfl
theorem read_c : readM exC = .no 14 14 := by kernel_rfl
theorem one_of {α β : Type} {l : List (α × β)} {a : α} (h : l.map Prod.fst = [a]) : ∃ b, l = [(a, b)] := by
  cases l with
  | nil => cases h
  | cons p r =>
    cases r with
    | nil =>
      obtain ⟨x, y⟩ := p
      cases h
      exact ⟨y, rfl⟩
    | cons q r => cases (List.cons.inj h).2
set_option maxRecDepth 100000 in
set_option maxHeartbeats 4000000 in
theorem awake5_any (w : World) (hT : Tabs w) (hE : ErrV w) : Calls Tryz.prog 27 #[] w fun e w' => e = .returned (.bool true) ∧ Below w.heap.size w w' := by
  have HT := Lib.hid hT
  have HE := Lib.hid hE
  clear hT hE
  go_enter Tryz.func27, Tryz.ntmps27
  go_wp2_with fail
  refine (read_any exA w HT.out HE.out (by decide)).mono ?_
  rintro e W1 hp
  obtain ⟨ss, es, sa, sc, ea, ec, rt, code, pl, rfl, hr1, hs1, hb1⟩ := sch_form hp
  rw [read_a] at hs1
  obtain ⟨h1, h2, rfl, rfl, rfl⟩ := hs1
  obtain ⟨fv, rfl⟩ := one_of h1
  have HB1 := Lib.hid hb1
  have HR1 := Lib.hid hr1
  clear hp hr1 hb1 h1 h2
  simp only [List.length_singleton] at *
  go_upto_region 2 with (fail)
  obtain ⟨hbb, hq1, hq2⟩ := two_blk W1 #[.slice sa 1 sc, .slice ea es.length ec, .int .i64 0] #[.int .i64 0, .int .i64 0] 30 125
  generalize ((W1.alloc (.cells #[.slice sa 1 sc, .slice ea es.length ec, .int .i64 0] 30)).alloc (.cells #[.int .i64 0, .int .i64 0] 125)) = W2 at *
  have HB2 := Lib.hid (HB1.out.trans (hbb.mono HB1.out.size))
  have HR2 := Lib.hid (HR1.out.below hbb)
  have HQ1 := Lib.hid hq1
  have HQ2 := Lib.hid hq2
  generalize W1.heap.size = A1 at *
  clear hbb hq1 hq2 HB1 HR1
  go_wp2_with fail
  refine (read_any exB W2 (HT.out.below (Nat.le_refl _) HB2.out) (HE.out.later HB2.out) (by decide)).mono ?_
  rintro e W3 hp
  obtain ⟨ss2, es2, sa2, sc2, ea2, ec2, rt2, code, pl, rfl, _, hs1, hb3⟩ := sch_form hp
  rw [read_b] at hs1
  obtain ⟨_, _, rfl, rfl, rfl⟩ := hs1
  have HB3 := Lib.hid (HB2.out.trans (hb3.mono HB2.out.size))
  have HR3 := Lib.hid (HR2.out.below hb3)
  have HQ3 := Lib.hid (blk_below HQ1.out hb3 (blk_lt HQ1.out))
  have HQ4 := Lib.hid (blk_below HQ2.out hb3 (blk_lt HQ2.out))
  clear hp hb3 HB2 HR2 HQ1 HQ2
  go_upto_region 3 with (fail)
  obtain ⟨hbb, _, hq2⟩ := two_blk W3 #[.slice sa2 ss2.length sc2, .slice ea2 es2.length ec2, .int .i64 0] #[.int .i64 15, .int .i64 19] 30 125
  generalize ((W3.alloc (.cells #[.slice sa2 ss2.length sc2, .slice ea2 es2.length ec2, .int .i64 0] 30)).alloc (.cells #[.int .i64 15, .int .i64 19] 125)) = W4 at *
  have HB4 := Lib.hid (HB3.out.trans (hbb.mono HB3.out.size))
  have HR4 := Lib.hid (HR3.out.below hbb)
  have HQ5 := Lib.hid (blk_below HQ3.out hbb (blk_lt HQ3.out))
  have HQ6 := Lib.hid (blk_below HQ4.out hbb (blk_lt HQ4.out))
  have HQ7 := Lib.hid hq2
  generalize W3.heap.size = A3 at *
  clear hbb hq2 HB3 HR3 HQ3 HQ4
  go_wp2_with fail
  refine (read_any exC W4 (HT.out.below (Nat.le_refl _) HB4.out) (HE.out.later HB4.out) (by decide)).mono ?_
  rintro e W5 hp
  obtain ⟨ss3, es3, sa3, sc3, ea3, ec3, rt3, code, pl, rfl, _, hs1, hb5⟩ := sch_form hp
  rw [read_c] at hs1
  obtain ⟨_, _, rfl, rfl, rfl⟩ := hs1
  have HB5 := Lib.hid (HB4.out.trans (hb5.mono HB4.out.size))
  have HR5 := Lib.hid (HR4.out.below hb5)
  have HQ1 := Lib.hid (blk_below HQ5.out hb5 (blk_lt HQ5.out))
  have HQ2 := Lib.hid (blk_below HQ6.out hb5 (blk_lt HQ6.out))
  have HQ3 := Lib.hid (blk_below HQ7.out hb5 (blk_lt HQ7.out))
  clear hp hb5 HB4 HR4 HQ5 HQ6 HQ7
  go_upto_region 4 with (fail)
  obtain ⟨hbb, _, hq2⟩ := two_blk W5 #[.slice sa3 ss3.length sc3, .slice ea3 es3.length ec3, .int .i64 0] #[.int .i64 14, .int .i64 14] 30 125
  generalize ((W5.alloc (.cells #[.slice sa3 ss3.length sc3, .slice ea3 es3.length ec3, .int .i64 0] 30)).alloc (.cells #[.int .i64 14, .int .i64 14] 125)) = W6 at *
  have HB6 := Lib.hid (HB5.out.trans (hbb.mono HB5.out.size))
  have HR6 := HR5.out.below hbb
  obtain ⟨_, p0, p1, p2, _⟩ := blk3 (blk_below HQ1.out hbb (blk_lt HQ1.out))
  obtain ⟨_, f0, f1, _⟩ := blk2 (blk_below HQ2.out hbb (blk_lt HQ2.out))
  obtain ⟨_, g0, g1, _⟩ := blk2 (blk_below HQ3.out hbb (blk_lt HQ3.out))
  obtain ⟨_, k0, k1, _⟩ := blk2 hq2
  obtain ⟨g, c, a, n, hv, hc, hg, x0, x1, hz⟩ := HR6.strct 0 Nat.zero_lt_one
  obtain ⟨g2, c2, hv2, hc2, hg2, y0, y1, y2, y3, y4⟩ := HR6.field 0 Nat.zero_lt_one 0 Nat.zero_lt_one
  obtain ⟨rfl, rfl⟩ := slice_inj hv
  have hz' : fv = .slice a 1 n := hz
  have hv2' : fv = .slice (some ⟨g2, 0, none⟩) 1 c2 := hv2
  rw [hz'] at hv2'
  obtain ⟨rfl, rfl⟩ := slice_inj hv2'
  have x1' : W6.cell? ⟨g, 1, none⟩ = some (.slice (some ⟨g2, 0, none⟩) 1 n) := x1
  have y4' : W6.cell? ⟨g2, 4, none⟩ = some (.int .u64 1) := y4
  have h01 : (0 : Int) < 1 := by decide
  clear hbb hq2 hv hv2 hv2' hz hz' x0 x1 y0 y1 y2 y3 y4 HR6
  go_wp2
  go_ret
  exact ⟨rfl, HB6.out⟩
end Go.Proofs.YtgbcchiheddfpaaGreatDoor
