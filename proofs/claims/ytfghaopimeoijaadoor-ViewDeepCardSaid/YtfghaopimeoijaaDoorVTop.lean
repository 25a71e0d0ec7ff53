/-
  The package view's Fits; the document's Text; the law's heavy. Conditions: those that each theorem names; the library's tables hold what the row lists.
-/
import Derived.Test.YtfghaopimeoijaaDoorVFit
import Derived.Test.YtfghaopimeoijaaDoorRsFits
namespace Go.Proofs.YtfghaopimeoijaaDoor
open Go.ChangeShapes Go.WideShapes Go.ChangeAt Go.RowKit Go.Shelf

theorem ftop_any (w : World) {base : Nat} {ss : List (CRec × Value)} {es : List (SCho × Value)} {sv ev : Value} (root rec : Int) (h : CRows base w ss es sv ev) (hT : Tabs w) (hF : FldsOk ss) (v : PV) (val : Value) (hv : IsV w v val) :
    Calls Tryd.prog 13 #[.agg #[sv, ev, .int .i64 root], .int .i64 rec, val] w fun e w' => e = .returned (.bool (v.has && fitsP (ss.map Prod.fst) (es.map Prod.fst) 12 13 rec 0 v)) ∧ Below w.heap.size w w' := by
  obtain ⟨sa, sc, ea, ec, rfl, rfl⟩ := h.forms
  obtain ⟨ba, ka, bc, kc, rfl, hn, hby, hbl, hbm, hkl, hkm, hks⟩ := hv.form
  obtain ⟨hb, hq1, hq2⟩ := two_start w #[.slice sa ss.length sc, .slice ea es.length ec, .int .i64 root] #[.int .u64 v.num, .slice ba v.bytes.length bc, .slice ka v.kids.length kc, .bool v.has] 30 36
  have HB := Lib.hid hb
  have HFI := Lib.hid (vfits_any hF (es := es) 12 (by decide) _ base _ _ root 13 rec 0 v _ (h.below hb) (hT.below (Nat.le_refl _) hb) (by decide) (by decide) (by decide) (hv.later hb))
  obtain ⟨_, s0, s1, s2, _⟩ := blk3 hq1
  obtain ⟨_, v0, v1, v2, v3⟩ := blk4p hq2
  generalize fitsP (ss.map Prod.fst) (es.map Prod.fst) 12 13 rec 0 v = b at *
  clear hb hq1 hq2 h hT hv hby hks hF hn hbl hbm hkl hkm
  cases hh : v.has with
  | false =>
    rw [hh] at HB s0 s1 s2 v0 v1 v2 v3
    go_enter Tryd.func13, Tryd.ntmps13
    go_wp2
    go_ret
    exact ⟨rfl, HB.out⟩
  | true =>
    rw [hh] at HFI HB s0 s1 s2 v0 v1 v2 v3
    go_enter Tryd.func13, Tryd.ntmps13
    go_upto_region 1 with (fail)
    generalize (w.alloc (.cells #[.slice sa ss.length sc, .slice ea es.length ec, .int .i64 root] 30)).alloc (.cells #[.int .u64 v.num, .slice ba v.bytes.length bc, .slice ka v.kids.length kc, .bool true] 36) = W0 at *
    go_wp2_with fail
    refine HFI.out.mono ?_
    rintro e W1 ⟨rfl, hb1⟩
    have HB1 := Lib.hid (HB.out.trans (hb1.mono HB.out.size))
    clear hb1 s0 s1 s2 v0 v1 v2 v3
    go_wp2
    go_ret
    exact ⟨rfl, HB1.out⟩
theorem vtext_any (a : Option Addr) (cap n : Nat) (zs : List Int) (w : World) (hT : Tabs w) (hz : Bytes w a zs) (hn : zs.length = n) (hl : (n : Int) ≤ 9223372036854775807) (hcap : n ≤ cap) :
    Calls Tryd.prog 46 #[.slice a n cap] w fun e w' => e = .returned (.bool (decide (u8At zs 0 < 0))) ∧ Below w.heap.size w w' := by
  have HU := Lib.hid (rutf8_gen a cap n zs w hT hz hn hl hcap)
  have hr := u8At_range zs 0
  generalize u8At zs 0 = z at *
  clear hT hz hn hl hcap
  go_enter Tryd.func46, Tryd.ntmps46
  go_wp2_with fail
  refine HU.out.mono ?_
  rintro e W1 ⟨rfl, hb⟩
  have HB := Lib.hid hb
  clear hb
  go_wp2
  go_ret
  exact ⟨rfl, HB.out⟩
end Go.Proofs.YtfghaopimeoijaaDoor
