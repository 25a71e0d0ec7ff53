/-
  The document's own Whole: of any value in memory. Conditions: those that each theorem names; the library's tables hold what the row lists.
-/
import Derived.Test.YtfghaopimeoijaaDoorPkT24
namespace Go.Proofs.YtfghaopimeoijaaDoor
open Go.ChangeShapes Go.WideShapes Go.ChangeAt Go.RowKit Go.Shelf

theorem fitsP_out (ss : List CRec) (es : List SCho) (rec : Int) (v : PV) (hv : v.has = true) (h : ¬ (0 ≤ rec ∧ rec < ss.length)) : fitsP ss es 12 13 rec 0 v = false := by
  rw [fitsP_eq, show sortP 13 0 = 4 from rfl, hv]
  unfold structP
  rw [decide_eq_false h]
  simp
set_option maxHeartbeats 4000000 in
theorem rwhole_any (w : World) {base : Nat} {ss : List (CRec × Value)} {es : List (SCho × Value)} {sv ev : Value} (root rec : Int) (h : CRows base w ss es sv ev) (hT : Tabs w) (hF : RFlds ss) (v : PV) (val : Value) (hv : IsV w v val) :
    Calls Tryd.prog 16 #[.agg #[sv, ev, .int .i64 root], .int .i64 rec, val] w fun e w' => e = .returned (.bool (v.has && fitsP (ss.map Prod.fst) (es.map Prod.fst) 12 13 rec 0 v)) ∧ Below w.heap.size w w' := by
  obtain ⟨sa, sc, ea, ec, rfl, rfl⟩ := h.forms
  obtain ⟨ba, ka, bc, kc, rfl, hn, hby, hbl, hbm, hkl, hkm, hks⟩ := hv.form
  obtain ⟨hb, hq1, hq2⟩ := two_start w #[.slice sa ss.length sc, .slice ea es.length ec, .int .i64 root] #[.int .u64 v.num, .slice ba v.bytes.length bc, .slice ka v.kids.length kc, .bool v.has] 30 36
  have HB := Lib.hid hb
  have hfew := row_few h.structs
  have HO := Lib.hid (fitsP_out (ss.map Prod.fst) (es.map Prod.fst) rec v)
  rw [List.length_map] at HO
  have HFI := Lib.hid (fun (hr : 13 = 13 → 0 ≤ rec ∧ rec < ss.length) => rval_any hF (es := es) 12 (by decide) _ base _ _ root 13 rec 0 v _ (h.below hb) (hT.below (Nat.le_refl _) hb) ⟨by decide, by decide, by decide, by decide, hr⟩ (hv.later hb))
  obtain ⟨_, s0, s1, s2, _⟩ := blk3 hq1
  obtain ⟨_, v0, v1, v2, v3⟩ := blk4p hq2
  generalize fitsP (ss.map Prod.fst) (es.map Prod.fst) 12 13 rec 0 v = b at *
  clear hq1 hq2 h hT hv hby hks hF hn hbl hbm hkl hkm hb
  generalize v.has = hh at *
  go_enter Tryd.func16, Tryd.ntmps16
  go_upto_region 1 with (fail)
  generalize (w.alloc (.cells #[.slice sa ss.length sc, .slice ea es.length ec, .int .i64 root] 30)).alloc (.cells #[.int .u64 v.num, .slice ba v.bytes.length bc, .slice ka v.kids.length kc, .bool hh] 36) = W0 at *
  by_cases hlo : 0 ≤ rec
  · by_cases hhi : rec < ss.length
    · have hro : 0 ≤ rec ∧ rec < ss.length := ⟨hlo, hhi⟩
      cases hh with
      | false =>
        go_wp2
        go_ret
        exact ⟨rfl, HB.out⟩
      | true =>
        have HF2 := Lib.hid (HFI.out (fun _ => hro))
        clear HFI HO hro
        go_wp2_with fail
        refine HF2.out.mono ?_
        rintro e W1 ⟨rfl, hb1⟩
        have HB1 := Lib.hid (HB.out.trans (hb1.mono HB.out.size))
        clear hb1 s0 s1 s2 v0 v1 v2 v3
        go_wp2
        go_ret
        exact ⟨rfl, HB1.out⟩
    · have HN : Hid ((hh && b) = false) := Lib.hid (by cases hh with
        | false => rfl
        | true => rw [HO.out rfl (fun h => hhi h.2)]; rfl)
      clear HO HFI
      go_wp2
      go_ret
      exact ⟨ret_bool HN.out.symm, HB.out⟩
  · have HN : Hid ((hh && b) = false) := Lib.hid (by cases hh with
      | false => rfl
      | true => rw [HO.out rfl (fun h => hlo h.1)]; rfl)
    clear HO HFI
    go_wp2
    go_ret
    exact ⟨ret_bool HN.out.symm, HB.out⟩
end Go.Proofs.YtfghaopimeoijaaDoor
