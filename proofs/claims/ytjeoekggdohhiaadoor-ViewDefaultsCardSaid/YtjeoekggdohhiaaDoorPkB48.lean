/-
  The hand's Value: of the root of a made schema it makes a value that is there and fits. Conditions: those that each theorem names.
-/
import Derived.Test.YtjeoekggdohhiaaDoorPkB47
namespace Go.Proofs.YtjeoekggdohhiaaDoor
open Go.ChangeShapes Go.WideShapes Go.ChangeAt Go.RowKit Go.Shelf

set_option maxRecDepth 100000 in
set_option maxHeartbeats 4000000 in
theorem hvalue_any (w : World) {b n bc root : Nat} {a : Option Addr} {bs : List Int} {ss : List (SRec × Value)} {es : List (SCho × Value)} {sv ev : Value} (h : SchRows b w ss es sv ev) (hm : SchM ss (es.map Prod.fst)) (hr : root < ss.length) (hb : Bytes w a bs) (hn : bs.length = n) (hl : (n : Int) ≤ 9223372036854775807) (hc : n ≤ bc) :
    Calls Tryd.prog 10 #[.agg #[sv, ev, .int .i64 root], .slice a n bc] w fun e w' => (∃ (v : PV) (val : Value), e = .returned val ∧ IsV w' v val ∧ VH (newS w.heap.size) w' v val ∧ v.has = true ∧ fitsP ((crow ss).map Prod.fst) (es.map Prod.fst) 12 13 root 0 v = true ∧ SmallV v) ∧ Below w.heap.size w w' := by
  subst hn
  obtain ⟨h0, h1, h2, h3⟩ := three_start w #[sv, ev, .int .i64 root] #[.int .u64 0, .slice none 0 0, .slice none 0 0, .bool false] #[.slice a bs.length bc, .int .i64 0] 30 36 74
  have HB := Lib.hid h0
  have HR2 := Lib.hid h2
  have HCALL := Lib.hid (hval_any 12 (by decide) 13 root 0 0 0 0 0 ⟨#[]⟩ true b (w.heap.size + 1 + 1) 0 bc a bs ss es sv ev root _ ⟨by decide, by decide, by decide, fun h => absurd h (by decide), fun _ => hr⟩ hm ⟨h3, Nat.zero_le _, hb.below (Nat.le_refl _) h0, fun hne p off e => by
      obtain ⟨b', off', e', hlt, _⟩ := hb.2 hne
      rw [e] at e'
      injection e' with e'
      injection e' with e1 _ _
      omega, hl, hc⟩ (fun W hW => h.below (h0.trans (((hW.mono h0.size)).below (by omega)))) (by decide) (fun _ h10 => absurd h10 (by decide)))
  obtain ⟨_, s0, s1, s2, _⟩ := blk3 h1
  clear h0 h1 h2 h3 h hb hl hc hm hr
  go_enter Tryd.func10, Tryd.ntmps10
  go_upto_region 1 with (fail)
  go_wp2_with fail
  refine HCALL.out.mono ?_
  rintro e W6 ⟨v, val, i3, rfl, hvh, ⟨hft, hsm⟩, hss, hi3, hs6, hx6⟩
  have hbel : Below w.heap.size w W6 := HB.out.trans ((hx6.mono HB.out.size).below (by omega))
  have hq2 := blk_exc HR2.out hx6 (blk_lt HR2.out) (by omega)
  have hsz : w.heap.size + 1 + 1 + 1 = (((w.alloc (.cells #[sv, ev, .int .i64 root] 30)).alloc (.cells #[.int .u64 0, .slice none 0 0, .slice none 0 0, .bool false] 36)).alloc (.cells #[.slice a bs.length bc, .int .i64 0] 74)).heap.size := by simp
  rw [← hsz] at hvh
  obtain ⟨ba, ka, bcc, kcc, rfl, _, _, _, _, _, _, _⟩ := IsV.form hvh
  have HVH := Lib.hid hvh
  have HFT := Lib.hid hft
  have HSM := Lib.hid hsm
  have HSS := Lib.hid (hss rfl rfl rfl (by decide))
  have HBE := Lib.hid hbel
  have HQ2 := Lib.hid hq2
  obtain ⟨_, u0, u1, u2, u3⟩ := blk4p hq2
  have p0 := blk_frozen hq2 0
  have p1 := blk_frozen hq2 1
  have p2 := blk_frozen hq2 2
  have p3 := blk_frozen hq2 3
  clear hvh hft hsm hss hi3 hs6 hx6 hbel hq2 hsz s0 s1 s2 HB HR2 HCALL
  go_wp2
  refine post_gen (fun Wf => Wf.heap[w.heap.size + 1]? = some (.cells #[.int .u64 v.num, .slice ba v.bytes.length bcc, .slice ka v.kids.length kcc, .bool v.has] 36 (0, 0)) ∧ Below w.heap.size w Wf ∧ VH (newS w.heap.size) Wf v (.agg #[.int .u64 v.num, .slice ba v.bytes.length bcc, .slice ka v.kids.length kcc, .bool v.has])) ⟨?_, ?_, ?_⟩ ?_
  · exact blk_set4 HQ2.out _ _ _ _
  · exact below_set4 HBE.out (Nat.le_succ _) _ _ _ _
  · exact vh_new HVH.out (by omega) (by simp [World.setCell]) (fun k hk hB => set4_blk W6 (by omega) _ _ _ _)
  · rintro Wf ⟨e1, e2, e3⟩
    obtain ⟨_, d0, d1, d2, d3⟩ := blk4p e1
    exact bodyPost_ret (v := .agg #[.int .u64 v.num, .slice ba v.bytes.length bcc, .slice ka v.kids.length kcc, .bool v.has]) (by simp [results, Tryd.results10, go_sem, d0, d1, d2, d3]) rfl ⟨⟨v, _, rfl, e3.out, e3, HSS.out, HFT.out, HSM.out⟩, e2⟩
end Go.Proofs.YtjeoekggdohhiaaDoor
