/-
  The law's each: a function is asked of each struct of what is made of a plan. Conditions: those that each theorem names.
-/
import Derived.Test.YtdlfndjgncdgfaaDoorMade
import Derived.Test.YtdlfndjgncdgfaaDoorPlanMore
namespace Go.Proofs.YtdlfndjgncdgfaaDoor
open Go.ChangeShapes Go.WideShapes Go.ChangeAt Go.RowKit Go.Shelf

/-- A struct of few fields of kinds that there are. -/
def RecOk (r : SRec) : Prop := 1 ≤ r.fields.length ∧ r.fields.length ≤ 16 ∧ ∀ f ∈ r.fields, 1 ≤ f.kind ∧ f.kind ≤ 13
theorem kindP_bd (p : Plan) (i : Nat) (f : PF) : 1 ≤ kindP p i f ∧ kindP p i f ≤ 13 := by
  have h0 : 1 ≤ kind0 p f ∧ kind0 p f ≤ 13 := by
    unfold kind0
    split <;> omega
  unfold kindP
  split <;> omega
theorem recOk_of {p : Plan} (h : planOk p) {ss : List (SRec × Value)} (hss : ss.map Prod.fst = recsP p p.structs.length) (k : Nat) (hk : k < ss.length) : RecOk ss[k].1 := by
  have hl : ss.length = p.structs.length := by have := congrArg List.length hss; rwa [List.length_map, recsP_length] at this
  have he : ss[k].1 = recP p k := by
    have h1 : (ss.map Prod.fst)[k]? = some ss[k].1 := by rw [List.getElem?_map, List.getElem?_eq_getElem hk]; rfl
    rw [hss] at h1
    unfold recsP at h1
    rw [List.getElem?_map, List.getElem?_range (by omega)] at h1
    exact (Option.some.inj h1).symm
  rw [he]
  have hmem : p.structs.getD k [] ∈ p.structs := by
    rw [List.getD, List.getElem?_eq_getElem (by omega)]
    exact List.getElem_mem _
  obtain ⟨h1, h2⟩ := h.2.2.2 _ hmem
  refine ⟨?_, ?_, ?_⟩
  · show 1 ≤ (fldsP p k _ _).length
    rw [fldsP_length]; exact h1
  · show (fldsP p k _ _).length ≤ 16
    rw [fldsP_length]; exact h2
  · intro f hf
    obtain ⟨j, _, rfl⟩ := List.mem_map.1 (show f ∈ (List.range _).map _ from hf)
    exact kindP_bd p k _
/-- A function value that says true of each struct, in every later world. -/
structure EachFn (w : World) (gf : FuncId) (lb : Array Value) : Prop where
  enters : ∀ args w, (callFunc gf args).run Tryd.prog w = .ok (.enter gf args) w
  gives : ∀ (W : World) (r : SRec) (sa : Option Addr) (sn sc : Nat) (ea : Option Addr) (en ec : Nat) (rt : Int) (fv : Value) (base : Nat), Below w.heap.size w W → RecOk r → W.ownsRow base 53 5 fv r.fields.length (sfldsCells r.fields) →
    Calls Tryd.prog gf (#[.agg #[.slice sa sn sc, .slice ea en ec, .int .i64 rt], .agg #[.string r.name, fv]] ++ lb) W fun e w' => e = .returned (.bool true) ∧ Below W.heap.size W w'
/-- Where each's loop is. -/
def EAt (W0 : World) (m : Nat) (i : Value) (W : World) : Prop := ∃ k : Nat, k ≤ m ∧ i = .int .i64 k ∧ Below W0.heap.size W0 W
set_option maxRecDepth 100000 in
set_option maxHeartbeats 4000000 in
theorem each_any (p : Plan) (w : World) {a0 a1 : Option Addr} {n0 e0 n1 c1 : Nat} (hp : IsPlan w p a0 n0 e0 a1 n1 c1) (gf : FuncId) (lb : Array Value) (hF : EachFn w gf lb) :
    Calls Tryd.prog 10 #[.agg #[.slice a0 n0 e0, .slice a1 n1 c1, .int .u8 p.root, .bool p.tree], .func (.func gf) #[] lb] w fun e w' => e = .returned (.bool true) ∧ Below w.heap.size w w' := by
  have HP := Lib.hid hp
  have he1 := hF.enters
  have HF := Lib.hid hF.gives
  have HB0 := Lib.hid ((Below.refl w.heap.size w).alloc (Nat.le_refl _) (.cells #[.slice a0 n0 e0, .slice a1 n1 c1, .int .u8 p.root, .bool p.tree] 25))
  have hz0 := heap_alloc_new w (.cells #[.slice a0 n0 e0, .slice a1 n1 c1, .int .u8 p.root, .bool p.tree] 25)
  clear hp hF
  go_enter Tryd.func10, Tryd.ntmps10
  go_upto_region 1 with (fail)
  generalize w.alloc (.cells #[.slice a0 n0 e0, .slice a1 n1 c1, .int .u8 p.root, .bool p.tree] 25) = W1 at *
  obtain ⟨_, y0, y1, y2, y3⟩ := blk4p hz0
  clear hz0
  go_wp2_with fail
  refine (made_any p W1 (HP.out.below HB0.out)).mono ?_
  rintro e W2 ⟨hb2, hpost⟩
  have HB2 := Lib.hid (HB0.out.trans (hb2.mono HB0.out.size))
  clear hb2 y0 y1 y2 y3
  rcases hpost with ⟨hok, ss, es, sv, ev, rfl, hss, hes, hr⟩ | ⟨hno, rfl⟩
  · obtain ⟨sa, sc, ea, ec, rfl, rfl⟩ := hr.forms
    have hf2 := row_few hr.structs
    have HSS := Lib.hid (recOk_of hok hss)
    have HR := Lib.hid hr
    clear hok hss hes hr
    generalize p.root % p.structs.length = rt at *
    go_upto_region 2 with (fail)
    have hba : Below W2.heap.size W2 (W2.alloc (.cells #[.slice sa ss.length sc, .slice ea es.length ec, .int .i64 rt] 32)) := (Below.refl _ _).alloc (Nat.le_refl _) _
    have HZ := Lib.hid (heap_alloc_new W2 (.cells #[.slice sa ss.length sc, .slice ea es.length ec, .int .i64 rt] 32))
    have HB3 := Lib.hid (HB2.out.trans (hba.mono HB2.out.size))
    have HR3 := Lib.hid (HR.out.below hba)
    clear hba
    generalize W2.alloc (.cells #[.slice sa ss.length sc, .slice ea es.length ec, .int .i64 rt] 32) = W3 at *
    obtain ⟨_, z0, z1, z2, _⟩ := blk3 HZ.out
    go_wp2_with fail
    clear z0 z1 z2
    go_loopw [19] (fun i wr => EAt W3 ss.length i wr) (fun i _ => ss.length - (intOf i).toNat)
    case atStart => exact ⟨0, Nat.zero_le _, rfl, Below.refl _ _⟩
    case round =>
      obtain ⟨k, hk, rfl, hb⟩ := hrel
      have HB4 := Lib.hid (HB3.out.trans (hb.mono HB3.out.size))
      have HBK := Lib.hid hb
      by_cases hkl : k < ss.length
      · have hki : (k : Int) < ss.length := by omega
        obtain ⟨g, c, a, n, hv, hc, hg, x0, x1, hq⟩ := (HR3.out.below hb).strct k hkl
        obtain ⟨rfl, rfl⟩ := slice_inj hv
        have HQR := Lib.hid ((HR3.out.below hb).fields _ (List.getElem_mem hkl))
        have HOK := Lib.hid (HSS.out k hkl)
        have HZK := Lib.hid (blk_below HZ.out hb (blk_lt HZ.out))
        obtain ⟨_, z0, z1, z2, _⟩ := blk3 HZK.out
        rw [hq] at HQR
        clear hv hb hq
        generalize ss[k].1 = r at *
        go_upto_region 7 with (fail)
        have hba : Below wr.heap.size wr (wr.alloc (.cells #[.string r.name, .slice a r.fields.length n] 35)) := (Below.refl _ _).alloc (Nat.le_refl _) _
        have hrb := heap_alloc_new wr (.cells #[.string r.name, .slice a r.fields.length n] 35)
        have HZ5 := Lib.hid (blk_below HZK.out hba (blk_lt HZK.out))
        have HB5 := Lib.hid (HB4.out.trans (hba.mono HB4.out.size))
        have HBK5 := Lib.hid (HBK.out.trans (hba.mono HBK.out.size))
        have HQR5 := Lib.hid (row_keep hba HQR.out)
        clear x0 x1 z0 z1 z2 hba
        generalize wr.alloc (.cells #[.string r.name, .slice a r.fields.length n] 35) = W5 at *
        obtain ⟨_, v0, v1, _⟩ := blk2 hrb
        obtain ⟨_, z0, z1, z2, _⟩ := blk3 HZ5.out
        clear hrb
        go_wp2_with fail
        refine (HF.out W5 r _ _ _ _ _ _ _ _ _ HB5.out HOK.out HQR5.out).mono ?_
        rintro e W6 ⟨rfl, hb6⟩
        have HBK6 := Lib.hid (HBK5.out.trans (hb6.mono HBK5.out.size))
        clear hb6 v0 v1 z0 z1 z2
        go_wp2
        go_roundw
        case rel => exact ⟨k + 1, hkl, by go_num, HBK6.out⟩
        case measure => simp [intOf]; omega
      · obtain rfl : k = ss.length := by omega
        clear hb
        go_wp2
        go_ret
        exact ⟨rfl, HB4.out⟩
  · go_wp2
    go_ret
    exact ⟨rfl, HB2.out.alloc HB2.out.size _⟩
end Go.Proofs.YtdlfndjgncdgfaaDoor
