/-
  What the laws of the package jsonwrite have in hand: a made schema and the hand's value, as the writer wants them; enough of a meter; Write of Of's view. Conditions: those that each theorem names.
-/
import Derived.Test.YtiknhkkeifemcaaGreatDoorPkN12
import Derived.Test.YtiknhkkeifemcaaGreatDoorPkN19
import Derived.Test.YtiknhkkeifemcaaGreatDoorPkN27
import Derived.Test.YtiknhkkeifemcaaGreatDoorPkN33
import Derived.Test.YtiknhkkeifemcaaGreatDoorPkN43
import Derived.Test.YtiknhkkeifemcaaGreatDoorPkN49
namespace Go.Proofs.YtiknhkkeifemcaaGreatDoor
open Go.ChangeShapes Go.WideShapes Go.ChangeAt Go.RowKit Go.Shelf

inductive JwWr (mk : Nat) (left : Int) (o : List Int) (w : World) : Ending → World → Prop
  | form (w' : World) (g : Nat) (hg : w.heap.size ≤ g) (ho : OwnR w' g 5 g o.length o.length o) (h1 : o.length ≤ 32768) (hx : Exc mk w.heap.size w w') : JwWr mk left o w (.returned (.tuple #[.slice (some ⟨g, 0, none⟩) o.length o.length, .int .i64 0])) w'
  | large (w' : World) (h1 : 32768 < o.length) (hx : Exc mk w.heap.size w w') : JwWr mk left o w (.returned (.tuple #[.slice none 0 0, .int .i64 4])) w'
  | poor (w' : World) (h1 : left < 20 * o.length) (hx : Exc mk w.heap.size w w') : JwWr mk left o w (.returned (.tuple #[.slice none 0 0, .int .i64 3])) w'
def formJ (S : List SRec) (E : List SCho) (r root : Nat) (q : PV) : List Int := encJ S E r 13 root 0 q
set_option maxRecDepth 100000 in
set_option maxHeartbeats 4000000 in
theorem jwrite_any {r : Nat} {Dv : Nat → Prop} {w : World} {base mk root : Nat} {ss : List (SRec × Value)} {es : List (SCho × Value)} {sv ev v : Value} {left : Int} {q : PV}
    (h : SchRows base w ss es sv ev) (hk : JwOk ss es) (hr : root < ss.length) (hT : PowT w)
    (hm : w.heap[mk]? = some (.cells #[.int .i64 left, .bool false] 152 (0, 0))) (hl0 : 0 ≤ left) (hl1 : left ≤ 9223372036854775807)
    (hv : ShownD ((ss.map Prod.fst).map cR) r Dv w v 13 root 0 q) (hD : ∀ j, Dv j → j < w.heap.size) (hDm : ¬ Dv mk) (hsm : SmallJ q) :
    Calls Tryz.prog 26 #[.agg #[sv, ev, .int .i64 root], v, .pointer (some ⟨mk, 0, none⟩)] w (JwWr mk left (formJ (ss.map Prod.fst) (es.map Prod.fst) r root q) w) := by
  obtain ⟨sa, sc, ea, ec, rfl, rfl⟩ := h.forms
  have hba := (Below.refl w.heap.size w).alloc (Nat.le_refl _) (.cells #[.slice sa ss.length sc, .slice ea es.length ec, .int .i64 root] 30)
  have q0 := heap_alloc_new w (.cells #[.slice sa ss.length sc, .slice ea es.length ec, .int .i64 root] 30)
  have hml := blk_lt hm
  have HB := Lib.hid hba
  have HQ := Lib.hid q0
  have HNW := Lib.hid (jwnew_any (r := root) (h.below hba) hk (hT.below hba) (blk_below hm hba hml))
  have HV := Lib.hid (fun (W : World) (hb : Below w.heap.size w W) => hv.later _ (.of_below hD hb))
  have HK := Lib.hid hk
  have HDv := Lib.hid hD
  have HDm := Lib.hid hDm
  have hs0 : (w.alloc (.cells #[.slice sa ss.length sc, .slice ea es.length ec, .int .i64 root] 30)).heap.size = w.heap.size + 1 := World.size_alloc _ _
  obtain ⟨_, x0, x1, x2, _⟩ := blk3 q0
  clear h hba q0 hm hk hT hv hD hDm
  go_enter Tryz.func26, Tryz.ntmps26
  go_upto_region 1 with (fail)
  generalize w.alloc (.cells #[.slice sa ss.length sc, .slice ea es.length ec, .int .i64 root] 30) = W0 at *
  go_wp2_with fail
  refine HNW.out.mono ?_
  rintro e W2 ⟨rs, cs, rv, cv, wk, ak, B, rfl, hrs, hcs, hst, hctx, hak, hb2⟩
  have hlen : rs.length = ss.length := by have h1 := congrArg List.length hrs; unfold jRecs at h1; rw [List.length_map, List.length_map] at h1; exact h1
  have hs2 := hb2.size
  have hwkl : W0.heap.size ≤ wk := hst.hb
  have hb02 : Below w.heap.size w W2 := HB.out.trans (hb2.mono HB.out.size)
  have hall : JwAll (DJ W0.heap.size B) Dv W2 W0.heap.size wk ak mk rv cv none left [] 0 rs cs := ⟨.inl ⟨0, left, hst, by omega, hl0, hl1⟩, hctx, ⟨fun j hj => by have h1 := HDv.out j hj; omega, ⟨fun hd => by have h1 := HDv.out _ hd; omega, fun hd => by have h1 := HDv.out _ hd; omega, HDm.out, fun r hr => by simp [rowOf] at hr⟩⟩⟩
  have hsh : ShownD (jcRecs rs) r Dv W2 v 13 root 0 q := by
    unfold jcRecs
    rw [hrs]
    exact HV.out _ hb02
  have HREC := Lib.hid ((jw_all r).2 _ _ _ _ _ _ _ _ _ _ _ _ _ rs cs v 13 root 0 q hall hsh ⟨by decide, by decide, by decide, by have := HK.out.few.1; omega, fun _ => by rw [hlen]; exact hr⟩ hsm rfl)
  rw [hrs, hcs, show encJ (ss.map Prod.fst) (es.map Prod.fst) r 13 root 0 q = formJ (ss.map Prod.fst) (es.map Prod.fst) r root q from rfl] at HREC
  generalize formJ (ss.map Prod.fst) (es.map Prod.fst) r root q = o at *
  have HB2 := Lib.hid hb02
  have HAK : Hid (w.heap.size ≤ wk ∧ w.heap.size ≤ ak) := Lib.hid ⟨by omega, by omega⟩
  obtain ⟨_, y0, y1, y2, _⟩ := blk3 (blk_below HQ.out hb2 (blk_lt HQ.out))
  clear hrs hcs hst hctx hak hb2 hlen hs2 hwkl hb02 hall hsh x0 x1 x2 HNW hs0
  go_wp2_with fail
  refine HREC.out.mono ?_
  rintro e W3 ⟨rfl, A3, hat, hfx⟩
  rw [List.nil_append] at hat
  have hx3 := exc_fx HB2.out hfx HAK.out.1 HAK.out.2 (fun r hr => by simp [rowOf] at hr)
  have HX3 := Lib.hid hx3
  have HD := Lib.hid (jdone_any hat)
  clear hat hfx hx3 HREC y0 y1 y2
  go_wp2_with fail
  refine HD.out.mono ?_
  rintro e W4 hd
  cases hd with
  | form _ g hg ho h1 hx =>
    have HE := Lib.hid (JwWr.form (mk := mk) (left := left) W4 g (Nat.le_trans HX3.out.size hg) ho h1 (HX3.out.trans (exc_low mk hx HX3.out.size)))
    clear hg ho hx HD
    go_wp2
    go_ret2
    exact HE.out
  | large _ h1 hx =>
    have HE := Lib.hid (JwWr.large (mk := mk) (left := left) W4 h1 (HX3.out.trans (exc_low mk hx HX3.out.size)))
    clear hx HD
    go_wp2
    go_ret2
    exact HE.out
  | poor _ h1 hx =>
    have HE := Lib.hid (JwWr.poor (mk := mk) (left := left) (o := o) W4 (by omega) (HX3.out.trans (exc_low mk hx HX3.out.size)))
    clear hx HD
    go_wp2
    go_ret2
    exact HE.out
end Go.Proofs.YtiknhkkeifemcaaGreatDoor
namespace Go.Proofs.YtiknhkkeifemcaaGreatDoor
open Go.ChangeShapes Go.WideShapes Go.ChangeAt Go.RowKit Go.Shelf

theorem enough15_any (w : World) : Calls Tryz.prog 28 #[] w fun e w' => e = .returned (.pointer (some ⟨w.heap.size, 0, none⟩)) ∧ w'.heap[w.heap.size]? = some (.cells #[.int .i64 1099511627776, .bool false] 152 (0, 0)) ∧ Below w.heap.size w w' := by
  have HN := Lib.hid (new_any 1099511627776 w)
  go_enter Tryz.func28, Tryz.ntmps28
  go_wp2_with fail
  refine HN.out.mono ?_
  rintro e W1 ⟨rfl, rfl⟩
  have H1 := Lib.hid (heap_alloc_new w (.cells #[.int .i64 (atLeast0 1099511627776), .bool false] 152))
  have H2 := Lib.hid ((Below.refl w.heap.size w).alloc (Nat.le_refl _) (.cells #[.int .i64 (atLeast0 1099511627776), .bool false] 152))
  generalize w.alloc (.cells #[.int .i64 (atLeast0 1099511627776), .bool false] 152) = W1 at *
  go_wp2
  go_ret
  exact ⟨rfl, H1.out, H2.out⟩
theorem smallJ_of {v : PV} (h : SmallV v) : ∀ {w : World} {val : Value}, IsV w v val → SmallJ v := by
  induction h with
  | mk n bs ks hh hb hk _ ih =>
    intro w val hv
    obtain ⟨ba, ka, bc, kc, _, hn, _, _, _, _, _, hks⟩ := hv.form
    refine .mk _ (Nat.le_trans hk (by decide)) (Nat.le_trans hb (by decide)) ?_ (fun q hq => ?_)
    · exact hn
    · obtain ⟨j, hj, rfl⟩ := List.mem_iff_getElem.1 hq
      obtain ⟨_, _, _, _, _, _, _, _, _, _, _, hkv⟩ := hks j hj
      exact ih _ (List.getElem_mem hj) hkv
def JwOut (o : List Int) (L : Int) (W wx : World) (v n : Value) : Prop :=
  Below W.heap.size W wx ∧ ((∃ g : Nat, v = .slice (some ⟨g, 0, none⟩) o.length o.length ∧ n = .int .i64 0 ∧ OwnR wx g 5 g o.length o.length o ∧ o.length ≤ 32768) ∨ (v = .slice none 0 0 ∧ n = .int .i64 4 ∧ 32768 < o.length) ∨ (v = .slice none 0 0 ∧ n = .int .i64 3 ∧ L < 20 * o.length))
theorem exc_out {mk : Nat} {W W6 w' : World} (hb : Below W.heap.size W W6) (hx : Exc mk W6.heap.size W6 w') (hm : W.heap.size ≤ mk) : Below W.heap.size W w' :=
  ⟨hx.os.trans hb.os, hx.tape.trans hb.tape, hx.output.trans hb.output, Nat.le_trans hb.size hx.size, fun j hj => (hx.block j (Nat.lt_of_lt_of_le hj hb.size) (by omega)).trans (hb.block j hj)⟩
theorem JwWr.to {mk : Nat} {L : Int} {o : List Int} {W W6 w' : World} {e : Ending} (h : JwWr mk L o W6 e w') (hb : Below W.heap.size W W6) (hm : W.heap.size ≤ mk) : ∃ v n, e = .returned (.tuple #[v, n]) ∧ JwOut o L W w' v n := by
  cases h with
  | form _ g hg ho h1 hx => exact ⟨_, _, rfl, exc_out hb hx hm, .inl ⟨g, rfl, rfl, ho, h1⟩⟩
  | large _ h1 hx => exact ⟨_, _, rfl, exc_out hb hx hm, .inr (.inl ⟨rfl, rfl, h1⟩)⟩
  | poor _ h1 hx => exact ⟨_, _, rfl, exc_out hb hx hm, .inr (.inr ⟨rfl, rfl, h1⟩)⟩

/-! ### the hand's names -/
theorem labels_few : ((List.range 10).all fun a => (List.range 26).all fun b => decide ((quot (bts (headOf a ++ strOfNums [97 + ((b : Nat) : Int)]))).length ≤ 20) && decide ((headOf a ++ strOfNums [97 + ((b : Nat) : Int)]).size ≤ 1000)) = true := by kernel_rfl
theorem vals_few : ((List.range 32).all fun k => decide ((quot (bts (valName k))).length ≤ 20) && decide ((valName k).size ≤ 1000)) = true := by kernel_rfl
theorem label_few (n i : Nat) : (quot (bts (labelOf n i))).length ≤ 20 ∧ (labelOf n i).size ≤ 1000 := by
  have h1 := List.all_eq_true.1 (List.all_eq_true.1 labels_few (n % 10) (List.mem_range.2 (Nat.mod_lt _ (by decide)))) (i % 26) (List.mem_range.2 (Nat.mod_lt _ (by decide)))
  rw [Bool.and_eq_true] at h1
  have h2 : labelOf n i = headOf (n % 10) ++ strOfNums [97 + ((i % 26 : Nat) : Int)] := by
    unfold labelOf
    rw [Int.natCast_emod]
    rfl
  rw [h2]
  exact ⟨of_decide_eq_true h1.1, of_decide_eq_true h1.2⟩
theorem val_few {k : Nat} (h : k < 32) : (quot (bts (valName k))).length ≤ 20 ∧ (valName k).size ≤ 1000 := by
  have h1 := List.all_eq_true.1 vals_few k (List.mem_range.2 h)
  rw [Bool.and_eq_true] at h1
  exact ⟨of_decide_eq_true h1.1, of_decide_eq_true h1.2⟩
theorem recs_mem {p : Plan} {n : Nat} {r : SRec} (h : r ∈ recsP p n) : ∃ i, i < n ∧ r.fields.length = (p.structs.getD i []).length ∧ ∀ f ∈ r.fields, ∃ k, f = fldP p i k ((p.structs.getD i []).getD k noPF) := by
  obtain ⟨i, hi, rfl⟩ := List.mem_map.1 h
  refine ⟨i, List.mem_range.1 hi, fldsP_length _ _ _ _, fun f hf => ?_⟩
  obtain ⟨k, _, rfl⟩ := List.mem_map.1 (show f ∈ (List.range _).map _ from hf)
  exact ⟨k, rfl⟩
theorem chos_mem {p : Plan} {n : Nat} {c : SCho} (h : c ∈ chosP p n) : c.names.length ≤ 32 ∧ ∀ s ∈ c.names, ∃ k, k < 32 ∧ s = valName k := by
  obtain ⟨i, _, rfl⟩ := List.mem_map.1 h
  have h2 : cntOf p i ≤ 32 := by unfold cntOf; omega
  refine ⟨?_, fun s hs => ?_⟩
  · show ((List.range (cntOf p i)).map valName).length ≤ 32
    rw [List.length_map, List.length_range]
    exact h2
  · obtain ⟨k, hk, rfl⟩ := List.mem_map.1 (show s ∈ (List.range (cntOf p i)).map valName from hs)
    exact ⟨k, Nat.lt_of_lt_of_le (List.mem_range.1 hk) h2, rfl⟩
theorem refP_few {p : Plan} (hok : planOk p) (i : Nat) (hi : i < p.structs.length) (f : PF) : refP p i f ≤ 1000000 := by
  obtain ⟨_, h1, h2, _⟩ := hok
  unfold refP
  split
  · split
    · rename_i hk ht
      by_cases hz : p.structs.length - i - 1 = 0
      · exfalso
        unfold kindP at hk
        split at hk
        · cases hk
        · rename_i hn
          exact hn ⟨hk, ht, by omega⟩
      · have := Nat.mod_lt f.ref (show 0 < p.structs.length - i - 1 by omega)
        omega
    · have := Nat.mod_lt f.ref (show 0 < p.structs.length by omega)
      omega
  · unfold ref0
    split
    · rename_i hk
      by_cases hz : p.enums.length = 0
      · exfalso
        unfold kind0 at hk
        split at hk
        · cases hk
        · rename_i hn
          exact hn ⟨hk, hz⟩
      · have := Nat.mod_lt f.ref (show 0 < p.enums.length by omega)
        omega
    · omega
theorem made_namok {p : Plan} (hok : planOk p) : NamOk (recsP p p.structs.length) (chosP p p.enums.length) := by
  refine ⟨fun r hr => ?_, fun c hc s hs => ?_⟩
  · obtain ⟨i, hi, hl, hall⟩ := recs_mem hr
    have hgl : p.structs.getD i [] = p.structs[i] := by rw [List.getD, List.getElem?_eq_getElem hi, Option.getD_some]
    refine ⟨by rw [hl, hgl]; exact (hok.2.2.2 _ (List.getElem_mem hi)).2, fun f hf => ?_⟩
    obtain ⟨k, rfl⟩ := hall f hf
    exact (label_few _ _).1
  · obtain ⟨k, hk, rfl⟩ := (chos_mem hc).2 s hs
    exact (val_few hk).1
theorem made_jwok {p : Plan} (hok : planOk p) {ss : List (SRec × Value)} {es : List (SCho × Value)} (hss : ss.map Prod.fst = recsP p p.structs.length) (hes : es.map Prod.fst = chosP p p.enums.length) (hm : SchM ss (es.map Prod.fst)) : JwOk ss es := by
  have hel : es.length = p.enums.length := by
    have := congrArg List.length hes
    rwa [List.length_map, chosP_length] at this
  have h8 := hok.2.2.1
  refine ⟨⟨hm.1, by omega⟩, fun q hq => ⟨(hm.2 q hq).1, fun f hf => ?_, fun f hf => ?_⟩, fun q hq => ?_⟩
  · have h1 : q.1 ∈ recsP p p.structs.length := by rw [← hss]; exact List.mem_map.2 ⟨q, hq, rfl⟩
    obtain ⟨i, _, _, hall⟩ := recs_mem h1
    obtain ⟨k, rfl⟩ := hall f hf
    exact (label_few _ _).2
  · have h1 : q.1 ∈ recsP p p.structs.length := by rw [← hss]; exact List.mem_map.2 ⟨q, hq, rfl⟩
    obtain ⟨i, hi, _, hall⟩ := recs_mem h1
    obtain ⟨ht, _, _⟩ := (hm.2 q hq).2 f hf
    have hr : f.ref ≤ 1000000 := by
      obtain ⟨k, rfl⟩ := hall f hf
      exact refP_few hok i hi _
    have t1 := ht.hi
    have t2 := ht.li
    exact ⟨by omega, by omega, by omega, hr, ht.st⟩
  · have h1 : q.1 ∈ chosP p p.enums.length := by rw [← hes]; exact List.mem_map.2 ⟨q, hq, rfl⟩
    have h2 := chos_mem h1
    refine ⟨by have := h2.1; omega, fun s hs => ?_⟩
    obtain ⟨k, hk, rfl⟩ := h2.2 s hs
    exact (val_few hk).2
end Go.Proofs.YtiknhkkeifemcaaGreatDoor
