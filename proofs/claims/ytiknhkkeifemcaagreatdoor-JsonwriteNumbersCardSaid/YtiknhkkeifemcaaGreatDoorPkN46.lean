/-
  The program's writer of JSON (package jsonwrite): an element; how many elements a list has. Conditions: those that each theorem names.
-/
import Derived.Test.YtiknhkkeifemcaaGreatDoorPkN44
namespace Go.Proofs.YtiknhkkeifemcaaGreatDoor
open Go.ChangeShapes Go.WideShapes Go.ChangeAt Go.RowKit Go.Shelf

section
variable {D Dv : Nat → Prop} {w : World} {base wk ak mk : Nat} {rv cv : Value} {A : Option Addr} {L pay : Int} {enc bs : List Int} {rs : List (SRec × Value)} {cs : List (SCho × Value)}
theorem jtext_conv (h : JwAt base wk ak mk rv cv A L enc pay w) (nm : ByteArray) (hn : nm.size ≤ 100000) {K : Nat} {w2 : World} (hK : nm.size ≤ K) (hb2 : Below w.heap.size w w2) (hl2 : w.heap.size < w2.heap.size) (hby : Bytes w2 (some ⟨w.heap.size, 0, none⟩) (bts nm)) :
    Calls Tryz.prog 38 #[.pointer (some ⟨wk, 0, none⟩), .slice (some ⟨w.heap.size, 0, none⟩) nm.size K] w2 fun e w' => e = .returned (.tuple #[]) ∧ JwTo base wk ak mk rv cv A L (enc ++ quot (bts nm)) (pay + 2 * (quot (bts nm)).length) w w' := by
  have hbl := bts_length nm
  have hlts := h.lts
  have hrow : ∀ g, rowOf (some (⟨w.heap.size, 0, none⟩ : Addr)) = some g → g = w.heap.size := fun g hg => by simp [rowOf] at hg; omega
  have htx := jtext_any (h.below hb2) (S := some ⟨w.heap.size, 0, none⟩) (c := K) ⟨hby, by rw [hbl]; exact hK, (fun e => by cases e), avoid_new (B := w.heap.size) ⟨hlts.1, hlts.2.1, hlts.2.2.1, hlts.2.2.2.1⟩ (fun g hg => by have := hrow g hg; omega), (fun g hg => by have := hrow g hg; omega), by omega⟩
  rw [hbl] at htx
  exact htx.mono fun e w' hh => ⟨hh.1, hh.2.from (.of_below A hb2)⟩
set_option maxRecDepth 100000 in
set_option maxHeartbeats 4000000 in
theorem jlabel_any (h : JwAt base wk ak mk rv cv A L enc pay w) (S : ByteArray) (hS : S.size ≤ 10) (nm : ByteArray) (hn : nm.size ≤ 100000) (i : Nat) (k ref lists : Int) :
    Calls Tryz.prog 104 #[.pointer (some ⟨wk, 0, none⟩), .string S, .agg #[.string nm, .int .i64 i, .int .u8 k, .int .i64 ref, .int .i64 lists]] w fun e w' => e = .returned (.tuple #[]) ∧ JwTo base wk ak mk rv cv A L (enc ++ bts S ++ quot (bts nm) ++ [58]) (pay + S.size + 2 * (quot (bts nm)).length + 1) w w' := by
  have hb0 := (Below.refl w.heap.size w).alloc (Nat.le_refl _) (.cells #[.string nm, .int .i64 i, .int .u8 k, .int .i64 ref, .int .i64 lists] 147)
  have HB0 := Lib.hid hb0
  have HQ := Lib.hid (heap_alloc_new w (.cells #[.string nm, .int .i64 i, .int .u8 k, .int .i64 ref, .int .i64 lists] 147))
  have HP := Lib.hid (jputs_any (h.below hb0) S (by omega))
  have HWL : Hid (w.heap.size ≠ wk ∧ w.heap.size ≠ ak ∧ w.heap.size ≠ mk ∧ some w.heap.size ≠ rowOf A) := Lib.hid (by
    have := h.lts
    refine ⟨by omega, by omega, by omega, fun e => ?_⟩
    have := this.2.2.2.1 _ e.symm
    omega)
  clear h hb0
  go_enter Tryz.func104, Tryz.ntmps104
  go_upto_region 1 with (fail)
  generalize w.alloc (.cells #[.string nm, .int .i64 i, .int .u8 k, .int .i64 ref, .int .i64 lists] 147) = W0 at *
  go_wp2_with fail
  refine HP.out.mono ?_
  rintro e W1 ⟨rfl, A1, hat1, hx1⟩
  have HX1 := Lib.hid ((Fx.of_below A HB0.out).trans hx1)
  have HQ1 := Lib.hid (hx1.blk HQ.out HWL.out.1 HWL.out.2.1 HWL.out.2.2.1 HWL.out.2.2.2)
  have x0 := (blk_cell HQ1.out 0).trans rfl
  obtain ⟨K, w2, hcv, hK, hb2, hl2, hby⟩ := conv_bts nm W1
  have HTX := Lib.hid (jtext_conv hat1 nm hn hK hb2 hl2 hby)
  clear hat1 hx1 hK hb2 hl2 hby HP
  go_wp2_with fail
  refine HTX.out.mono ?_
  rintro e W2 ⟨rfl, A2, hat2, hx2⟩
  have HP3 := Lib.hid (jputs_any hat2 ⟨#[58]⟩ (by decide))
  have HX2 := Lib.hid (HX1.out.trans hx2)
  clear hat2 hx2 hcv HTX x0
  go_wp2_with fail
  refine HP3.out.mono ?_
  rintro e W3 ⟨rfl, ht⟩
  have HEND := Lib.hid (show JwTo base wk ak mk rv cv A L (enc ++ bts S ++ quot (bts nm) ++ [58]) (pay + S.size + 2 * (quot (bts nm)).length + 1) w W3 from ht.from HX2.out)
  clear ht HP3
  go_wp2
  exact bodyPost_end (v := .tuple #[]) (by simp [results, Tryz.results104, go_sem]) rfl ⟨rfl, HEND.out⟩
end
def putsJ (k : Nat) (lists : Int) (q : PV) : Bool := !(decide (sortP k lists = 4) && !q.has)
def FieldJAt (r : Nat) : Prop := ∀ (D Dv : Nat → Prop) (w : World) (base wk ak mk : Nat) (rv cv : Value) (A : Option Addr) (L : Int) (enc : List Int) (pay : Int) (rs : List (SRec × Value)) (cs : List (SCho × Value)) (v : Value) (S : ByteArray) (i : Nat) (f : SFld) (q : PV),
  JwAll D Dv w base wk ak mk rv cv A L enc pay rs cs → AskD (ShownD (jcRecs rs) r) Dv true w v i f.kind (f.ref : Nat) (f.lists : Nat) q → TyJ rs.length f.kind f.ref (f.lists : Nat) → SmallJ q → (i : Int) ≤ 9223372036854775807 → S.size ≤ 10 → f.name.size ≤ 100000 →
  Calls Tryz.prog 75 #[.pointer (some ⟨wk, 0, none⟩), .string S, .agg #[.string f.name, .int .i64 i, .int .u8 f.kind, .int .i64 (f.ref : Nat), .int .i64 (f.lists : Nat)], v] w fun e w' => e = .returned (.bool (putsJ f.kind (f.lists : Nat) q)) ∧ JwTo base wk ak mk rv cv A L (enc ++ fldJ (jChos cs) (encJ (jRecs rs) (jChos cs) r) (bts S) f q) (pay + 20 * (fldJ (jChos cs) (encJ (jRecs rs) (jChos cs) r) (bts S) f q).length) w w'
theorem shown_has {ss : List CRec} {r : Nat} {D : Nat → Prop} {w : World} {v : Value} {k : Nat} {ref lists : Int} {q : PV} (h : ShownD ss r D w v k ref lists q) (hs : sortP k lists = 4) : q.has = true := by
  cases r with
  | zero => have := h.1; omega
  | succ r =>
    rcases h with ⟨h1, _⟩ | ⟨_, h2, _⟩
    · omega
    · exact h2.bare.2.2
set_option maxRecDepth 100000 in
set_option maxHeartbeats 8000000 in
theorem jfield_step {r : Nat} (hK : KidJAt r) (hS : StructJAt r) : FieldJAt r := by
  rintro D Dv w base wk ak mk rv cv A L enc pay rs cs v S i ⟨nm, k, ref, lists, dflt⟩ q hall hask hty hsm hi hSz hnm
  simp only at hask hty hnm ⊢
  have hb0 := (Below.refl w.heap.size w).alloc (Nat.le_refl _) (.cells #[.string nm, .int .i64 i, .int .u8 k, .int .i64 (ref : Nat), .int .i64 (lists : Nat)] 147)
  have HB0 := Lib.hid hb0
  have HQ := Lib.hid (heap_alloc_new w (.cells #[.string nm, .int .i64 i, .int .u8 k, .int .i64 (ref : Nat), .int .i64 (lists : Nat)] 147))
  have HA0 := Lib.hid (hall.below hb0)
  have HASK := Lib.hid (hask.later (.of_below hall.seen.lt hb0))
  have HTY := Lib.hid hty
  have HSM := Lib.hid hsm
  have HKK := Lib.hid hK
  have HSS := Lib.hid hS
  have HWL : Hid (w.heap.size ≠ wk ∧ w.heap.size ≠ ak ∧ w.heap.size ≠ mk ∧ some w.heap.size ≠ rowOf A) := Lib.hid (by
    have := hall.at_.lts
    refine ⟨by omega, by omega, by omega, fun e => ?_⟩
    have := this.2.2.2.1 _ e.symm
    omega)
  have HSL : Hid (S.size = (bts S).length) := Lib.hid (bts_length S).symm
  clear hall hask hty hsm hK hS hb0
  obtain ⟨nx, hnx⟩ : ∃ nx, encJ (jRecs rs) (jChos cs) r = nx := ⟨_, rfl⟩
  have HNX := Lib.hid hnx
  rw [hnx]
  clear hnx
  by_cases hs : sortP k lists = 4
  · obtain ⟨T, rr, f, rv', rfl, hm, hc⟩ := HASK.out.sub hs
    have mN := hm.at (by decide)
    have eN := hm.enters
    have HC := Lib.hid hc
    have HS4 := Lib.hid hs
    have HE : Hid (fldJ (jChos cs) nx (bts S) ⟨nm, k, ref, lists, dflt⟩ q = if q.has = false then [] else bts S ++ (quot (bts nm) ++ (58 :: nx k ref lists q))) := Lib.hid (by
      unfold fldJ elemJ
      by_cases hh : q.has = false
      · rw [if_pos ⟨hs, hh⟩, if_pos hh]
      · rw [if_neg (fun h => hh h.2), if_pos hs, if_neg hh])
    have HPJ : Hid (putsJ k lists q = q.has) := Lib.hid (by unfold putsJ; rw [decide_eq_true hs]; cases q.has <;> rfl)
    obtain ⟨o, ho⟩ : ∃ o, fldJ (jChos cs) nx (bts S) ⟨nm, k, ref, lists, dflt⟩ q = o := ⟨_, rfl⟩
    rw [ho] at HE ⊢
    rw [HPJ.out]
    obtain ⟨hv, hhv⟩ : ∃ hv, q.has = hv := ⟨_, rfl⟩
    rw [hhv]
    have HHV := Lib.hid hhv
    clear hm hc ho HASK hhv
    go_enter Tryz.func75, Tryz.ntmps75
    go_upto_region 1 with (fail)
    generalize w.alloc (.cells #[.string nm, .int .i64 i, .int .u8 k, .int .i64 (ref : Nat), .int .i64 (lists : Nat)] 147) = W0 at *
    obtain ⟨x0, x1, x2, x3, x4⟩ := blk5q HQ.out
    go_wp2_with fail
    refine (sorts_any k ref lists W0).mono ?_
    rintro e W1 ⟨rfl, hb1⟩
    have HB1 := Lib.hid hb1
    have HQ1 := Lib.hid (blk_below HQ.out hb1 (blk_lt HQ.out))
    obtain ⟨x0, x1, x2, x3, x4⟩ := blk5q HQ1.out
    have HN1 := Lib.hid (HC.out W1 (.of_below HA0.out.seen.lt hb1))
    clear hb1 HC
    rw [hs]
    clear hs
    go_wp2_with fail
    refine HN1.out.mono ?_
    rintro e W2 ⟨hsub, hb2⟩
    have HB2 := Lib.hid (HB1.out.trans (hb2.mono HB1.out.size))
    have HQ2 := Lib.hid (blk_below HQ.out HB2.out (blk_lt HQ.out))
    obtain ⟨x0, x1, x2, x3, x4⟩ := blk5q HQ2.out
    have HBW := Lib.hid (HB0.out.trans (HB2.out.mono HB0.out.size))
    have HA1 := Lib.hid (HA0.out.below HB1.out)
    have HA2 := Lib.hid (HA0.out.below HB2.out)
    have hlts := HA1.out.at_.lts
    rcases hsub with ⟨sv, rfl, D', hD', hsh⟩ | ⟨_, rfl, hq⟩
    · have hhas : q.has = true := shown_has hsh HS4.out
      have HE2 := Lib.hid (HE.out.trans (if_neg (by rw [hhas]; decide)))
      have HSE := Lib.hid (HA1.out.seen.hand hb2 ⟨hlts.1, hlts.2.1, hlts.2.2.1, hlts.2.2.2.1⟩ hD')
      have HSH := Lib.hid hsh
      have HLB := Lib.hid (jlabel_any HA2.out.at_ S hSz nm hnm i k ref lists)
      have HTV : Hid (hv = true) := Lib.hid (HHV.out.symm.trans hhas)
      clear hb2 hsh hD' mN eN HN1 HE hhas hlts
      simp only [if_true]
      go_wp2_with fail
      refine HLB.out.mono ?_
      rintro e W3 ⟨rfl, ht3⟩
      obtain ⟨A3, hA3, hx3⟩ := HA2.out.to ht3
      have HX3 := Lib.hid hx3
      obtain ⟨hs3, ho3⟩ := HSE.out.step hx3
      obtain ⟨x0, x1, x2, x3, x4⟩ := blk5q (hx3.blk HQ2.out HWL.out.1 HWL.out.2.1 HWL.out.2.2.1 HWL.out.2.2.2)
      have HNU := Lib.hid (HSS.out D D' W3 base wk ak mk rv cv A3 L _ _ rs cs sv k ref lists q ⟨hA3.at_, hA3.ctx, hs3⟩ (HSH.out.later _ ho3) HTY.out HSM.out HS4.out)
      rw [HNX.out] at HNU
      clear ht3 hA3 hx3 hs3 ho3 HLB
      go_wp2_with fail
      refine HNU.out.mono ?_
      rintro e W4 ⟨rfl, ht4⟩
      have HEND := Lib.hid (show JwTo base wk ak mk rv cv A L (enc ++ o) (pay + 20 * o.length) w W4 by
        have h3 := (ht4.from HX3.out).from (.of_below A HBW.out)
        have e1 : enc ++ bts S ++ quot (bts nm) ++ [58] ++ nx k ref lists q = enc ++ o := by rw [HE2.out]; simp
        have e2 := congrArg List.length e1
        rw [e1] at h3
        refine h3.more ?_
        rw [List.length_append, List.length_append, List.length_append, List.length_append, List.length_append, List.length_singleton] at e2
        have := HSL.out
        omega)
      clear ht4 HNU x0 x1 x2 x3 x4
      go_wp2
      go_ret
      exact ⟨by rw [HTV.out]; rfl, HEND.out⟩
    · have hhas : q.has = false := by rw [hq]; rfl
      have HE2 := Lib.hid (HE.out.trans (if_pos hhas))
      have HEND := Lib.hid (show JwTo base wk ak mk rv cv A L (enc ++ o) (pay + 20 * o.length) w W2 by
        rw [HE2.out, List.append_nil]
        exact ⟨A, HA2.out.at_.more (by simp), .of_below A HBW.out⟩)
      have HTV : Hid (hv = false) := Lib.hid (HHV.out.symm.trans hhas)
      clear hb2 hq mN eN HN1 HE hhas hlts
      go_wp2
      go_ret
      exact ⟨by rw [HTV.out]; rfl, HEND.out⟩
  · have HE : Hid (fldJ (jChos cs) nx (bts S) ⟨nm, k, ref, lists, dflt⟩ q = bts S ++ (quot (bts nm) ++ (58 :: kidJ (jChos cs) nx k ref lists q))) := Lib.hid (by
      unfold fldJ elemJ
      rw [if_neg (fun h => hs h.1), if_neg hs])
    have HPJ : Hid (putsJ k lists q = true) := Lib.hid (by unfold putsJ; rw [decide_eq_false hs]; rfl)
    obtain ⟨o, ho⟩ : ∃ o, fldJ (jChos cs) nx (bts S) ⟨nm, k, ref, lists, dflt⟩ q = o := ⟨_, rfl⟩
    rw [ho] at HE ⊢
    rw [HPJ.out]
    have hsI : (((sortP k lists : Nat) : Int) == 4) = false := by simp; omega
    have hsI2 : ¬ ((sortP k lists : Nat) : Int) = 4 := by omega
    have HS4 := Lib.hid hs
    clear ho hs
    go_enter Tryz.func75, Tryz.ntmps75
    go_upto_region 1 with (fail)
    generalize w.alloc (.cells #[.string nm, .int .i64 i, .int .u8 k, .int .i64 (ref : Nat), .int .i64 (lists : Nat)] 147) = W0 at *
    obtain ⟨x0, x1, x2, x3, x4⟩ := blk5q HQ.out
    go_wp2_with fail
    refine (sorts_any k ref lists W0).mono ?_
    rintro e W1 ⟨rfl, hb1⟩
    have HB1 := Lib.hid hb1
    have HQ1 := Lib.hid (blk_below HQ.out hb1 (blk_lt HQ.out))
    obtain ⟨x0, x1, x2, x3, x4⟩ := blk5q HQ1.out
    have HA1 := Lib.hid (HA0.out.below hb1)
    have HLB := Lib.hid (jlabel_any HA1.out.at_ S hSz nm hnm i k ref lists)
    have HBW := Lib.hid (HB0.out.trans (hb1.mono HB0.out.size))
    clear hb1
    generalize ((sortP k lists : Nat) : Int) = z at *
    go_wp2_with fail
    refine HLB.out.mono ?_
    rintro e W2 ⟨rfl, ht2⟩
    obtain ⟨A2, hA2, hx2⟩ := HA1.out.to ht2
    have HX2 := Lib.hid hx2
    obtain ⟨x0, x1, x2, x3, x4⟩ := blk5q (hx2.blk HQ1.out HWL.out.1 HWL.out.2.1 HWL.out.2.2.1 HWL.out.2.2.2)
    have HNU := Lib.hid (HKK.out D Dv true W2 base wk ak mk rv cv A2 L _ _ rs cs v i k ref lists q hA2 (HASK.out.later ((OutD.of_below HA0.out.seen.lt HB1.out).trans (HA1.out.seen.step hx2).2)) HTY.out HSM.out hi HS4.out)
    rw [HNX.out] at HNU
    clear ht2 hA2 hx2 HLB
    go_wp2_with fail
    refine HNU.out.mono ?_
    rintro e W3 ⟨rfl, ht3⟩
    have HEND := Lib.hid (show JwTo base wk ak mk rv cv A L (enc ++ o) (pay + 20 * o.length) w W3 by
      have h3 := (ht3.from HX2.out).from (.of_below A HBW.out)
      have e1 : enc ++ bts S ++ quot (bts nm) ++ [58] ++ kidJ (jChos cs) nx k ref lists q = enc ++ o := by rw [HE.out]; simp
      have e2 := congrArg List.length e1
      rw [e1] at h3
      refine h3.more ?_
      rw [List.length_append, List.length_append, List.length_append, List.length_append, List.length_append, List.length_singleton] at e2
      have := HSL.out
      omega)
    clear ht3 HNU x0 x1 x2 x3 x4
    go_wp2
    go_ret
    exact ⟨rfl, HEND.out⟩
end Go.Proofs.YtiknhkkeifemcaaGreatDoor
namespace Go.Proofs.YtiknhkkeifemcaaGreatDoor
open Go.ChangeShapes Go.WideShapes Go.ChangeAt Go.RowKit Go.Shelf

def ElemJAt (r : Nat) : Prop := ∀ (D Dv : Nat → Prop) (w : World) (base wk ak mk : Nat) (rv cv : Value) (A : Option Addr) (L : Int) (enc : List Int) (pay : Int) (rs : List (SRec × Value)) (cs : List (SCho × Value)) (v : Value) (i k ref : Nat) (lists : Int) (q : PV),
  JwAll D Dv w base wk ak mk rv cv A L enc pay rs cs → AskD (ShownD (jcRecs rs) r) Dv false w v i k ref lists q → TyJ rs.length k ref lists → SmallJ q → (i : Int) ≤ 9223372036854775807 →
  Calls Tryz.prog 71 #[.pointer (some ⟨wk, 0, none⟩), .agg #[.int .u8 k, .int .i64 ref, .int .i64 lists], v, .int .i64 i] w (PutJ base wk ak mk rv cv A L enc pay (elemJ (jChos cs) (encJ (jRecs rs) (jChos cs) r) k ref lists q) w)
set_option maxRecDepth 100000 in
set_option maxHeartbeats 8000000 in
theorem jelem_step {r : Nat} (hK : KidJAt r) (hS : StructJAt r) : ElemJAt r := by
  intro D Dv w base wk ak mk rv cv A L enc pay rs cs v i k ref lists q hall hask hty hsm hi
  have hb0 := (Below.refl w.heap.size w).alloc (Nat.le_refl _) (.cells #[.int .u8 k, .int .i64 ref, .int .i64 lists] 47)
  have HB0 := Lib.hid hb0
  have HQ := Lib.hid (heap_alloc_new w (.cells #[.int .u8 k, .int .i64 ref, .int .i64 lists] 47))
  have HA0 := Lib.hid (hall.below hb0)
  have HASK := Lib.hid (hask.later (.of_below hall.seen.lt hb0))
  have HTY := Lib.hid hty
  have HSM := Lib.hid hsm
  have HKK := Lib.hid hK
  have HSS := Lib.hid hS
  clear hall hask hty hsm hK hS hb0
  by_cases hs : sortP k lists = 4
  · have HE : Hid (elemJ (jChos cs) (encJ (jRecs rs) (jChos cs) r) k ref lists q = encJ (jRecs rs) (jChos cs) r k ref lists q) := Lib.hid (by unfold elemJ; rw [if_pos hs])
    obtain ⟨o, ho⟩ : ∃ o, elemJ (jChos cs) (encJ (jRecs rs) (jChos cs) r) k ref lists q = o := ⟨_, rfl⟩
    rw [ho] at HE ⊢
    obtain ⟨T, rr, f, rv', rfl, hm, hc⟩ := HASK.out.sub hs
    have mN := hm.at (by decide)
    have eN := hm.enters
    have HC := Lib.hid hc
    have HS1 := Lib.hid hs
    clear hm hc ho HASK
    go_enter Tryz.func71, Tryz.ntmps71
    go_upto_region 1 with (fail)
    generalize w.alloc (.cells #[.int .u8 k, .int .i64 ref, .int .i64 lists] 47) = W0 at *
    obtain ⟨_, x0, x1, x2, _⟩ := blk3 HQ.out
    go_wp2_with fail
    refine (sorts_any k ref lists W0).mono ?_
    rintro e W1 ⟨rfl, hb1⟩
    have HB1 := Lib.hid (hb1.drew)
    have HQ1 : Hid (W1.drew.heap[w.heap.size]? = some (.cells #[.int .u8 k, .int .i64 ref, .int .i64 lists] 47 (0, 0))) := Lib.hid (blk_below HQ.out HB1.out (blk_lt HQ.out))
    obtain ⟨_, x0, x1, x2, _⟩ := blk3 (blk_below HQ.out hb1 (blk_lt HQ.out))
    have HN1 : Hid (Calls Tryz.prog f #[rv', .int .i64 i] W1.drew fun e w' => (∃ sv, e = .returned sv ∧ HandD (ShownD (jcRecs rs) r) Dv W1.drew w' sv k ref lists q) ∧ Below W1.drew.heap.size W1.drew w') := Lib.hid ((HC.out W1.drew (.of_below HA0.out.seen.lt HB1.out)).mono (fun e w' hh => by
      obtain ⟨h1, h2⟩ := hh
      refine ⟨?_, h2⟩
      rcases h1 with ⟨sv, he, hn⟩ | ⟨hb, _⟩
      · exact ⟨sv, he, hn⟩
      · cases hb))
    clear hb1 HC
    rw [hs]
    clear hs
    go_wp2_with fail
    go_region_law (first | (go_simp; go_at_call 37; (with_reducible refine HNU.out.mono ?_); rintro e W3 hpost; have HEND := Lib.hid (show PutJ base wk ak mk rv cv A L enc pay o w e W3 by rw [HE.out]; exact PutJ.from HBW.out hpost); obtain ⟨rfl, _⟩ := HEND.out; clear hpost HNU) | (go_simp; (with_reducible refine HN1.out.mono ?_); rintro e W2 ⟨⟨lv, rfl, D', hD', hsh⟩, hb2⟩; have HB2 := Lib.hid (HB1.out.trans (hb2.mono HB1.out.size)); have hlts := (HA0.out.below HB1.out).at_.lts; have HNU := Lib.hid (HSS.out D D' W2 base wk ak mk rv cv A L enc pay rs cs lv k ref lists q ⟨(HA0.out.below HB2.out).at_, (HA0.out.below HB2.out).ctx, (HA0.out.below HB1.out).seen.hand hb2 ⟨hlts.1, hlts.2.1, hlts.2.2.1, hlts.2.2.2.1⟩ hD'⟩ hsh HTY.out HSM.out HS1.out); clear hlts hD' hsh; have HBW := Lib.hid (HB0.out.trans (HB2.out.mono HB0.out.size)); obtain ⟨_, x0, x1, x2, _⟩ := blk3 (blk_below HQ1.out hb2 (blk_lt HQ1.out)); clear hb2 mN eN HN1))
    all_goals
      go_wp2
      exact bodyPost_ret (v := .tuple #[]) (by simp [results, Tryz.results71, go_sem]) rfl HEND.out
  · have HE : Hid (elemJ (jChos cs) (encJ (jRecs rs) (jChos cs) r) k ref lists q = kidJ (jChos cs) (encJ (jRecs rs) (jChos cs) r) k ref lists q) := Lib.hid (by unfold elemJ; rw [if_neg hs])
    rw [HE.out]
    have hsI : (((sortP k lists : Nat) : Int) == 4) = false := by simp; omega
    have hsI2 : ¬ ((sortP k lists : Nat) : Int) = 4 := by omega
    have HS4 := Lib.hid hs
    obtain ⟨o, ho⟩ : ∃ o, kidJ (jChos cs) (encJ (jRecs rs) (jChos cs) r) k ref lists q = o := ⟨_, rfl⟩
    have HO := Lib.hid ho
    rw [ho]
    clear hs HE ho
    go_enter Tryz.func71, Tryz.ntmps71
    go_upto_region 1 with (fail)
    generalize w.alloc (.cells #[.int .u8 k, .int .i64 ref, .int .i64 lists] 47) = W0 at *
    obtain ⟨_, x0, x1, x2, _⟩ := blk3 HQ.out
    go_wp2_with fail
    refine (sorts_any k ref lists W0).mono ?_
    rintro e W1 ⟨rfl, hb1⟩
    have HB1 := Lib.hid hb1
    obtain ⟨_, x0, x1, x2, _⟩ := blk3 (blk_below HQ.out hb1 (blk_lt HQ.out))
    have HNU := Lib.hid (HKK.out D Dv false W1 base wk ak mk rv cv A L enc pay rs cs v i k ref lists q (HA0.out.below hb1) (HASK.out.later (.of_below HA0.out.seen.lt hb1)) HTY.out HSM.out hi HS4.out)
    rw [HO.out] at HNU
    have HBW := Lib.hid (HB0.out.trans (HB1.out.mono HB0.out.size))
    clear hb1
    generalize ((sortP k lists : Nat) : Int) = z at *
    go_wp2_with fail
    refine HNU.out.mono ?_
    rintro e W3 hpost
    have HEND := Lib.hid (PutJ.from HBW.out hpost)
    obtain ⟨rfl, _⟩ := HEND.out
    clear hpost HNU x0 x1 x2
    go_wp2
    exact bodyPost_end (v := .tuple #[]) (by simp [results, Tryz.results71, go_sem]) rfl HEND.out
set_option maxRecDepth 100000 in
theorem jlength_any {Dv : Nat → Prop} {w : World} {v : Value} {q : PV} (hv : ListHeadD Dv w v q) :
    Calls Tryz.prog 70 #[v] w fun e w' => e = .returned (.int .i64 q.kids.length) ∧ Below w.heap.size w w' := by
  obtain ⟨n, hn⟩ : ∃ n, q.kids.length = n := ⟨_, rfl⟩
  have hl := hv.len
  rw [hn] at hl ⊢
  rcases hl with ⟨rfl, hk⟩ | ⟨T, r, f, rv', rfl, hm, hc⟩
  · obtain rfl : n = 0 := by rw [← hn, hk]; rfl
    clear hv hk hn
    go_enter Tryz.func70, Tryz.ntmps70
    go_wp2
    go_ret
    exact ⟨rfl, Below.refl _ _⟩
  · have mN := hm.at (by decide)
    have eN := hm.enters
    have HC := Lib.hid (hc w (OutD.refl _ _))
    clear hm hc hv hn
    go_enter Tryz.func70, Tryz.ntmps70
    go_wp2_with fail
    refine HC.out.mono ?_
    rintro e W2 ⟨rfl, hb2⟩
    have HB := Lib.hid hb2
    clear hb2 mN eN HC
    go_wp2
    go_ret
    exact ⟨rfl, HB.out⟩
end Go.Proofs.YtiknhkkeifemcaaGreatDoor
