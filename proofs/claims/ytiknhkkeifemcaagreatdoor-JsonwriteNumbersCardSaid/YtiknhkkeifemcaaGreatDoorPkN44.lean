/-
  The program's writer of JSON (package jsonwrite): a field or an element that is no struct. Conditions: those that each theorem names.
-/
import Derived.Test.YtiknhkkeifemcaaGreatDoorPkN41
import Derived.Deep.RegionLaw
namespace Go.Proofs.YtiknhkkeifemcaaGreatDoor
open Go.ChangeShapes Go.WideShapes Go.ChangeAt Go.RowKit Go.Shelf

inductive SmallJ : PV → Prop
  | mk (v : PV) (hk : v.kids.length ≤ 1000000) (hb : v.bytes.length ≤ 100000) (hn : v.num ≤ maxU) (hs : ∀ q ∈ v.kids, SmallJ q) : SmallJ v
theorem SmallJ.few {v : PV} (h : SmallJ v) : v.kids.length ≤ 1000000 ∧ v.bytes.length ≤ 100000 ∧ v.num ≤ maxU ∧ ∀ q ∈ v.kids, SmallJ q := by
  cases h with
  | mk _ hk hb hn hs => exact ⟨hk, hb, hn, hs⟩
def jcRecs (rs : List (SRec × Value)) : List CRec := (jRecs rs).map cR
def PutJ (base wk ak mk : Nat) (rv cv : Value) (A : Option Addr) (L : Int) (enc : List Int) (pay : Int) (o : List Int) (w : World) (e : Ending) (w' : World) : Prop := e = .returned (.tuple #[]) ∧ JwTo base wk ak mk rv cv A L (enc ++ o) (pay + 20 * o.length) w w'
def KidJAt (r : Nat) : Prop := ∀ (D Dv : Nat → Prop) (b : Bool) (w : World) (base wk ak mk : Nat) (rv cv : Value) (A : Option Addr) (L : Int) (enc : List Int) (pay : Int) (rs : List (SRec × Value)) (cs : List (SCho × Value)) (v : Value) (i k ref : Nat) (lists : Int) (q : PV),
  JwAll D Dv w base wk ak mk rv cv A L enc pay rs cs → AskD (ShownD (jcRecs rs) r) Dv b w v i k ref lists q → TyJ rs.length k ref lists → SmallJ q → (i : Int) ≤ 9223372036854775807 → sortP k lists ≠ 4 →
  Calls Tryz.prog 103 #[.pointer (some ⟨wk, 0, none⟩), .agg #[.int .u8 k, .int .i64 ref, .int .i64 lists], v, .int .i64 i] w (PutJ base wk ak mk rv cv A L enc pay (kidJ (jChos cs) (encJ (jRecs rs) (jChos cs) r) k ref lists q) w)
def ListJAt (r : Nat) : Prop := ∀ (D Dv : Nat → Prop) (w : World) (base wk ak mk : Nat) (rv cv : Value) (A : Option Addr) (L : Int) (enc : List Int) (pay : Int) (rs : List (SRec × Value)) (cs : List (SCho × Value)) (v : Value) (k ref : Nat) (lists : Int) (q : PV),
  JwAll D Dv w base wk ak mk rv cv A L enc pay rs cs → ShownD (jcRecs rs) r Dv w v k ref lists q → TyJ rs.length k ref lists → SmallJ q → sortP k lists = 3 →
  Calls Tryz.prog 36 #[.pointer (some ⟨wk, 0, none⟩), .agg #[.int .u8 k, .int .i64 ref, .int .i64 lists], v] w (PutJ base wk ak mk rv cv A L enc pay (encJ (jRecs rs) (jChos cs) r k ref lists q) w)
def StructJAt (r : Nat) : Prop := ∀ (D Dv : Nat → Prop) (w : World) (base wk ak mk : Nat) (rv cv : Value) (A : Option Addr) (L : Int) (enc : List Int) (pay : Int) (rs : List (SRec × Value)) (cs : List (SCho × Value)) (v : Value) (k ref : Nat) (lists : Int) (q : PV),
  JwAll D Dv w base wk ak mk rv cv A L enc pay rs cs → ShownD (jcRecs rs) r Dv w v k ref lists q → TyJ rs.length k ref lists → SmallJ q → sortP k lists = 4 →
  Calls Tryz.prog 37 #[.pointer (some ⟨wk, 0, none⟩), .int .i64 ref, v] w (PutJ base wk ak mk rv cv A L enc pay (encJ (jRecs rs) (jChos cs) r k ref lists q) w)
theorem PutJ.from {w w1 w2 : World} {base wk ak mk : Nat} {rv cv : Value} {A : Option Addr} {L pay : Int} {enc o : List Int} {e : Ending} (hb : Below w.heap.size w w1) (h : PutJ base wk ak mk rv cv A L enc pay o w1 e w2) : PutJ base wk ak mk rv cv A L enc pay o w e w2 := ⟨h.1, h.2.from (.of_below A hb)⟩
theorem jsort_four (k : Nat) (lists : Int) : sortP k lists ≤ 4 := by
  unfold sortP
  split
  · decide
  split
  · decide
  split
  · decide
  split
  · decide
  split <;> decide
set_option maxRecDepth 100000 in
set_option maxHeartbeats 8000000 in
theorem jkid_step {r : Nat} (hL : ListJAt r) : KidJAt r := by
  intro D Dv b w base wk ak mk rv cv A L enc pay rs cs v i k ref lists q hall hask hty hsm hi hn4
  have hb0 := (Below.refl w.heap.size w).alloc (Nat.le_refl _) (.cells #[.int .u8 k, .int .i64 ref, .int .i64 lists] 47)
  have HB0 := Lib.hid hb0
  have HQ := Lib.hid (heap_alloc_new w (.cells #[.int .u8 k, .int .i64 ref, .int .i64 lists] 47))
  have HA0 := Lib.hid (hall.below hb0)
  have HASK := Lib.hid (hask.later (.of_below hall.seen.lt hb0))
  have hs0 := hask.sort
  have hs4 := jsort_four k lists
  have HTY := Lib.hid hty
  have HSM := Lib.hid hsm
  have HLL := Lib.hid hL
  have hs : sortP k lists = 1 ∨ sortP k lists = 2 ∨ sortP k lists = 3 := by omega
  have hk : k ≤ 255 := hty.1
  clear hall hask hty hsm hL hb0 hs0 hs4 hn4
  rcases hs with hs | hs | hs
  · have HE : Hid (kidJ (jChos cs) (encJ (jRecs rs) (jChos cs) r) k ref lists q = numJ (jChos cs) k ref q.num) := Lib.hid (by unfold kidJ; rw [if_pos hs])
    obtain ⟨o, ho⟩ : ∃ o, kidJ (jChos cs) (encJ (jRecs rs) (jChos cs) r) k ref lists q = o := ⟨_, rfl⟩
    rw [ho] at HE ⊢
    obtain ⟨hqe, hqn, T, rr, f, rv', rfl, hm, hc⟩ := HASK.out.num hs
    clear hqe hqn
    have mN := hm.at (by cases b <;> decide)
    have eN := hm.enters
    have HC := Lib.hid hc
    have HS1 := Lib.hid hs
    clear hm hc ho HASK
    go_enter Tryz.func103, Tryz.ntmps103
    go_upto_region 1 with (fail)
    generalize w.alloc (.cells #[.int .u8 k, .int .i64 ref, .int .i64 lists] 47) = W0 at *
    obtain ⟨_, x0, x1, x2, _⟩ := blk3 HQ.out
    go_wp2_with fail
    refine (sorts_any k ref lists W0).mono ?_
    rintro e W1 ⟨rfl, hb1⟩
    have HB1 := Lib.hid (hb1.drew)
    have HQ1 : Hid (W1.drew.heap[w.heap.size]? = some (.cells #[.int .u8 k, .int .i64 ref, .int .i64 lists] 47 (0, 0))) := Lib.hid (blk_below HQ.out HB1.out (blk_lt HQ.out))
    obtain ⟨_, x0, x1, x2, _⟩ := blk3 (blk_below HQ.out hb1 (blk_lt HQ.out))
    have HN1 := Lib.hid (HC.out W1.drew (.of_below HA0.out.seen.lt HB1.out))
    clear hb1 HC
    rw [hs]
    clear hs
    go_wp2_with fail
    go_region_law (first | (go_simp; go_at_call 32; (with_reducible refine HNU.out.mono ?_); rintro e W3 hpost; have HEND := Lib.hid (show PutJ base wk ak mk rv cv A L enc pay o w e W3 by rw [HE.out]; exact PutJ.from HBW.out hpost); obtain ⟨rfl, _⟩ := HEND.out; clear hpost HNU) | (go_simp; (with_reducible refine HN1.out.mono ?_); rintro e W2 ⟨rfl, hb2⟩; have HB2 := Lib.hid (HB1.out.trans (hb2.mono HB1.out.size)); have HNU := Lib.hid (jnum_any (HA0.out.below HB2.out) k ref lists HS1.out HTY.out.2.2.2.1 q.num HSM.out.few.2.2.1); have HBW := Lib.hid (HB0.out.trans (HB2.out.mono HB0.out.size)); obtain ⟨_, x0, x1, x2, _⟩ := blk3 (blk_below HQ1.out hb2 (blk_lt HQ1.out)); clear hb2 mN eN HN1))
    all_goals
      go_wp2
      exact bodyPost_end (v := .tuple #[]) (by simp [results, Tryz.results103, go_sem]) rfl HEND.out
  · have HE : Hid (kidJ (jChos cs) (encJ (jRecs rs) (jChos cs) r) k ref lists q = bytJ k q.bytes) := Lib.hid (by unfold kidJ; rw [if_neg (by omega), if_pos hs])
    obtain ⟨o, ho⟩ : ∃ o, kidJ (jChos cs) (encJ (jRecs rs) (jChos cs) r) k ref lists q = o := ⟨_, rfl⟩
    rw [ho] at HE ⊢
    obtain ⟨hqe, hqn, T, rr, f, rv', rfl, hm, hc⟩ := HASK.out.bytes hs
    clear hqe hqn
    have mN := hm.at (by cases b <;> decide)
    have eN := hm.enters
    have HC := Lib.hid hc
    have HS1 := Lib.hid hs
    clear hm hc ho HASK
    go_enter Tryz.func103, Tryz.ntmps103
    go_upto_region 1 with (fail)
    generalize w.alloc (.cells #[.int .u8 k, .int .i64 ref, .int .i64 lists] 47) = W0 at *
    obtain ⟨_, x0, x1, x2, _⟩ := blk3 HQ.out
    go_wp2_with fail
    refine (sorts_any k ref lists W0).mono ?_
    rintro e W1 ⟨rfl, hb1⟩
    have HB1 := Lib.hid (hb1.drew)
    have HQ1 : Hid (W1.drew.heap[w.heap.size]? = some (.cells #[.int .u8 k, .int .i64 ref, .int .i64 lists] 47 (0, 0))) := Lib.hid (blk_below HQ.out HB1.out (blk_lt HQ.out))
    obtain ⟨_, x0, x1, x2, _⟩ := blk3 (blk_below HQ.out hb1 (blk_lt HQ.out))
    have HN1 := Lib.hid (HC.out W1.drew (.of_below HA0.out.seen.lt HB1.out))
    clear hb1 HC
    rw [hs]
    clear hs
    go_wp2_with fail
    go_region_law (first | (go_simp; go_at_call 39; (with_reducible refine HNU.out.mono ?_); rintro e W3 hpost; have HEND := Lib.hid (show PutJ base wk ak mk rv cv A L enc pay o w e W3 by rw [HE.out]; exact PutJ.from HBW.out hpost); obtain ⟨rfl, _⟩ := HEND.out; clear hpost HNU) | (go_simp; (with_reducible refine HN1.out.mono ?_); rintro e W2 ⟨⟨S, c, rfl, hby, hbc, hbn0, hbn⟩, hb2⟩; have HB2 := Lib.hid (HB1.out.trans (hb2.mono HB1.out.size)); have hlts := (HA0.out.below HB1.out).at_.lts; have HNU := Lib.hid (jbytes_any (HA0.out.below HB2.out).at_ k ref lists HS1.out (S := S) (c := c) ⟨hby, hbc, hbn0, avoid_new (B := W1.drew.heap.size) ⟨hlts.1, hlts.2.1, hlts.2.2.1, hlts.2.2.2.1⟩ (fun g hg => (hbn g hg).1), fun g hg => (hbn g hg).2, HSM.out.few.2.1⟩); clear hlts hby hbc hbn0 hbn; have HBW := Lib.hid (HB0.out.trans (HB2.out.mono HB0.out.size)); obtain ⟨_, x0, x1, x2, _⟩ := blk3 (blk_below HQ1.out hb2 (blk_lt HQ1.out)); clear hb2 mN eN HN1))
    all_goals
      go_wp2
      exact bodyPost_end (v := .tuple #[]) (by simp [results, Tryz.results103, go_sem]) rfl HEND.out
  · have HE : Hid (kidJ (jChos cs) (encJ (jRecs rs) (jChos cs) r) k ref lists q = encJ (jRecs rs) (jChos cs) r k ref lists q) := Lib.hid (by unfold kidJ; rw [if_neg (by omega), if_neg (by omega)])
    obtain ⟨o, ho⟩ : ∃ o, kidJ (jChos cs) (encJ (jRecs rs) (jChos cs) r) k ref lists q = o := ⟨_, rfl⟩
    rw [ho] at HE ⊢
    obtain ⟨T, rr, f, rv', rfl, hm, hc⟩ := HASK.out.list hs
    have mN := hm.at (by cases b <;> decide)
    have eN := hm.enters
    have HC := Lib.hid hc
    have HS1 := Lib.hid hs
    clear hm hc ho HASK
    go_enter Tryz.func103, Tryz.ntmps103
    go_upto_region 1 with (fail)
    generalize w.alloc (.cells #[.int .u8 k, .int .i64 ref, .int .i64 lists] 47) = W0 at *
    obtain ⟨_, x0, x1, x2, _⟩ := blk3 HQ.out
    go_wp2_with fail
    refine (sorts_any k ref lists W0).mono ?_
    rintro e W1 ⟨rfl, hb1⟩
    have HB1 := Lib.hid (hb1.drew)
    have HQ1 : Hid (W1.drew.heap[w.heap.size]? = some (.cells #[.int .u8 k, .int .i64 ref, .int .i64 lists] 47 (0, 0))) := Lib.hid (blk_below HQ.out HB1.out (blk_lt HQ.out))
    obtain ⟨_, x0, x1, x2, _⟩ := blk3 (blk_below HQ.out hb1 (blk_lt HQ.out))
    have HN1 := Lib.hid (HC.out W1.drew (.of_below HA0.out.seen.lt HB1.out))
    clear hb1 HC
    rw [hs]
    clear hs
    go_wp2_with fail
    go_region_law (first | (go_simp; go_at_call 36; (with_reducible refine HNU.out.mono ?_); rintro e W3 hpost; have HEND := Lib.hid (show PutJ base wk ak mk rv cv A L enc pay o w e W3 by rw [HE.out]; exact PutJ.from HBW.out hpost); obtain ⟨rfl, _⟩ := HEND.out; clear hpost HNU) | (go_simp; (with_reducible refine HN1.out.mono ?_); rintro e W2 ⟨⟨lv, rfl, D', hD', hsh⟩, hb2⟩; have HB2 := Lib.hid (HB1.out.trans (hb2.mono HB1.out.size)); have hlts := (HA0.out.below HB1.out).at_.lts; have HNU := Lib.hid (HLL.out D D' W2 base wk ak mk rv cv A L enc pay rs cs lv k ref lists q ⟨(HA0.out.below HB2.out).at_, (HA0.out.below HB2.out).ctx, (HA0.out.below HB1.out).seen.hand hb2 ⟨hlts.1, hlts.2.1, hlts.2.2.1, hlts.2.2.2.1⟩ hD'⟩ hsh HTY.out HSM.out HS1.out); clear hlts hD' hsh; have HBW := Lib.hid (HB0.out.trans (HB2.out.mono HB0.out.size)); obtain ⟨_, x0, x1, x2, _⟩ := blk3 (blk_below HQ1.out hb2 (blk_lt HQ1.out)); clear hb2 mN eN HN1))
    all_goals
      go_wp2
      exact bodyPost_end (v := .tuple #[]) (by simp [results, Tryz.results103, go_sem]) rfl HEND.out
end Go.Proofs.YtiknhkkeifemcaaGreatDoor
