/-
  A plan that came in, opened. Conditions: those that each theorem names.
-/
import Derived.Test.YtleclhnlojalbaaGreatDoorPkW2
import Derived.Test.YtleclhnlojalbaaGreatDoorPkW13
import Derived.Test.YtleclhnlojalbaaGreatDoorPkW40
import Derived.Test.YtleclhnlojalbaaGreatDoorPkW41
import Derived.IntWalk
import Derived.Lib.LaidTab
import Derived.Stop.LaidErr
import Derived.Deep.Slices
import Derived.Lib.SmallJoins
namespace Go.Proofs.YtleclhnlojalbaaGreatDoor
open Go.ChangeShapes Go.WideShapes Go.ChangeAt Go.RowKit Go.Shelf

def wordL : List ByteArray := [⟨#[83, 97]⟩, ⟨#[83, 98]⟩, ⟨#[69, 97]⟩, ⟨#[117, 56]⟩, ⟨#[108, 105, 115, 116]⟩, ⟨#[116, 101, 120, 116]⟩, ⟨#[98, 111, 111, 108]⟩, ⟨#[116, 114, 117, 101]⟩, ⟨#[118, 97]⟩, ⟨#[61, 32, 53]⟩, ⟨#[61, 32, 45, 49]⟩, ⟨#[61, 32, 51, 48, 48]⟩, ⟨#[61, 32, 118, 98]⟩, ⟨#[61, 32, 102, 97, 108, 115, 101]⟩, ⟨#[114, 111, 111, 116, 32, 83, 97, 59]⟩, ⟨#[]⟩, ⟨#[49, 56, 52, 52, 54, 55, 52, 52, 48, 55, 51, 55, 48, 57, 53, 53, 49, 54, 49, 53]⟩]
theorem word_size : ∀ s ∈ wordL, s.size ≤ 20 := by decide
def WordsAt (w : World) (g : Nat) (t i : Value) (wr : World) : Prop := Below w.heap.size w wr ∧ wr.heap[g]? = some (.cells #[Value.string ⟨#[83, 97]⟩, Value.string ⟨#[83, 98]⟩, Value.string ⟨#[69, 97]⟩, Value.string ⟨#[117, 56]⟩, Value.string ⟨#[108, 105, 115, 116]⟩, Value.string ⟨#[116, 101, 120, 116]⟩, Value.string ⟨#[98, 111, 111, 108]⟩, Value.string ⟨#[116, 114, 117, 101]⟩, Value.string ⟨#[118, 97]⟩, Value.string ⟨#[61, 32, 53]⟩, Value.string ⟨#[61, 32, 45, 49]⟩, Value.string ⟨#[61, 32, 51, 48, 48]⟩, Value.string ⟨#[61, 32, 118, 98]⟩, Value.string ⟨#[61, 32, 102, 97, 108, 115, 101]⟩, Value.string ⟨#[114, 111, 111, 116, 32, 83, 97, 59]⟩, Value.string ⟨#[]⟩, Value.string ⟨#[49, 56, 52, 52, 54, 55, 52, 52, 48, 55, 51, 55, 48, 57, 53, 53, 49, 54, 49, 53]⟩] 9 (0, 0)) ∧ ∃ (k : Nat) (T : ByteArray), k ≤ 3 ∧ i = .int .i64 k ∧ t = .string T ∧ 1 ≤ T.size ∧ T.size ≤ 10000000 + 100 * k
theorem rem_nat (z : Int) (n : Nat) (hn : 1 ≤ n) : ∃ q : Nat, (IntKind.u64.wrap z).tmod (n : Int) = q ∧ q < n := by
  have hw : 0 ≤ IntKind.u64.wrap z := by simp only [IntKind.wrap, IntKind.bits, IntKind.signed]; simp; omega
  have h1 := Int.emod_nonneg (IntKind.u64.wrap z) (show (n : Int) ≠ 0 by omega)
  have h2 := Int.emod_lt_of_pos (IntKind.u64.wrap z) (show 0 < (n : Int) by omega)
  refine ⟨(IntKind.u64.wrap z % (n : Int)).toNat, ?_, by omega⟩
  rw [Int.tmod_eq_emod_of_nonneg hw]
  omega
theorem word_cell (r : Nat) (h : r < wordL.length) : (#[Value.string ⟨#[83, 97]⟩, Value.string ⟨#[83, 98]⟩, Value.string ⟨#[69, 97]⟩, Value.string ⟨#[117, 56]⟩, Value.string ⟨#[108, 105, 115, 116]⟩, Value.string ⟨#[116, 101, 120, 116]⟩, Value.string ⟨#[98, 111, 111, 108]⟩, Value.string ⟨#[116, 114, 117, 101]⟩, Value.string ⟨#[118, 97]⟩, Value.string ⟨#[61, 32, 53]⟩, Value.string ⟨#[61, 32, 45, 49]⟩, Value.string ⟨#[61, 32, 51, 48, 48]⟩, Value.string ⟨#[61, 32, 118, 98]⟩, Value.string ⟨#[61, 32, 102, 97, 108, 115, 101]⟩, Value.string ⟨#[114, 111, 111, 116, 32, 83, 97, 59]⟩, Value.string ⟨#[]⟩, Value.string ⟨#[49, 56, 52, 52, 54, 55, 52, 52, 48, 55, 51, 55, 48, 57, 53, 53, 49, 54, 49, 53]⟩] : Array Value)[r]? = some (.string wordL[r]) := by
  show (wordL.map Value.string).toArray[r]? = _
  rw [List.getElem?_toArray, List.getElem?_map, List.getElem?_eq_getElem h]
  rfl
theorem eq_yes {a b : Int} (h : a = b) : (a == b) = true ∧ (a != b) = false := by
  have h1 : (a == b) = true := beq_iff_eq.2 h
  exact ⟨h1, by rw [bne, h1]; rfl⟩
theorem eq_no {a b : Int} (h : a ≠ b) : (a == b) = false ∧ (a != b) = true := by
  have h1 : (a == b) = false := beq_eq_false_iff_ne.2 h
  exact ⟨h1, by rw [bne, h1]; rfl⟩
set_option maxRecDepth 100000 in
set_option maxHeartbeats 8000000 in
theorem schemaWords_walk (p : Plan) {a0 a1 : Option Addr} {n0 e0 n1 c1 : Nat} (A : Option Addr) (al ac : Nat) (ZA : List Int) (B : Option Addr) (bl bc : Nat) (ZB : List Int) (w : World) (hp : IsPlan w p a0 n0 e0 a1 n1 c1) (hA : IsRow .i64 w A al ac ZA) (hB : IsRow .i64 w B bl bc ZB) (hT : Tabs w) (hE : ErrV w) :
    Calls Tryz.prog 4 #[.agg #[.slice a0 n0 e0, .slice a1 n1 c1, .int .u8 p.root, .bool p.tree], .slice A al ac, .slice B bl bc] w fun e w' => e = .returned (.bool true) ∧ Below w.heap.size w w' := by
  have HP := Lib.hid hp
  have HT := Lib.hid hT
  have HE := Lib.hid hE
  have HA := Lib.hid hA
  have HBB := Lib.hid hB
  have hal : al ≤ 9223372036854775807 := by have h1 := hA.1; have h2 := hA.2.1; unfold maxLen at h2; omega
  have hbl : bl ≤ 9223372036854775807 := by have h1 := hB.1; have h2 := hB.2.1; unfold maxLen at h2; omega
  have HB0 := Lib.hid ((Below.refl w.heap.size w).alloc (Nat.le_refl _) (.cells #[.slice a0 n0 e0, .slice a1 n1 c1, .int .u8 p.root, .bool p.tree] 27))
  have HZ0 := Lib.hid (heap_alloc_new w (.cells #[.slice a0 n0 e0, .slice a1 n1 c1, .int .u8 p.root, .bool p.tree] 27))
  clear hp hA hB hT hE
  go_enter Tryz.func4, Tryz.ntmps4
  go_wp2_with fail
  refine (awake5_any _ (HT.out.below (Nat.le_refl _) HB0.out) (HE.out.later HB0.out)).mono ?_
  rintro e W1 ⟨rfl, hb1⟩
  have HB1 := Lib.hid (HB0.out.trans (hb1.mono HB0.out.size))
  obtain ⟨_, y0, y1, y2, y3⟩ := blk4p (blk_below HZ0.out hb1 (blk_lt HZ0.out))
  clear hb1
  go_wp2_with fail
  refine (made_any p W1 (HP.out.below HB1.out)).mono ?_
  rintro e W2 ⟨hb2, hpost⟩
  have HB2 := Lib.hid (HB1.out.trans (hb2.mono HB1.out.size))
  clear hb2 y0 y1 y2 y3
  rcases hpost with ⟨hok, ss, es, sv, ev, rfl, hss, hes, hr⟩ | ⟨hno, rfl⟩
  · obtain ⟨sa, sc, ea, ec, rfl, rfl⟩ := hr.forms
    have HF : Hid (Few (schP p)) := Lib.hid (few_of hok (plan_nums HP.out))
    have HSS := Lib.hid hss
    have HES := Lib.hid hes
    have HR := Lib.hid hr
    clear hok hss hes hr
    have HSP : Hid (schP p = ⟨ss.map Prod.fst, es.map Prod.fst, p.root % p.structs.length⟩) := Lib.hid (by rw [HSS.out, HES.out]; rfl)
    generalize p.root % p.structs.length = rt at *
    go_upto_region 4 with (fail)
    have hba : Below W2.heap.size W2 (W2.alloc (.cells #[.slice sa ss.length sc, .slice ea es.length ec, .int .i64 rt] 32)) := (Below.refl _ _).alloc (Nat.le_refl _) _
    obtain ⟨_, z0, z1, z2, _⟩ := blk3 (heap_alloc_new W2 (.cells #[.slice sa ss.length sc, .slice ea es.length ec, .int .i64 rt] 32))
    have HB3 := Lib.hid (HB2.out.trans (hba.mono HB2.out.size))
    have HR3 := Lib.hid (HR.out.below hba)
    clear hba
    generalize W2.alloc (.cells #[.slice sa ss.length sc, .slice ea es.length ec, .int .i64 rt] 32) = W3 at *
    go_wp2_with fail
    refine (text_any W3 rt HR3.out (schP p) HSP.out HF.out).mono ?_
    rintro e W4 ⟨rfl, hb4⟩
    have HB4 := Lib.hid (HB3.out.trans (hb4.mono HB3.out.size))
    have HSZ := Lib.hid (textS_size HF.out)
    generalize textS (schP p) = T0 at *
    clear hb4 z0 z1 z2
    have HN := Lib.hid (heap_alloc_new W4 (.cells #[Value.string ⟨#[83, 97]⟩, Value.string ⟨#[83, 98]⟩, Value.string ⟨#[69, 97]⟩, Value.string ⟨#[117, 56]⟩, Value.string ⟨#[108, 105, 115, 116]⟩, Value.string ⟨#[116, 101, 120, 116]⟩, Value.string ⟨#[98, 111, 111, 108]⟩, Value.string ⟨#[116, 114, 117, 101]⟩, Value.string ⟨#[118, 97]⟩, Value.string ⟨#[61, 32, 53]⟩, Value.string ⟨#[61, 32, 45, 49]⟩, Value.string ⟨#[61, 32, 51, 48, 48]⟩, Value.string ⟨#[61, 32, 118, 98]⟩, Value.string ⟨#[61, 32, 102, 97, 108, 115, 101]⟩, Value.string ⟨#[114, 111, 111, 116, 32, 83, 97, 59]⟩, Value.string ⟨#[]⟩, Value.string ⟨#[49, 56, 52, 52, 54, 55, 52, 52, 48, 55, 51, 55, 48, 57, 53, 53, 49, 54, 49, 53]⟩] 9))
    have HB5 := Lib.hid (HB4.out.alloc HB4.out.size (.cells #[Value.string ⟨#[83, 97]⟩, Value.string ⟨#[83, 98]⟩, Value.string ⟨#[69, 97]⟩, Value.string ⟨#[117, 56]⟩, Value.string ⟨#[108, 105, 115, 116]⟩, Value.string ⟨#[116, 101, 120, 116]⟩, Value.string ⟨#[98, 111, 111, 108]⟩, Value.string ⟨#[116, 114, 117, 101]⟩, Value.string ⟨#[118, 97]⟩, Value.string ⟨#[61, 32, 53]⟩, Value.string ⟨#[61, 32, 45, 49]⟩, Value.string ⟨#[61, 32, 51, 48, 48]⟩, Value.string ⟨#[61, 32, 118, 98]⟩, Value.string ⟨#[61, 32, 102, 97, 108, 115, 101]⟩, Value.string ⟨#[114, 111, 111, 116, 32, 83, 97, 59]⟩, Value.string ⟨#[]⟩, Value.string ⟨#[49, 56, 52, 52, 54, 55, 52, 52, 48, 55, 51, 55, 48, 57, 53, 53, 49, 54, 49, 53]⟩] 9))
    go_wp2_with fail
    generalize W4.alloc (.cells #[Value.string ⟨#[83, 97]⟩, Value.string ⟨#[83, 98]⟩, Value.string ⟨#[69, 97]⟩, Value.string ⟨#[117, 56]⟩, Value.string ⟨#[108, 105, 115, 116]⟩, Value.string ⟨#[116, 101, 120, 116]⟩, Value.string ⟨#[98, 111, 111, 108]⟩, Value.string ⟨#[116, 114, 117, 101]⟩, Value.string ⟨#[118, 97]⟩, Value.string ⟨#[61, 32, 53]⟩, Value.string ⟨#[61, 32, 45, 49]⟩, Value.string ⟨#[61, 32, 51, 48, 48]⟩, Value.string ⟨#[61, 32, 118, 98]⟩, Value.string ⟨#[61, 32, 102, 97, 108, 115, 101]⟩, Value.string ⟨#[114, 111, 111, 116, 32, 83, 97, 59]⟩, Value.string ⟨#[]⟩, Value.string ⟨#[49, 56, 52, 52, 54, 55, 52, 52, 48, 55, 51, 55, 48, 57, 53, 53, 49, 54, 49, 53]⟩] 9) = W5 at *
    generalize W4.heap.size = g at *
    go_loopw [9, 11] (fun t i wr => WordsAt w g t i wr) (fun _ i _ => 3 - (intOf i).toNat)
    case atStart => exact ⟨HB5.out, HN.out, 0, T0, Nat.zero_le _, rfl, rfl, HSZ.out.1, HSZ.out.2⟩
    case round =>
      obtain ⟨hb, hn, k, T, hk, rfl, rfl, hs1, hs2⟩ := hrel
      have HBR := Lib.hid hb
      have HNR := Lib.hid hn
      clear hb hn HN HB5 HSZ
      by_cases hlt : k < al
      · by_cases hlt2 : k < bl
        · by_cases h3 : (k : Int) < 3
          · obtain ⟨b1, o1, rfl, hb1, hc1⟩ := HA.out.2.2.2.2 (by intro e; have h1 := HA.out.1; have h2 := HA.out.2.2.1; rw [e] at h2; simp at h2; omega)
            obtain ⟨b2, o2, rfl, hb2, hc2⟩ := HBB.out.2.2.2.2 (by intro e; have h1 := HBB.out.1; have h2 := HBB.out.2.2.1; rw [e] at h2; simp at h2; omega)
            have x1 := (HBR.out.cell (p := ⟨b1, o1 + k, none⟩) hb1).trans (hc1 k (by have h1 := HA.out.1; have h2 := HA.out.2.2.1; omega))
            have x2 := (HBR.out.cell (p := ⟨b2, o2 + k, none⟩) hb2).trans (hc2 k (by have h1 := HBB.out.1; have h2 := HBB.out.2.2.1; omega))
            generalize ZA.getD k 0 = z1 at *
            generalize ZB.getD k 0 = z2 at *
            have hka : (k : Int) < al := by omega
            have hkb : (k : Int) < bl := by omega
            clear hc1 hc2
            obtain ⟨q, hq, hqs⟩ := rem_nat z1 T.size hs1
            obtain ⟨r, hr0, hrs⟩ := rem_nat z2 17 (by decide)
            have hr : (IntKind.u64.wrap z2).tmod 17 = (r : Int) := hr0
            clear hr0
            have v1 : IntKind.u64.wrap (T.size : Int) = T.size := IntWalk.u64_in _ (by omega)
            have v2 := IntWalk.i64_in (q : Int) (by omega)
            have v4 : ¬ T.size = 0 := Nat.ne_of_gt hs1
            have v5 : ¬ (T.size : Int) = 0 := by omega
            have hwl : r < wordL.length := hrs
            have HXW := Lib.hid ((blk_cell HNR.out r).trans (word_cell r hwl))
            have HWS := Lib.hid (word_size _ (List.getElem_mem hwl))
            generalize wordL[r] = wd at *
            clear hwl
            go_upto_region 12 with (fail)
            go_wp2_with fail
            go_loop [12] (fun v => ∃ n : Nat, n < T.size ∧ v = .int .i64 n) (fun v => (intOf v).toNat)
            case atStart => exact ⟨q, hqs, rfl⟩
            case round =>
              obtain ⟨n, hn, rfl⟩ := hrel
              have hgo : n = 0 ∨ (0 < n ∧ (T[n].toNat : Int) = 32) ∨ (0 < n ∧ ¬ (T[n].toNat : Int) = 32) := by omega
              rcases hgo with hn0 | ⟨hn0, hsp⟩ | ⟨hn0, hsp⟩
              · have hz : ¬ (0 : Int) < (n : Int) := by omega
                clear hn0
                go_wp2_with fail
                go_loop [13] (fun v => ∃ m : Nat, n + 1 ≤ m ∧ m ≤ T.size ∧ v = .int .i64 m) (fun v => T.size - (intOf v).toNat)
                case atStart => exact ⟨n + 1, Nat.le_refl _, hn, by go_num⟩
                case round =>
                  obtain ⟨m, hm1, hm, rfl⟩ := hrel
                  by_cases hmt : m < T.size
                  · have hgo2 : (T[m].toNat : Int) = 32 ∨ ((T[m].toNat : Int) ≠ 32 ∧ (T[m].toNat : Int) = 59) ∨ ((T[m].toNat : Int) ≠ 32 ∧ (T[m].toNat : Int) ≠ 59 ∧ (T[m].toNat : Int) = 44) ∨ ((T[m].toNat : Int) ≠ 32 ∧ (T[m].toNat : Int) ≠ 59 ∧ (T[m].toNat : Int) ≠ 44) := by omega
                    rcases hgo2 with c1 | ⟨c1, c2⟩ | ⟨c1, c2, c3⟩ | ⟨c1, c2, c3⟩
                    · obtain ⟨d1, e1⟩ := eq_yes c1
                      clear c1
                      have xw : wr.cell? ⟨g, r, none⟩ = some (.string wd) := HXW.out
                      have hws := HWS.out
                      have hri : (r : Int) < 17 := by omega
                      have hni : (n : Int) ≤ T.size := by omega
                      have hmi : (m : Int) ≤ T.size := by omega
                      have hc1 : ¬ 9223372036854775807 < min n T.size + 1 := by omega
                      have hc2 : ¬ 9223372036854775807 < min n T.size + 1 + wd.size := by omega
                      have hc3 : ¬ 9223372036854775807 < min n T.size + 1 + wd.size + (T.size - m) := by omega
                      have hmin : min (m : Int) (T.size : Int) = m := by omega
                      go_wp2_with fail
                      go_region
                      go_wp2_with fail
                      go_roundw
                      case rel => exact ⟨HBR.out.drew, HNR.out, k + 1, _, by omega, by go_num, rfl, by simp only [ByteArray.size_append, ByteArray.size_extract]; show 1 ≤ _ + 1 + _ + _; omega, by simp only [ByteArray.size_append, ByteArray.size_extract]; show _ + 1 + _ + _ ≤ _; omega⟩
                      case measure => simp [intOf]; omega
                    · obtain ⟨d1, e1⟩ := eq_no c1
                      obtain ⟨d2, e2⟩ := eq_yes c2
                      clear c1 c2
                      have xw : wr.cell? ⟨g, r, none⟩ = some (.string wd) := HXW.out
                      have hws := HWS.out
                      have hri : (r : Int) < 17 := by omega
                      have hni : (n : Int) ≤ T.size := by omega
                      have hmi : (m : Int) ≤ T.size := by omega
                      have hc1 : ¬ 9223372036854775807 < min n T.size + 1 := by omega
                      have hc2 : ¬ 9223372036854775807 < min n T.size + 1 + wd.size := by omega
                      have hc3 : ¬ 9223372036854775807 < min n T.size + 1 + wd.size + (T.size - m) := by omega
                      have hmin : min (m : Int) (T.size : Int) = m := by omega
                      go_wp2_with fail
                      go_region
                      go_wp2_with fail
                      go_roundw
                      case rel => exact ⟨HBR.out.drew, HNR.out, k + 1, _, by omega, by go_num, rfl, by simp only [ByteArray.size_append, ByteArray.size_extract]; show 1 ≤ _ + 1 + _ + _; omega, by simp only [ByteArray.size_append, ByteArray.size_extract]; show _ + 1 + _ + _ ≤ _; omega⟩
                      case measure => simp [intOf]; omega
                    · obtain ⟨d1, e1⟩ := eq_no c1
                      obtain ⟨d2, e2⟩ := eq_no c2
                      obtain ⟨d3, e3⟩ := eq_yes c3
                      clear c1 c2 c3
                      have xw : wr.cell? ⟨g, r, none⟩ = some (.string wd) := HXW.out
                      have hws := HWS.out
                      have hri : (r : Int) < 17 := by omega
                      have hni : (n : Int) ≤ T.size := by omega
                      have hmi : (m : Int) ≤ T.size := by omega
                      have hc1 : ¬ 9223372036854775807 < min n T.size + 1 := by omega
                      have hc2 : ¬ 9223372036854775807 < min n T.size + 1 + wd.size := by omega
                      have hc3 : ¬ 9223372036854775807 < min n T.size + 1 + wd.size + (T.size - m) := by omega
                      have hmin : min (m : Int) (T.size : Int) = m := by omega
                      go_wp2_with fail
                      go_region
                      go_wp2_with fail
                      go_roundw
                      case rel => exact ⟨HBR.out.drew, HNR.out, k + 1, _, by omega, by go_num, rfl, by simp only [ByteArray.size_append, ByteArray.size_extract]; show 1 ≤ _ + 1 + _ + _; omega, by simp only [ByteArray.size_append, ByteArray.size_extract]; show _ + 1 + _ + _ ≤ _; omega⟩
                      case measure => simp [intOf]; omega
                    · obtain ⟨d1, e1⟩ := eq_no c1
                      obtain ⟨d2, e2⟩ := eq_no c2
                      obtain ⟨d3, e3⟩ := eq_no c3
                      clear c1 c2 c3
                      go_wp2
                      go_round
                      case rel => exact ⟨m + 1, by omega, by omega, by go_num⟩
                      case measure => simp [intOf]; omega
                  · have xw : wr.cell? ⟨g, r, none⟩ = some (.string wd) := HXW.out
                    have hws := HWS.out
                    have hri : (r : Int) < 17 := by omega
                    have hni : (n : Int) ≤ T.size := by omega
                    have hmi : (m : Int) ≤ T.size := by omega
                    have hc1 : ¬ 9223372036854775807 < min n T.size + 1 := by omega
                    have hc2 : ¬ 9223372036854775807 < min n T.size + 1 + wd.size := by omega
                    have hc3 : ¬ 9223372036854775807 < min n T.size + 1 + wd.size + (T.size - m) := by omega
                    have hmin : min (m : Int) (T.size : Int) = m := by omega
                    go_wp2_with fail
                    go_region
                    go_wp2_with fail
                    go_roundw
                    case rel => exact ⟨HBR.out.drew, HNR.out, k + 1, _, by omega, by go_num, rfl, by simp only [ByteArray.size_append, ByteArray.size_extract]; show 1 ≤ _ + 1 + _ + _; omega, by simp only [ByteArray.size_append, ByteArray.size_extract]; show _ + 1 + _ + _ ≤ _; omega⟩
                    case measure => simp [intOf]; omega
              · obtain ⟨d0, e0⟩ := eq_yes hsp
                clear hsp
                go_wp2_with fail
                go_loop [13] (fun v => ∃ m : Nat, n + 1 ≤ m ∧ m ≤ T.size ∧ v = .int .i64 m) (fun v => T.size - (intOf v).toNat)
                case atStart => exact ⟨n + 1, Nat.le_refl _, hn, by go_num⟩
                case round =>
                  obtain ⟨m, hm1, hm, rfl⟩ := hrel
                  by_cases hmt : m < T.size
                  · have hgo2 : (T[m].toNat : Int) = 32 ∨ ((T[m].toNat : Int) ≠ 32 ∧ (T[m].toNat : Int) = 59) ∨ ((T[m].toNat : Int) ≠ 32 ∧ (T[m].toNat : Int) ≠ 59 ∧ (T[m].toNat : Int) = 44) ∨ ((T[m].toNat : Int) ≠ 32 ∧ (T[m].toNat : Int) ≠ 59 ∧ (T[m].toNat : Int) ≠ 44) := by omega
                    rcases hgo2 with c1 | ⟨c1, c2⟩ | ⟨c1, c2, c3⟩ | ⟨c1, c2, c3⟩
                    · obtain ⟨d1, e1⟩ := eq_yes c1
                      clear c1
                      have xw : wr.cell? ⟨g, r, none⟩ = some (.string wd) := HXW.out
                      have hws := HWS.out
                      have hri : (r : Int) < 17 := by omega
                      have hni : (n : Int) ≤ T.size := by omega
                      have hmi : (m : Int) ≤ T.size := by omega
                      have hc1 : ¬ 9223372036854775807 < min n T.size + 1 := by omega
                      have hc2 : ¬ 9223372036854775807 < min n T.size + 1 + wd.size := by omega
                      have hc3 : ¬ 9223372036854775807 < min n T.size + 1 + wd.size + (T.size - m) := by omega
                      have hmin : min (m : Int) (T.size : Int) = m := by omega
                      go_wp2_with fail
                      go_region
                      go_wp2_with fail
                      go_roundw
                      case rel => exact ⟨HBR.out.drew, HNR.out, k + 1, _, by omega, by go_num, rfl, by simp only [ByteArray.size_append, ByteArray.size_extract]; show 1 ≤ _ + 1 + _ + _; omega, by simp only [ByteArray.size_append, ByteArray.size_extract]; show _ + 1 + _ + _ ≤ _; omega⟩
                      case measure => simp [intOf]; omega
                    · obtain ⟨d1, e1⟩ := eq_no c1
                      obtain ⟨d2, e2⟩ := eq_yes c2
                      clear c1 c2
                      have xw : wr.cell? ⟨g, r, none⟩ = some (.string wd) := HXW.out
                      have hws := HWS.out
                      have hri : (r : Int) < 17 := by omega
                      have hni : (n : Int) ≤ T.size := by omega
                      have hmi : (m : Int) ≤ T.size := by omega
                      have hc1 : ¬ 9223372036854775807 < min n T.size + 1 := by omega
                      have hc2 : ¬ 9223372036854775807 < min n T.size + 1 + wd.size := by omega
                      have hc3 : ¬ 9223372036854775807 < min n T.size + 1 + wd.size + (T.size - m) := by omega
                      have hmin : min (m : Int) (T.size : Int) = m := by omega
                      go_wp2_with fail
                      go_region
                      go_wp2_with fail
                      go_roundw
                      case rel => exact ⟨HBR.out.drew, HNR.out, k + 1, _, by omega, by go_num, rfl, by simp only [ByteArray.size_append, ByteArray.size_extract]; show 1 ≤ _ + 1 + _ + _; omega, by simp only [ByteArray.size_append, ByteArray.size_extract]; show _ + 1 + _ + _ ≤ _; omega⟩
                      case measure => simp [intOf]; omega
                    · obtain ⟨d1, e1⟩ := eq_no c1
                      obtain ⟨d2, e2⟩ := eq_no c2
                      obtain ⟨d3, e3⟩ := eq_yes c3
                      clear c1 c2 c3
                      have xw : wr.cell? ⟨g, r, none⟩ = some (.string wd) := HXW.out
                      have hws := HWS.out
                      have hri : (r : Int) < 17 := by omega
                      have hni : (n : Int) ≤ T.size := by omega
                      have hmi : (m : Int) ≤ T.size := by omega
                      have hc1 : ¬ 9223372036854775807 < min n T.size + 1 := by omega
                      have hc2 : ¬ 9223372036854775807 < min n T.size + 1 + wd.size := by omega
                      have hc3 : ¬ 9223372036854775807 < min n T.size + 1 + wd.size + (T.size - m) := by omega
                      have hmin : min (m : Int) (T.size : Int) = m := by omega
                      go_wp2_with fail
                      go_region
                      go_wp2_with fail
                      go_roundw
                      case rel => exact ⟨HBR.out.drew, HNR.out, k + 1, _, by omega, by go_num, rfl, by simp only [ByteArray.size_append, ByteArray.size_extract]; show 1 ≤ _ + 1 + _ + _; omega, by simp only [ByteArray.size_append, ByteArray.size_extract]; show _ + 1 + _ + _ ≤ _; omega⟩
                      case measure => simp [intOf]; omega
                    · obtain ⟨d1, e1⟩ := eq_no c1
                      obtain ⟨d2, e2⟩ := eq_no c2
                      obtain ⟨d3, e3⟩ := eq_no c3
                      clear c1 c2 c3
                      go_wp2
                      go_round
                      case rel => exact ⟨m + 1, by omega, by omega, by go_num⟩
                      case measure => simp [intOf]; omega
                  · have xw : wr.cell? ⟨g, r, none⟩ = some (.string wd) := HXW.out
                    have hws := HWS.out
                    have hri : (r : Int) < 17 := by omega
                    have hni : (n : Int) ≤ T.size := by omega
                    have hmi : (m : Int) ≤ T.size := by omega
                    have hc1 : ¬ 9223372036854775807 < min n T.size + 1 := by omega
                    have hc2 : ¬ 9223372036854775807 < min n T.size + 1 + wd.size := by omega
                    have hc3 : ¬ 9223372036854775807 < min n T.size + 1 + wd.size + (T.size - m) := by omega
                    have hmin : min (m : Int) (T.size : Int) = m := by omega
                    go_wp2_with fail
                    go_region
                    go_wp2_with fail
                    go_roundw
                    case rel => exact ⟨HBR.out.drew, HNR.out, k + 1, _, by omega, by go_num, rfl, by simp only [ByteArray.size_append, ByteArray.size_extract]; show 1 ≤ _ + 1 + _ + _; omega, by simp only [ByteArray.size_append, ByteArray.size_extract]; show _ + 1 + _ + _ ≤ _; omega⟩
                    case measure => simp [intOf]; omega
              · have t1 : ((T[n].toNat : Int) == 32) = false := beq_eq_false_iff_ne.2 hsp
                have t2 : ((T[n].toNat : Int) != 32) = true := by rw [bne, t1]; rfl
                clear hsp
                go_wp2
                go_round
                case rel => exact ⟨n - 1, by omega, by go_num⟩
                case measure => simp [intOf]; omega
          · go_wp2_with fail
            refine (told5_any T wr (HT.out.below (Nat.le_refl _) HBR.out) (HE.out.later HBR.out) (by omega)).mono ?_
            rintro e W6 ⟨rfl, hb6⟩
            have HB6 := Lib.hid (HBR.out.trans (hb6.mono HBR.out.size))
            clear hb6
            go_wp2
            go_ret
            exact ⟨rfl, HB6.out⟩
        · go_wp2_with fail
          refine (told5_any T wr (HT.out.below (Nat.le_refl _) HBR.out) (HE.out.later HBR.out) (by omega)).mono ?_
          rintro e W6 ⟨rfl, hb6⟩
          have HB6 := Lib.hid (HBR.out.trans (hb6.mono HBR.out.size))
          clear hb6
          go_wp2
          go_ret
          exact ⟨rfl, HB6.out⟩
      · go_wp2_with fail
        refine (told5_any T wr (HT.out.below (Nat.le_refl _) HBR.out) (HE.out.later HBR.out) (by omega)).mono ?_
        rintro e W6 ⟨rfl, hb6⟩
        have HB6 := Lib.hid (HBR.out.trans (hb6.mono HBR.out.size))
        clear hb6
        go_wp2
        go_ret
        exact ⟨rfl, HB6.out⟩
  · go_wp2_with fail
    go_wp2
    go_ret
    exact ⟨rfl, HB2.out.alloc HB2.out.size _⟩
end Go.Proofs.YtleclhnlojalbaaGreatDoor
namespace Go.Proofs.YtleclhnlojalbaaGreatDoor
open Go.ChangeShapes Go.WideShapes Go.ChangeAt Go.RowKit

def numCells : DataW Unit → Array Value
  | .agg parts => (parts.filterMap fun | .lit (.int k n) => some (Value.int k n) | _ => none).toArray
  | _ => #[]
def withCells (cs : Array Value) : Obj → Obj
  | .cells _ t frozen => .cells cs t frozen
  | o => o
noncomputable def lowBlock : Nat := (World.holding Tryz.prog default ⟨#[], #[], []⟩).heap.size
noncomputable def laidWorld (os : Os) : World :=
  { World.holding Tryz.prog os ⟨#[.cells #[.string ⟨#[118, 97, 108, 117, 101, 32, 111, 117, 116, 32, 111, 102, 32, 114, 97, 110, 103, 101]⟩] 241, .cells #[.string ⟨#[105, 110, 118, 97, 108, 105, 100, 32, 115, 121, 110, 116, 97, 120]⟩] 241], #[], []⟩ with
    heap := (((((((World.holding Tryz.prog os ⟨#[.cells #[.string ⟨#[118, 97, 108, 117, 101, 32, 111, 117, 116, 32, 111, 102, 32, 114, 97, 110, 103, 101]⟩] 241, .cells #[.string ⟨#[105, 110, 118, 97, 108, 105, 100, 32, 115, 121, 110, 116, 97, 120]⟩] 241], #[], []⟩).heap.modify 1 (withCells (Lib.firstTab.map (Value.int .u8)).toArray)).modify 2 (withCells ((List.range 32).map fun i => Value.int .u8 (if i % 2 = 0 then Lib.accLo (i / 2) else Lib.accHi (i / 2))).toArray)).modify
      5 (withCells (numCells Rows.laid_internal_strconv_uint64pow10))).modify
      6 (withCells (numCells Rows.laid_math_bits_deBruijn32tab))).modify
      7 (withCells (numCells Rows.laid_math_bits_deBruijn64tab))).modify
      4 (withCells #[.iface 239 (.pointer (some ⟨lowBlock, 0, none⟩))])).modify
      3 (withCells #[.iface 239 (.pointer (some ⟨lowBlock + 1, 0, none⟩))]) }
abbrev laid7 : List (String × DataW Unit) := [("math/bits.deBruijn32tab", Rows.laid_math_bits_deBruijn32tab), ("math/bits.deBruijn64tab", Rows.laid_math_bits_deBruijn64tab), ("internal/strconv.uint64pow10", Rows.laid_internal_strconv_uint64pow10), ("unicode/utf8.acceptRanges", Rows.laid_unicode_utf8_acceptRanges), ("strconv.ErrRange", Rows.laid_strconv_ErrRange), ("strconv.ErrSyntax", Rows.laid_strconv_ErrSyntax), ("unicode/utf8.first", Rows.laid_unicode_utf8_first)]
theorem laid7_met (os : Os) (args : Array Value) : laidMet Tryz.prog laid7 ((laidWorld os).forCall (fun _ _ => 0) ⟨#[], args, []⟩).memory :=
  laidMet_of_run' 8 (by kernel_rfl) (by kernel_rfl)
theorem laid7_plain {W : World} (h : laidMetH Tryz.prog laid7 W) : laidMet Tryz.prog laid7 W := h
theorem tabs_of_laid7 {W : World} (h : laidMetH Tryz.prog laid7 W) : Tabs W := by
  have h' := laid7_plain h
  refine utf8Tabs_of_readsT u8types u8extra ?_ ?_
  · rw [← first_is]; exact Lib.laidMet.reads h' (by simp)
  · rw [← accept_is]; exact Lib.laidMet.reads h' (by simp)
theorem err_star : "*" ++ "errors.errorString" = "*errors.errorString" := by decide
theorem err_row (u : TypeId) (h : Tryz.prog.typeName? 3 u = some "*errors.errorString") : u = 239 :=
  typeName_ptr_named (nm := "errors.errorString") (by rw [err_star]; kernel_rfl) (by kernel_rfl) (by decide) u (by rw [err_star]; exact h)
theorem errV_of_laid7 {W : World} (h : laidMetH Tryz.prog laid7 W) : ErrV W := by
  have h' := laid7_plain h
  obtain ⟨a, s, hv, _, _, _⟩ := laid_sentinel (g := 4) (ti := 215) h'.tail.tail.tail.tail (by kernel_rfl) (by kernel_rfl) Tryz.underlying215 err_row Tryz.underlying239 Tryz.underlying241 rfl rfl Tryz.underlying9 (by kernel_rfl) (by kernel_rfl)
  have hg : Tryz.prog.globalNamed "strconv.ErrRange" = some 4 := by kernel_rfl
  exact ⟨_, _, by simpa using World.var?_cell hg hv 0⟩
end Go.Proofs.YtleclhnlojalbaaGreatDoor
namespace Go.Proofs.YtleclhnlojalbaaGreatDoor
open Go.ChangeShapes Go.WideShapes Go.ChangeAt Go.RowKit

theorem exists_list {α : Type} (P : Nat → α → Prop) (d : α) : ∀ (n : Nat), (∀ r, r < n → ∃ x, P r x) → ∃ L : List α, L.length = n ∧ ∀ r, r < n → P r (L.getD r d)
  | 0, _ => ⟨[], rfl, fun r hr => absurd hr (Nat.not_lt_zero r)⟩
  | n + 1, h => by
    obtain ⟨L, hL, hP⟩ := exists_list P d n (fun r hr => h r (by omega))
    obtain ⟨x, hx⟩ := h n (Nat.lt_succ_self n)
    refine ⟨L ++ [x], by simp [hL], fun r hr => ?_⟩
    rcases Nat.lt_or_ge r n with h1 | h1
    · rw [List.getD, List.getElem?_append_left (by omega), ← List.getD]
      exact hP r h1
    · obtain rfl : r = n := by omega
      rw [List.getD, List.getElem?_append_right (by omega), hL, Nat.sub_self]
      exact hx
theorem list_five' : ∀ {cs : List Value}, cs.length = 5 → ∃ v0 v1 v2 v3 v4, cs = [v0, v1, v2, v3, v4]
  | [v0, v1, v2, v3, v4], _ => ⟨v0, v1, v2, v3, v4, rfl⟩
theorem list_one' : ∀ {cs : List Value}, cs.length = 1 → ∃ v0, cs = [v0]
  | [v0], _ => ⟨v0, rfl⟩
theorem nat_u8 {m : Int} (h : (Lit.int .u8 m).wf = true) : ∃ k : Nat, m = k ∧ k ≤ 255 := by
  obtain ⟨h0, h1⟩ := bounds_u8 h
  exact ⟨m.toNat, by omega, by omega⟩
theorem nat_u64 {m : Int} (h : (Lit.int .u64 m).wf = true) : ∃ k : Nat, m = k ∧ (k : Int) ≤ 18446744073709551615 := by
  obtain ⟨h0, h1⟩ := bounds_u64 h
  exact ⟨m.toNat, by omega, by omega⟩
theorem open_int1' {H : Type} {enc : TypeId × Value → H} {W : World} {t : TypeId} {k : IntKind} {n : Nat} {v : Value} {xs : List (DataW H × List MemPlace)} {i : Nat} (ht : Tryz.prog.underlying t = some (.int k)) (hi : i < xs.length) (h : DataW.trod enc Tryz.prog W 0 (fun _ => true) true n t [v] = xs[i]?) : ∃ m, v = .int k m ∧ (Lit.int k m).wf = true := by
  rw [List.getElem?_eq_getElem hi] at h
  obtain ⟨m, h1, _, h2⟩ := DataW.trod_int ht h
  exact ⟨m, by simpa using h1, h2⟩
def PFLies (W : World) (a : Option Addr) (k : Nat) (f : PF) : Prop :=
  ∃ b' off', a = some ⟨b', off', none⟩ ∧ b' < W.heap.size ∧ W.cell? ⟨b', off' + k * 5, none⟩ = some (.int .u8 (f.kind : Nat)) ∧ W.cell? ⟨b', off' + k * 5 + 1, none⟩ = some (.int .u8 (f.lists : Nat)) ∧ W.cell? ⟨b', off' + k * 5 + 2, none⟩ = some (.int .u8 (f.ref : Nat)) ∧ W.cell? ⟨b', off' + k * 5 + 3, none⟩ = some (.int .u8 (f.name : Nat)) ∧ W.cell? ⟨b', off' + k * 5 + 4, none⟩ = some (.int .u64 (f.dflt : Nat)) ∧
    f.kind ≤ 255 ∧ f.lists ≤ 255 ∧ f.ref ≤ 255 ∧ f.name ≤ 255 ∧ (f.dflt : Int) ≤ 18446744073709551615
theorem open_fields {H : Type} {enc : TypeId × Value → H} {W : World} {n : Nat} {v : Value} {x : DataW H × List MemPlace} (h : DataW.trod enc Tryz.prog W 0 (fun _ => true) true n 73 [v] = some x) :
    ∃ a m c, v = .slice a m c ∧ m ≤ c ∧ c ≤ maxLen ∧ ∃ l : List PF, l.length = m ∧ ∀ k, k < m → PFLies W a k (l.getD k noPF) := by
  rcases Deep.open_slice Tryz.underlying73 h with ⟨hcs, _⟩ | ⟨y, l, c, m, n', Ds, Pl, hcs, _, hl, hm, hmm, _, hx⟩
  · simp at hcs
    subst hcs
    exact ⟨none, 0, 0, rfl, Nat.le_refl _, Nat.zero_le _, [], rfl, fun k hk => absurd hk (Nat.not_lt_zero k)⟩
  · simp at hcs
    subst hcs
    simp only [if_true] at hmm
    have c5 : Tryz.prog.cellsOf 75 = 5 := by kernel_rfl
    rw [c5] at hx
    refine ⟨some y, l, c, rfl, hl, hm, exists_list _ noPF l (fun r hlt => ?_)⟩
    obtain ⟨cs, h1, h2⟩ := hx r (by omega)
    obtain ⟨_, hcl, hc⟩ := World.cells?_some h1
    obtain ⟨_, hcl0, hc0⟩ := World.cells?_some (hx 0 (by omega)).choose_spec.1
    obtain ⟨b, off, spot⟩ := y
    have hspot : spot = none := by
      have h0 := hc0 0 (by omega)
      rw [List.getElem?_eq_getElem (by omega)] at h0
      simpa [Addr.add] using World.cell?_spot h0
    subst hspot
    obtain ⟨xs, n2, _, _, _, hxl, hfs⟩ := DataW.trod_struct Tryz.underlying75 h2
    obtain ⟨v0, v1, v2, v3, v4, rfl⟩ := list_five' hcl
    have k8 : Tryz.prog.cellsOf 5 = 1 := by kernel_rfl
    have k64 : Tryz.prog.cellsOf 49 = 1 := by kernel_rfl
    have f0 : DataW.trod enc Tryz.prog W 0 (fun _ => true) true n2 5 (([v0, v1, v2, v3, v4].drop 0).take (Tryz.prog.cellsOf 5)) = xs[0]? := hfs 0 _ rfl
    rw [k8] at f0
    have f1 : DataW.trod enc Tryz.prog W 0 (fun _ => true) true n2 5 (([v0, v1, v2, v3, v4].drop 1).take (Tryz.prog.cellsOf 5)) = xs[1]? := hfs 1 _ rfl
    rw [k8] at f1
    have f2 : DataW.trod enc Tryz.prog W 0 (fun _ => true) true n2 5 (([v0, v1, v2, v3, v4].drop 2).take (Tryz.prog.cellsOf 5)) = xs[2]? := hfs 2 _ rfl
    rw [k8] at f2
    have f3 : DataW.trod enc Tryz.prog W 0 (fun _ => true) true n2 5 (([v0, v1, v2, v3, v4].drop 3).take (Tryz.prog.cellsOf 5)) = xs[3]? := hfs 3 _ rfl
    rw [k8] at f3
    have f4 : DataW.trod enc Tryz.prog W 0 (fun _ => true) true n2 49 (([v0, v1, v2, v3, v4].drop 4).take (Tryz.prog.cellsOf 49)) = xs[4]? := hfs 4 _ rfl
    rw [k64] at f4
    have hx5 : xs.length = 5 := hxl
    obtain ⟨z0, rfl, w0⟩ := open_int1' Tryz.underlying5 (by omega) f0
    obtain ⟨z1, rfl, w1⟩ := open_int1' Tryz.underlying5 (by omega) f1
    obtain ⟨z2, rfl, w2⟩ := open_int1' Tryz.underlying5 (by omega) f2
    obtain ⟨z3, rfl, w3⟩ := open_int1' Tryz.underlying5 (by omega) f3
    obtain ⟨z4, rfl, w4⟩ := open_int1' Tryz.underlying49 (by omega) f4
    obtain ⟨q0, rfl, l0⟩ := nat_u8 w0
    obtain ⟨q1, rfl, l1⟩ := nat_u8 w1
    obtain ⟨q2, rfl, l2⟩ := nat_u8 w2
    obtain ⟨q3, rfl, l3⟩ := nat_u8 w3
    obtain ⟨q4, rfl, l4⟩ := nat_u64 w4
    have hcell : ∀ i, i < 5 → W.cell? ⟨b, off + r * 5 + i, none⟩ = [Value.int .u8 q0, .int .u8 q1, .int .u8 q2, .int .u8 q3, .int .u64 q4][i]? := fun i hi => by
      have := hc i hi
      rw [Deep.add_add, Go.WideShapes.add_plain, ← Nat.add_assoc] at this
      exact this
    have e0 := hcell 0 (by omega)
    exact ⟨⟨q0, q1, q2, q3, q4⟩, b, off, rfl, World.block_lt_of_cell? _ _ e0, e0, hcell 1 (by omega), hcell 2 (by omega), hcell 3 (by omega), hcell 4 (by omega), l0, l1, l2, l3, l4⟩
theorem open_structs {H : Type} {enc : TypeId × Value → H} {W : World} {n : Nat} {v : Value} {x : DataW H × List MemPlace} (h : DataW.trod enc Tryz.prog W 0 (fun _ => true) true n 25 [v] = some x) :
    ∃ a1 n1 c1, v = .slice a1 n1 c1 ∧ n1 ≤ c1 ∧ c1 ≤ maxLen ∧ ∃ L : List (List PF), L.length = n1 ∧ ∀ r, r < n1 → ∃ b off a m c, a1 = some ⟨b, off, none⟩ ∧ b < W.heap.size ∧ W.cell? ⟨b, off + r, none⟩ = some (.slice a m c) ∧ (L.getD r []).length = m ∧ m ≤ c ∧ c ≤ maxLen ∧ ∀ k, k < m → PFLies W a k ((L.getD r []).getD k noPF) := by
  rcases Deep.open_slice Tryz.underlying25 h with ⟨hcs, _⟩ | ⟨y, l, c, m, n', Ds, Pl, hcs, _, hl, hm, hmm, _, hx⟩
  · simp at hcs
    subst hcs
    exact ⟨none, 0, 0, rfl, Nat.le_refl _, Nat.zero_le _, [], rfl, fun k hk => absurd hk (Nat.not_lt_zero k)⟩
  · simp at hcs
    subst hcs
    simp only [if_true] at hmm
    have c1 : Tryz.prog.cellsOf 73 = 1 := by kernel_rfl
    rw [c1] at hx
    refine ⟨some y, l, c, rfl, hl, hm, ?_⟩
    refine exists_list (fun r (q : List PF) => ∃ b off a m c, some y = some ⟨b, off, none⟩ ∧ b < W.heap.size ∧ W.cell? ⟨b, off + r, none⟩ = some (.slice a m c) ∧ q.length = m ∧ m ≤ c ∧ c ≤ maxLen ∧ ∀ k, k < m → PFLies W a k (q.getD k noPF)) [] l (fun r hlt => ?_)
    obtain ⟨cs, h1, h2⟩ := hx r (by omega)
    obtain ⟨_, hcl, hc⟩ := World.cells?_some h1
    obtain ⟨_, hcl0, hc0⟩ := World.cells?_some (hx 0 (by omega)).choose_spec.1
    obtain ⟨b, off, spot⟩ := y
    have hspot : spot = none := by
      have h0 := hc0 0 (by omega)
      rw [List.getElem?_eq_getElem (by omega)] at h0
      simpa [Addr.add] using World.cell?_spot h0
    subst hspot
    obtain ⟨v0, rfl⟩ := list_one' hcl
    obtain ⟨a, m', c', rfl, g1, g2, q, g3, g4⟩ := open_fields h2
    have e0 : W.cell? ⟨b, off + r, none⟩ = some (.slice a m' c') := by
      have := hc 0 (by omega)
      rw [Deep.add_add, Go.WideShapes.add_plain, Nat.add_zero, Nat.mul_one] at this
      exact this
    exact ⟨q, b, off, a, m', c', rfl, World.block_lt_of_cell? _ _ e0, e0, g3, g1, g2, g4⟩
set_option maxRecDepth 100000 in
theorem open_plan {H : Type} {enc : TypeId × Value → H} {W : World} {base : Nat} {v : Value} {d : DataW H} {p : List MemPlace} (hv : Value.okWide Tryz.prog W .any base 27 v) (h : DataW.Trod enc Tryz.prog W 0 (fun _ => true) true 27 v d p) :
    ∃ (q : Plan) (a0 : Option Addr) (n0 e0 : Nat) (a1 : Option Addr) (n1 c1 : Nat), v = .agg #[.slice a0 n0 e0, .slice a1 n1 c1, .int .u8 q.root, .bool q.tree] ∧ IsPlan W q a0 n0 e0 a1 n1 c1 := by
  obtain ⟨v0, v1, v2, v3, y0, y1, y2, y3, n, rfl, rfl, rfl, h0, h1, h2, h3⟩ := Joins.open_agg4 Tryz.underlying27 (by kernel_rfl) (by kernel_rfl) hv h
  obtain ⟨m2, e2, _, w2⟩ := DataW.trod_int Tryz.underlying5 h2
  obtain ⟨b3, e3, _⟩ := DataW.trod_bool Tryz.underlying4 h3
  simp at e2 e3
  subst e2
  subst e3
  obtain ⟨rt, rfl, hrt⟩ := nat_u8 w2
  obtain ⟨a0, n0, e0, zs, hv0, hrow⟩ : ∃ a0 n0 e0 zs, v0 = .slice a0 n0 e0 ∧ IsRow .u8 W a0 n0 e0 zs := by
    rcases open_ints Tryz.underlying24 Tryz.underlying5 (by kernel_rfl) h0 with ⟨hcs, _⟩ | ⟨x, l, c, zs, hcs, _, hl, hm, hz, _, hcell, hwz⟩
    · exact ⟨none, 0, 0, [], by simpa using hcs, isRow_nil _ _ _⟩
    · exact ⟨some x, l, c, zs, by simpa using hcs, isRow_of hl hm (by simpa using hz) hcell hwz⟩
  subst hv0
  obtain ⟨a1, n1, c1, rfl, hn1, hc1, L, hL, hLs⟩ := open_structs h1
  refine ⟨⟨(zs.take n0).map Int.toNat, L, rt, b3⟩, a0, n0, e0, a1, n1, c1, rfl, ?_, hL, ⟨hrow.1, hrow.2.1⟩, ⟨hn1, hc1⟩, hrt, ?_, ?_⟩
  · have h1 := hrow.1
    have h2 := hrow.2.2.1
    simp
    omega
  · intro j hj
    have g1 := hrow.1
    have g2 := hrow.2.2.1
    have hjz : j < zs.length := by omega
    have hw := hrow.2.2.2.1 _ (List.getElem_mem hjz)
    obtain ⟨k, hk, hk2⟩ := nat_u8 hw
    have he : ((zs.take n0).map Int.toNat).getD j 0 = k := by
      rw [List.getD, List.getElem?_map, List.getElem?_take, if_pos hj, List.getElem?_eq_getElem hjz, hk]
      simp
    obtain ⟨b, off, ha, hb, hcell⟩ := hrow.2.2.2.2 (by intro e; rw [e] at hjz; simp at hjz)
    show ((zs.take n0).map Int.toNat).getD j 0 ≤ 255 ∧ _
    rw [he]
    refine ⟨hk2, b, off, ha, hb, ?_⟩
    rw [hcell j hjz, List.getD, List.getElem?_eq_getElem hjz, Option.getD_some, hk]
  · intro r hr
    obtain ⟨b, off, a, m, c, ha, hb, hcell, hlen, hm, hc, hfl⟩ := hLs r hr
    refine ⟨b, off, a, m, c, ha, hb, hcell, hlen, hm, hc, fun k hk => ?_⟩
    obtain ⟨b', off', g⟩ := hfl k hk
    exact ⟨b', off', _, rfl, g⟩
end Go.Proofs.YtleclhnlojalbaaGreatDoor
