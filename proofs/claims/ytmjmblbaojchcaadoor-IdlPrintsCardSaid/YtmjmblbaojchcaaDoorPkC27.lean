/-
  The package lex's token, whatever stands at the place. Conditions: those that the theorem names; the library's tables hold what the row lists.
  Contracts of Go's library, laid at this translation: no walk, one application each. Conditions: those that each theorem names.
  The place behind blanks and remarks: the package lex's gap. Conditions: those that each theorem names.
-/
import Derived.Test.YtmjmblbaojchcaaDoorPkC23
import Derived.Test.YtmjmblbaojchcaaDoorPkC26
import Derived.Test.YtmjmblbaojchcaaDoorRows
import Derived.Shelf.Bytes.SlSmallAll
import Derived.Lib.SlBytesConst
namespace Go.Proofs.YtmjmblbaojchcaaDoor
open Go.ChangeShapes Go.WideShapes Go.ChangeAt Go.RowKit Go.Shelf

theorem token_any (p : Option Addr) (n cap i : Nat) (x : Int) (v : Value) (sg : Int → Bool) (zs : List Int) (w : World) (hx : x = i) (hT : Tabs w) (hz : Bytes w p zs) (hn : zs.length = n) (hl : n ≤ 281474976710656) (hi : i ≤ n) (hcap : n ≤ cap) (hk : KindV w v sg) :
    Calls Tryd.prog 35 #[.slice p n cap, .int .i64 x, v] w fun e w' => e = .returned (tokVal (tok okU sg zs i)) ∧ Below w.heap.size w w' := by
  by_cases he : i = n
  · rw [tok_end (show i = zs.length by omega)]
    exact token_end p n cap i x v w hx he
  have hi' : i < n := by omega
  have hiz : i < zs.length := by omega
  obtain ⟨b, off, rfl, _, _⟩ := hz.2 (by rintro rfl; simp at hiz)
  cases h1 : stA zs isLet i
  rotate_left
  · rw [tok_name hiz h1]
    exact token_name b off n cap i x v zs w hx hz hn hl hi' hcap h1
  cases h2 : begins zs i
  rotate_left
  · rw [tok_num hiz h1 h2]
    cases h5 : numBad zs i
    · rw [if_neg (by decide)]
      exact token_num_good b off n cap i x v sg zs w hx hT hz hn hl hi' hcap hk h1 h2 h5
    · rw [if_pos rfl]
      exact token_num_bad b off n cap i x v sg zs w hx hT hz hn hl hi' hcap hk h1 h2 h5
  cases h3 : stA zs (isC 34) i
  rotate_left
  · rw [tok_quo hiz h1 h2 h3]
    cases h5 : quoBad okU zs i
    · rw [if_neg (by decide)]
      exact token_quo_good b off n cap i x v sg zs w hx hT hz hn hl hi' hcap hk h1 h2 h3 h5
    · rw [if_pos rfl]
      exact token_quo_bad b off n cap i x v sg zs w hx hT hz hn hl hi' hcap hk h1 h2 h3 h5
  cases h4 : stA zs sg i
  · rw [tok_none hiz h1 h2 h3 h4]
    exact token_none b off n cap i x v sg zs w hx hT hz hn hl hi' hcap hk h1 h2 h3 h4
  · rw [tok_sign hiz h1 h2 h3 h4]
    exact token_sign b off n cap i x v sg zs w hx hT hz hn hl hi' hcap hk h1 h2 h3 h4
end Go.Proofs.YtmjmblbaojchcaaDoor
namespace Go.Proofs.YtmjmblbaojchcaaDoor
open Go.Proofs Go.Shelf
def Tryd.laysnb116_ren : Go.Shelf.Ren := ⟨fun | 116 => 45 | 115 => 70 | n => n, fun | 37 => 22 | 4 => 4 | 3 => 3 | 9 => 9 | 5 => 5 | n => n, fun | n => n⟩
theorem Tryd.laysnb116 : Go.Proofs.Lays.nb116 Tryd.prog Tryd.laysnb116_ren := {
  mixed := by kernel_rfl
  f115 := Tryd.func70.trans (congrArg some (by kernel_rfl))
  f116 := Tryd.func45.trans (congrArg some (by kernel_rfl))
  t3 := Tryd.underlying3
  a3 := Tryd.isAgg3
  z3 := Tryd.sizeOf3
  v3 := Tryd.zeroValue3
  t4 := Tryd.underlying4
  a4 := Tryd.isAgg4
  z4 := Tryd.sizeOf4
  v4 := Tryd.zeroValue4
  t9 := Tryd.underlying9
  a9 := Tryd.isAgg9
  z9 := Tryd.sizeOf9
  v9 := Tryd.zeroValue9
  t37 := Tryd.underlying22
  a37 := Tryd.isAgg22
  z37 := Tryd.sizeOf22
  v37 := Tryd.zeroValue22
  t5 := Tryd.underlying5
  a5 := Tryd.isAgg5
  z5 := Tryd.sizeOf5
  v5 := Tryd.zeroValue5 }
theorem Tryd.bytes_HasPrefix_all (p1 p2 : Option Addr) (n c m d : Nat) (xs ys : List Int) (w : World) (hx : xs.length = n) (hy : ys.length = m) (hnc : n ≤ c) (h1 : Lib.BytesIn w p1 n xs) (h2 : Lib.BytesIn w p2 m ys) :
    Calls Tryd.prog 45 #[.slice p1 n c, .slice p2 m d] w fun e w' => e = .returned (.bool (Lib.hasPrefix (Lib.bytesOf xs) (Lib.bytesOf ys))) ∧ w' = w := Any.bytes_HasPrefix_all Tryd.laysnb116 p1 p2 n c m d xs ys w hx hy hnc h1 h2
end Go.Proofs.YtmjmblbaojchcaaDoor
namespace Go.Proofs.YtmjmblbaojchcaaDoor
open Go.ChangeShapes Go.WideShapes Go.ChangeAt Go.RowKit Go.Shelf

theorem slash2_prefix (zs : List Int) (hb : ∀ i, 0 ≤ zs.getD i 0 ∧ zs.getD i 0 ≤ 255) (j : Nat) : Lib.hasPrefix (Lib.bytesOf (zs.drop j)) (Lib.bytesOf [47, 47]) = slash2 zs j := by
  have key : ∀ x : Int, 0 ≤ x ∧ x ≤ 255 → ((47 : UInt8) == UInt8.ofNat x.toNat) = isC 47 x := by
    intro x hx
    unfold isC
    rw [Bool.eq_iff_iff, beq_iff_eq, decide_eq_true_iff, ← UInt8.toNat_inj]
    rw [UInt8.toNat_ofNat']
    simp
    omega
  unfold Lib.hasPrefix Lib.bytesOf
  by_cases h1 : j + 1 < zs.length
  · rw [drop_cons (show j < zs.length by omega), drop_cons h1]
    unfold slash2
    rw [stA_of (by omega), stA_of h1, ← key _ (hb j), ← key _ (hb (j + 1))]
    simp [List.isPrefixOf]
  · have e : slash2 zs j = false := by
      unfold slash2
      rw [stA_ge (i := j + 1) (by omega), Bool.and_false]
    rw [e]
    by_cases h2 : j < zs.length
    · rw [drop_cons h2, List.drop_eq_nil_of_le (by omega)]
      simp [List.isPrefixOf]
    · rw [List.drop_eq_nil_of_le (by omega)]
      rfl
theorem bytesIn_all {w : World} {p : Option Addr} {zs : List Int} {n : Nat} (hz : Bytes w p zs) (hn : zs.length = n) : Lib.BytesIn w p n zs := by
  intro h
  obtain ⟨b, off, rfl, _, hc⟩ := hz.2 (by rintro rfl; simp at hn; omega)
  exact ⟨b, off, rfl, fun i hi => hc i (by omega)⟩
theorem bytesIn_drop {w : World} {p : Option Addr} {zs : List Int} {n j : Nat} (hz : Bytes w p zs) (hn : zs.length = n) (_hj : j ≤ n) : Lib.BytesIn w (p.map (fun x => x.add j)) (n - j) (zs.drop j) := by
  intro h
  obtain ⟨b, off, rfl, _, hc⟩ := hz.2 (by rintro rfl; simp at hn; omega)
  refine ⟨b, off + j, ?_, fun i hi => ?_⟩
  · simp [add_plain]
  · rw [Nat.add_assoc, hc (j + i) (by omega)]
    simp [List.getD]
theorem two_cells (W : World) (G : Nat) (C : Array Value) (h : W.heap[G]? = some (.cells C 5 (2, 3))) (hC : C = #[.int .u8 47, .int .u8 47]) : Lib.BytesIn W (some ⟨G, 0, none⟩) 2 [47, 47] := by
  intro _
  refine ⟨G, 0, rfl, fun i hi => ?_⟩
  subst hC
  rw [cell_of_row W G (0 + i) _ 5 (2, 3) h]
  match i, hi with
  | 0, _ => rfl
  | 1, _ => rfl
set_option maxRecDepth 100000 in
theorem gap_any (p : Option Addr) (n cap i : Nat) (x : Int) (zs : List Int) (w : World) (hx : x = i) (hz : Bytes w p zs) (hn : zs.length = n) (hcap : n ≤ cap) (hl : n ≤ 281474976710656) (hi : i ≤ n) :
    Calls Tryd.prog 34 #[.slice p n cap, .int .i64 x] w fun e w' => e = .returned (.int .i64 (gap zs i : Nat)) ∧ Below w.heap.size w w' := by
  subst hx
  have HR := Lib.hid (fun j v k W hb hk hj => run_any p n cap j j zs v k W rfl (Bytes.below hz (Nat.le_refl _) hb) hn hk hl hj)
  have HN := Lib.hid hn
  have HZ := Lib.hid hz
  clear hz hn
  go_enter Tryd.func34, Tryd.ntmps34
  go_wp2_with fail
  refine (blank_any _).mono ?_
  rintro e W1 ⟨v1, rfl, hb1, hk1⟩
  have HK1 := Lib.hid hk1
  have HB1 := Lib.hid hb1
  clear hk1 hb1
  go_wp2_with fail
  refine (HR.out i v1 isBlank W1 HB1.out HK1.out hi).mono ?_
  rintro e W2 ⟨rfl, hb2⟩
  have HB2 := Lib.hid (HB1.out.trans (hb2.mono HB1.out.size))
  clear hb2 HB1 HK1
  have h0 := runTo_le zs isBlank i (by rw [HN.out]; exact hi)
  rw [HN.out] at h0
  have HG : Hid (gap zs i = gapF zs zs.length (runTo zs isBlank i)) := rfl
  generalize runTo zs isBlank i = j0 at h0 HG ⊢
  go_wp2
  go_loopw [1] (fun i' wr => Below w.heap.size w wr ∧ ∃ j : Nat, j ≤ n ∧ i' = .int .i64 j ∧ gap zs i = gapF zs zs.length j) (fun i' _ => n - (intOf i').toNat)
  case atStart => exact ⟨HB2.out, j0, h0, rfl, HG.out⟩
  case round =>
    clear HG HB2
    obtain ⟨hb, j, hj, rfl, hr⟩ := hrel
    have HB := Lib.hid hb
    have HJ := Lib.hid hr
    clear hb hr
    have kc := fun (w : World) (C : Array Value) (n c : Nat) => Lib.run_convert_bytes_const (P := Tryd.prog) w 22 5 C n c Tryd.underlying22 Tryd.underlying5
    have HX := Lib.hid (slash2_prefix zs HZ.out.1 j)
    have hnb := HN.out
    by_cases hc : cap = j
    · have ht : slash2 zs j = false := by
        unfold slash2
        rw [stA_ge (i := j) (by omega), Bool.false_and]
      have hjn : n ≤ j := by omega
      have HS := Lib.hid (gapF_stop zs.length ht)
      rw [ht] at HX
      clear ht hnb
      go_wp2_with fail
      refine (Tryd.bytes_HasPrefix_all p (some ⟨wr.heap.size, 0, none⟩) 0 0 2 2 (zs.drop j) [47, 47] _ (by have := HN.out; simp; omega) rfl (by omega) (Lib.BytesIn.nil _ p _) (two_cells _ _ _ (heap_alloc_new wr _) rfl)).mono ?_
      rintro e W3 ⟨rfl, rfl⟩
      rw [HX.out]
      go_wp2
      go_ret
      exact ⟨ret_int (by rw [HJ.out, HS.out]), HB.out.alloc HB.out.size _⟩
    · cases ht : slash2 zs j
      · have HS := Lib.hid (gapF_stop zs.length ht)
        rw [ht] at HX
        clear ht hnb
        go_wp2_with fail
        refine (Tryd.bytes_HasPrefix_all _ (some ⟨wr.heap.size, 0, none⟩) (n - j) (cap - j) 2 2 (zs.drop j) [47, 47] _ (by have := HN.out; simp; omega) rfl (by omega) (bytesIn_drop (HZ.out.below (Nat.le_refl _) (HB.out.alloc HB.out.size _)) HN.out hj) (two_cells _ _ _ (heap_alloc_new wr _) rfl)).mono ?_
        rintro e W3 ⟨rfl, rfl⟩
        rw [HX.out]
        go_wp2
        go_ret
        exact ⟨ret_int (by rw [HJ.out, HS.out]), HB.out.alloc HB.out.size _⟩
      · have hlt := slash2_lt ht
        have hgr := remark_grows ht
        have hr1 := runTo_le zs notLf j (by omega)
        have hr2 := runTo_le zs isBlank (runTo zs notLf j) hr1
        have HS := Lib.hid (gapF_step ht)
        rw [hnb] at hr1 hr2
        rw [ht] at HX
        clear ht hnb hlt
        go_wp2_with fail
        refine (Tryd.bytes_HasPrefix_all _ (some ⟨wr.heap.size, 0, none⟩) (n - j) (cap - j) 2 2 (zs.drop j) [47, 47] _ (by have := HN.out; simp; omega) rfl (by omega) (bytesIn_drop (HZ.out.below (Nat.le_refl _) (HB.out.alloc HB.out.size _)) HN.out hj) (two_cells _ _ _ (heap_alloc_new wr _) rfl)).mono ?_
        rintro e W3 ⟨rfl, hw⟩
        have HB3 : Hid (Below w.heap.size w W3) := by rw [hw]; exact HB.out.alloc HB.out.size _
        clear hw
        rw [HX.out]
        go_wp2_with fail
        refine (among_any ⟨#[10]⟩ _).mono ?_
        rintro e W4 ⟨v4, rfl, hb4, hk4⟩
        have HK4 := Lib.hid hk4
        have HB4 := Lib.hid (HB3.out.trans (hb4.mono HB3.out.size))
        clear hk4 hb4
        go_wp2_with fail
        refine (but_any v4 _ _ HK4.out).mono ?_
        rintro e W5 ⟨v5, rfl, hb5, hk5⟩
        have HK5 : Hid (KindV W5 v5 notLf) := hk5.congr fun c _ _ => by simp [amg, bts, notLf]
        have HB5 := Lib.hid (HB4.out.trans (hb5.mono HB4.out.size))
        clear hk5 hb5
        go_wp2_with fail
        refine (HR.out j v5 notLf W5 HB5.out HK5.out hj).mono ?_
        rintro e W6 ⟨rfl, hb6⟩
        have HB6 := Lib.hid (HB5.out.trans (hb6.mono HB5.out.size))
        clear hb6
        generalize runTo zs notLf j = j2 at hr1 hr2 hgr HS ⊢
        go_wp2_with fail
        refine (blank_any _).mono ?_
        rintro e W7 ⟨v7, rfl, hb7, hk7⟩
        have HK7 := Lib.hid hk7
        have HB7 := Lib.hid (HB6.out.trans (hb7.mono HB6.out.size))
        clear hk7 hb7
        go_wp2_with fail
        refine (HR.out j2 v7 isBlank W7 HB7.out HK7.out hr1).mono ?_
        rintro e W8 ⟨rfl, hb8⟩
        have HB8 := Lib.hid (HB7.out.trans (hb8.mono HB7.out.size))
        clear hb8
        generalize runTo zs isBlank j2 = j3 at hr2 hgr HS ⊢
        go_wp2
        go_roundw
        case rel => exact ⟨HB8.out, j3, hr2, rfl, by rw [HJ.out, HS.out]⟩
        case measure => simp [intOf]; omega
end Go.Proofs.YtmjmblbaojchcaaDoor
