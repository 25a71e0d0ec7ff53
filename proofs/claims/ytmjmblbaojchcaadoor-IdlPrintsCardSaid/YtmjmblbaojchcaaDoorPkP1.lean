/-
  The statement of the law IdlPrints, from its walk: for every input that can be read the law returns true, and its arguments read as they did. Conditions: those of the given row (the listed tables hold what the program's text lays; the card ties them).
-/
import Derived.Test.YtmjmblbaojchcaaDoorPkC51
import Derived.Test.YtmjmblbaojchcaaDoorPkC52
import Derived.Laws.AppendOwn
import Derived.Test.YtmjmblbaojchcaaDoorCards
import Derived.Test.YtmjmblbaojchcaaDoorTie
namespace Go.Proofs.YtmjmblbaojchcaaDoor
open Go.ChangeShapes Go.WideShapes Go.ChangeAt Go.RowKit Go.Shelf

/-- So many bytes in a block of the call's own that may be written. -/
structure BytesAt (W : World) (g n : Nat) : Prop where
  blk : ∃ cs fr, W.heap[g]? = some (.cells cs 5 fr) ∧ n ≤ cs.size ∧ n ≤ fr.1 ∧ ∀ j, j < n → ∃ z : Nat, z ≤ 255 ∧ cs[j]? = some (.int .u8 z)
theorem BytesAt.lt {W : World} {g n : Nat} (h : BytesAt W g n) : g < W.heap.size := by
  obtain ⟨cs, fr, hb, _⟩ := h.blk
  exact blk_lt hb
theorem BytesAt.cell {W : World} {g n j : Nat} (h : BytesAt W g n) (hj : j < n) : ∃ z : Nat, z ≤ 255 ∧ W.cell? ⟨g, j, none⟩ = some (.int .u8 z) ∧ W.frozen? ⟨g, j, none⟩ = false := by
  obtain ⟨cs, fr, hb, hn, hf, hc⟩ := h.blk
  obtain ⟨z, hz, hcz⟩ := hc j hj
  refine ⟨z, hz, ?_, ?_⟩
  · rw [cell_of_row W g j cs _ fr hb, hcz]
  · simp [World.frozen?, hb]
    omega
theorem BytesAt.set {W : World} {g n j z : Nat} (h : BytesAt W g n) (hz : z ≤ 255) : BytesAt (W.setCell ⟨g, j, none⟩ (.int .u8 z)) g n := by
  obtain ⟨cs, fr, hb, hn, hf, hc⟩ := h.blk
  refine ⟨cs.setIfInBounds j (.int .u8 z), fr, ?_, by simpa using hn, hf, fun i hi => ?_⟩
  · simp [World.setCell, Array.getElem?_modify, hb]
  · by_cases e : j = i
    · subst e
      exact ⟨z, hz, by rw [Array.getElem?_setIfInBounds_self_of_lt (by omega)]⟩
    · obtain ⟨z', hz', hc'⟩ := hc i hi
      exact ⟨z', hz', by rw [Array.getElem?_setIfInBounds_ne (by omega)]; exact hc'⟩
theorem BytesAt.drew {W : World} {g n : Nat} (h : BytesAt W g n) : BytesAt W.drew g n := ⟨h.blk⟩
theorem bytes_new (W : World) (s : ByteArray) : BytesAt (Lib.bytesWorld W 5 s) W.heap.size s.size := by
  have hl : s.size ≤ (Lib.bytesCells W 5 s).size := by
    unfold Lib.bytesCells
    rw [Array.size_append, Array.size_map]
    show s.data.size ≤ _
    omega
  refine ⟨_, _, Lib.bytesWorld_at_new W _ s, hl, hl, fun j hj => ?_⟩
  refine ⟨(s.data.toList.getD j 0).toNat, ?_, ?_⟩
  · have := (s.data.toList.getD j 0).toNat_lt
    omega
  · have h := Lib.bytesWorld_cell W 5 s j hj
    rw [cell_of_row _ _ _ _ _ _ (Lib.bytesWorld_at_new W 5 s)] at h
    exact h
theorem bytes_below (W : World) (s : ByteArray) : Below W.heap.size W (Lib.bytesWorld W 5 s) :=
  ⟨rfl, rfl, rfl, by rw [Lib.bytesWorld_size]; omega, fun k hk => Lib.bytesWorld_at_old W _ s k hk⟩
theorem bytes_str {W : World} {g n : Nat} (cap : Nat) (h : BytesAt W g n) : ∃ zs : List Int, zs.length = n ∧ (convert 22 9 (.slice (some ⟨g, 0, none⟩) n cap)).run Tryd.prog W = .ok (.string (strOfNums zs)) W := by
  obtain ⟨zs, hl, hz⟩ := exists_list (fun j (z : Int) => W.cell? ⟨g, j, none⟩ = some (.int .u8 z)) 0 n (fun j hj => by
    obtain ⟨z, _, hc, _⟩ := h.cell hj
    exact ⟨z, hc⟩)
  refine ⟨zs, hl, run_convert_bytes_arg (P := Tryd.prog) W 22 5 Tryd.underlying22 Tryd.underlying5 g 0 n cap zs hl (fun k hk => ?_) 9 Tryd.underlying9⟩
  rw [Nat.zero_add, hz k hk, List.getD]
theorem keep1d {w : World} {g i : Nat} {p : Addr} {v x : Value} (h : w.cell? p = some v) (hp : p.block ≠ g) : (w.setCell ⟨g, i, none⟩ x).drew.cell? p = some v := keep1 h hp
/-- What the loop over the turns keeps. -/
def TurnsAt (w : World) (g n m : Nat) (i : Value) (wr : World) : Prop := Below w.heap.size w wr ∧ BytesAt wr g n ∧ ∃ k : Nat, k ≤ m ∧ i = .int .i64 k
set_option maxRecDepth 100000 in
set_option maxHeartbeats 4000000 in
theorem idlPrints_walk (p : Plan) {a0 a1 : Option Addr} {n0 e0 n1 c1 : Nat} (A : Option Addr) (al ac : Nat) (ZA : List Int) (B : Option Addr) (bl bc : Nat) (ZB : List Int) (w : World) (hp : IsPlan w p a0 n0 e0 a1 n1 c1) (hA : IsRow .i64 w A al ac ZA) (hB : IsRow .i64 w B bl bc ZB) (hT : Tabs w) :
    Calls Tryd.prog 3 #[.agg #[.slice a0 n0 e0, .slice a1 n1 c1, .int .u8 p.root, .bool p.tree], .slice A al ac, .slice B bl bc] w fun e w' => e = .returned (.bool true) ∧ Below w.heap.size w w' := by
  have HP := Lib.hid hp
  have HT := Lib.hid hT
  have HA := Lib.hid hA
  have HBB := Lib.hid hB
  have hal : al ≤ 9223372036854775807 := by have h1 := hA.1; have h2 := hA.2.1; unfold maxLen at h2; omega
  have hbl : bl ≤ 9223372036854775807 := by have h1 := hB.1; have h2 := hB.2.1; unfold maxLen at h2; omega
  have HB0 := Lib.hid ((Below.refl w.heap.size w).alloc (Nat.le_refl _) (.cells #[.slice a0 n0 e0, .slice a1 n1 c1, .int .u8 p.root, .bool p.tree] 25))
  have HZ0 := Lib.hid (heap_alloc_new w (.cells #[.slice a0 n0 e0, .slice a1 n1 c1, .int .u8 p.root, .bool p.tree] 25))
  clear hp hA hB hT
  go_enter Tryd.func3, Tryd.ntmps3
  go_wp2_with fail
  refine (iawake_any _ (HT.out.below (Nat.le_refl _) HB0.out)).mono ?_
  rintro e W1 ⟨rfl, hb1⟩
  have HB1 := Lib.hid (HB0.out.trans (hb1.mono HB0.out.size))
  obtain ⟨_, y0, y1, y2, y3⟩ := blk4p (blk_below HZ0.out hb1 (blk_lt HZ0.out))
  clear hb1
  go_wp2_with fail
  refine (made_any p W1 (HP.out.below HB1.out)).mono ?_
  rintro e W2 ⟨hb2, hpost⟩
  have HB2 := Lib.hid (HB1.out.trans (hb2.mono HB1.out.size))
  clear hb2 y0 y1 y2 y3
  rcases hpost with ⟨hok, ss, es, sv, ev, rfl, hss, hes, hr⟩ | ⟨hno, rfl⟩
  · obtain ⟨sa, sc, ea, ec, rfl, rfl⟩ := hr.forms
    have HF : Hid (Few (schP p)) := Lib.hid (few_of hok (plan_nums HP.out))
    have HSS := Lib.hid hss
    have HES := Lib.hid hes
    have HR := Lib.hid hr
    clear hok hss hes hr
    have HSP : Hid (schP p = ⟨ss.map Prod.fst, es.map Prod.fst, p.root % p.structs.length⟩) := Lib.hid (by rw [HSS.out, HES.out]; rfl)
    generalize p.root % p.structs.length = rt at *
    go_upto_region 4 with (fail)
    have hba : Below W2.heap.size W2 (W2.alloc (.cells #[.slice sa ss.length sc, .slice ea es.length ec, .int .i64 rt] 31)) := (Below.refl _ _).alloc (Nat.le_refl _) _
    obtain ⟨_, z0, z1, z2, _⟩ := blk3 (heap_alloc_new W2 (.cells #[.slice sa ss.length sc, .slice ea es.length ec, .int .i64 rt] 31))
    have HB3 := Lib.hid (HB2.out.trans (hba.mono HB2.out.size))
    have HR3 := Lib.hid (HR.out.below hba)
    clear hba
    generalize W2.alloc (.cells #[.slice sa ss.length sc, .slice ea es.length ec, .int .i64 rt] 31) = W3 at *
    go_wp2_with fail
    refine (text_any W3 rt HR3.out (schP p) HSP.out HF.out).mono ?_
    rintro e W4 ⟨rfl, hb4⟩
    have HB4 := Lib.hid (HB3.out.trans (hb4.mono HB3.out.size))
    have hsz := (textS_size HF.out).2
    have hsz1 := (textS_size HF.out).1
    generalize textS (schP p) = T at *
    clear hb4 z0 z1 z2
    have kc := fun W => Lib.run_convert_string_bytes (P := Tryd.prog) W 9 22 5 T Tryd.underlying9 Tryd.underlying22 Tryd.underlying5
    go_upto_region 7 with (fail)
    clear kc
    have HN := Lib.hid (bytes_new W4 T)
    have HB5 := Lib.hid (HB4.out.trans ((bytes_below W4 T).mono HB4.out.size))
    have hcap : T.size ≤ grownCap W4 T.size 0 5 := grownCap_ge _ _ _ _
    generalize Lib.bytesWorld W4 5 T = W5 at *
    generalize grownCap W4 T.size 0 5 = cap at *
    have HGW : Hid (w.heap.size ≤ W4.heap.size) := Lib.hid HB4.out.size
    generalize W4.heap.size = g at *
    go_wp2_with fail
    go_loopw [10] (fun i wr => TurnsAt w g T.size al i wr) (fun i _ => al - (intOf i).toNat)
    case atStart => exact ⟨HB5.out, HN.out, 0, Nat.zero_le _, rfl⟩
    case round =>
      obtain ⟨hb, hn, k, hk, rfl⟩ := hrel
      have HBR := Lib.hid hb
      have HNR := Lib.hid hn
      clear hb hn HN HB5
      by_cases hlt : k < al
      · by_cases hlt2 : k < bl
        · by_cases h4 : (k : Int) < 4
          · obtain ⟨b1, o1, rfl, hb1, hc1⟩ := HA.out.2.2.2.2 (by intro e; have h1 := HA.out.1; have h2 := HA.out.2.2.1; rw [e] at h2; simp at h2; omega)
            obtain ⟨b2, o2, rfl, hb2, hc2⟩ := HBB.out.2.2.2.2 (by intro e; have h1 := HBB.out.1; have h2 := HBB.out.2.2.1; rw [e] at h2; simp at h2; omega)
            have x1 := (HBR.out.cell (p := ⟨b1, o1 + k, none⟩) hb1).trans (hc1 k (by have h1 := HA.out.1; have h2 := HA.out.2.2.1; omega))
            have x2 := (HBR.out.cell (p := ⟨b2, o2 + k, none⟩) hb2).trans (hc2 k (by have h1 := HBB.out.1; have h2 := HBB.out.2.2.1; omega))
            generalize ZA.getD k 0 = z1 at *
            generalize ZB.getD k 0 = z2 at *
            clear hc1 hc2
            obtain ⟨q, hq, hqs⟩ : ∃ q : Nat, (IntKind.u64.wrap z1).tmod (T.size : Int) = q ∧ q < T.size := by
              have hw : 0 ≤ IntKind.u64.wrap z1 := by simp only [IntKind.wrap, IntKind.bits, IntKind.signed]; simp; omega
              have h1 := Int.emod_nonneg (IntKind.u64.wrap z1) (show (T.size : Int) ≠ 0 by omega)
              have h2 := Int.emod_lt_of_pos (IntKind.u64.wrap z1) (show 0 < (T.size : Int) by omega)
              refine ⟨(IntKind.u64.wrap z1 % (T.size : Int)).toNat, ?_, by omega⟩
              rw [Int.tmod_eq_emod_of_nonneg hw]
              omega
            obtain ⟨r, hr, hrs⟩ : ∃ r : Nat, (IntKind.u64.wrap z2).tmod 15 = r ∧ r < 15 := by
              have hw : 0 ≤ IntKind.u64.wrap z2 := by simp only [IntKind.wrap, IntKind.bits, IntKind.signed]; simp; omega
              refine ⟨(IntKind.u64.wrap z2 % 15).toNat, ?_, by omega⟩
              rw [Int.tmod_eq_emod_of_nonneg hw]
              omega
            have v1 : IntKind.u64.wrap (T.size : Int) = T.size := by simp only [IntKind.wrap, IntKind.bits, IntKind.signed]; simp; omega
            have v2 := IntWalk.i64_in (q : Int) (by omega)
            have v3 : wrap64 (q : Int) = q := wrap64_in _ (by omega) (by omega)
            have v4 : ¬ T.size = 0 := Nat.ne_of_gt hsz1
            have v5 : (q : Int) < T.size := Int.ofNat_lt.2 hqs
            have v6 : (r : Int) < 15 := Int.ofNat_lt.2 hrs
            have v7 : (k : Int) < al := Int.ofNat_lt.2 hlt
            have v8 : (k : Int) < bl := Int.ofNat_lt.2 hlt2
            obtain ⟨zz, hzz, c1', f1'⟩ := HNR.out.cell hqs
            go_upto_region 10 with (fail)
            have hg1 : b1 ≠ g := by have := HGW.out; omega
            have hg2 : b2 ≠ g := by have := HGW.out; omega
            go_region_held3 (fun w' => w'.cell? ⟨b1, o1 + k, none⟩ = some (.int .i64 z1) ∧ w'.cell? ⟨b2, o2 + k, none⟩ = some (.int .i64 z2)) (first | assumption | (with_reducible exact ⟨keep1d x1 hg1, keep1d x2 hg2⟩) | (with_reducible exact ⟨keep1 x1 hg1, keep1 x2 hg2⟩) | go_keep) (first | fail)
            all_goals
              have hs := (HNR.out.set (j := q) (Nat.le_of_lt_succ (UInt8.toNat_lt ((⟨#[123, 125, 58, 59, 61, 44, 60, 62, 34, 97, 48, 45, 47, 32, 10]⟩ : ByteArray)[r])))).drew
              have HS := Lib.hid hs
              have HBS := Lib.hid ((HBR.out.setCell (p := ⟨g, q, none⟩) HGW.out (.int .u8 (((⟨#[123, 125, 58, 59, 61, 44, 60, 62, 34, 97, 48, 45, 47, 32, 10]⟩ : ByteArray)[r]).toNat))).drew)
              clear hs
              go_wp2
              go_roundw
              case rel => exact ⟨HBS.out, HS.out, k + 1, hlt, by go_num⟩
              case measure => simp [intOf]; omega
          · have h4' : decide ((k : Int) < 4) = false := decide_eq_false h4
            have h7 : (k : Int) < al := Int.ofNat_lt.2 hlt
            have h8 : (k : Int) < bl := Int.ofNat_lt.2 hlt2
            obtain ⟨zs, hzl, hzr⟩ := bytes_str cap HNR.out
            clear hlt hlt2
            go_wp2_with fail
            refine (told_any (strOfNums zs) _ (HT.out.below (Nat.le_refl _) HBR.out) (by rw [strOfNums_size]; omega)).mono ?_
            rintro e W6 ⟨rfl, hb6⟩
            have HB6 := Lib.hid (HBR.out.trans (hb6.mono HBR.out.size))
            clear hb6 hzr
            go_wp2
            go_ret
            exact ⟨rfl, HB6.out⟩
        · have h8 : decide ((k : Int) < bl) = false := decide_eq_false (by omega)
          have h7 : (k : Int) < al := Int.ofNat_lt.2 hlt
          obtain ⟨zs, hzl, hzr⟩ := bytes_str cap HNR.out
          clear hlt
          go_wp2_with fail
          refine (told_any (strOfNums zs) _ (HT.out.below (Nat.le_refl _) HBR.out) (by rw [strOfNums_size]; omega)).mono ?_
          rintro e W6 ⟨rfl, hb6⟩
          have HB6 := Lib.hid (HBR.out.trans (hb6.mono HBR.out.size))
          clear hb6 hzr
          go_wp2
          go_ret
          exact ⟨rfl, HB6.out⟩
      · have h7 : decide ((k : Int) < al) = false := decide_eq_false (by omega)
        obtain ⟨zs, hzl, hzr⟩ := bytes_str cap HNR.out
        go_wp2_with fail
        refine (told_any (strOfNums zs) _ (HT.out.below (Nat.le_refl _) HBR.out) (by rw [strOfNums_size]; omega)).mono ?_
        rintro e W6 ⟨rfl, hb6⟩
        have HB6 := Lib.hid (HBR.out.trans (hb6.mono HBR.out.size))
        clear hb6 hzr
        go_wp2
        go_ret
        exact ⟨rfl, HB6.out⟩
  · go_wp2
    go_ret
    exact ⟨rfl, HB2.out.alloc HB2.out.size _⟩
end Go.Proofs.YtmjmblbaojchcaaDoor
namespace Go.Proofs.YtmjmblbaojchcaaDoor
open Go.ChangeShapes Go.WideShapes Go.ChangeAt Go.RowKit
open Go.ChangeMaps (open_string shut_string)
namespace idlPrintsFrame
theorem laid_met (os : Os) : laidMet Tryd.prog Rows.idlPrintsRow.laid ((laidWorld os).forCall (fun _ _ => 0) ⟨#[], #[Value.agg #[Value.slice none 0 0, Value.slice none 0 0, Value.int .u8 0, Value.bool false], Value.slice none 0 0, Value.slice none 0 0], []⟩).memory :=
  laidMet_of_run' 8 (by kernel_rfl) (by kernel_rfl)
theorem reads (os : Os) {H : Type} (enc : TypeId × Value → H) : ∃ places, DataW.whole enc Tryd.prog ((laidWorld os).forCall (fun _ _ => 0) ⟨#[], #[Value.agg #[Value.slice none 0 0, Value.slice none 0 0, Value.int .u8 0, Value.bool false], Value.slice none 0 0, Value.slice none 0 0], []⟩).memory Tryd.f3.params.toList Rows.idlPrintsSpec.vars false #[Value.agg #[Value.slice none 0 0, Value.slice none 0 0, Value.int .u8 0, Value.bool false], Value.slice none 0 0, Value.slice none 0 0].toList 8 = some ([.agg [.nil, .nil, .lit (.int .u8 0), .lit (.bool false)], .nil, .nil], [], places) :=
  ⟨[], by kernel_rfl⟩
set_option maxRecDepth 100000 in
theorem contract (H : Type) (enc : TypeId × Value → H) (W : World) (base : Nat) (args : Array Value) (ds gs : List (DataW H)) (before : List MemPlace)
    (hval0 : ∀ (j : Nat) t v, Tryd.f3.params[j]? = some t → args[j]? = some v → Value.okWide Tryd.prog W .any base t v)
    (hW : DataW.Whole enc Tryd.prog Tryd.f3.params.toList Rows.idlPrintsSpec.vars false W args.toList ds gs before) (hL : laidMetH Tryd.prog Rows.idlPrintsRow.laid W) :
    Calls Tryd.prog 3 args W fun e W' => ∃ v, e = .returned v ∧ Rows.idlPrintsSpec.post enc Tryd.prog Tryd.f3 false true false false W args v W' := by
  have hval : ∀ (j : Nat) t v, Tryd.f3.params[j]? = some t → args[j]? = some v → Value.okWide Tryd.prog W .any base t v := hval0
  have hW' := hW
  obtain ⟨p, q, hA0, hV, rfl, _hfz, _hnd⟩ := hW
  have hA : DataW.TrodAll enc Tryd.prog W 0 (fun _ => true) true Tryd.f3.params.toList args.toList ds p := hA0
  rw [Tryd.params3] at hA hval
  obtain ⟨v0, vs0, d0, ds0, p0, q0, hargs, rfl, rfl, h0, r0⟩ := trodAll_cons hA
  obtain ⟨v1, vs1, d1, ds1, p1, q1, rfl, rfl, rfl, h1, r1⟩ := trodAll_cons r0
  obtain ⟨v2, vs2, d2, ds2, p2, q2, rfl, rfl, rfl, h2, r2⟩ := trodAll_cons r1
  obtain ⟨rfl, rfl, rfl⟩ := trodAll_nil r2
  obtain rfl : args = #[v0, v1, v2] := by cases args; simp_all
  obtain ⟨rfl, rfl⟩ := trodVars_none hV
  have k0 := h0
  have lt0 : ∀ x ∈ p0, x.block < W.heap.size := by obtain ⟨m, hm⟩ := k0; exact DataW.trod_lt m _ _ _ hm
  obtain ⟨a0, _, _, _, _, _, _, rfl, w0⟩ := open_plan (hval 0 25 v0 rfl rfl) h0
  obtain ⟨a1, len1, cap1, rfl⟩ := okWide_slice Tryd.underlying26 (hval 1 26 v1 rfl rfl)
  have k1 := h1
  have lt1 : ∀ x ∈ p1, x.block < W.heap.size := by obtain ⟨m, hm⟩ := k1; exact DataW.trod_lt m _ _ _ hm
  obtain ⟨z1, w1⟩ : ∃ zs, IsRow .i64 W a1 len1 cap1 zs := by
    obtain ⟨fuel, hf⟩ := h1
    rcases open_ints Tryd.underlying26 Tryd.underlying3 (by kernel_rfl) hf with ⟨hcs, _⟩ | ⟨x, l, c, zs, hcs, _, hl, hm, hz, _, hcell, hwz⟩
    · simp [Value.cells] at hcs
      obtain ⟨rfl, rfl, rfl⟩ := hcs
      exact ⟨[], isRow_nil _ _ _⟩
    · simp [Value.cells] at hcs
      obtain ⟨rfl, rfl, rfl⟩ := hcs
      exact ⟨zs, isRow_of hl hm (by simpa using hz) hcell hwz⟩
  obtain ⟨a2, len2, cap2, rfl⟩ := okWide_slice Tryd.underlying26 (hval 2 26 v2 rfl rfl)
  have k2 := h2
  have lt2 : ∀ x ∈ p2, x.block < W.heap.size := by obtain ⟨m, hm⟩ := k2; exact DataW.trod_lt m _ _ _ hm
  obtain ⟨z2, w2⟩ : ∃ zs, IsRow .i64 W a2 len2 cap2 zs := by
    obtain ⟨fuel, hf⟩ := h2
    rcases open_ints Tryd.underlying26 Tryd.underlying3 (by kernel_rfl) hf with ⟨hcs, _⟩ | ⟨x, l, c, zs, hcs, _, hl, hm, hz, _, hcell, hwz⟩
    · simp [Value.cells] at hcs
      obtain ⟨rfl, rfl, rfl⟩ := hcs
      exact ⟨[], isRow_nil _ _ _⟩
    · simp [Value.cells] at hcs
      obtain ⟨rfl, rfl, rfl⟩ := hcs
      exact ⟨zs, isRow_of hl hm (by simpa using hz) hcell hwz⟩
  clear hA0 hval0
  refine (idlPrints_walk a0 a1 len1 cap1 z1 a2 len2 cap2 z2 W w0 w1 w2 (tabs_of_laid hL)).mono fun e W' ⟨he, bel⟩ => ?_
  subst he
  exact ⟨_, rfl, _, _, _, [], _, [], hW', trodAll_mk1 (shut_bool Tryd.underlying4 _), (trodAll_cons_mk (Below.trod laidOut (by kernel_rfl) (of_decide_eq_true (by kernel_rfl)) k0 bel lt0) (trodAll_cons_mk (Below.trod laidOut (by kernel_rfl) (of_decide_eq_true (by kernel_rfl)) k1 bel lt1) (trodAll_cons_mk (Below.trod laidOut (by kernel_rfl) (of_decide_eq_true (by kernel_rfl)) k2 bel lt2) trodAll_mk0))), rfl, bel.frame _, fun h => by cases h⟩

set_option maxRecDepth 100000 in
theorem lifted (os : Os) (started : os.Started) (H : Type) (enc : TypeId × Value → H) (F : Stop.Interp) :
    ReturnsInHanded {} Tryd.checked os 3 .any ((OpenSpec.ofChange Rows.idlPrintsSpec).preRow enc Tryd.prog Tryd.f3 Rows.idlPrintsRow.domain false Rows.idlPrintsRow.laid) (((OpenSpec.ofChange Rows.idlPrintsSpec).at F).post enc Tryd.prog Tryd.f3 false true false false) := by
  obtain ⟨places, hx⟩ := reads os enc
  refine returnsInHanded_of_row (C := Tryd.checked) (s := OpenSpec.ofChange Rows.idlPrintsSpec) own started (by kernel_rfl) Tryd.func3
    (witness_row_at (enc := enc) (C := Tryd.checked) false (laidWorld os) #[Value.agg #[Value.slice none 0 0, Value.slice none 0 0, Value.int .u8 0, Value.bool false], Value.slice none 0 0, Value.slice none 0 0] rfl (by kernel_rfl) (by kernel_rfl) (by kernel_rfl)
      (OpenSpec.preRow_of_cond 8 hx (by kernel_rfl) (fun k hk => by cases hk) (by kernel_rfl) (laid_met os))) ?_
  intro W base args ds gs before hval hW _ _ _ hL _ _
  exact contract H enc W base args ds gs before hval hW hL
theorem said : Rows.IdlPrintsSaid :=
  OpenClaim.holds_of_cond 3 Tryd.f3 rfl rfl rfl rfl rfl rfl rfl ⟨rfl, rfl, rfl, rfl, rfl⟩ rfl rfl rfl rfl rfl (by kernel_rfl) Tryd.func3 (by kernel_rfl)
    (of_decide_eq_true (by kernel_rfl)) (by unfold Func.isWrapper; first | (rw [if_pos (by decide +kernel)]; kernel_rfl) | (rw [if_neg (by decide +kernel)]; exact ⟨rfl, rfl⟩))
    (fun os started H enc _ F => by rw [OpenClaim.pre_eq_preRow]; exact lifted os started H enc F)
theorem plain (f : FuncId) (fn : Func) (hf : Tryd.pinned.checked.prog.funcNamed "transom/transomlaw04.IdlPrints" = some f) (hfn : Tryd.pinned.checked.prog.funcs[f]? = some fn) :
    false = Tryd.pinned.checked.prog.looks [] ∧ ∀ (j : Nat) t, fn.params[j]? = some t → Tryd.pinned.checked.prog.wantsStandIn t = false := by
  obtain rfl : f = 3 := Option.some.inj ((show Tryd.prog.funcNamed "transom/transomlaw04.IdlPrints" = some 3 by kernel_rfl).symm.trans hf) |>.symm
  obtain rfl : fn = Tryd.f3 := (Option.some.inj (Tryd.func3.symm.trans hfn)).symm
  refine ⟨by kernel_rfl, fun j t ht => ?_⟩
  rw [Tryd.params3] at ht
  have hm : t = 25 ∨ t = 26 ∨ t = 26 := by simpa using Array.mem_of_getElem? ht
  rcases hm with rfl | rfl | rfl
  · exact (show Tryd.prog.wantsStandIn 25 = false by kernel_rfl)
  · exact (show Tryd.prog.wantsStandIn 26 = false by kernel_rfl)
  · exact (show Tryd.prog.wantsStandIn 26 = false by kernel_rfl)
end idlPrintsFrame
theorem idlPrints_card : Rows.IdlPrintsCardSaid :=
  Claim7.holds_tied_plain_at .later [] _ _ _ _ idlPrintsFrame.said (fun _ h => by cases h) (by kernel_rfl) (fun _ h => by cases h) idlPrints_row_tie rfl ⟨rfl, rfl⟩ (by kernel_rfl) rfl idlPrintsFrame.plain (by kernel_rfl)
end Go.Proofs.YtmjmblbaojchcaaDoor
