/-
  The package scan's Undigits: digits of base sixteen, of small letters, as bytes. Conditions: those that each theorem names.
-/
import Derived.Test.YtneadcbadnicfaaDoorSnD
import Derived.Laws.MakeOwn
namespace Go.Proofs.YtneadcbadnicfaaDoor
open Go.ChangeShapes Go.WideShapes Go.ChangeAt Go.RowKit Go.Shelf

/-- What digits say, two a byte. -/
def undig : List Int → Option (List Int)
  | [] => some []
  | [_] => none
  | a :: b :: r => match hexD a with
    | none => none
    | some x => match hexD b with
      | none => none
      | some y => match undig r with
        | none => none
        | some t => some (((x * 16 + y : Nat) : Int) :: t)
theorem undig_len : ∀ (l : List Int) (t : List Int), undig l = some t → l.length = 2 * t.length ∧ ∀ z ∈ t, 0 ≤ z ∧ z ≤ 255
  | [], t, h => by
    simp only [undig, Option.some.injEq] at h
    subst h
    exact ⟨rfl, fun z hz => by cases hz⟩
  | [_], t, h => by cases h
  | a :: b :: r, t, h => by
    simp only [undig] at h
    split at h
    · cases h
    rename_i x hx
    split at h
    · cases h
    rename_i y hy
    split at h
    · cases h
    rename_i t' ht
    cases h
    obtain ⟨h1, h2⟩ := undig_len r t' ht
    have := hexD_lt hx
    have := hexD_lt hy
    refine ⟨by simp; omega, fun z hz => ?_⟩
    rcases List.mem_cons.1 hz with rfl | hz
    · omega
    · exact h2 z hz
theorem undig_step {zs : List Int} {k : Nat} (hk : k + 2 ≤ zs.length) : undig (zs.drop k) = match hexD (zs.getD k 0) with
    | none => none
    | some x => match hexD (zs.getD (k + 1) 0) with
      | none => none
      | some y => match undig (zs.drop (k + 2)) with
        | none => none
        | some t => some (((x * 16 + y : Nat) : Int) :: t) := by
  rw [drop_cons (show k < zs.length by omega), drop_cons (show k + 1 < zs.length by omega)]
  rfl
theorem undig_odd {zs : List Int} (h : zs.length % 2 ≠ 0) : undig zs = none := by
  cases hu : undig zs with
  | none => rfl
  | some t => have := (undig_len zs t hu).1; omega
theorem u8_info : (Tryd.prog.info? 5).map (fun i => (i.zero, i.size, i.bytes)) = some (some (.int .u8 0), 1, 1) := by kernel_rfl
theorem made_zeros8 (n : Nat) : madeCells (Value.int .u8 0).cells (n * 1) = ((List.replicate n (0 : Int)).map (Value.int .u8)).toArray := by
  apply Array.ext'
  apply List.ext_getElem?
  intro k
  simp only [madeCells, Array.toList_map, Array.toList_range, Nat.mul_one, List.getElem?_map, List.getElem?_replicate]
  by_cases hk : k < n
  · rw [List.getElem?_range hk, if_pos hk, Option.map_some]
    show some (#[Value.int .u8 0][k % 1]!) = _
    rw [Nat.mod_one]
    rfl
  · rw [List.getElem?_eq_none (by simp; omega), if_neg hk]
    rfl
theorem make_u8 (n : Nat) (hn : n ≤ 1000000) (W : World) : (Instr.makeSlice 22 (.int .i64 (n : Int)) (.int .i64 (n : Int))).run Tryd.prog W = .ok (.slice (some ⟨W.heap.size, 0, none⟩) n n) (W.alloc (.cells ((List.replicate n (0 : Int)).map (Value.int .u8)).toArray 5)) := by
  obtain ⟨i, hi, hz, hs, hb⟩ := info_parts u8_info
  have h := run_make W 22 5 i (.int .u8 0) Tryd.underlying22 hi hz .i64 .i64 n n (by omega) (Int.le_refl _) (by rw [hb]; omega) (by omega)
  rw [hs, Int.toNat_natCast, made_zeros8] at h
  exact h
theorem zero_at {D : List Int} {k m : Nat} (hD : D.length = k) (h : k < m) : ((D ++ List.replicate (m - k) (0 : Int)).map (Value.int .u8)).toArray[k]? = some (.int .u8 0) := by
  subst hD
  rw [List.getElem?_toArray, List.getElem?_map, List.getElem?_append_right (Nat.le_refl _), Nat.sub_self, List.getElem?_replicate, if_pos (by omega)]
  rfl
/-- What Undigits leaves. -/
def UndPost (w : World) (o : Option (List Int)) (e : Ending) (w' : World) : Prop :=
  ((∃ T g, o = some T ∧ e = .returned (.tuple #[.slice (some ⟨g, 0, none⟩) T.length T.length, .int .i64 0]) ∧ w'.heap[g]? = some (.cells (T.map (Value.int .u8)).toArray 5 (0, 0)) ∧ w.heap.size ≤ g) ∨
  (o = none ∧ e = .returned (.tuple #[.slice none 0 0, .int .i64 20]))) ∧ Below w.heap.size w w'
def joinO (D : List Int) : Option (List Int) → Option (List Int)
  | none => none
  | some t => some (D ++ t)
theorem cells_put (D : List Int) (z : Int) (r : Nat) (h : 0 < r) : (((D ++ List.replicate r (0 : Int)).map (Value.int .u8)).toArray).setIfInBounds D.length (.int .u8 z) = (((D ++ [z]) ++ List.replicate (r - 1) (0 : Int)).map (Value.int .u8)).toArray := by
  apply Array.ext'
  rw [Array.toList_setIfInBounds]
  obtain ⟨r, rfl⟩ : ∃ k, r = k + 1 := ⟨r - 1, by omega⟩
  simp [List.replicate_succ]
theorem or_hex8 (x d : Nat) (h1 : x < 16) (hd : d < 16) : bits BinOp.or .u8 ((x : Int) * 16) (d : Int) = (x : Int) * 16 + (d : Int) :=
  bits_join .u8 8 (by decide) wraps_u8 4 _ _ (by omega) (by omega) (by omega) (by omega) (by omega) (by omega)
theorem sundig_any (p : Option Addr) (n cap : Nat) (zs : List Int) (w : World) (hz : Bytes w p zs) (hn : zs.length = n) (hcap : n ≤ cap) (hl : n ≤ 1000000) :
    Calls Tryd.prog 23 #[.slice p n cap] w fun e w' => UndPost w (undig zs) e w' := by
  obtain ⟨o, ho⟩ : ∃ o, undig zs = o := ⟨_, rfl⟩
  rw [ho]
  by_cases hodd : n % 2 = 0
  · obtain ⟨m, rfl⟩ : ∃ m, n = 2 * m := ⟨n / 2, by omega⟩
    have hm : m ≤ 1000000 := by omega
    have mk := fun W => make_u8 m hm W
    have HZ := Lib.hid hz
    have HO := Lib.hid ho
    have HN := Lib.hid hn
    have e1 : ((2 * m : Nat) : Int).tmod 2 = 0 := by rw [Int.tmod_eq_emod_of_nonneg (by omega)]; omega
    have e2 : ((2 * m : Nat) : Int).tdiv 2 = (m : Nat) := by rw [Int.tdiv_eq_ediv_of_nonneg (by omega)]; omega
    clear hz ho hn hodd
    go_enter Tryd.func23, Tryd.ntmps23
    go_wp2
    go_loopw [20] (fun i wr => Below w.heap.size w wr ∧ w.heap.size < wr.heap.size ∧ ∃ (k : Nat) (D : List Int), k ≤ m ∧ i = .int .i64 k ∧ D.length = k ∧ wr.heap[w.heap.size]? = some (.cells ((D ++ List.replicate (m - k) (0 : Int)).map (Value.int .u8)).toArray 5 (0, 0)) ∧ o = joinO D (undig (zs.drop (2 * k)))) (fun i _ => m - (intOf i).toNat)
    case atStart =>
      refine ⟨(Below.refl _ _).alloc (Nat.le_refl _) _, by simp, 0, [], Nat.zero_le _, rfl, rfl, ?_, ?_⟩
      · rw [List.nil_append, Nat.sub_zero, List.map_replicate, List.toArray_replicate]
        exact heap_alloc_new w _
      · rw [← HO.out, Nat.mul_zero, List.drop_zero]
        cases undig zs <;> rfl
    case round =>
      obtain ⟨hb, hs, k, D, hk, rfl, hD, hg, ho⟩ := hrel
      have HB := Lib.hid hb
      have HD := Lib.hid hD
      have HG := Lib.hid hg
      have HE := Lib.hid ho
      clear hb hD hg ho
      by_cases hkm : k < m
      · have hst := undig_step (zs := zs) (k := 2 * k) (by rw [HN.out]; omega)
        obtain ⟨b, off, rfl, hlt, hc⟩ := HZ.out.2 (by intro e; have := HN.out; rw [e] at this; simp at this; omega)
        have hc1 := (HB.out.cell (p := ⟨b, off + 2 * k, none⟩) hlt).trans (hc (2 * k) (by rw [HN.out]; omega))
        have hc2 := (HB.out.cell (p := ⟨b, off + (2 * k + 1), none⟩) hlt).trans (hc (2 * k + 1) (by rw [HN.out]; omega))
        obtain ⟨x0, x1⟩ := HZ.out.1 (2 * k)
        obtain ⟨y0, y1⟩ := HZ.out.1 (2 * k + 1)
        generalize zs.getD (2 * k) 0 = x at hst hc1 x0 x1
        generalize zs.getD (2 * k + 1) 0 = y at hst hc2 y0 y1
        have SX := Lib.hid (fun W => shex_any x W x0 x1)
        have SY := Lib.hid (fun W => shex_any y W y0 y1)
        have hxl := @hexD_lt x
        have hyl := @hexD_lt y
        have HST := Lib.hid hst
        clear hc hst
        cases hx : hexD x with
        | none =>
          have HN0 : Hid (joinO D (undig (zs.drop (2 * k))) = none) := by have e := HST.out; rw [hx] at e; unfold Hid; rw [e]; rfl
          cases hy : hexD y with
          | none =>
            have SX' : Hid (∀ W, Calls Tryd.prog 25 #[.int .u8 x] W fun e w' => e = .returned (.tuple #[.int .u8 0, .bool false]) ∧ Below W.heap.size W w') := by rw [hx] at SX; exact SX
            have SY' : Hid (∀ W, Calls Tryd.prog 25 #[.int .u8 y] W fun e w' => e = .returned (.tuple #[.int .u8 0, .bool false]) ∧ Below W.heap.size W w') := by rw [hy] at SY; exact SY
            clear SX SY hx hy hxl hyl
            go_wp2_with fail
            refine (SX'.out _).mono ?_
            rintro e w1 ⟨rfl, hb1⟩
            have hc2' := (hb1.cell (p := ⟨b, off + (2 * k + 1), none⟩) (Nat.lt_of_lt_of_le hlt HB.out.size)).trans hc2
            have HB1 := Lib.hid (HB.out.trans (hb1.mono HB.out.size))
            have HG1 := Lib.hid (blk_below HG.out hb1 hs)
            have hs1 := Nat.lt_of_lt_of_le hs hb1.size
            clear hb1 hc2 hs
            go_wp2_with fail
            refine (SY'.out _).mono ?_
            rintro e w2 ⟨rfl, hb2⟩
            have HB2 := Lib.hid (HB1.out.trans (hb2.mono HB1.out.size))
            have HG2 := Lib.hid (blk_below HG1.out hb2 hs1)
            have hs2 := Nat.lt_of_lt_of_le hs1 hb2.size
            clear hb2 hc2' hs1
            go_wp2
            go_ret2
            exact ⟨.inr ⟨HE.out.trans HN0.out, rfl⟩, HB2.out⟩
          | some yy =>
            have SX' : Hid (∀ W, Calls Tryd.prog 25 #[.int .u8 x] W fun e w' => e = .returned (.tuple #[.int .u8 0, .bool false]) ∧ Below W.heap.size W w') := by rw [hx] at SX; exact SX
            have SY' : Hid (∀ W, Calls Tryd.prog 25 #[.int .u8 y] W fun e w' => e = .returned (.tuple #[.int .u8 (yy : Nat), .bool true]) ∧ Below W.heap.size W w') := by rw [hy] at SY; exact SY
            clear SX SY hx hy hxl hyl
            go_wp2_with fail
            refine (SX'.out _).mono ?_
            rintro e w1 ⟨rfl, hb1⟩
            have hc2' := (hb1.cell (p := ⟨b, off + (2 * k + 1), none⟩) (Nat.lt_of_lt_of_le hlt HB.out.size)).trans hc2
            have HB1 := Lib.hid (HB.out.trans (hb1.mono HB.out.size))
            have HG1 := Lib.hid (blk_below HG.out hb1 hs)
            have hs1 := Nat.lt_of_lt_of_le hs hb1.size
            clear hb1 hc2 hs
            go_wp2_with fail
            refine (SY'.out _).mono ?_
            rintro e w2 ⟨rfl, hb2⟩
            have HB2 := Lib.hid (HB1.out.trans (hb2.mono HB1.out.size))
            have HG2 := Lib.hid (blk_below HG1.out hb2 hs1)
            have hs2 := Nat.lt_of_lt_of_le hs1 hb2.size
            clear hb2 hc2' hs1
            go_wp2
            go_ret2
            exact ⟨.inr ⟨HE.out.trans HN0.out, rfl⟩, HB2.out⟩
        | some xx =>
          cases hy : hexD y with
          | none =>
            have HN0 : Hid (joinO D (undig (zs.drop (2 * k))) = none) := by have e := HST.out; rw [hx, hy] at e; unfold Hid; rw [e]; rfl
            have SX' : Hid (∀ W, Calls Tryd.prog 25 #[.int .u8 x] W fun e w' => e = .returned (.tuple #[.int .u8 (xx : Nat), .bool true]) ∧ Below W.heap.size W w') := by rw [hx] at SX; exact SX
            have SY' : Hid (∀ W, Calls Tryd.prog 25 #[.int .u8 y] W fun e w' => e = .returned (.tuple #[.int .u8 0, .bool false]) ∧ Below W.heap.size W w') := by rw [hy] at SY; exact SY
            clear SX SY hx hy hxl hyl
            go_wp2_with fail
            refine (SX'.out _).mono ?_
            rintro e w1 ⟨rfl, hb1⟩
            have hc2' := (hb1.cell (p := ⟨b, off + (2 * k + 1), none⟩) (Nat.lt_of_lt_of_le hlt HB.out.size)).trans hc2
            have HB1 := Lib.hid (HB.out.trans (hb1.mono HB.out.size))
            have HG1 := Lib.hid (blk_below HG.out hb1 hs)
            have hs1 := Nat.lt_of_lt_of_le hs hb1.size
            clear hb1 hc2 hs
            go_wp2_with fail
            refine (SY'.out _).mono ?_
            rintro e w2 ⟨rfl, hb2⟩
            have HB2 := Lib.hid (HB1.out.trans (hb2.mono HB1.out.size))
            have HG2 := Lib.hid (blk_below HG1.out hb2 hs1)
            have hs2 := Nat.lt_of_lt_of_le hs1 hb2.size
            clear hb2 hc2' hs1
            go_wp2
            go_ret2
            exact ⟨.inr ⟨HE.out.trans HN0.out, rfl⟩, HB2.out⟩
          | some yy =>
            have HN0 : Hid (joinO D (undig (zs.drop (2 * k))) = joinO (D ++ [((xx * 16 + yy : Nat) : Int)]) (undig (zs.drop (2 * (k + 1))))) := by
              have e := HST.out
              rw [hx, hy] at e
              unfold Hid
              rw [e, show 2 * (k + 1) = 2 * k + 2 by omega]
              cases undig (zs.drop (2 * k + 2)) <;> simp [joinO]
            have HL := Lib.hid (And.intro (hxl hx) (hyl hy))
            have SX' : Hid (∀ W, Calls Tryd.prog 25 #[.int .u8 x] W fun e w' => e = .returned (.tuple #[.int .u8 (xx : Nat), .bool true]) ∧ Below W.heap.size W w') := by rw [hx] at SX; exact SX
            have SY' : Hid (∀ W, Calls Tryd.prog 25 #[.int .u8 y] W fun e w' => e = .returned (.tuple #[.int .u8 (yy : Nat), .bool true]) ∧ Below W.heap.size W w') := by rw [hy] at SY; exact SY
            clear SX SY hx hy hxl hyl
            go_wp2_with fail
            refine (SX'.out _).mono ?_
            rintro e w1 ⟨rfl, hb1⟩
            have hc2' := (hb1.cell (p := ⟨b, off + (2 * k + 1), none⟩) (Nat.lt_of_lt_of_le hlt HB.out.size)).trans hc2
            have HB1 := Lib.hid (HB.out.trans (hb1.mono HB.out.size))
            have HG1 := Lib.hid (blk_below HG.out hb1 hs)
            have hs1 := Nat.lt_of_lt_of_le hs hb1.size
            clear hb1 hc2 hs
            go_wp2_with fail
            refine (SY'.out _).mono ?_
            rintro e w2 ⟨rfl, hb2⟩
            have HB2 := Lib.hid (HB1.out.trans (hb2.mono HB1.out.size))
            have HG2 := Lib.hid (blk_below HG1.out hb2 hs1)
            have hs2 := Nat.lt_of_lt_of_le hs1 hb2.size
            clear hb2 hc2' hs1
            have c9 : w2.cell? ⟨w.heap.size, k, none⟩ = some (.int .u8 0) := (blk_cell HG2.out k).trans (zero_at HD.out (by omega))
            have f9 := blk_frozen HG2.out k
            have O := or_hex8 xx yy HL.out.1 HL.out.2
            have xl := HL.out.1
            have yl := HL.out.2
            go_wp2
            go_roundw
            case rel =>
              refine ⟨HB2.out.setCell (Nat.le_refl _) _, by simp [World.setCell]; exact hs2, k + 1, D ++ [((xx * 16 + yy : Nat) : Int)], by omega, by go_num, by rw [List.length_append, HD.out]; rfl, ?_, HE.out.trans HN0.out⟩
              have := blk_set HG2.out k (.int .u8 ((xx * 16 + yy : Nat) : Int))
              rw [show k = D.length from HD.out.symm, cells_put D _ _ (by rw [HD.out]; omega), HD.out] at this
              rw [show m - (k + 1) = m - k - 1 by omega]
              simpa using this
            case measure => simp [intOf]; omega
      · obtain rfl : m = k := by omega
        have HN0 : Hid (o = some D) := by
          unfold Hid
          rw [HE.out, List.drop_eq_nil_of_le (by rw [HN.out]; exact Nat.le_refl _)]
          simp [undig, joinO]
        go_wp2
        go_ret2
        refine ⟨.inl ⟨D, w.heap.size, HN0.out, by rw [HD.out]; rfl, ?_, Nat.le_refl _⟩, HB.out⟩
        have := HG.out
        simpa using this
  · have HO := Lib.hid (ho.symm.trans (undig_odd (by rw [hn]; exact hodd)))
    have e1 : ((n : Nat) : Int).tmod 2 = 1 := by rw [Int.tmod_eq_emod_of_nonneg (by omega)]; omega
    clear hz ho hn hodd
    go_enter Tryd.func23, Tryd.ntmps23
    go_wp2
    go_ret2
    exact ⟨.inr ⟨HO.out, rfl⟩, Below.refl _ _⟩
end Go.Proofs.YtneadcbadnicfaaDoor
