/-
  The reader of the package idl: a field as it is written. Conditions: those that each theorem names.
-/
import Derived.Test.YtdlfndjgncdgfaaGreatDoorPkS4
import Derived.Test.YtdlfndjgncdgfaaGreatDoorPkS7
import Derived.Test.YtdlfndjgncdgfaaGreatDoorPkS8
import Derived.IntWalk
import Derived.Deep.Cut
import Derived.Deep.RegionWith
namespace Go.Proofs.YtdlfndjgncdgfaaGreatDoor
open Go.ChangeShapes Go.WideShapes Go.ChangeAt Go.RowKit Go.Shelf

def basicL : List ByteArray :=
  [⟨#[98, 111, 111, 108]⟩, ⟨#[105, 56]⟩, ⟨#[105, 49, 54]⟩, ⟨#[105, 51, 50]⟩, ⟨#[105, 54, 52]⟩, ⟨#[117, 56]⟩, ⟨#[117, 49, 54]⟩, ⟨#[117, 51, 50]⟩, ⟨#[117, 54, 52]⟩, ⟨#[]⟩, ⟨#[116, 101, 120, 116]⟩, ⟨#[100, 97, 116, 97]⟩]
theorem basicK_at (s : ByteArray) (k : Nat) (hk : k < 12) (h : basicL[k]'hk = s) (hne : s ≠ ⟨#[]⟩) : basicK s = k + 1 := by
  subst h
  have : ∀ k : Fin 12, basicL[k.val]'k.isLt ≠ ⟨#[]⟩ → basicK (basicL[k.val]'k.isLt) = k.val + 1 := by decide
  exact this ⟨k, hk⟩ hne
theorem basicK_no (s : ByteArray) (h : s = ⟨#[]⟩ ∨ hasS basicL s = false) : basicK s = 0 := by
  rcases h with rfl | h
  · decide
  · have hb : ∀ q, lookN basicN s = some q → q.1 = 0 := by
      intro q hq
      by_cases h0 : q.1 = 0
      · exact h0
      · exfalso
        obtain ⟨p, hp, h1, _⟩ := lookN_memS _ _ _ hq
        have : ∀ p ∈ basicN, p.kind ≠ 0 → hasS basicL p.name = true := by decide
        have h2 := this p hp (by omega)
        simp_all
    unfold basicK
    cases hl : lookN basicN s with
    | none => rfl
    | some q => exact hb q hl
theorem taken_eq (used : List ByteArray) (s : ByteArray) : takenB used s = (decide (basicK s ≠ 0) || decide (s = ⟨#[108, 105, 115, 116]⟩) || hasS used s) := by
  unfold takenB
  congr 1
  rw [basicS, ← lookN_has, basicK]
  cases hl : lookN basicN s with
  | none =>
    have : s ≠ ⟨#[108, 105, 115, 116]⟩ := by
      rintro rfl
      revert hl
      decide
    simp [this]
  | some q =>
    by_cases h0 : q.1 = 0
    · have : s = ⟨#[108, 105, 115, 116]⟩ := by
        obtain ⟨p, hp, h1, rfl⟩ := lookN_memS _ _ _ hl
        have : ∀ p ∈ basicN, p.kind = 0 → p.name = ⟨#[108, 105, 115, 116]⟩ := by decide
        exact this p hp (by omega)
      simp [this]
    · simp [h0]
theorem strL_beq (a b : ByteArray) : (a.toList == b.toList) = decide (a = b) := by
  rw [ByteArray.toList_eq, ByteArray.toList_eq, Bool.eq_iff_iff, beq_iff_eq, decide_eq_true_iff]
  refine ⟨fun h => ?_, fun h => by rw [h]⟩
  obtain ⟨⟨a⟩⟩ := a
  obtain ⟨⟨b⟩⟩ := b
  simp only at h
  rw [h]
theorem ba_yes {a b : ByteArray} (h : a = b) : (a.toList == b.toList) = true := by rw [strL_beq]; exact decide_eq_true h
theorem ba_no {a b : ByteArray} (h : a ≠ b) : (a.toList == b.toList) = false := by rw [strL_beq]; exact decide_eq_false h
theorem list_lit : (⟨#[108, 105, 115, 116]⟩ : ByteArray).toList = [108, 105, 115, 116] := by rw [ByteArray.toList_eq]
theorem ba_nil {a : ByteArray} (h : a = ⟨#[]⟩) : a.toList.isEmpty = true := by
  subst h
  rw [ByteArray.toList_eq]
  rfl
theorem ba_some {a : ByteArray} (h : a ≠ ⟨#[]⟩) : a.toList.isEmpty = false := by
  rw [ByteArray.toList_eq]
  cases hl : a.data.toList with
  | cons x r => rfl
  | nil =>
    exfalso
    obtain ⟨⟨l⟩⟩ := a
    simp only at hl
    subst hl
    exact h rfl
set_option maxRecDepth 100000 in
set_option maxHeartbeats 2000000 in
theorem rbasic_any (s : ByteArray) (w : World) : Calls Tryz.prog 72 #[.string s] w fun e w' => e = .returned (.int .u8 (basicK s : Nat)) ∧ Below w.heap.size w w' := by
  have HB := Lib.hid ((Below.refl w.heap.size w).alloc (Nat.le_refl _) (.cells #[Value.string ⟨#[98, 111, 111, 108]⟩, Value.string ⟨#[105, 56]⟩, Value.string ⟨#[105, 49, 54]⟩, Value.string ⟨#[105, 51, 50]⟩, Value.string ⟨#[105, 54, 52]⟩, Value.string ⟨#[117, 56]⟩, Value.string ⟨#[117, 49, 54]⟩, Value.string ⟨#[117, 51, 50]⟩, Value.string ⟨#[117, 54, 52]⟩, Value.string ⟨#[]⟩, Value.string ⟨#[116, 101, 120, 116]⟩, Value.string ⟨#[100, 97, 116, 97]⟩] 9))
  have HN := Lib.hid (heap_alloc_new w (.cells #[Value.string ⟨#[98, 111, 111, 108]⟩, Value.string ⟨#[105, 56]⟩, Value.string ⟨#[105, 49, 54]⟩, Value.string ⟨#[105, 51, 50]⟩, Value.string ⟨#[105, 54, 52]⟩, Value.string ⟨#[117, 56]⟩, Value.string ⟨#[117, 49, 54]⟩, Value.string ⟨#[117, 51, 50]⟩, Value.string ⟨#[117, 54, 52]⟩, Value.string ⟨#[]⟩, Value.string ⟨#[116, 101, 120, 116]⟩, Value.string ⟨#[100, 97, 116, 97]⟩] 9))
  have HK := Lib.hid (basicK_at s)
  have HO := Lib.hid (basicK_no s)
  have HC := Lib.hid (show ∀ k (hk : k < 12), (#[Value.string ⟨#[98, 111, 111, 108]⟩, Value.string ⟨#[105, 56]⟩, Value.string ⟨#[105, 49, 54]⟩, Value.string ⟨#[105, 51, 50]⟩, Value.string ⟨#[105, 54, 52]⟩, Value.string ⟨#[117, 56]⟩, Value.string ⟨#[117, 49, 54]⟩, Value.string ⟨#[117, 51, 50]⟩, Value.string ⟨#[117, 54, 52]⟩, Value.string ⟨#[]⟩, Value.string ⟨#[116, 101, 120, 116]⟩, Value.string ⟨#[100, 97, 116, 97]⟩] : Array Value)[k]? = some (.string (basicL[k]'hk)) from fun k hk => by
    show (basicL.map Value.string).toArray[k]? = _
    rw [List.getElem?_toArray, List.getElem?_map, List.getElem?_eq_getElem (show k < basicL.length from hk)]
    rfl)
  obtain ⟨kk, hkk⟩ : ∃ kk, basicK s = kk := ⟨_, rfl⟩
  rw [hkk] at HK HO ⊢
  clear hkk
  go_enter Tryz.func72, Tryz.ntmps72
  go_wp2
  generalize w.alloc (.cells #[Value.string ⟨#[98, 111, 111, 108]⟩, Value.string ⟨#[105, 56]⟩, Value.string ⟨#[105, 49, 54]⟩, Value.string ⟨#[105, 51, 50]⟩, Value.string ⟨#[105, 54, 52]⟩, Value.string ⟨#[117, 56]⟩, Value.string ⟨#[117, 49, 54]⟩, Value.string ⟨#[117, 51, 50]⟩, Value.string ⟨#[117, 54, 52]⟩, Value.string ⟨#[]⟩, Value.string ⟨#[116, 101, 120, 116]⟩, Value.string ⟨#[100, 97, 116, 97]⟩] 9) = W at *
  go_loop [4] (fun i => ∃ k : Nat, k ≤ 12 ∧ i = .int .i64 k ∧ (s = ⟨#[]⟩ ∨ hasS (basicL.take k) s = false)) (fun i => 12 - (intOf i).toNat)
  case atStart => exact ⟨0, Nat.zero_le _, rfl, .inr rfl⟩
  case round =>
    obtain ⟨k, hk, rfl, hi⟩ := hrel
    have hlt := blk_lt HN.out
    by_cases hkl : k < 12
    · have x0 : W.cell? ⟨w.heap.size, k, none⟩ = some (.string (basicL[k]'hkl)) := (blk_cell HN.out k).trans (HC.out k hkl)
      have hst := has_take_succ basicL s k hkl
      have HD := Lib.hid (HK.out k hkl)
      generalize basicL[k]'hkl = q at *
      by_cases hs : s = ⟨#[]⟩
      · have t1 : s.toList.isEmpty = true := ba_nil hs
        have t2 : (!s.toList.isEmpty) = false := by rw [t1]; rfl
        have HS := Lib.hid hs
        clear hs hi hst
        by_cases hq : q = s
        · have t3 : (q.toList == s.toList) = true := ba_yes hq
          clear hq
          go_wp2
          go_round
          case rel => exact ⟨k + 1, by omega, by go_num, .inl HS.out⟩
          case measure => simp [intOf]; omega
        · have t3 : (q.toList == s.toList) = false := ba_no hq
          clear hq
          go_wp2
          go_round
          case rel => exact ⟨k + 1, by omega, by go_num, .inl HS.out⟩
          case measure => simp [intOf]; omega
      · have t1 : s.toList.isEmpty = false := ba_some hs
        have t2 : (!s.toList.isEmpty) = true := by rw [t1]; rfl
        by_cases hq : q = s
        · have HE := Lib.hid (HD.out hq hs)
          have t3 : (q.toList == s.toList) = true := ba_yes hq
          have hw : IntKind.u8.wrap ((k : Int) + 1) = ((k + 1 : Nat) : Int) := IntWalk.u8_in _ ⟨by omega, by omega⟩
          clear hq hs hi hst
          go_wp2
          go_ret
          exact ⟨ret_int (show ((k : Int) + 1) = ((kk : Nat) : Int) by rw [HE.out]; omega), HB.out⟩
        · have HI := Lib.hid (show hasS (basicL.take (k + 1)) s = false by rw [hst, (hi.resolve_left hs)]; rw [Bool.false_or]; exact decide_eq_false fun e => hq e.symm)
          have t3 : (q.toList == s.toList) = false := ba_no hq
          clear hq hs hi hst
          go_wp2
          go_round
          case rel => exact ⟨k + 1, by omega, by go_num, .inr HI.out⟩
          case measure => simp [intOf]; omega
    · obtain rfl : k = 12 := by omega
      have HE := Lib.hid (HO.out hi)
      clear hi
      go_wp2
      go_ret
      exact ⟨by rw [HE.out]; rfl, HB.out⟩
theorem rtaken_any (used : List ByteArray) (v : Value) (base : Nat) (w : World) (h : w.ownsRow base 9 1 v used.length (strsCells used)) (s : ByteArray) :
    Calls Tryz.prog 39 #[v, .string s] w fun e w' => e = .returned (.bool (takenB used s)) ∧ Below w.heap.size w w' := by
  obtain ⟨a, c, rfl⟩ := ownsRow_form h
  have hfew := row_few h
  have HR := Lib.hid h
  have HT := Lib.hid (taken_eq used s)
  obtain ⟨r, hr⟩ : ∃ r, takenB used s = r := ⟨_, rfl⟩
  rw [hr] at HT ⊢
  clear h hr
  go_enter Tryz.func39, Tryz.ntmps39
  go_wp2_with fail
  refine (rbasic_any s w).mono ?_
  rintro e W1 ⟨rfl, hb⟩
  have HB := Lib.hid hb
  have HR1 := Lib.hid (row_keep hb HR.out)
  clear hb HR
  by_cases hk : basicK s = 0
  · have HT2 := Lib.hid (show r = (decide (s = ⟨#[108, 105, 115, 116]⟩) || hasS used s) by rw [HT.out, hk]; rfl)
    rw [hk]
    clear hk HT
    by_cases hl : s = ⟨#[108, 105, 115, 116]⟩
    · have t1 : (s.toList == [108, 105, 115, 116]) = true := by rw [← list_lit]; exact ba_yes hl
      have HT3 := Lib.hid (show r = true by rw [HT2.out, decide_eq_true hl]; rfl)
      clear hl HT2
      go_wp2
      go_ret
      exact ⟨ret_bool HT3.out.symm, HB.out⟩
    · have t1 : (s.toList == [108, 105, 115, 116]) = false := by rw [← list_lit]; exact ba_no hl
      have HT3 := Lib.hid (show r = hasS used s by rw [HT2.out, decide_eq_false hl]; rfl)
      clear hl HT2
      go_wp2
      go_loop [5] (fun i => ∃ k : Nat, k ≤ used.length ∧ i = .int .i64 k ∧ hasS (used.take k) s = false) (fun i => used.length - (intOf i).toNat)
      case atStart => exact ⟨0, Nat.zero_le _, rfl, rfl⟩
      case round =>
        obtain ⟨k, hk, rfl, hi⟩ := hrel
        by_cases hkl : k < used.length
        · obtain ⟨g, cc, hv, hcc, hg, hcell⟩ := row_el strCells 1 (fun _ => rfl) HR1.out k hkl
          obtain ⟨rfl, rfl⟩ := slice_inj hv
          have x0 : W1.cell? ⟨g, k, none⟩ = some (.string used[k]) := by have := hcell 0 (by omega); rw [Nat.mul_one, Nat.add_zero] at this; exact this
          have hst := has_take_succ used s k hkl
          have HD := Lib.hid (has_take_true used s k hkl)
          generalize used[k] = q at *
          by_cases hq : q = s
          · have HE := Lib.hid (HT3.out.trans (HD.out hq))
            have t3 : (q.toList == s.toList) = true := ba_yes hq
            clear hq hi hst hcell hv
            go_wp2
            go_ret
            exact ⟨ret_bool HE.out.symm, HB.out⟩
          · have HI := Lib.hid (show hasS (used.take (k + 1)) s = false by rw [hst, hi, Bool.false_or]; exact decide_eq_false fun e => hq e.symm)
            have t3 : (q.toList == s.toList) = false := ba_no hq
            clear hq hi hst hcell hv
            go_wp2
            go_round
            case rel => exact ⟨k + 1, by omega, by go_num, HI.out⟩
            case measure => simp [intOf]; omega
        · obtain rfl : k = used.length := by omega
          have HE := Lib.hid (show r = false from HT3.out.trans (by rw [List.take_length] at hi; exact hi))
          clear hi
          go_wp2
          go_ret
          exact ⟨ret_bool HE.out.symm, HB.out⟩
  · have HT2 := Lib.hid (show r = true by rw [HT.out, decide_eq_true hk]; rfl)
    have t1 : ((basicK s : Int) == 0) = false := by simp; omega
    have t2 : ((basicK s : Int) != 0) = true := by simp; omega
    generalize basicK s = kk at *
    clear hk HT
    go_wp2
    go_ret
    exact ⟨ret_bool HT2.out.symm, HB.out⟩
end Go.Proofs.YtdlfndjgncdgfaaGreatDoor
namespace Go.Proofs.YtdlfndjgncdgfaaGreatDoor
open Go.ChangeShapes Go.WideShapes Go.ChangeAt Go.RowKit Go.Shelf

def fieldV (f : RField) : Value := .agg #[.string (strOfNums f.name), .int .i64 f.place, .string (strOfNums f.ty.name), .int .i64 f.ty.lists, .int .i64 f.ty.place, .int .i64 f.dflt.kind, .string (strOfNums f.dflt.text), .int .i64 f.dflt.place]
def field2 (t : Tok) (r : List Tok) : Res RField := (wantR [58] r).bind fun _ r2 => (tyR r2).bind fun ty r3 => (dfltR r3).bind fun d r4 => (wantR [59] r4).bind fun _ r5 => .ok ⟨t.text, t.place, ty, d⟩ r5
def field3 (t : Tok) (r : List Tok) : Res RField := (tyR r).bind fun ty r3 => (dfltR r3).bind fun d r4 => (wantR [59] r4).bind fun _ r5 => .ok ⟨t.text, t.place, ty, d⟩ r5
def field4 (t : Tok) (ty : RTy) (r : List Tok) : Res RField := (dfltR r).bind fun d r4 => (wantR [59] r4).bind fun _ r5 => .ok ⟨t.text, t.place, ty, d⟩ r5
def field5 (t : Tok) (ty : RTy) (d : Tok) (r : List Tok) : Res RField := (wantR [59] r).bind fun _ r5 => .ok ⟨t.text, t.place, ty, d⟩ r5
theorem exc_set567 (w : World) (g : Nat) (x y z : Value) : Exc g w.heap.size w (((w.setCell ⟨g, 5, none⟩ x).setCell ⟨g, 6, none⟩ y).setCell ⟨g, 7, none⟩ z) :=
  ((exc_set w g 5 x).setCell (p := ⟨g, 6, none⟩) (.inl rfl) y).setCell (p := ⟨g, 7, none⟩) (.inl rfl) z
theorem blk_set567 {w : World} {g : Nat} {a b c d e f g' h : Value} {t : TypeId} (hb : w.heap[g]? = some (.cells #[a, b, c, d, e, f, g', h] t (0, 0))) (x y z : Value) :
    (((w.setCell ⟨g, 5, none⟩ x).setCell ⟨g, 6, none⟩ y).setCell ⟨g, 7, none⟩ z).heap[g]? = some (.cells #[a, b, c, d, e, x, y, z] t (0, 0)) := by
  have k0 : (w.setCell ⟨g, 5, none⟩ x).heap[g]? = some (.cells #[a, b, c, d, e, x, g', h] t (0, 0)) := (blk_set hb 5 x).trans rfl
  have k1 : ((w.setCell ⟨g, 5, none⟩ x).setCell ⟨g, 6, none⟩ y).heap[g]? = some (.cells #[a, b, c, d, e, x, y, h] t (0, 0)) := (blk_set k0 6 y).trans rfl
  exact (blk_set k1 7 z).trans rfl
theorem field_end {w W : World} {R g c : Nat} {l r r9 : List Tok} {F : Int × Nat} {ok : Bool} {t d : Tok} {ty : RTy} {x : Res RField} (hx : x = field5 t ty d r) (hs : Says (wantR [59] r) () r9 F ok) (hr : Rd W R g c l r9 F) (he : Exc R w.heap.size w W) :
    PostR fieldV R g c l w x (.returned (.tuple #[fieldV ⟨t.text, t.place, ty, d⟩, .bool ok])) W := by
  refine ⟨⟨t.text, t.place, ty, d⟩, r9, F, ok, rfl, hr, he, ?_⟩
  rw [hx]
  unfold field5
  generalize wantR [59] r = q at *
  obtain ⟨a, r'⟩ | ⟨cc, pp⟩ := q
  · obtain ⟨h1, _, h3, h4⟩ := hs
    exact ⟨h1, rfl, h3, h4⟩
  · exact hs
set_option maxRecDepth 100000 in
set_option maxHeartbeats 4000000 in
theorem field_any (w : World) (R g c : Nat) (l r : List Tok) (h : Rd w R g c l r (0, 0)) :
    Calls Tryz.prog 142 #[.pointer (some ⟨R, 0, none⟩)] w (PostR fieldV R g c l w (fieldR r)) := by
  have hR := blk_lt h.blk
  have hg := h.glt
  have hbA : Below w.heap.size w (w.alloc (.cells #[.string ⟨#[]⟩, .int .i64 0, .string ⟨#[]⟩, .int .i64 0, .int .i64 0, .int .i64 0, .string ⟨#[]⟩, .int .i64 0] 124)) := (Below.refl _ _).alloc (Nat.le_refl _) _
  have HX0 := Lib.hid (Exc.of_below (R := R) hbA)
  have HZ0 := Lib.hid (heap_alloc_new w (.cells #[.string ⟨#[]⟩, .int .i64 0, .string ⟨#[]⟩, .int .i64 0, .int .i64 0, .int .i64 0, .string ⟨#[]⟩, .int .i64 0] 124))
  have HR0 := Lib.hid (h.keep hbA)
  have HE0 : Hid (fieldR r = (labelR r).bind field2) := Lib.hid rfl
  clear h hbA
  go_enter Tryz.func142, Tryz.ntmps142
  go_wp2_with fail
  refine (label_any _ R g c l r HR0.out).mono ?_
  rintro e W1 ⟨a1, r1, F1, ok1, rfl, hr1, hx1, hs1⟩
  have HR1 := Lib.hid hr1
  have HX1 := Lib.hid (HX0.out.thenB (Nat.le_refl _) hx1)
  have HZ1 := Lib.hid (blk_exc HZ0.out hx1 (blk_lt HZ0.out) (by first | omega | (have := HX0.out.size; omega)))
  have HS1 := Lib.hid hs1
  clear hr1 hx1 hs1 HR0 HX0 HZ0
  unfold tokV
  generalize labelR r = q at *
  obtain ⟨a', q'⟩ | ⟨cc, pp⟩ := q
  · obtain ⟨rfl, rfl, rfl, rfl⟩ := HS1.out
    have HE1 := Lib.hid (HE0.out.trans (rfl : _ = (wantR [58] r1).bind fun _ r2 => field3 a1 r2))
    clear HS1 HE0
    go_wp2_with fail
    have HR2 := Lib.hid (HR1.out.alloc (.cells #[.int .i64 a1.kind, .string (strOfNums a1.text), .int .i64 a1.place] 108))
    have HX2 := Lib.hid (HX1.out.alloc HX1.out.size (.cells #[.int .i64 a1.kind, .string (strOfNums a1.text), .int .i64 a1.place] 108))
    have HL2 := Lib.hid (heap_alloc_new W1 (.cells #[.int .i64 a1.kind, .string (strOfNums a1.text), .int .i64 a1.place] 108))
    have HZ2 := Lib.hid (blk_alloc HZ1.out (.cells #[.int .i64 a1.kind, .string (strOfNums a1.text), .int .i64 a1.place] 108))
    have hLlt : w.heap.size < W1.heap.size := blk_lt HZ1.out
    clear HR1 HX1 HZ1
    generalize hW2 : W1.alloc (.cells #[.int .i64 a1.kind, .string (strOfNums a1.text), .int .i64 a1.place] 108) = W2 at *
    clear hW2
    generalize hBL : W1.heap.size = BL at *
    clear hBL
    refine (want_any _ R g c l r1 ⟨#[58]⟩ [58] (by kernel_rfl) HR2.out).mono ?_
    rintro e W3 ⟨r3, F3, ok3, rfl, hr3, hx3, hs3⟩
    have HR3 := Lib.hid hr3
    have HX3 := Lib.hid (HX2.out.thenB (Nat.le_refl _) hx3)
    have HZ3 := Lib.hid (blk_exc HZ2.out hx3 (blk_lt HZ2.out) (by first | omega | (have := HX2.out.size; omega)))
    have HL3 := Lib.hid (blk_exc HL2.out hx3 (blk_lt HL2.out) (by first | omega | (have := HX2.out.size; omega)))
    have HS3 := Lib.hid hs3
    clear hr3 hx3 hs3 HR2 HX2 HZ2 HL2
    generalize wantR [58] r1 = q at *
    obtain ⟨a', q'⟩ | ⟨cc, pp⟩ := q
    · obtain ⟨rfl, rfl, rfl, rfl⟩ := HS3.out
      have HE3 := Lib.hid (HE1.out.trans (rfl : _ = (tyR r3).bind fun ty r4 => field4 a1 ty r4))
      clear HS3 HE1
      go_wp2_with fail
      refine (written_any _ R g c l r3 HR3.out).mono ?_
      rintro e W4 ⟨a4, r4, F4, ok4, rfl, hr4, hx4, hs4⟩
      have HR4 := Lib.hid hr4
      have HX4 := Lib.hid (HX3.out.thenB (Nat.le_refl _) hx4)
      have HZ4 := Lib.hid (blk_exc HZ3.out hx4 (blk_lt HZ3.out) (by first | omega | (have := HX3.out.size; omega)))
      have HL4 := Lib.hid (blk_exc HL3.out hx4 (blk_lt HL3.out) (by first | omega | (have := HX3.out.size; omega)))
      have HS4 := Lib.hid hs4
      clear hr4 hx4 hs4 HR3 HX3 HZ3 HL3
      unfold tyV
      generalize tyR r3 = q at *
      obtain ⟨a', q'⟩ | ⟨cc, pp⟩ := q
      · obtain ⟨rfl, rfl, rfl, rfl⟩ := HS4.out
        have HE4 := Lib.hid (HE3.out.trans (rfl : _ = (if isT 4 [61] r4 = true then valueR r4.tail else .ok noTok r4).bind fun d r5 => field5 a1 a4 d r5))
        clear HS4 HE3
        obtain ⟨hl4, l0, l1, l2, _⟩ := blk3 HL4.out
        go_wp2_with fail
        have HR6 := Lib.hid ((HR4.out.alloc (.cells #[.string (strOfNums a4.name), .int .i64 a4.lists, .int .i64 a4.place] 122)).alloc (.cells #[.string (strOfNums a1.text), .int .i64 a1.place, .string (strOfNums a4.name), .int .i64 a4.lists, .int .i64 a4.place, .int .i64 0, .string ⟨#[]⟩, .int .i64 0] 124))
        have HX6 := Lib.hid ((HX4.out.alloc HX4.out.size (.cells #[.string (strOfNums a4.name), .int .i64 a4.lists, .int .i64 a4.place] 122)).alloc (HX4.out.alloc HX4.out.size (.cells #[.string (strOfNums a4.name), .int .i64 a4.lists, .int .i64 a4.place] 122)).size (.cells #[.string (strOfNums a1.text), .int .i64 a1.place, .string (strOfNums a4.name), .int .i64 a4.lists, .int .i64 a4.place, .int .i64 0, .string ⟨#[]⟩, .int .i64 0] 124))
        have HF6 := Lib.hid (show ((W4.alloc (.cells #[.string (strOfNums a4.name), .int .i64 a4.lists, .int .i64 a4.place] 122)).alloc (.cells #[.string (strOfNums a1.text), .int .i64 a1.place, .string (strOfNums a4.name), .int .i64 a4.lists, .int .i64 a4.place, .int .i64 0, .string ⟨#[]⟩, .int .i64 0] 124)).heap[W4.heap.size + 1]? = some (.cells #[.string (strOfNums a1.text), .int .i64 a1.place, .string (strOfNums a4.name), .int .i64 a4.lists, .int .i64 a4.place, .int .i64 0, .string ⟨#[]⟩, .int .i64 0] 124) from by have := heap_alloc_new (W4.alloc (.cells #[.string (strOfNums a4.name), .int .i64 a4.lists, .int .i64 a4.place] 122)) (.cells #[.string (strOfNums a1.text), .int .i64 a1.place, .string (strOfNums a4.name), .int .i64 a4.lists, .int .i64 a4.place, .int .i64 0, .string ⟨#[]⟩, .int .i64 0] 124); rwa [World.size_alloc] at this)
        have HZ6 := Lib.hid (blk_alloc (blk_alloc HZ4.out (.cells #[.string (strOfNums a4.name), .int .i64 a4.lists, .int .i64 a4.place] 122)) (.cells #[.string (strOfNums a1.text), .int .i64 a1.place, .string (strOfNums a4.name), .int .i64 a4.lists, .int .i64 a4.place, .int .i64 0, .string ⟨#[]⟩, .int .i64 0] 124))
        have hFlt : w.heap.size < W4.heap.size + 1 := Nat.lt_succ_of_lt (blk_lt HZ4.out)
        clear HR4 HX4 HZ4 HL4 l0 l1 l2 hl4
        generalize hW6 : (W4.alloc (.cells #[.string (strOfNums a4.name), .int .i64 a4.lists, .int .i64 a4.place] 122)).alloc (.cells #[.string (strOfNums a1.text), .int .i64 a1.place, .string (strOfNums a4.name), .int .i64 a4.lists, .int .i64 a4.place, .int .i64 0, .string ⟨#[]⟩, .int .i64 0] 124) = W6 at *
        clear hW6
        generalize hBF : W4.heap.size + 1 = BF at *
        clear hBF
        generalize W4.heap.size = BT at *
        refine (sign_any _ R g c l r4 (0, 0) ⟨#[61]⟩ [61] (by kernel_rfl) HR6.out).mono ?_
        rintro e W7 ⟨rfl, hr7, hx7⟩
        have HX7 := Lib.hid (HX6.out.thenB (Nat.le_refl _) hx7)
        have HZ7 := Lib.hid (blk_exc HZ6.out hx7 (blk_lt HZ6.out) (by omega))
        have HF7 := Lib.hid (blk_exc HF6.out hx7 (blk_lt HF6.out) (by omega))
        have HR7 := Lib.hid hr7
        clear hr7 hx7 HR6 HX6 HZ6 HF6
        generalize isT 4 [61] r4 = b at *
        cases b
        · have HE7 := Lib.hid (HE4.out.trans (rfl : _ = field5 a1 a4 noTok r4))
          rw [if_neg (by decide)] at HR7
          clear HE4
          go_wp2_with fail
          have HRd := Lib.hid (HR7.out.keep ((Below.refl _ _).drew))
          have HXd := Lib.hid (Exc.drew HX7.out)
          have HZd := Lib.hid (show W7.drew.heap[w.heap.size]? = _ from HZ7.out)
          have HFd := Lib.hid (show W7.drew.heap[BF]? = _ from HF7.out)
          obtain ⟨hf7, ⟨f0, f1, f2, f3, f4, f5, f6, f7⟩, _⟩ := blk8 HFd.out
          clear HR7 HX7 HZ7 HF7
          go_region_with (go_at_call 122; refine (want_any _ R g c l r4 ⟨#[59]⟩ [59] (by kernel_rfl) HRd.out).mono ?_; rintro e WA ⟨rA, FA, okA, rfl, hrA, hxA, hsA⟩; have HRA := Lib.hid hrA; have HSA := Lib.hid hsA; have HXA := Lib.hid (HXd.out.thenB (Nat.le_refl _) hxA); have HZA := Lib.hid (blk_exc HZd.out hxA (blk_lt HZd.out) (by omega)); obtain ⟨hfA, ⟨k0, k1, k2, k3, k4, k5, k6, k7⟩, _⟩ := blk8 (blk_exc HFd.out hxA (blk_lt HFd.out) (by omega)); obtain ⟨hz, ⟨z0, z1, z2, z3, z4, z5, z6, z7⟩, y0, y1, y2, y3, y4, y5, y6, y7⟩ := blk8 HZA.out; clear hrA hxA hsA)
          all_goals
            go_wp2
            refine post_gen (End8 w R g c l rA FA 124 (.string (strOfNums a1.text)) (.int .i64 a1.place) (.string (strOfNums a4.name)) (.int .i64 a4.lists) (.int .i64 a4.place) (.int .i64 0) (.string ⟨#[]⟩) (.int .i64 0)) (end8 HZA.out HXA.out HRA.out hR hg _ _ _ _ _ _ _ _) ?_
            rintro Wf ⟨e1, e2, e3⟩
            obtain ⟨_, ⟨c0, c1, c2, c3, c4, c5, c6, c7⟩, _⟩ := blk8 e1
            exact bodyPost_ret (v := .tuple #[.agg #[.string (strOfNums a1.text), .int .i64 a1.place, .string (strOfNums a4.name), .int .i64 a4.lists, .int .i64 a4.place, .int .i64 0, .string ⟨#[]⟩, .int .i64 0], .bool okA]) (by simp [results, Tryz.results142, go_sem, c0, c1, c2, c3, c4, c5, c6, c7]) rfl (field_end (HE7.out) HSA.out e3 e2)
        · have HE7 := Lib.hid (HE4.out.trans (rfl : _ = (valueR r4.tail).bind fun d r5 => field5 a1 a4 d r5))
          rw [if_pos rfl] at HR7
          clear HE4
          go_wp2_with fail
          refine (value_any _ R g c l r4.tail HR7.out).mono ?_
          rintro e W8 ⟨a8, r8, F8, ok8, rfl, hr8, hx8, hs8⟩
          have HR8 := Lib.hid hr8
          have HX8 := Lib.hid (HX7.out.thenB (Nat.le_refl _) hx8)
          have HZ8 := Lib.hid (blk_exc HZ7.out hx8 (blk_lt HZ7.out) (by first | omega | (have := HX7.out.size; omega)))
          have HF8 := Lib.hid (blk_exc HF7.out hx8 (blk_lt HF7.out) (by first | omega | (have := HX7.out.size; omega)))
          have HS8 := Lib.hid hs8
          clear hr8 hx8 hs8 HR7 HX7 HZ7 HF7
          unfold tokV
          obtain ⟨hf8, ⟨f0, f1, f2, f3, f4, f5, f6, f7⟩, g0, g1, g2, g3, g4, g5, g6, g7⟩ := blk8 HF8.out
          generalize valueR r4.tail = q at *
          obtain ⟨a', q'⟩ | ⟨cc, pp⟩ := q
          · obtain ⟨rfl, rfl, rfl, rfl⟩ := HS8.out
            have HE8 := Lib.hid (HE7.out.trans (rfl : _ = field5 a1 a4 a8 r8))
            clear HS8 HE7
            skip
            go_wp2_with fail
            have HRf := Lib.hid (HR8.out.other (exc_set567 W8 BF (.int .i64 a8.kind) (.string (strOfNums a8.text)) (.int .i64 a8.place)) (by omega) (by omega))
            have HXf := Lib.hid (((HX8.out.set1 (Nat.le_of_lt hFlt) 5 (.int .i64 a8.kind)).set1 (Nat.le_of_lt hFlt) 6 (.string (strOfNums a8.text))).set1 (Nat.le_of_lt hFlt) 7 (.int .i64 a8.place))
            have HZf := Lib.hid (blk_exc HZ8.out (exc_set567 W8 BF (.int .i64 a8.kind) (.string (strOfNums a8.text)) (.int .i64 a8.place)) (blk_lt HZ8.out) (by omega))
            have HFf := Lib.hid (blk_set567 HF8.out (.int .i64 a8.kind) (.string (strOfNums a8.text)) (.int .i64 a8.place))
            clear HR8 HX8 HZ8 HF8 hf8 f0 f1 f2 f3 f4 f5 f6 f7 g0 g1 g2 g3 g4 g5 g6 g7
            generalize ((W8.setCell ⟨BF, 5, none⟩ (.int .i64 a8.kind)).setCell ⟨BF, 6, none⟩ (.string (strOfNums a8.text))).setCell ⟨BF, 7, none⟩ (.int .i64 a8.place) = W9 at *
            have HR9 := HRf
            have HX9 := HXf
            have HZ9 := HZf
            have HF9 := HFf
            clear HRf HXf HZf HFf
            have HE9 := Lib.hid HE8.out
            have HRd := Lib.hid (HR9.out.keep ((Below.refl _ _).drew))
            have HXd := Lib.hid (Exc.drew HX9.out)
            have HZd := Lib.hid (show W9.drew.heap[w.heap.size]? = _ from HZ9.out)
            have HFd := Lib.hid (show W9.drew.heap[BF]? = _ from HF9.out)
            obtain ⟨hf7, ⟨f0, f1, f2, f3, f4, f5, f6, f7⟩, _⟩ := blk8 HFd.out
            clear HR9 HX9 HZ9 HF9
            go_region_with (go_at_call 122; refine (want_any _ R g c l r8 ⟨#[59]⟩ [59] (by kernel_rfl) HRd.out).mono ?_; rintro e WA ⟨rA, FA, okA, rfl, hrA, hxA, hsA⟩; have HRA := Lib.hid hrA; have HSA := Lib.hid hsA; have HXA := Lib.hid (HXd.out.thenB (Nat.le_refl _) hxA); have HZA := Lib.hid (blk_exc HZd.out hxA (blk_lt HZd.out) (by omega)); obtain ⟨hfA, ⟨k0, k1, k2, k3, k4, k5, k6, k7⟩, _⟩ := blk8 (blk_exc HFd.out hxA (blk_lt HFd.out) (by omega)); obtain ⟨hz, ⟨z0, z1, z2, z3, z4, z5, z6, z7⟩, y0, y1, y2, y3, y4, y5, y6, y7⟩ := blk8 HZA.out; clear hrA hxA hsA)
            all_goals
              go_wp2
              refine post_gen (End8 w R g c l rA FA 124 (.string (strOfNums a1.text)) (.int .i64 a1.place) (.string (strOfNums a4.name)) (.int .i64 a4.lists) (.int .i64 a4.place) (.int .i64 a8.kind) (.string (strOfNums a8.text)) (.int .i64 a8.place)) (end8 HZA.out HXA.out HRA.out hR hg _ _ _ _ _ _ _ _) ?_
              rintro Wf ⟨e1, e2, e3⟩
              obtain ⟨_, ⟨c0, c1, c2, c3, c4, c5, c6, c7⟩, _⟩ := blk8 e1
              exact bodyPost_ret (v := .tuple #[.agg #[.string (strOfNums a1.text), .int .i64 a1.place, .string (strOfNums a4.name), .int .i64 a4.lists, .int .i64 a4.place, .int .i64 a8.kind, .string (strOfNums a8.text), .int .i64 a8.place], .bool okA]) (by simp [results, Tryz.results142, go_sem, c0, c1, c2, c3, c4, c5, c6, c7]) rfl (field_end (HE9.out) HSA.out e3 e2)
          · obtain ⟨rfl, rfl⟩ := HS8.out
            have HE := Lib.hid (HE7.out.trans (rfl : _ = Res.no cc pp))
            go_upto_region 11 with (fail)
            have HRf := Lib.hid (HR8.out.other (exc_set567 W8 BF (.int .i64 a8.kind) (.string (strOfNums a8.text)) (.int .i64 a8.place)) (by omega) (by omega))
            have HXf := Lib.hid (((HX8.out.set1 (Nat.le_of_lt hFlt) 5 (.int .i64 a8.kind)).set1 (Nat.le_of_lt hFlt) 6 (.string (strOfNums a8.text))).set1 (Nat.le_of_lt hFlt) 7 (.int .i64 a8.place))
            have HZf := Lib.hid (blk_exc HZ8.out (exc_set567 W8 BF (.int .i64 a8.kind) (.string (strOfNums a8.text)) (.int .i64 a8.place)) (blk_lt HZ8.out) (by omega))
            have HFf := Lib.hid (blk_set567 HF8.out (.int .i64 a8.kind) (.string (strOfNums a8.text)) (.int .i64 a8.place))
            clear HR8 HX8 HZ8 HF8 hf8 f0 f1 f2 f3 f4 f5 f6 f7 g0 g1 g2 g3 g4 g5 g6 g7
            generalize ((W8.setCell ⟨BF, 5, none⟩ (.int .i64 a8.kind)).setCell ⟨BF, 6, none⟩ (.string (strOfNums a8.text))).setCell ⟨BF, 7, none⟩ (.int .i64 a8.place) = W9 at *
            have HR8 := HRf
            have HX8 := HXf
            have HZ8 := HZf
            clear HRf HXf HZf HFf
            obtain ⟨hz, ⟨z0, z1, z2, z3, z4, z5, z6, z7⟩, y0, y1, y2, y3, y4, y5, y6, y7⟩ := blk8 HZ8.out
            go_wp2
            refine post_gen (End8 w R g c l r8 (cc, pp) 124 (.string ⟨#[]⟩) (.int .i64 0) (.string ⟨#[]⟩) (.int .i64 0) (.int .i64 0) (.int .i64 0) (.string ⟨#[]⟩) (.int .i64 0)) (end8 HZ8.out HX8.out HR8.out hR hg _ _ _ _ _ _ _ _) ?_
            rintro Wf ⟨f1, f2, f3⟩
            obtain ⟨_, ⟨c0, c1, c2, c3, c4, c5, c6, c7⟩, _⟩ := blk8 f1
            exact bodyPost_ret (v := .tuple #[.agg #[.string ⟨#[]⟩, .int .i64 0, .string ⟨#[]⟩, .int .i64 0, .int .i64 0, .int .i64 0, .string ⟨#[]⟩, .int .i64 0], .bool false]) (by simp [results, Tryz.results142, go_sem, c0, c1, c2, c3, c4, c5, c6, c7]) rfl ⟨noField, r8, _, false, rfl, f3, f2, by rw [HE.out]; exact ⟨rfl, rfl⟩⟩
      · obtain ⟨rfl, rfl⟩ := HS4.out
        have HE := Lib.hid (HE3.out.trans (rfl : _ = Res.no cc pp))
        go_upto_region 6 with (fail)
        have HRf := Lib.hid (HR4.out.alloc (.cells #[.string (strOfNums a4.name), .int .i64 a4.lists, .int .i64 a4.place] 122))
        have HXf := Lib.hid (HX4.out.alloc HX4.out.size (.cells #[.string (strOfNums a4.name), .int .i64 a4.lists, .int .i64 a4.place] 122))
        have HZf := Lib.hid (blk_alloc HZ4.out (.cells #[.string (strOfNums a4.name), .int .i64 a4.lists, .int .i64 a4.place] 122))
        clear HR4 HX4 HZ4
        generalize W4.alloc (.cells #[.string (strOfNums a4.name), .int .i64 a4.lists, .int .i64 a4.place] 122) = Wj at *
        have HR4 := HRf
        have HX4 := HXf
        have HZ4 := HZf
        obtain ⟨hz, ⟨z0, z1, z2, z3, z4, z5, z6, z7⟩, y0, y1, y2, y3, y4, y5, y6, y7⟩ := blk8 HZ4.out
        go_wp2
        refine post_gen (End8 w R g c l r4 (cc, pp) 124 (.string ⟨#[]⟩) (.int .i64 0) (.string ⟨#[]⟩) (.int .i64 0) (.int .i64 0) (.int .i64 0) (.string ⟨#[]⟩) (.int .i64 0)) (end8 HZ4.out HX4.out HR4.out hR hg _ _ _ _ _ _ _ _) ?_
        rintro Wf ⟨f1, f2, f3⟩
        obtain ⟨_, ⟨c0, c1, c2, c3, c4, c5, c6, c7⟩, _⟩ := blk8 f1
        exact bodyPost_ret (v := .tuple #[.agg #[.string ⟨#[]⟩, .int .i64 0, .string ⟨#[]⟩, .int .i64 0, .int .i64 0, .int .i64 0, .string ⟨#[]⟩, .int .i64 0], .bool false]) (by simp [results, Tryz.results142, go_sem, c0, c1, c2, c3, c4, c5, c6, c7]) rfl ⟨noField, r4, _, false, rfl, f3, f2, by rw [HE.out]; exact ⟨rfl, rfl⟩⟩
    · obtain ⟨rfl, rfl⟩ := HS3.out
      have HE := Lib.hid (HE1.out.trans (rfl : _ = Res.no cc pp))
      obtain ⟨hz, ⟨z0, z1, z2, z3, z4, z5, z6, z7⟩, y0, y1, y2, y3, y4, y5, y6, y7⟩ := blk8 HZ3.out
      go_wp2
      refine post_gen (End8 w R g c l r3 (cc, pp) 124 (.string ⟨#[]⟩) (.int .i64 0) (.string ⟨#[]⟩) (.int .i64 0) (.int .i64 0) (.int .i64 0) (.string ⟨#[]⟩) (.int .i64 0)) (end8 HZ3.out HX3.out HR3.out hR hg _ _ _ _ _ _ _ _) ?_
      rintro Wf ⟨f1, f2, f3⟩
      obtain ⟨_, ⟨c0, c1, c2, c3, c4, c5, c6, c7⟩, _⟩ := blk8 f1
      exact bodyPost_ret (v := .tuple #[.agg #[.string ⟨#[]⟩, .int .i64 0, .string ⟨#[]⟩, .int .i64 0, .int .i64 0, .int .i64 0, .string ⟨#[]⟩, .int .i64 0], .bool false]) (by simp [results, Tryz.results142, go_sem, c0, c1, c2, c3, c4, c5, c6, c7]) rfl ⟨noField, r3, _, false, rfl, f3, f2, by rw [HE.out]; exact ⟨rfl, rfl⟩⟩
  · obtain ⟨rfl, rfl⟩ := HS1.out
    have HE := Lib.hid (HE0.out.trans (rfl : _ = Res.no cc pp))
    go_upto_region 3 with (fail)
    have HRf := Lib.hid (HR1.out.alloc (.cells #[.int .i64 a1.kind, .string (strOfNums a1.text), .int .i64 a1.place] 108))
    have HXf := Lib.hid (HX1.out.alloc HX1.out.size (.cells #[.int .i64 a1.kind, .string (strOfNums a1.text), .int .i64 a1.place] 108))
    have HZf := Lib.hid (blk_alloc HZ1.out (.cells #[.int .i64 a1.kind, .string (strOfNums a1.text), .int .i64 a1.place] 108))
    clear HR1 HX1 HZ1
    generalize W1.alloc (.cells #[.int .i64 a1.kind, .string (strOfNums a1.text), .int .i64 a1.place] 108) = Wj at *
    have HR1 := HRf
    have HX1 := HXf
    have HZ1 := HZf
    obtain ⟨hz, ⟨z0, z1, z2, z3, z4, z5, z6, z7⟩, y0, y1, y2, y3, y4, y5, y6, y7⟩ := blk8 HZ1.out
    go_wp2
    refine post_gen (End8 w R g c l r1 (cc, pp) 124 (.string ⟨#[]⟩) (.int .i64 0) (.string ⟨#[]⟩) (.int .i64 0) (.int .i64 0) (.int .i64 0) (.string ⟨#[]⟩) (.int .i64 0)) (end8 HZ1.out HX1.out HR1.out hR hg _ _ _ _ _ _ _ _) ?_
    rintro Wf ⟨f1, f2, f3⟩
    obtain ⟨_, ⟨c0, c1, c2, c3, c4, c5, c6, c7⟩, _⟩ := blk8 f1
    exact bodyPost_ret (v := .tuple #[.agg #[.string ⟨#[]⟩, .int .i64 0, .string ⟨#[]⟩, .int .i64 0, .int .i64 0, .int .i64 0, .string ⟨#[]⟩, .int .i64 0], .bool false]) (by simp [results, Tryz.results142, go_sem, c0, c1, c2, c3, c4, c5, c6, c7]) rfl ⟨noField, r1, _, false, rfl, f3, f2, by rw [HE.out]; exact ⟨rfl, rfl⟩⟩
end Go.Proofs.YtdlfndjgncdgfaaGreatDoor
