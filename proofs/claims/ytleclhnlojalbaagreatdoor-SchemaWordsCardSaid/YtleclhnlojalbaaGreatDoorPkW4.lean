/-
  The reader of the package idl: how it lies in memory, and what its small methods do: here, take, refuse, stands, skip, sign, word, want. Conditions: those that each theorem names.
-/
import Derived.Test.YtleclhnlojalbaaGreatDoorPkW1
import Derived.Test.YtleclhnlojalbaaGreatDoorPkW2
import Derived.Test.YtleclhnlojalbaaGreatDoorPkW3
import Derived.IntWalk
namespace Go.Proofs.YtleclhnlojalbaaGreatDoor
open Go.ChangeShapes Go.WideShapes Go.ChangeAt Go.RowKit Go.Shelf

def basicL : List ByteArray :=
  [⟨#[98, 111, 111, 108]⟩, ⟨#[105, 56]⟩, ⟨#[105, 49, 54]⟩, ⟨#[105, 51, 50]⟩, ⟨#[105, 54, 52]⟩, ⟨#[117, 56]⟩, ⟨#[117, 49, 54]⟩, ⟨#[117, 51, 50]⟩, ⟨#[117, 54, 52]⟩, ⟨#[]⟩, ⟨#[116, 101, 120, 116]⟩, ⟨#[100, 97, 116, 97]⟩]
theorem basicK_at (s : ByteArray) (k : Nat) (hk : k < 12) (h : basicL[k]'hk = s) (hne : s ≠ ⟨#[]⟩) : basicK s = k + 1 := by
  subst h
  have : ∀ k : Fin 12, basicL[k.val]'k.isLt ≠ ⟨#[]⟩ → basicK (basicL[k.val]'k.isLt) = k.val + 1 := by decide
  exact this ⟨k, hk⟩ hne
theorem basicK_no (s : ByteArray) (h : s = ⟨#[]⟩ ∨ hasS basicL s = false) : basicK s = 0 := by
  rcases h with rfl | h
  · decide
  · have hb : ∀ q, lookN basicN s = some q → q.1 = 0 := by
      intro q hq
      by_cases h0 : q.1 = 0
      · exact h0
      · exfalso
        obtain ⟨p, hp, h1, _⟩ := lookN_memS _ _ _ hq
        have : ∀ p ∈ basicN, p.kind ≠ 0 → hasS basicL p.name = true := by decide
        have h2 := this p hp (by omega)
        simp_all
    unfold basicK
    cases hl : lookN basicN s with
    | none => rfl
    | some q => exact hb q hl
theorem taken_eq (used : List ByteArray) (s : ByteArray) : takenB used s = (decide (basicK s ≠ 0) || decide (s = ⟨#[108, 105, 115, 116]⟩) || hasS used s) := by
  unfold takenB
  congr 1
  rw [basicS, ← lookN_has, basicK]
  cases hl : lookN basicN s with
  | none =>
    have : s ≠ ⟨#[108, 105, 115, 116]⟩ := by
      rintro rfl
      revert hl
      decide
    simp [this]
  | some q =>
    by_cases h0 : q.1 = 0
    · have : s = ⟨#[108, 105, 115, 116]⟩ := by
        obtain ⟨p, hp, h1, rfl⟩ := lookN_memS _ _ _ hl
        have : ∀ p ∈ basicN, p.kind = 0 → p.name = ⟨#[108, 105, 115, 116]⟩ := by decide
        exact this p hp (by omega)
      simp [this]
    · simp [h0]
theorem strL_beq (a b : ByteArray) : (a.toList == b.toList) = decide (a = b) := by
  rw [ByteArray.toList_eq, ByteArray.toList_eq, Bool.eq_iff_iff, beq_iff_eq, decide_eq_true_iff]
  refine ⟨fun h => ?_, fun h => by rw [h]⟩
  obtain ⟨⟨a⟩⟩ := a
  obtain ⟨⟨b⟩⟩ := b
  simp only at h
  rw [h]
theorem ba_yes {a b : ByteArray} (h : a = b) : (a.toList == b.toList) = true := by rw [strL_beq]; exact decide_eq_true h
theorem ba_no {a b : ByteArray} (h : a ≠ b) : (a.toList == b.toList) = false := by rw [strL_beq]; exact decide_eq_false h
theorem list_lit : (⟨#[108, 105, 115, 116]⟩ : ByteArray).toList = [108, 105, 115, 116] := by rw [ByteArray.toList_eq]
theorem ba_nil {a : ByteArray} (h : a = ⟨#[]⟩) : a.toList.isEmpty = true := by
  subst h
  rw [ByteArray.toList_eq]
  rfl
theorem ba_some {a : ByteArray} (h : a ≠ ⟨#[]⟩) : a.toList.isEmpty = false := by
  rw [ByteArray.toList_eq]
  cases hl : a.data.toList with
  | cons x r => rfl
  | nil =>
    exfalso
    obtain ⟨⟨l⟩⟩ := a
    simp only at hl
    subst hl
    exact h rfl
set_option maxRecDepth 100000 in
set_option maxHeartbeats 2000000 in
theorem rbasic_any (s : ByteArray) (w : World) : Calls Tryz.prog 77 #[.string s] w fun e w' => e = .returned (.int .u8 (basicK s : Nat)) ∧ Below w.heap.size w w' := by
  have HB := Lib.hid ((Below.refl w.heap.size w).alloc (Nat.le_refl _) (.cells #[Value.string ⟨#[98, 111, 111, 108]⟩, Value.string ⟨#[105, 56]⟩, Value.string ⟨#[105, 49, 54]⟩, Value.string ⟨#[105, 51, 50]⟩, Value.string ⟨#[105, 54, 52]⟩, Value.string ⟨#[117, 56]⟩, Value.string ⟨#[117, 49, 54]⟩, Value.string ⟨#[117, 51, 50]⟩, Value.string ⟨#[117, 54, 52]⟩, Value.string ⟨#[]⟩, Value.string ⟨#[116, 101, 120, 116]⟩, Value.string ⟨#[100, 97, 116, 97]⟩] 9))
  have HN := Lib.hid (heap_alloc_new w (.cells #[Value.string ⟨#[98, 111, 111, 108]⟩, Value.string ⟨#[105, 56]⟩, Value.string ⟨#[105, 49, 54]⟩, Value.string ⟨#[105, 51, 50]⟩, Value.string ⟨#[105, 54, 52]⟩, Value.string ⟨#[117, 56]⟩, Value.string ⟨#[117, 49, 54]⟩, Value.string ⟨#[117, 51, 50]⟩, Value.string ⟨#[117, 54, 52]⟩, Value.string ⟨#[]⟩, Value.string ⟨#[116, 101, 120, 116]⟩, Value.string ⟨#[100, 97, 116, 97]⟩] 9))
  have HK := Lib.hid (basicK_at s)
  have HO := Lib.hid (basicK_no s)
  have HC := Lib.hid (show ∀ k (hk : k < 12), (#[Value.string ⟨#[98, 111, 111, 108]⟩, Value.string ⟨#[105, 56]⟩, Value.string ⟨#[105, 49, 54]⟩, Value.string ⟨#[105, 51, 50]⟩, Value.string ⟨#[105, 54, 52]⟩, Value.string ⟨#[117, 56]⟩, Value.string ⟨#[117, 49, 54]⟩, Value.string ⟨#[117, 51, 50]⟩, Value.string ⟨#[117, 54, 52]⟩, Value.string ⟨#[]⟩, Value.string ⟨#[116, 101, 120, 116]⟩, Value.string ⟨#[100, 97, 116, 97]⟩] : Array Value)[k]? = some (.string (basicL[k]'hk)) from fun k hk => by
    show (basicL.map Value.string).toArray[k]? = _
    rw [List.getElem?_toArray, List.getElem?_map, List.getElem?_eq_getElem (show k < basicL.length from hk)]
    rfl)
  obtain ⟨kk, hkk⟩ : ∃ kk, basicK s = kk := ⟨_, rfl⟩
  rw [hkk] at HK HO ⊢
  clear hkk
  go_enter Tryz.func77, Tryz.ntmps77
  go_wp2
  generalize w.alloc (.cells #[Value.string ⟨#[98, 111, 111, 108]⟩, Value.string ⟨#[105, 56]⟩, Value.string ⟨#[105, 49, 54]⟩, Value.string ⟨#[105, 51, 50]⟩, Value.string ⟨#[105, 54, 52]⟩, Value.string ⟨#[117, 56]⟩, Value.string ⟨#[117, 49, 54]⟩, Value.string ⟨#[117, 51, 50]⟩, Value.string ⟨#[117, 54, 52]⟩, Value.string ⟨#[]⟩, Value.string ⟨#[116, 101, 120, 116]⟩, Value.string ⟨#[100, 97, 116, 97]⟩] 9) = W at *
  go_loop [4] (fun i => ∃ k : Nat, k ≤ 12 ∧ i = .int .i64 k ∧ (s = ⟨#[]⟩ ∨ hasS (basicL.take k) s = false)) (fun i => 12 - (intOf i).toNat)
  case atStart => exact ⟨0, Nat.zero_le _, rfl, .inr rfl⟩
  case round =>
    obtain ⟨k, hk, rfl, hi⟩ := hrel
    have hlt := blk_lt HN.out
    by_cases hkl : k < 12
    · have x0 : W.cell? ⟨w.heap.size, k, none⟩ = some (.string (basicL[k]'hkl)) := (blk_cell HN.out k).trans (HC.out k hkl)
      have hst := has_take_succ basicL s k hkl
      have HD := Lib.hid (HK.out k hkl)
      generalize basicL[k]'hkl = q at *
      by_cases hs : s = ⟨#[]⟩
      · have t1 : s.toList.isEmpty = true := ba_nil hs
        have t2 : (!s.toList.isEmpty) = false := by rw [t1]; rfl
        have HS := Lib.hid hs
        clear hs hi hst
        by_cases hq : q = s
        · have t3 : (q.toList == s.toList) = true := ba_yes hq
          clear hq
          go_wp2
          go_round
          case rel => exact ⟨k + 1, by omega, by go_num, .inl HS.out⟩
          case measure => simp [intOf]; omega
        · have t3 : (q.toList == s.toList) = false := ba_no hq
          clear hq
          go_wp2
          go_round
          case rel => exact ⟨k + 1, by omega, by go_num, .inl HS.out⟩
          case measure => simp [intOf]; omega
      · have t1 : s.toList.isEmpty = false := ba_some hs
        have t2 : (!s.toList.isEmpty) = true := by rw [t1]; rfl
        by_cases hq : q = s
        · have HE := Lib.hid (HD.out hq hs)
          have t3 : (q.toList == s.toList) = true := ba_yes hq
          have hw : IntKind.u8.wrap ((k : Int) + 1) = ((k + 1 : Nat) : Int) := IntWalk.u8_in _ ⟨by omega, by omega⟩
          clear hq hs hi hst
          go_wp2
          go_ret
          exact ⟨ret_int (show ((k : Int) + 1) = ((kk : Nat) : Int) by rw [HE.out]; omega), HB.out⟩
        · have HI := Lib.hid (show hasS (basicL.take (k + 1)) s = false by rw [hst, (hi.resolve_left hs)]; rw [Bool.false_or]; exact decide_eq_false fun e => hq e.symm)
          have t3 : (q.toList == s.toList) = false := ba_no hq
          clear hq hs hi hst
          go_wp2
          go_round
          case rel => exact ⟨k + 1, by omega, by go_num, .inr HI.out⟩
          case measure => simp [intOf]; omega
    · obtain rfl : k = 12 := by omega
      have HE := Lib.hid (HO.out hi)
      clear hi
      go_wp2
      go_ret
      exact ⟨by rw [HE.out]; rfl, HB.out⟩
theorem rtaken_any (used : List ByteArray) (v : Value) (base : Nat) (w : World) (h : w.ownsRow base 9 1 v used.length (strsCells used)) (s : ByteArray) :
    Calls Tryz.prog 44 #[v, .string s] w fun e w' => e = .returned (.bool (takenB used s)) ∧ Below w.heap.size w w' := by
  obtain ⟨a, c, rfl⟩ := ownsRow_form h
  have hfew := row_few h
  have HR := Lib.hid h
  have HT := Lib.hid (taken_eq used s)
  obtain ⟨r, hr⟩ : ∃ r, takenB used s = r := ⟨_, rfl⟩
  rw [hr] at HT ⊢
  clear h hr
  go_enter Tryz.func44, Tryz.ntmps44
  go_wp2_with fail
  refine (rbasic_any s w).mono ?_
  rintro e W1 ⟨rfl, hb⟩
  have HB := Lib.hid hb
  have HR1 := Lib.hid (row_keep hb HR.out)
  clear hb HR
  by_cases hk : basicK s = 0
  · have HT2 := Lib.hid (show r = (decide (s = ⟨#[108, 105, 115, 116]⟩) || hasS used s) by rw [HT.out, hk]; rfl)
    rw [hk]
    clear hk HT
    by_cases hl : s = ⟨#[108, 105, 115, 116]⟩
    · have t1 : (s.toList == [108, 105, 115, 116]) = true := by rw [← list_lit]; exact ba_yes hl
      have HT3 := Lib.hid (show r = true by rw [HT2.out, decide_eq_true hl]; rfl)
      clear hl HT2
      go_wp2
      go_ret
      exact ⟨ret_bool HT3.out.symm, HB.out⟩
    · have t1 : (s.toList == [108, 105, 115, 116]) = false := by rw [← list_lit]; exact ba_no hl
      have HT3 := Lib.hid (show r = hasS used s by rw [HT2.out, decide_eq_false hl]; rfl)
      clear hl HT2
      go_wp2
      go_loop [5] (fun i => ∃ k : Nat, k ≤ used.length ∧ i = .int .i64 k ∧ hasS (used.take k) s = false) (fun i => used.length - (intOf i).toNat)
      case atStart => exact ⟨0, Nat.zero_le _, rfl, rfl⟩
      case round =>
        obtain ⟨k, hk, rfl, hi⟩ := hrel
        by_cases hkl : k < used.length
        · obtain ⟨g, cc, hv, hcc, hg, hcell⟩ := row_el strCells 1 (fun _ => rfl) HR1.out k hkl
          obtain ⟨rfl, rfl⟩ := slice_inj hv
          have x0 : W1.cell? ⟨g, k, none⟩ = some (.string used[k]) := by have := hcell 0 (by omega); rw [Nat.mul_one, Nat.add_zero] at this; exact this
          have hst := has_take_succ used s k hkl
          have HD := Lib.hid (has_take_true used s k hkl)
          generalize used[k] = q at *
          by_cases hq : q = s
          · have HE := Lib.hid (HT3.out.trans (HD.out hq))
            have t3 : (q.toList == s.toList) = true := ba_yes hq
            clear hq hi hst hcell hv
            go_wp2
            go_ret
            exact ⟨ret_bool HE.out.symm, HB.out⟩
          · have HI := Lib.hid (show hasS (used.take (k + 1)) s = false by rw [hst, hi, Bool.false_or]; exact decide_eq_false fun e => hq e.symm)
            have t3 : (q.toList == s.toList) = false := ba_no hq
            clear hq hi hst hcell hv
            go_wp2
            go_round
            case rel => exact ⟨k + 1, by omega, by go_num, HI.out⟩
            case measure => simp [intOf]; omega
        · obtain rfl : k = used.length := by omega
          have HE := Lib.hid (show r = false from HT3.out.trans (by rw [List.take_length] at hi; exact hi))
          clear hi
          go_wp2
          go_ret
          exact ⟨ret_bool HE.out.symm, HB.out⟩
  · have HT2 := Lib.hid (show r = true by rw [HT.out, decide_eq_true hk]; rfl)
    have t1 : ((basicK s : Int) == 0) = false := by simp; omega
    have t2 : ((basicK s : Int) != 0) = true := by simp; omega
    generalize basicK s = kk at *
    clear hk HT
    go_wp2
    go_ret
    exact ⟨ret_bool HT2.out.symm, HB.out⟩
end Go.Proofs.YtleclhnlojalbaaGreatDoor
namespace Go.Proofs.YtleclhnlojalbaaGreatDoor
open Go.ChangeShapes Go.WideShapes Go.ChangeAt Go.RowKit Go.Shelf

structure Rd (w : World) (R g c : Nat) (l r : List Tok) (F : Int × Nat) : Prop where
  blk : w.heap[R]? = some (.cells #[.slice (some ⟨g, (l.length - r.length) * 3, none⟩) r.length (c - (l.length - r.length)), .int .i64 F.1, .int .i64 F.2] 144 (0, 0))
  suf : l.drop (l.length - r.length) = r
  len : r.length ≤ l.length
  glt : g < w.heap.size
  gne : g ≠ R
  cells : ∀ k, k < l.length * 3 → w.cell? ⟨g, k, none⟩ = (toksCells l)[k]?
  cap : l.length ≤ c ∧ c ≤ maxLen
  ends : Ends r
  byt : ∀ t ∈ l, ∀ z ∈ t.text, 0 ≤ z ∧ z ≤ 255
theorem Rd.keep {w W : World} {R g c : Nat} {l r : List Tok} {F : Int × Nat} (h : Rd w R g c l r F) (hb : Below w.heap.size w W) : Rd W R g c l r F :=
  ⟨(hb.block R (blk_lt h.blk)).trans h.blk, h.suf, h.len, Nat.lt_of_lt_of_le h.glt hb.size, h.gne, fun k hk => (hb.cell (p := ⟨g, k, none⟩) h.glt).trans (h.cells k hk), h.cap, h.ends, h.byt⟩
theorem Rd.other {w W : World} {R X g c : Nat} {l r : List Tok} {F : Int × Nat} (h : Rd w R g c l r F) (hb : Exc X w.heap.size w W) (hR : R ≠ X) (hg : g ≠ X) : Rd W R g c l r F :=
  ⟨(hb.block R (blk_lt h.blk) hR).trans h.blk, h.suf, h.len, Nat.lt_of_lt_of_le h.glt hb.size, h.gne, fun k hk => (hb.cell (p := ⟨g, k, none⟩) h.glt hg).trans (h.cells k hk), h.cap, h.ends, h.byt⟩
theorem Rd.alloc {w : World} {R g c : Nat} {l r : List Tok} {F : Int × Nat} (h : Rd w R g c l r F) (o : Obj) : Rd (w.alloc o) R g c l r F := h.keep ((Below.refl _ _).alloc (Nat.le_refl _) _)
theorem Rd.set3 {w : World} {R g c : Nat} {l r : List Tok} {F : Int × Nat} (h : Rd w R g c l r F) {X : Nat} (hR : R ≠ X) (hg : g ≠ X) (x y z : Value) : Rd (((w.setCell ⟨X, 0, none⟩ x).setCell ⟨X, 1, none⟩ y).setCell ⟨X, 2, none⟩ z) R g c l r F := h.other (exc_set3 w X x y z) hR hg
theorem Rd.set1 {w : World} {R g c : Nat} {l r : List Tok} {F : Int × Nat} (h : Rd w R g c l r F) {X : Nat} (hR : R ≠ X) (hg : g ≠ X) (i : Nat) (x : Value) : Rd (w.setCell ⟨X, i, none⟩ x) R g c l r F := h.other (exc_set w X i x) hR hg
def End3 (w : World) (R g c : Nat) (l r : List Tok) (F : Int × Nat) (t : TypeId) (x y z : Value) (W : World) : Prop :=
  W.heap[w.heap.size]? = some (.cells #[x, y, z] t (0, 0)) ∧ Exc R w.heap.size w W ∧ Rd W R g c l r F
theorem end3 {w W : World} {R g c : Nat} {l r : List Tok} {F : Int × Nat} {t : TypeId} {a b d : Value} (hz : W.heap[w.heap.size]? = some (.cells #[a, b, d] t (0, 0))) (hx : Exc R w.heap.size w W) (hr : Rd W R g c l r F) (hR : R < w.heap.size) (hg : g < w.heap.size) (x y z : Value) :
    End3 w R g c l r F t x y z (((W.setCell ⟨w.heap.size, 0, none⟩ x).setCell ⟨w.heap.size, 1, none⟩ y).setCell ⟨w.heap.size, 2, none⟩ z) :=
  ⟨blk_set3 hz _ _ _, hx.set3 (Nat.le_refl _) _ _ _, hr.set3 (by omega) (by omega) _ _ _⟩
theorem end3a {w W : World} {R g c : Nat} {l r : List Tok} {F : Int × Nat} {t : TypeId} {x y z : Value} (h : End3 w R g c l r F t x y z W) (o : Obj) : End3 w R g c l r F t x y z (W.alloc o) :=
  ⟨blk_alloc h.1 o, h.2.1.alloc h.2.1.size o, h.2.2.alloc o⟩
def set8 (w : World) (g : Nat) (a b c d e f g' h : Value) : World :=
  (((((((w.setCell ⟨g, 0, none⟩ a).setCell ⟨g, 1, none⟩ b).setCell ⟨g, 2, none⟩ c).setCell ⟨g, 3, none⟩ d).setCell ⟨g, 4, none⟩ e).setCell ⟨g, 5, none⟩ f).setCell ⟨g, 6, none⟩ g').setCell ⟨g, 7, none⟩ h
theorem exc_set8 (w : World) (g : Nat) (a b c d e f g' h : Value) : Exc g w.heap.size w (set8 w g a b c d e f g' h) :=
  (((((((exc_set w g 0 a).setCell (p := ⟨g, 1, none⟩) (.inl rfl) b).setCell (p := ⟨g, 2, none⟩) (.inl rfl) c).setCell (p := ⟨g, 3, none⟩) (.inl rfl) d).setCell (p := ⟨g, 4, none⟩) (.inl rfl) e).setCell (p := ⟨g, 5, none⟩) (.inl rfl) f).setCell (p := ⟨g, 6, none⟩) (.inl rfl) g').setCell (p := ⟨g, 7, none⟩) (.inl rfl) h
theorem Exc.set8 {R B : Nat} {a w : World} (hx : Exc R B a w) {g : Nat} (hg : B ≤ g) (x0 x1 x2 x3 x4 x5 x6 x7 : Value) : Exc R B a (set8 w g x0 x1 x2 x3 x4 x5 x6 x7) :=
  (((((((hx.set1 hg 0 x0).set1 hg 1 x1).set1 hg 2 x2).set1 hg 3 x3).set1 hg 4 x4).set1 hg 5 x5).set1 hg 6 x6).set1 hg 7 x7
theorem blk_set8 {w : World} {g : Nat} {a b c d e f g' h : Value} {t : TypeId} (hb : w.heap[g]? = some (.cells #[a, b, c, d, e, f, g', h] t (0, 0))) (x0 x1 x2 x3 x4 x5 x6 x7 : Value) :
    (set8 w g x0 x1 x2 x3 x4 x5 x6 x7).heap[g]? = some (.cells #[x0, x1, x2, x3, x4, x5, x6, x7] t (0, 0)) := by
  have k0 : (w.setCell ⟨g, 0, none⟩ x0).heap[g]? = some (.cells #[x0, b, c, d, e, f, g', h] t (0, 0)) := (blk_set hb 0 x0).trans rfl
  have k1 : ((w.setCell ⟨g, 0, none⟩ x0).setCell ⟨g, 1, none⟩ x1).heap[g]? = some (.cells #[x0, x1, c, d, e, f, g', h] t (0, 0)) := (blk_set k0 1 x1).trans rfl
  have k2 : (((w.setCell ⟨g, 0, none⟩ x0).setCell ⟨g, 1, none⟩ x1).setCell ⟨g, 2, none⟩ x2).heap[g]? = some (.cells #[x0, x1, x2, d, e, f, g', h] t (0, 0)) := (blk_set k1 2 x2).trans rfl
  have k3 : ((((w.setCell ⟨g, 0, none⟩ x0).setCell ⟨g, 1, none⟩ x1).setCell ⟨g, 2, none⟩ x2).setCell ⟨g, 3, none⟩ x3).heap[g]? = some (.cells #[x0, x1, x2, x3, e, f, g', h] t (0, 0)) := (blk_set k2 3 x3).trans rfl
  have k4 : (((((w.setCell ⟨g, 0, none⟩ x0).setCell ⟨g, 1, none⟩ x1).setCell ⟨g, 2, none⟩ x2).setCell ⟨g, 3, none⟩ x3).setCell ⟨g, 4, none⟩ x4).heap[g]? = some (.cells #[x0, x1, x2, x3, x4, f, g', h] t (0, 0)) := (blk_set k3 4 x4).trans rfl
  have k5 : ((((((w.setCell ⟨g, 0, none⟩ x0).setCell ⟨g, 1, none⟩ x1).setCell ⟨g, 2, none⟩ x2).setCell ⟨g, 3, none⟩ x3).setCell ⟨g, 4, none⟩ x4).setCell ⟨g, 5, none⟩ x5).heap[g]? = some (.cells #[x0, x1, x2, x3, x4, x5, g', h] t (0, 0)) := (blk_set k4 5 x5).trans rfl
  have k6 : (((((((w.setCell ⟨g, 0, none⟩ x0).setCell ⟨g, 1, none⟩ x1).setCell ⟨g, 2, none⟩ x2).setCell ⟨g, 3, none⟩ x3).setCell ⟨g, 4, none⟩ x4).setCell ⟨g, 5, none⟩ x5).setCell ⟨g, 6, none⟩ x6).heap[g]? = some (.cells #[x0, x1, x2, x3, x4, x5, x6, h] t (0, 0)) := (blk_set k5 6 x6).trans rfl
  have k7 : ((((((((w.setCell ⟨g, 0, none⟩ x0).setCell ⟨g, 1, none⟩ x1).setCell ⟨g, 2, none⟩ x2).setCell ⟨g, 3, none⟩ x3).setCell ⟨g, 4, none⟩ x4).setCell ⟨g, 5, none⟩ x5).setCell ⟨g, 6, none⟩ x6).setCell ⟨g, 7, none⟩ x7).heap[g]? = some (.cells #[x0, x1, x2, x3, x4, x5, x6, x7] t (0, 0)) := (blk_set k6 7 x7).trans rfl
  exact k7
def End8 (w : World) (R g c : Nat) (l r : List Tok) (F : Int × Nat) (t : TypeId) (x0 x1 x2 x3 x4 x5 x6 x7 : Value) (W : World) : Prop :=
  W.heap[w.heap.size]? = some (.cells #[x0, x1, x2, x3, x4, x5, x6, x7] t (0, 0)) ∧ Exc R w.heap.size w W ∧ Rd W R g c l r F
theorem end8 {w W : World} {R g c : Nat} {l r : List Tok} {F : Int × Nat} {t : TypeId} {y0 y1 y2 y3 y4 y5 y6 y7 : Value} (hz : W.heap[w.heap.size]? = some (.cells #[y0, y1, y2, y3, y4, y5, y6, y7] t (0, 0))) (hx : Exc R w.heap.size w W) (hr : Rd W R g c l r F) (hR : R < w.heap.size) (hg : g < w.heap.size) (x0 x1 x2 x3 x4 x5 x6 x7 : Value) :
    End8 w R g c l r F t x0 x1 x2 x3 x4 x5 x6 x7 (set8 W w.heap.size x0 x1 x2 x3 x4 x5 x6 x7) :=
  ⟨blk_set8 hz _ _ _ _ _ _ _ _, hx.set8 (Nat.le_refl _) _ _ _ _ _ _ _ _, hr.other (exc_set8 W w.heap.size x0 x1 x2 x3 x4 x5 x6 x7) (by omega) (by omega)⟩
theorem blk8 {w : World} {g : Nat} {x0 x1 x2 x3 x4 x5 x6 x7 : Value} {t : TypeId} (h : w.heap[g]? = some (.cells #[x0, x1, x2, x3, x4, x5, x6, x7] t (0, 0))) :
    g < w.heap.size ∧ (w.cell? ⟨g, 0, none⟩ = some x0 ∧ w.cell? ⟨g, 1, none⟩ = some x1 ∧ w.cell? ⟨g, 2, none⟩ = some x2 ∧ w.cell? ⟨g, 3, none⟩ = some x3 ∧ w.cell? ⟨g, 4, none⟩ = some x4 ∧ w.cell? ⟨g, 5, none⟩ = some x5 ∧ w.cell? ⟨g, 6, none⟩ = some x6 ∧ w.cell? ⟨g, 7, none⟩ = some x7) ∧
      w.frozen? ⟨g, 0, none⟩ = false ∧ w.frozen? ⟨g, 1, none⟩ = false ∧ w.frozen? ⟨g, 2, none⟩ = false ∧ w.frozen? ⟨g, 3, none⟩ = false ∧ w.frozen? ⟨g, 4, none⟩ = false ∧ w.frozen? ⟨g, 5, none⟩ = false ∧ w.frozen? ⟨g, 6, none⟩ = false ∧ w.frozen? ⟨g, 7, none⟩ = false :=
  ⟨blk_lt h, ⟨(blk_cell h 0).trans rfl, (blk_cell h 1).trans rfl, (blk_cell h 2).trans rfl, (blk_cell h 3).trans rfl, (blk_cell h 4).trans rfl, (blk_cell h 5).trans rfl, (blk_cell h 6).trans rfl, (blk_cell h 7).trans rfl⟩,
    blk_frozen h 0, blk_frozen h 1, blk_frozen h 2, blk_frozen h 3, blk_frozen h 4, blk_frozen h 5, blk_frozen h 6, blk_frozen h 7⟩
theorem Rd.cells3 {w : World} {R g c : Nat} {l r : List Tok} {F : Int × Nat} (h : Rd w R g c l r F) :
    w.cell? ⟨R, 0, none⟩ = some (.slice (some ⟨g, (l.length - r.length) * 3, none⟩) r.length (c - (l.length - r.length))) ∧ w.cell? ⟨R, 1, none⟩ = some (.int .i64 F.1) ∧ w.cell? ⟨R, 2, none⟩ = some (.int .i64 F.2) :=
  ⟨(blk_cell h.blk 0).trans rfl, (blk_cell h.blk 1).trans rfl, (blk_cell h.blk 2).trans rfl⟩
theorem Rd.next {w : World} {R g c : Nat} {l r : List Tok} {F : Int × Nat} (h : Rd w R g c l r F) :
    l.length - r.length < l.length ∧ w.cell? ⟨g, (l.length - r.length) * 3, none⟩ = some (.int .i64 (hd r).kind) ∧ w.cell? ⟨g, (l.length - r.length) * 3 + 1, none⟩ = some (.string (strOfNums (hd r).text)) ∧ w.cell? ⟨g, (l.length - r.length) * 3 + 2, none⟩ = some (.int .i64 (hd r).place) :=
  tok_cell h.cells h.glt (Below.refl _ _) _ _ _ (h.suf.trans h.ends.cons)
theorem Rd.mem {w : World} {R g c : Nat} {l r : List Tok} {F : Int × Nat} (h : Rd w R g c l r F) : hd r ∈ l := by
  have h1 : ∀ q : List Tok, Ends q → hd q ∈ q := fun q hq => by
    cases q with
    | nil => exact hq.elim
    | cons t q => exact List.mem_cons_self
  have h2 := h1 r h.ends
  have h3 : ∀ x, x ∈ r → x ∈ l := fun x hx => List.mem_of_mem_drop (h.suf ▸ hx)
  exact h3 _ h2
def tokV (t : Tok) : Value := .agg #[.int .i64 t.kind, .string (strOfNums t.text), .int .i64 t.place]
theorem fld0 : ∀ (k : Int) (S : ByteArray) (p : Int) (W : World), (Instr.field 109 (.agg #[.int .i64 k, .string S, .int .i64 p]) 0).run Tryz.prog W = .ok (.int .i64 k) W := fun _ _ _ _ => by kernel_rfl
theorem fld1 : ∀ (k : Int) (S : ByteArray) (p : Int) (W : World), (Instr.field 109 (.agg #[.int .i64 k, .string S, .int .i64 p]) 1).run Tryz.prog W = .ok (.string S) W := fun _ _ _ _ => by kernel_rfl
theorem fld2 : ∀ (k : Int) (S : ByteArray) (p : Int) (W : World), (Instr.field 109 (.agg #[.int .i64 k, .string S, .int .i64 p]) 2).run Tryz.prog W = .ok (.int .i64 p) W := fun _ _ _ _ => by kernel_rfl
theorem here_any (w : World) (R g c : Nat) (l r : List Tok) (F : Int × Nat) (h : Rd w R g c l r F) :
    Calls Tryz.prog 124 #[.pointer (some ⟨R, 0, none⟩)] w fun e w' => e = .returned (tokV (hd r)) ∧ Below w.heap.size w w' := by
  obtain ⟨r0, r1, r2⟩ := h.cells3
  obtain ⟨hk, x0, x1, x2⟩ := h.next
  have hg := h.glt
  have hR := blk_lt h.blk
  have h0 : 0 < r.length := by rw [h.ends.len]; omega
  clear h r1 r2
  generalize l.length - r.length = j at *
  unfold tokV
  generalize hd r = t at *
  go_enter Tryz.func124, Tryz.ntmps124
  go_wp2
  exact bodyPost_ret (v := .agg #[.int .i64 t.kind, .string (strOfNums t.text), .int .i64 t.place]) (by simp [results, Tryz.results124, go_sem]) rfl ⟨rfl, (Below.refl _ _).alloc (Nat.le_refl _) _⟩
theorem Rd.taken {w W : World} {R g c : Nat} {l r : List Tok} {F : Int × Nat} (h : Rd w R g c l r F) (h0 : (hd r).kind ≠ 0) (hb : Exc R w.heap.size w W)
    (hblk : W.heap[R]? = some (.cells #[.slice (some ⟨g, (l.length - r.length) * 3 + 3, none⟩) (r.length - 1) (c - (l.length - r.length) - 1), .int .i64 F.1, .int .i64 F.2] 144 (0, 0))) : Rd W R g c l r.tail F := by
  have hl := h.ends.len
  have hl2 := h.len
  have e : l.length - r.tail.length = l.length - r.length + 1 := by omega
  refine ⟨?_, ?_, by omega, Nat.lt_of_lt_of_le h.glt hb.size, h.gne, fun k hk => (hb.cell (p := ⟨g, k, none⟩) h.glt h.gne).trans (h.cells k hk), h.cap, h.ends.tail h0, h.byt⟩
  · rw [hblk, e, show (l.length - r.length + 1) * 3 = (l.length - r.length) * 3 + 3 by omega, show r.tail.length = r.length - 1 by omega, show c - (l.length - r.length + 1) = c - (l.length - r.length) - 1 by omega]
  · rw [e, ← List.drop_drop, h.suf]
    cases r with
    | nil => exact h.ends.elim
    | cons t q => rfl
theorem Rd.faulted {w W : World} {R g c : Nat} {l r : List Tok} {F F' : Int × Nat} (h : Rd w R g c l r F) (hb : Exc R w.heap.size w W)
    (hblk : W.heap[R]? = some (.cells #[.slice (some ⟨g, (l.length - r.length) * 3, none⟩) r.length (c - (l.length - r.length)), .int .i64 F'.1, .int .i64 F'.2] 144 (0, 0))) : Rd W R g c l r F' :=
  ⟨hblk, h.suf, h.len, Nat.lt_of_lt_of_le h.glt hb.size, h.gne, fun k hk => (hb.cell (p := ⟨g, k, none⟩) h.glt h.gne).trans (h.cells k hk), h.cap, h.ends, h.byt⟩
theorem take_any (w : World) (R g c : Nat) (l r : List Tok) (F : Int × Nat) (h : Rd w R g c l r F) (h0 : (hd r).kind ≠ 0) :
    Calls Tryz.prog 163 #[.pointer (some ⟨R, 0, none⟩)] w fun e w' => e = .returned (tokV (hd r)) ∧ Rd w' R g c l r.tail F ∧ Exc R w.heap.size w w' := by
  have HD := Lib.hid h
  have HH := Lib.hid (here_any _ R g c l r F (h.alloc (.cells #[.int .i64 0, .string ByteArray.empty, .int .i64 0] 109)))
  have HB0 := Lib.hid (heap_alloc_new w (.cells #[.int .i64 0, .string ByteArray.empty, .int .i64 0] 109))
  have h2 := h.ends.two h0
  have hlen := h.len
  have hR := blk_lt h.blk
  have t0 : ((hd r).kind != 0) = true := by simp [h0]
  have HZ := Lib.hid h0
  have hcap := h.cap
  unfold maxLen at hcap
  clear h h0
  unfold tokV at HH ⊢
  go_enter Tryz.func163, Tryz.ntmps163
  go_wp2_with fail
  refine HH.out.mono ?_
  rintro e W1 ⟨rfl, hb1⟩
  have HB1 := Lib.hid (((Below.refl _ _).alloc (Nat.le_refl _) _).trans (hb1.mono (by simp)))
  have HD1 := Lib.hid (HD.out.keep HB1.out)
  obtain ⟨hR1, r0, r1, r2, q0, q1, q2⟩ := blk3 HD1.out.blk
  have HZ1 := Lib.hid (blk_below HB0.out hb1 (by simp))
  obtain ⟨hz, z0, z1, z2, y0, y1, y2⟩ := blk3 HZ1.out
  clear hb1 r1 r2 q1 q2
  have hj : l.length - r.length + r.length = l.length := by omega
  generalize hj0 : l.length - r.length = j at *
  have HJ := Lib.hid hj0
  clear hj0
  go_wp2
  refine post_gen (fun Wf => Wf.heap[w.heap.size]? = some (.cells #[.int .i64 (hd r).kind, .string (strOfNums (hd r).text), .int .i64 (hd r).place] 109 (0, 0)) ∧ Exc R w.heap.size w Wf ∧ Wf.heap[R]? = some (.cells #[.slice (some ⟨g, j * 3 + 3, none⟩) (r.length - 1) (c - j - 1), .int .i64 F.1, .int .i64 F.2] 144 (0, 0))) ⟨?_, ?_, ?_⟩ ?_
  · exact blk_alloc (blk_set3 (blk_set_ne HZ1.out (by simp only; omega) _) _ _ _) _
  · exact (((((Exc.of_below (R := R) HB1.out).setCell (p := ⟨R, 0, none⟩) (.inl rfl) _).setCell (.inr (Nat.le_refl _)) _).setCell (.inr (Nat.le_refl _)) _).setCell (.inr (Nat.le_refl _)) _).alloc (by simp [World.setCell]; omega) _
  · refine blk_alloc (blk_set_ne (blk_set_ne (blk_set_ne ((blk_set HD1.out.blk 0 _).trans ?_) (by simp only; omega) _) (by simp only; omega) _) (by simp only; omega) _) _
    rfl
  · rintro Wf ⟨f1, f2, f3⟩
    obtain ⟨_, c0, c1, c2, _⟩ := blk3 f1
    exact bodyPost_ret (v := .agg #[.int .i64 (hd r).kind, .string (strOfNums (hd r).text), .int .i64 (hd r).place]) (by simp [results, Tryz.results163, go_sem, c0, c1, c2]) rfl ⟨rfl, HD.out.taken HZ.out f2 (by rw [HJ.out]; exact f3), f2⟩
set_option maxRecDepth 10000 in
theorem refuse_any (w : World) (R g c : Nat) (l r : List Tok) (F : Int × Nat) (code : Int) (h : Rd w R g c l r F) :
    Calls Tryz.prog 130 #[.pointer (some ⟨R, 0, none⟩), .int .i64 code] w fun e w' => e = .returned (.bool false) ∧ Rd w' R g c l r (code, (hd r).place) ∧ Exc R w.heap.size w w' := by
  have HH := Lib.hid (here_any w R g c l r F h)
  have HD := Lib.hid h
  clear h
  unfold tokV at HH
  go_enter Tryz.func130, Tryz.ntmps130
  go_wp2_with fail
  refine HH.out.mono ?_
  rintro e W1 ⟨rfl, hb1⟩
  have HB1 := Lib.hid hb1
  have HD1 := Lib.hid (HD.out.keep hb1)
  obtain ⟨hR1, r0, r1, r2, q0, q1, q2⟩ := blk3 HD1.out.blk
  have HB1' := Lib.hid hb1
  obtain ⟨f1, f2⟩ := F
  have hf := fld2
  clear hb1 r0 q0
  go_wp2
  refine post_gen (fun Wf => Exc R w.heap.size w Wf ∧ Wf.heap[R]? = some (.cells #[.slice (some ⟨g, (l.length - r.length) * 3, none⟩) r.length (c - (l.length - r.length)), .int .i64 code, .int .i64 (hd r).place] 144 (0, 0))) ⟨?_, ?_⟩ ?_
  · exact ((Exc.of_below (R := R) HB1.out).setCell (p := ⟨R, 1, none⟩) (.inl rfl) _).setCell (p := ⟨R, 2, none⟩) (.inl rfl) _
  · exact (blk_set (blk_set HD1.out.blk 1 _) 2 _).trans rfl
  · rintro Wf ⟨e1, e2⟩
    go_ret
    exact ⟨rfl, HD.out.faulted e1 e2, e1⟩
theorem str_eq (x : List Int) (S : ByteArray) (hx : ∀ z ∈ x, 0 ≤ z ∧ z ≤ 255) : ((strOfNums x).toList == S.toList) = decide (x = bts S) := by
  rw [ByteArray.toList_eq, ByteArray.toList_eq, strOfNums_data]
  rw [Bool.eq_iff_iff, beq_iff_eq, decide_eq_true_iff]
  unfold bts
  constructor
  · intro h
    rw [← h, List.map_map]
    conv => lhs; rw [← List.map_id x]
    refine List.map_congr_left fun z hz => ?_
    have := hx z hz
    simp only [id, Function.comp, UInt8.toNat_ofNat']
    omega
  · rintro rfl
    rw [List.map_map]
    conv => rhs; rw [← List.map_id S.data.toList]
    refine List.map_congr_left fun z _ => ?_
    simp
theorem rdStands_any (w : World) (R g c : Nat) (l r : List Tok) (F : Int × Nat) (k : Int) (S : ByteArray) (s : List Int) (hs : bts S = s) (h : Rd w R g c l r F) :
    Calls Tryz.prog 94 #[.pointer (some ⟨R, 0, none⟩), .int .i64 k, .string S] w fun e w' => e = .returned (.bool (isT k s r)) ∧ Below w.heap.size w w' := by
  have HH := Lib.hid (here_any w R g c l r F h)
  have HD := Lib.hid h
  have HS := Lib.hid hs
  clear h hs
  unfold tokV at HH
  go_enter Tryz.func94, Tryz.ntmps94
  go_wp2_with fail
  refine HH.out.mono ?_
  rintro e W1 ⟨rfl, hb1⟩
  have HB1 := Lib.hid hb1
  clear hb1
  have HX := Lib.hid (HD.out.byt _ HD.out.mem)
  have HI := Lib.hid (str_eq (hd r).text S HX.out)
  go_wp2
  · rename_i hk
    go_ret
    refine ⟨ret_bool ?_, HB1.out.alloc HB1.out.size _⟩
    unfold isT
    rw [HI.out, HS.out, decide_eq_true hk, Bool.true_and]
  · rename_i hk
    go_ret
    refine ⟨ret_bool ?_, HB1.out.alloc HB1.out.size _⟩
    unfold isT
    rw [decide_eq_false hk, Bool.false_and]
end Go.Proofs.YtleclhnlojalbaaGreatDoor
