/-
  The library's Clone of a text, laid at this translation; small functions of the package schema: among, choose; the library's Index over texts. Conditions: those that each theorem names.
-/
import Derived.Test.YtgbcchiheddfpaaGreatDoorPkL13
import Derived.Test.YtgbcchiheddfpaaGreatDoorPkL28
import Derived.Shelf.Pu.Clone
import Derived.Deep.QuietTactic
import Derived.BigQuiet
namespace Go.Proofs.YtgbcchiheddfpaaGreatDoor
open Go.Proofs Go.Shelf
def Tryz.cloneRen : Go.Shelf.Ren := ⟨fun | 25 => 210 | n => n, fun | 9 => 9 | 3 => 3 | 4 => 4 | 5 => 5 | 37 => 22 | 0 => 0 | 47 => 363 | n => n, fun n => n⟩
theorem Tryz.cloneLaid : Go.Proofs.LaysPu.n25 Tryz.prog Tryz.cloneRen := {
  mixed := by kernel_rfl
  f25 := Tryz.func210.trans (congrArg some (by kernel_rfl))
  t0 := Tryz.underlying0
  a0 := Tryz.isAgg0
  z0 := Tryz.sizeOf0
  v0 := Tryz.zeroValue0
  i0 := by kernel_rfl
  t3 := Tryz.underlying3
  a3 := Tryz.isAgg3
  z3 := Tryz.sizeOf3
  v3 := Tryz.zeroValue3
  i3 := by kernel_rfl
  t4 := Tryz.underlying4
  a4 := Tryz.isAgg4
  z4 := Tryz.sizeOf4
  v4 := Tryz.zeroValue4
  i4 := by kernel_rfl
  t5 := Tryz.underlying5
  a5 := Tryz.isAgg5
  z5 := Tryz.sizeOf5
  v5 := Tryz.zeroValue5
  i5 := by kernel_rfl
  t9 := Tryz.underlying9
  a9 := Tryz.isAgg9
  z9 := Tryz.sizeOf9
  v9 := Tryz.zeroValue9
  i9 := by kernel_rfl
  t37 := Tryz.underlying22
  a37 := Tryz.isAgg22
  z37 := Tryz.sizeOf22
  v37 := Tryz.zeroValue22
  i37 := by kernel_rfl
  t47 := Tryz.underlying363
  a47 := Tryz.isAgg363
  z47 := Tryz.sizeOf363
  v47 := Tryz.zeroValue363
  i47 := by kernel_rfl }
open Go.ChangeShapes Go.WideShapes Go.ChangeAt Go.RowKit
theorem clone_any (s : ByteArray) (w : World) (hs : s.size ≤ 281474976710656) : Calls Tryz.prog 163 #[.string s] w fun e w' => e = .returned (.string s) ∧ Below w.heap.size w w' := by
  have h := AnyPu.stringslite_Clone Tryz.cloneLaid s w hs
  have H := Lib.hid (show Calls Tryz.prog 210 #[.string s] w _ from h)
  clear h
  go_enter Tryz.func163, Tryz.ntmps163
  go_wp2_with fail
  refine H.out.mono ?_
  rintro e w' ⟨rfl, hb⟩
  have HB := Lib.hid hb
  clear hb
  go_wp2
  go_ret
  exact ⟨rfl, HB.out⟩
theorem str_beq (a b : ByteArray) : (a.toList == b.toList) = decide (a = b) := by
  rw [ByteArray.toList_eq, ByteArray.toList_eq, Bool.eq_iff_iff, beq_iff_eq, decide_eq_true_iff]
  refine ⟨fun h => ?_, fun h => by rw [h]⟩
  obtain ⟨⟨a⟩⟩ := a
  obtain ⟨⟨b⟩⟩ := b
  simp only at h
  rw [h]
theorem idx_step (l : List ByteArray) (s : ByteArray) (k : Nat) (hk : k < l.length) (h : idx l s = (idx (l.drop k) s).map (· + k)) : (l[k] = s → idx l s = some k) ∧ (l[k] ≠ s → idx l s = (idx (l.drop (k + 1)) s).map (· + (k + 1))) := by
  rw [List.drop_eq_getElem_cons hk, idx] at h
  constructor
  · intro he
    rw [h, if_pos he]
    simp
  · intro he
    rw [h, if_neg he, Option.map_map]
    congr 1
    funext x
    show x + 1 + k = x + (k + 1)
    omega
set_option maxRecDepth 100000 in
set_option maxHeartbeats 2000000 in
theorem index_any (l : List ByteArray) (v : Value) (base : Nat) (w : World) (h : w.ownsRow base 9 1 v l.length (strsCells l)) (s : ByteArray) :
    Calls Tryz.prog 250 #[v, .string s] w fun e w' => e = .returned (.int .i64 (dupI (idx l s))) ∧ w = w' := by
  obtain ⟨a, c, rfl⟩ := ownsRow_form h
  have hfew := row_few h
  have HR := Lib.hid h
  have HI := Lib.hid (show idx l s = (idx (l.drop 0) s).map (· + 0) by simp)
  clear h
  go_enter Tryz.func250, Tryz.ntmps250
  go_wp2
  go_loop [8] (fun i => ∃ k : Nat, k ≤ l.length ∧ i = .int .i64 k ∧ idx l s = (idx (l.drop k) s).map (· + k)) (fun i => l.length - (intOf i).toNat)
  case atStart => exact ⟨0, Nat.zero_le _, rfl, HI.out⟩
  case round =>
    clear HI
    obtain ⟨k, hk, rfl, hi⟩ := hrel
    by_cases hkl : k < l.length
    · obtain ⟨g, cc, hv, hcc, hg, hcell⟩ := row_el strCells 1 (fun _ => rfl) HR.out k hkl
      obtain ⟨rfl, rfl⟩ := slice_inj hv
      have x0 : w.cell? ⟨g, k, none⟩ = some (.string l[k]) := by have := hcell 0 (by omega); rw [Nat.mul_one, Nat.add_zero] at this; exact this
      obtain ⟨d1, d2⟩ := idx_step l s k hkl hi
      generalize l[k] = q at *
      by_cases hq : q = s
      · subst hq
        have HD := Lib.hid (d1 rfl)
        have hb : (q.toList == q.toList) = true := by rw [str_beq]; exact decide_eq_true rfl
        clear hi d1 d2 hcell hv
        go_wp2
        go_ret
        exact ⟨by rw [HD.out]; rfl, rfl⟩
      · have HD := Lib.hid (d2 hq)
        have hb : (s.toList == q.toList) = false := by rw [str_beq]; exact decide_eq_false (fun e => hq e.symm)
        clear hi d1 d2 hcell hv hq
        go_wp2
        go_round
        case rel => exact ⟨k + 1, by omega, by go_num, HD.out⟩
        case measure => simp [intOf]; omega
    · obtain rfl : k = l.length := by omega
      have HD : Hid (idx l s = none) := Lib.hid (by rw [hi, List.drop_length]; rfl)
      clear hi
      go_wp2
      go_ret
      exact ⟨by rw [HD.out]; rfl, rfl⟩
def optV : Option Nat → Value
  | none => .tuple #[.int .u64 0, .bool false]
  | some n => .tuple #[.int .u64 (n : Nat), .bool true]
theorem idx_lt : ∀ (l : List ByteArray) (s : ByteArray) (k : Nat), idx l s = some k → k < l.length
  | [], _, _, h => by cases h
  | a :: r, s, k, h => by
    rw [idx] at h
    split at h
    · cases h
      simp
    · obtain ⟨j, hj, rfl⟩ := Option.map_eq_some_iff.1 h
      have := idx_lt r s j hj
      simp
      omega
set_option maxRecDepth 100000 in
set_option maxHeartbeats 2000000 in
theorem choose_any (t : Tok) (l : List ByteArray) (v : Value) (base : Nat) (w : World) (h : w.ownsRow base 9 1 v l.length (strsCells l)) :
    Calls Tryz.prog 240 #[.agg #[.int .i64 t.kind, .string (tokT t), .int .i64 t.place], v] w fun e w' => e = .returned (optV (chooseM t l)) ∧ Below w.heap.size w w' := by
  have hb : Below w.heap.size w (w.alloc (.cells #[.int .i64 t.kind, .string (tokT t), .int .i64 t.place] 282)) := (Below.refl _ _).alloc (Nat.le_refl _) _
  have HI := Lib.hid (index_any l v base _ (row_keep hb h) (tokT t))
  have HB := Lib.hid hb
  have HL := Lib.hid (idx_lt l (tokT t))
  have hfew := row_few h
  have HC : Hid (chooseM t l = if t.kind = 1 then idx l (tokT t) else none) := Lib.hid rfl
  clear hb h
  go_enter Tryz.func240, Tryz.ntmps240
  go_wp2_with fail
  refine HI.out.mono ?_
  rintro e w' ⟨rfl, rfl⟩
  by_cases hk : t.kind = 1
  · have HC' := Lib.hid (HC.out.trans (if_pos hk))
    generalize t.kind = K at *
    subst hk
    cases hx : idx l (tokT t) with
    | none =>
      have HX := Lib.hid hx
      clear hx
      simp only [dupI]
      go_wp2
      go_ret2
      exact ⟨by rw [HC'.out, HX.out]; rfl, HB.out⟩
    | some k =>
      have hlt := HL.out k hx
      have HX := Lib.hid hx
      have hw : IntKind.u64.wrap (k : Int) = k := IntWalk.u64_in _ (by omega)
      clear hx
      simp only [dupI]
      go_wp2
      go_ret2
      exact ⟨by rw [HC'.out, HX.out]; rfl, HB.out⟩
  · have HC' := Lib.hid (HC.out.trans (if_neg hk))
    generalize dupI (idx l (tokT t)) = x at *
    go_wp2
    go_ret2
    exact ⟨by rw [HC'.out]; rfl, HB.out⟩
end Go.Proofs.YtgbcchiheddfpaaGreatDoor
