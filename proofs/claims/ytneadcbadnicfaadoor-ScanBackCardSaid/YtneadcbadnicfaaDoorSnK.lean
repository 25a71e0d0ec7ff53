/-
  The package scan's New, and the law's open: a scanner in new memory, with a meter that is enough. Conditions: those that each theorem names.
  The law's open, and its Awake: fixed facts come out true, and nothing that was there is written. Condition: the library's tables and its variable ErrRange hold what the row lists.
-/
import Derived.Test.YtneadcbadnicfaaDoorSnH
import Derived.Test.YtneadcbadnicfaaDoorSnI
import Derived.Test.YtneadcbadnicfaaDoorSnU
import Derived.Test.YtneadcbadnicfaaDoorBase
namespace Go.Proofs.YtneadcbadnicfaaDoor
open Go.ChangeShapes Go.WideShapes Go.ChangeAt Go.RowKit Go.Shelf

/-- A place, at least 0 and at most n. -/
def clampZ (x : Int) (n : Nat) : Nat := if x < 0 then 0 else if x ≤ n then x.toNat else n
theorem clampZ_le (x : Int) (n : Nat) : clampZ x n ≤ n := by
  unfold clampZ
  split
  · omega
  split <;> omega
theorem clamp_min (x : Int) (n : Nat) : min (max x 0) (n : Int) = (clampZ x n : Nat) := by
  unfold clampZ
  split
  · rw [show max x 0 = 0 by omega]; omega
  split
  · rw [show max x 0 = x by omega]; omega
  · rw [show max x 0 = x by omega]; omega
theorem snew_any (p : Option Addr) (n cap mb : Nat) (x : Int) (w : World) (hn : n ≤ 1000000) :
    Calls Tryd.prog 30 #[.slice p n cap, .int .i64 x, .pointer (some ⟨mb, 0, none⟩)] w fun e w' => e = .returned (.pointer (some ⟨w.heap.size, 0, none⟩)) ∧ w' = w.alloc (.cells #[.slice p n cap, .int .i64 (clampZ x n : Nat), .pointer (some ⟨mb, 0, none⟩)] 69) := by
  have E := Lib.hid (clamp_min x n)
  generalize clampZ x n = c at E ⊢
  by_cases h0 : x < 0
  · have hc : c = 0 := by have := E.out; omega
    subst hc
    clear E
    go_enter Tryd.func30, Tryd.ntmps30
    go_wp2
    go_ret
    exact ⟨rfl, by first | rfl | (congr 3; simp; omega)⟩
  · by_cases h1 : x ≤ n
    · have hc : x = (c : Int) := by have := E.out; omega
      subst hc
      clear E
      go_enter Tryd.func30, Tryd.ntmps30
      go_wp2
      go_ret
      exact ⟨rfl, by first | rfl | (congr 3; simp; omega)⟩
    · have hc : n = c := by have := E.out; omega
      subst hc
      clear E
      go_enter Tryd.func30, Tryd.ntmps30
      go_wp2
      go_ret
      exact ⟨rfl, by first | rfl | (congr 3; simp; omega)⟩
/-- What open leaves: a scanner in new memory. -/
def OpenPost (w : World) (p : Option Addr) (n cap : Nat) (zs : List Int) (a : Nat) (e : Ending) (w' : World) : Prop :=
  e = .returned (.pointer (some ⟨w.heap.size + 1, 0, none⟩)) ∧ ScSt w' (w.heap.size + 1) w.heap.size p n cap (1099511627776 + a) zs a ∧ Below w.heap.size w w'
theorem open_any (p : Option Addr) (n cap : Nat) (zs : List Int) (x : Int) (w : World) (hz : Bytes w p zs) (hn : zs.length = n) (hcap : n ≤ cap) (hl : n ≤ 1000000) (hp : ∀ q, p = some q → q.block < w.heap.size) :
    Calls Tryd.prog 10 #[.slice p n cap, .int .i64 x] w fun e w' => OpenPost w p n cap zs (clampZ x n) e w' := by
  have N1 := Lib.hid (fun W => new_any 1099511627776 W)
  have N2 := Lib.hid (fun mb W => snew_any p n cap mb x W hl)
  have hc := clampZ_le x n
  have HZ := Lib.hid hz
  have HP := Lib.hid hp
  generalize clampZ x n = c at N2 hc ⊢
  clear hz hp
  go_enter Tryd.func10, Tryd.ntmps10
  go_wp2_with fail
  refine (N1.out _).mono ?_
  rintro e w1 ⟨rfl, rfl⟩
  go_wp2_with fail
  refine (N2.out _ _).mono ?_
  rintro e w2 ⟨rfl, rfl⟩
  go_wp2
  go_ret
  have hb1 : Below w.heap.size w (w.alloc (.cells #[.int .i64 (atLeast0 1099511627776), .bool false] 74)) := (Below.refl _ _).alloc (Nat.le_refl _) _
  have hb2 := hb1.alloc hb1.size (.cells #[.slice p n cap, .int .i64 (c : Nat), .pointer (some ⟨w.heap.size, 0, none⟩)] 69)
  refine ⟨by simp, ⟨?_, ?_, HZ.out.below (Nat.le_refl _) hb2, hn, hcap, by omega, fun q hq => ?_, hc, by omega, by omega⟩, hb2⟩
  · have := heap_alloc_new (w.alloc (.cells #[.int .i64 (atLeast0 1099511627776), .bool false] 74)) (.cells #[.slice p n cap, .int .i64 (c : Nat), .pointer (some ⟨w.heap.size, 0, none⟩)] 69)
    simpa using this
  · have h1 := blk_alloc (heap_alloc_new w (.cells #[.int .i64 (atLeast0 1099511627776), .bool false] 74)) (.cells #[.slice p n cap, .int .i64 (c : Nat), .pointer (some ⟨w.heap.size, 0, none⟩)] 69)
    rw [show (((1099511627776 + c : Nat) : Int) - (c : Int)) = atLeast0 1099511627776 by unfold atLeast0; rw [if_pos (by decide)]; omega]
    exact h1
  · have := HP.out q hq
    constructor <;> omega
theorem bytes_row {w : World} {g : Nat} {zs : List Int} {t : TypeId} {f : Nat × Nat} (h : w.heap[g]? = some (.cells (zs.map (Value.int .u8)).toArray t f)) (hb : ∀ z ∈ zs, 0 ≤ z ∧ z ≤ 255) : Bytes w (some ⟨g, 0, none⟩) zs :=
  ⟨bd_le hb, fun _ => ⟨g, 0, rfl, blk_lt h, fun i hi => by rw [Nat.zero_add, cell_of_row w g i _ t f h]; simp [List.getD, hi]⟩⟩
theorem own_bytes {w : World} {B : Nat} {v : Value} {T : List Int} {t : TypeId} (h : w.ownsRow B t 1 v T.length (T.map (Value.int .u8))) (hb : ∀ z ∈ T, 0 ≤ z ∧ z ≤ 255) : ∃ p c, v = .slice p T.length c ∧ T.length ≤ c ∧ Bytes w p T ∧ ∀ q, p = some q → B ≤ q.block ∧ q.block < w.heap.size := by
  rcases h.2 with ⟨rfl, h0⟩ | ⟨g, cap, cur, rfl, hB, hg, hnc, hm, hs, ht⟩
  · rw [h0]
    have : T = [] := List.eq_nil_of_length_eq_zero h0
    subst this
    exact ⟨none, 0, rfl, Nat.le_refl _, ⟨fun i => by simp [List.getD], fun hne => absurd rfl hne⟩, fun q hq => by cases hq⟩
  · refine ⟨some ⟨g, 0, none⟩, cap, rfl, hnc, ⟨bd_le hb, fun _ => ⟨g, 0, rfl, blk_lt hg, fun i hi => ?_⟩⟩, fun q hq => by cases hq; exact ⟨hB, blk_lt hg⟩⟩
    rw [Nat.zero_add, blk_cell hg i]
    have h1 : cur[i]? = (cur.toList.take (T.length * 1))[i]? := by
      rw [List.getElem?_take, if_pos (by omega), Array.getElem?_toList]
    rw [h1, ht]
    simp [List.getD, hi]
theorem conv_own {W : World} {p : Option Addr} {zs : List Int} {n : Nat} (h : Bytes W p zs) (hn : zs.length = n) (c : Nat) : (convert 22 9 (.slice p n c)).run Tryd.prog W = .ok (.string (strOfNums zs)) W := by
  subst hn
  exact conv_slice h c
def lit1 : List Int := [34, 97, 92, 117, 48, 48, 101, 57, 92, 117, 100, 56, 51, 100, 92, 117, 100, 101, 48, 48, 34]
def lit2 : List Int := [34, 92, 117, 100, 56, 51, 100, 34]
theorem lit1_txt : txtAt lit1 0 = some ([97, 195, 169, 240, 159, 152, 128], 21) := by kernel_rfl
theorem lit2_txt : txtAt lit2 0 = none := by kernel_rfl
theorem lit3_num : numAt [45, 48] 0 = none := by kernel_rfl
theorem lit4_und : undig [48, 97, 102, 102] = some [10, 255] := by kernel_rfl
theorem lit5_und : undig [48, 65] = none := by kernel_rfl
end Go.Proofs.YtneadcbadnicfaaDoor
