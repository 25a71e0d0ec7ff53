/-
  The fixed fact of the fifteenth chapter's example (the law's Awake) comes out true, and nothing that was there is written. Conditions: those that each theorem names.
-/
import Derived.Test.YtiknhkkeifemcaaGreatDoorPkN4
import Derived.Test.YtiknhkkeifemcaaGreatDoorPkN23
import Derived.Test.YtiknhkkeifemcaaGreatDoorPkN50
namespace Go.Proofs.YtiknhkkeifemcaaGreatDoor
open Go.ChangeShapes Go.WideShapes Go.ChangeAt Go.RowKit Go.Shelf

def awR : SRec := ⟨⟨#[83]⟩, [⟨⟨#[98]⟩, 5, 0, 0, 0⟩, ⟨⟨#[97]⟩, 11, 0, 0, 0⟩]⟩
def awV : PV := .mk 0 [] [.mk 18446744073709551615 [] [] false, .mk 0 [120, 10] [] false] true
def awO : List Int := [123, 34, 97, 34, 58, 34, 120, 92, 110, 34, 44, 34, 98, 34, 58, 34, 45, 49, 34, 125]
theorem awJ_form : formJ [awR] [] 12 0 awV = awO := by kernel_rfl
theorem awJ_fits : fitsP [cR awR] [] 12 13 0 0 awV = true := by kernel_rfl
theorem awJ_ok (v : Value) : JwOk [(awR, v)] [] where
  few := ⟨show 1 ≤ 16 by decide, show 0 ≤ 1000 by decide⟩
  flds := fun q hq => by
    rw [List.mem_singleton] at hq
    subst hq
    refine ⟨show 2 ≤ 16 by decide, fun f hf => ?_, fun f hf => ?_⟩
    all_goals
      have h : f = ⟨⟨#[98]⟩, 5, 0, 0, 0⟩ ∨ f = ⟨⟨#[97]⟩, 11, 0, 0, 0⟩ := by simpa [awR] using hf
      rcases h with rfl | rfl
    · decide
    · decide
    · exact ⟨by decide, by decide, by decide, by decide, fun h => by cases h⟩
    · exact ⟨by decide, by decide, by decide, by decide, fun h => by cases h⟩
  nams := fun q hq => by cases hq
theorem awJ_small : SmallV awV := .mk _ _ _ _ (by decide) (by decide) (fun q hq => by
  have h : q = .mk 18446744073709551615 [] [] false ∨ q = .mk 0 [120, 10] [] false := by simpa using hq
  rcases h with rfl | rfl
  · exact .mk _ _ _ _ (by decide) (by decide) (fun q hq => by cases hq)
  · exact .mk _ _ _ _ (by decide) (by decide) (fun q hq => by cases hq))
def awB : Obj := .cells #[.int .u8 120, .int .u8 10] 5 (2, 3)
def awK (a : Nat) : Obj := .cells #[.int .u64 18446744073709551615, .slice none 0 0, .slice none 0 0, .bool false, .int .u64 0, .slice (some ⟨a, 0, none⟩) 2 2, .slice none 0 0, .bool false] 40 (0, 0)
theorem awJ_isV {V : World} {a b : Nat} (h0 : V.heap[a]? = some awB) (h1 : V.heap[b]? = some (awK a)) : IsV V awV (.agg #[.int .u64 0, .slice none 0 0, .slice (some ⟨b, 0, none⟩) 2 2, .bool true]) := by
  refine .mk 0 [] [.mk 18446744073709551615 [] [] false, .mk 0 [120, 10] [] false] true none (some ⟨b, 0, none⟩) 0 2 b 0 (fun i => if i = 0 then .int .u64 18446744073709551615 else .int .u64 0) (fun i => if i = 0 then .slice none 0 0 else .slice (some ⟨a, 0, none⟩) 2 2) (fun _ => .slice none 0 0) (fun _ => .bool false) (by decide) (bytes_nil V) (Nat.le_refl _) (by decide) (by decide) (by decide) (fun _ => rfl) (fun i hi => ?_) (fun i hi => ?_)
  · have hi2 : i < 2 := hi
    have hc : i = 0 ∨ i = 1 := by omega
    rcases hc with rfl | rfl
    · exact ⟨blk_cell h1 0, blk_cell h1 1, blk_cell h1 2, blk_cell h1 3⟩
    · exact ⟨blk_cell h1 4, blk_cell h1 5, blk_cell h1 6, blk_cell h1 7⟩
  · have hi2 : i < 2 := hi
    have hc : i = 0 ∨ i = 1 := by omega
    rcases hc with rfl | rfl
    · exact .mk _ [] [] false none none 0 0 0 0 (fun _ => .bool false) (fun _ => .bool false) (fun _ => .bool false) (fun _ => .bool false) (by decide) (bytes_nil V) (Nat.le_refl _) (by decide) (Nat.le_refl _) (by decide) (fun h => absurd rfl h) (fun i hi => absurd hi (Nat.not_lt_zero i)) (fun i hi => absurd hi (Nat.not_lt_zero i))
    · refine .mk 0 [120, 10] [] false (some ⟨a, 0, none⟩) none 2 0 0 0 (fun _ => .bool false) (fun _ => .bool false) (fun _ => .bool false) (fun _ => .bool false) (by decide) ⟨fun i => ?_, fun _ => ⟨a, 0, rfl, blk_lt h0, fun i hi => ?_⟩⟩ (Nat.le_refl _) (by decide) (Nat.le_refl _) (by decide) (fun h => absurd rfl h) (fun i hi => absurd hi (Nat.not_lt_zero i)) (fun i hi => absurd hi (Nat.not_lt_zero i))
      · rcases Nat.lt_or_ge i 2 with h | h
        · have hc : i = 0 ∨ i = 1 := by omega
          rcases hc with rfl | rfl <;> decide
        · rw [List.getD, List.getElem?_eq_none h]
          decide
      · have hi2 : i < 2 := hi
        have hc : i = 0 ∨ i = 1 := by omega
        rcases hc with rfl | rfl
        · exact cell_of_row V a 0 _ _ (2, 3) h0
        · exact cell_of_row V a 1 _ _ (2, 3) h0
def offS (m n : Nat) (j : Nat) : Bool := decide (j = m) || decide (n ≤ j)
theorem offS_low {m n j : Nat} (h : offS m n j = false) : j ≠ m ∧ j < n := by
  unfold offS at h
  rw [Bool.or_eq_false_iff] at h
  exact ⟨of_decide_eq_false h.1, Nat.lt_of_not_le (of_decide_eq_false h.2)⟩
theorem offS_no {m n j : Nat} (h1 : j ≠ m) (h2 : j < n) : offS m n j = false := by
  unfold offS
  rw [decide_eq_false h1, decide_eq_false (Nat.not_le_of_lt h2)]
  rfl
theorem awJ_write {W0 V : World} {base mk a b : Nat} {sv ev fv : Value} (h : SchRows base W0 [(awR, fv)] [] sv ev) (hT : PowT W0) (hb : Below W0.heap.size W0 V) (h0 : V.heap[a]? = some awB) (h1 : V.heap[b]? = some (awK a)) (hm : V.heap[mk]? = some (.cells #[.int .i64 1099511627776, .bool false] 152 (0, 0))) (hmk : W0.heap.size ≤ mk) :
    Calls Tryz.prog 26 #[.agg #[sv, ev, .int .i64 0], viewI (.agg #[.int .u64 0, .slice none 0 0, .slice (some ⟨b, 0, none⟩) 2 2, .bool true]), .pointer (some ⟨mk, 0, none⟩)] V fun e w' => ∃ g, e = .returned (.tuple #[.slice (some ⟨g, 0, none⟩) 20 20, .int .i64 0]) ∧ OwnR w' g 5 g 20 20 awO ∧ Below W0.heap.size W0 w' := by
  have na : a ≠ mk := fun e => by
    rw [e, hm] at h0
    have h2 := congrArg (fun x : Option Obj => match x with | some (.cells cs _ _) => cs.getD 0 undef | _ => undef) h0
    simp [awB] at h2
  have nb : b ≠ mk := fun e => by
    rw [e, hm] at h1
    have h2 := congrArg (fun x : Option Obj => match x with | some (.cells cs _ _) => cs.getD 0 undef | _ => undef) h1
    simp [awK] at h2
  have hv : IsV V awV (.agg #[.int .u64 0, .slice none 0 0, .slice (some ⟨b, 0, none⟩) 2 2, .bool true]) := awJ_isV h0 h1
  have hvh : VH (offS mk V.heap.size) V awV (.agg #[.int .u64 0, .slice none 0 0, .slice (some ⟨b, 0, none⟩) 2 2, .bool true]) :=
    awJ_isV (V := hideW (offS mk V.heap.size) V) ((hide_block _ _ _ (offS_no na (blk_lt h0))).trans h0) ((hide_block _ _ _ (offS_no nb (blk_lt h1))).trans h1)
  have hsh := (sees_all [cR awR] [] 12).2 (offS mk V.heap.size) V.heap.size V awV _ 13 0 0 (fun _ hj => (offS_low hj).2) (Nat.le_refl _) hvh awJ_small awJ_fits (by decide) rfl
  refine (jwrite_any (ss := [(awR, fv)]) (es := []) (root := 0) (r := 12) (Dv := NotS (offS mk V.heap.size)) (h.below hb) (awJ_ok fv) (by decide : 0 < 1) (hT.below hb) hm (by decide) (by decide) hsh (fun _ hj => (offS_low hj).2) (fun hd => (offS_low hd).1 rfl) (smallJ_of awJ_small hv)).mono ?_
  rintro e w' hw
  obtain ⟨v, n, rfl, hbw, hout⟩ := hw.to hb hmk
  rw [show formJ (List.map Prod.fst [(awR, fv)]) (List.map Prod.fst ([] : List (SCho × Value))) 12 0 awV = awO from awJ_form] at hout
  rcases hout with ⟨g, rfl, rfl, ho, _⟩ | ⟨_, _, h2⟩ | ⟨_, _, h2⟩
  · exact ⟨g, rfl, ho, hbw⟩
  · exact absurd h2 (by decide)
  · exact absurd h2 (by decide)
end Go.Proofs.YtiknhkkeifemcaaGreatDoor
