/-
  The law's take: of a row of truths it takes so many from a place on, all of them free. Conditions: those that each theorem names.
-/
import Derived.Test.YtdlfndjgncdgfaaDoorApartP
import Derived.Laws.OwnMore
import Derived.OwnWalk
import Derived.IntWalk
namespace Go.Proofs.YtdlfndjgncdgfaaDoor
open Go.ChangeShapes Go.WideShapes Go.ChangeAt Go.RowKit Go.Shelf

theorem boolCells_map (l : List Bool) : boolCells l = l.map Value.bool := by
  induction l with
  | nil => rfl
  | cons b r ih => show [.bool b] ++ boolCells r = _; rw [ih]; rfl
theorem boolCells_set (l : List Bool) (k : Nat) (b : Bool) : (boolCells l).set k (.bool b) = boolCells (l.set k b) := by
  rw [boolCells_map, boolCells_map, List.map_set]
theorem getD_get (l : List Bool) (k : Nat) (hk : k < l.length) : l.getD k false = l[k] := by
  rw [List.getD, List.getElem?_eq_getElem hk, Option.getD_some]
theorem grownBy_trans {a b c : World} {row : Option Nat} (h : a.grownBy b row) (k : b.grownBy c row) : a.grownBy c row :=
  ⟨k.os.trans h.os, k.tape.trans h.tape, k.output.trans h.output, Nat.le_trans h.size k.size, fun i hi hr => (k.block i (Nat.lt_of_lt_of_le hi h.size) hr).trans (h.block i hi hr)⟩
/-- Where take's loop is. -/
def TkAt (W0 : World) (base : Nat) (v : Value) (l : List Bool) (a n : Nat) (i : Value) (W : World) : Prop :=
  ∃ c : Nat, a ≤ c ∧ c ≤ a + n ∧ i = .int .i64 c ∧ W.ownsRow base 4 1 v l.length (boolCells (takeL l a (c - a))) ∧ W0.grownBy W v.ownBlock
set_option maxRecDepth 100000 in
set_option maxHeartbeats 4000000 in
theorem take_any (l : List Bool) (a n : Nat) (hfit : a + n ≤ l.length) (hfree : ∀ c, a ≤ c → c < a + n → l.getD c false = false) (hbd : a + n ≤ 1000000) (base : Nat) (v : Value) (W : World) (hrow : W.ownsRow base 4 1 v l.length (boolCells l)) :
    Calls Tryd.prog 15 #[v, .int .i64 a, .int .i64 n] W fun e w' => e = .returned (.bool true) ∧ w'.ownsRow base 4 1 v l.length (boolCells (takeL l a n)) ∧ W.grownBy w' v.ownBlock := by
  have HROW := Lib.hid hrow
  have HF := Lib.hid hfree
  obtain ⟨va, vc, rfl⟩ := ownsRow_form hrow
  have hfew := row_few hrow
  have k1 : IntKind.i64.wrap ((a : Int) + n) = (a : Int) + n := IntWalk.i64_in _ (by omega)
  clear hrow hfree
  go_enter Tryd.func15, Tryd.ntmps15
  go_wp2_with fail
  go_loopw [7] (fun i wr => TkAt W base (.slice va l.length vc) l a n i wr) (fun i _ => a + n - (intOf i).toNat)
  case atStart => exact ⟨a, Nat.le_refl _, by omega, rfl, by rw [Nat.sub_self]; exact HROW.out, World.grownBy.refl _ _⟩
  case round =>
    obtain ⟨c, hc1, hc2, rfl, hr, hg⟩ := hrel
    have HR := Lib.hid hr
    have HG := Lib.hid hg
    clear hr hg
    by_cases hlt : c < a + n
    · have hci : (c : Int) < (a : Int) + n := by omega
      have hcl : c < l.length := by omega
      have hcb : (c : Int) < l.length := by omega
      have hc0 : (0 : Int) ≤ (c : Int) := by omega
      have hfr : l.getD c false = false := HF.out c hc1 hlt
      have hlen : (takeL l a (c - a)).length = l.length := takeL_len _ _ _
      have hr2 : wr.ownsRow base 4 1 (.slice va l.length vc) (takeL l a (c - a)).length (boolCells (takeL l a (c - a))) := by rw [hlen]; exact HR.out
      obtain ⟨g, cc, hv, hcc, hgl, hcell⟩ := row_bool hr2 c (by omega)
      have hb : (takeL l a (c - a))[c]'(by omega) = false := by
        rw [← getD_get _ _ (by omega), takeL_get _ _ _ (by omega), if_neg (by omega)]
        exact hfr
      rw [hb] at hcell
      rw [hlen] at hv
      obtain ⟨rfl, rfl⟩ := slice_inj hv
      have hfz := HR.out.frozenAt c
      obtain ⟨hst, hgs⟩ := HR.out.stored c (.bool true)
      have HST := Lib.hid hst
      have HGS := Lib.hid hgs
      clear hv hr2 hb hst hgs hlen hfr
      go_wp2
      go_roundw
      case rel =>
        refine ⟨c + 1, by omega, by omega, by go_num, ?_, ?_⟩
        · rw [show c + 1 - a = (c - a) + 1 by omega]
          show World.ownsRow _ base 4 1 _ l.length (boolCells ((takeL l a (c - a)).set (a + (c - a)) true))
          rw [show a + (c - a) = c by omega, ← boolCells_set]
          exact HST.out
        · exact grownBy_trans HG.out HGS.out
      case measure => simp [intOf]; omega
    · obtain rfl : c = a + n := by omega
      have hci : ¬ ((a + n : Nat) : Int) < (a : Int) + n := by omega
      go_wp2
      go_ret
      exact ⟨rfl, by have h := HR.out; rwa [show a + n - a = n by omega] at h, HG.out⟩
end Go.Proofs.YtdlfndjgncdgfaaDoor
