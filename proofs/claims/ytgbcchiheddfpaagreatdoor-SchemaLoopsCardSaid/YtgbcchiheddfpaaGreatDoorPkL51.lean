/-
  The statement of the law SchemaLoops, from its walk. Conditions: those of the given row.
-/
import Derived.Test.YtgbcchiheddfpaaGreatDoorPkL50
import Derived.Test.YtgbcchiheddfpaaGreatDoorCards
import Derived.Test.YtgbcchiheddfpaaGreatDoorTie
namespace Go.Proofs.YtgbcchiheddfpaaGreatDoor
open Go.ChangeShapes Go.WideShapes Go.ChangeAt Go.RowKit
open Go.ChangeMaps (open_string shut_string)
namespace schemaLoopsFrame
theorem j_na : (Rows.schemaLoopsRow.named == Tryz.pinned.checked.prog.varsNamed 10) = true := by kernel_rfl
theorem j_in : (Rows.schemaLoopsRow.inPlace == Tryz.pinned.checked.prog.inPlace 10) = true := by kernel_rfl
theorem j_un : (Rows.schemaLoopsRow.unfollowed == Tryz.pinned.checked.prog.unfollowed 10) = true := by kernel_rfl
theorem j_re : (Rows.schemaLoopsRow.recurses == Tryz.pinned.checked.prog.recurses 10) = true := by kernel_rfl
set_option maxRecDepth 100000 in
theorem closed : joinedFacts Tryz.pinned.checked.prog 10 Tryz.f10 (OpenSpec.ofChange Rows.schemaLoopsSpec).bare Rows.schemaLoopsRow = true := by
  unfold joinedFacts
  simp only [Bool.and_eq_true]
  repeat' refine And.intro ?_ ?_
  all_goals first | with_reducible exact j_na | with_reducible exact j_in | with_reducible exact j_un | with_reducible exact j_re | kernel_rfl
theorem said : Rows.SchemaLoopsSaid :=
  OpenClaim.holds_of_cond 10 Tryz.f10 rfl rfl rfl rfl rfl rfl rfl ⟨rfl, rfl, rfl, rfl, rfl⟩ rfl rfl rfl rfl rfl (by kernel_rfl) Tryz.func10 closed
    (of_decide_eq_true (by kernel_rfl)) (by unfold Func.isWrapper; first | (rw [if_pos (by decide +kernel)]; kernel_rfl) | (rw [if_neg (by decide +kernel)]; exact ⟨rfl, rfl⟩))
    (fun os started H enc _ F => by rw [OpenClaim.pre_eq_preRow]; exact lifted os started H enc F)
theorem plain (f : FuncId) (fn : Func) (hf : Tryz.pinned.checked.prog.funcNamed "transom/transomlaw05.SchemaLoops" = some f) (hfn : Tryz.pinned.checked.prog.funcs[f]? = some fn) :
    true = Tryz.pinned.checked.prog.looks [] ∧ ∀ (j : Nat) t, fn.params[j]? = some t → Tryz.pinned.checked.prog.wantsStandIn t = false := by
  obtain rfl : f = 10 := Option.some.inj ((show Tryz.prog.funcNamed "transom/transomlaw05.SchemaLoops" = some 10 by kernel_rfl).symm.trans hf) |>.symm
  obtain rfl : fn = Tryz.f10 := (Option.some.inj (Tryz.func10.symm.trans hfn)).symm
  refine ⟨by kernel_rfl, fun j t ht => ?_⟩
  rw [Tryz.params10] at ht
  have hm : t = 25 := by simpa using Array.mem_of_getElem? ht
  rcases hm with rfl
  exact (show Tryz.prog.wantsStandIn 25 = false by kernel_rfl)
end schemaLoopsFrame
theorem schemaLoops_card : Rows.SchemaLoopsCardSaid :=
  Claim7.holds_tied_plain_at .later [] _ _ _ _ schemaLoopsFrame.said (fun _ h => by cases h) (by kernel_rfl) (fun _ h => by cases h) schemaLoops_row_tie rfl ⟨rfl, rfl⟩ (by kernel_rfl) rfl schemaLoopsFrame.plain (by kernel_rfl)
end Go.Proofs.YtgbcchiheddfpaaGreatDoor
