/-
  The statement of the law SchemaLoops, from its walk. Conditions: those of the given row.
-/
import Derived.Test.YtgbcchiheddfpaaGreatDoorPkL24
import Derived.Test.YtgbcchiheddfpaaGreatDoorPkL28
import Derived.Test.YtgbcchiheddfpaaGreatDoorPkL39
import Derived.Test.YtgbcchiheddfpaaGreatDoorPkL48
import Derived.Deep.RegionHeld3
import Derived.Test.YtgbcchiheddfpaaGreatDoorCards
import Derived.Test.YtgbcchiheddfpaaGreatDoorTie
import Derived.Test.YtgbcchiheddfpaaGreatDoorPkL49
namespace Go.Proofs.YtgbcchiheddfpaaGreatDoor
open Go.ChangeShapes Go.WideShapes Go.ChangeAt Go.RowKit
open Go.ChangeMaps (open_string shut_string)
namespace schemaLoopsFrame
theorem laid_met (os : Os) : laidMet Tryz.prog Rows.schemaLoopsRow.laid ((laidWorld os).forCall (fun _ _ => 0) ⟨#[], #[Value.agg #[Value.slice none 0 0, Value.slice none 0 0, Value.int .u8 0, Value.bool false]], []⟩).memory :=
  laid7_met os _
theorem reads (os : Os) {H : Type} (enc : TypeId × Value → H) : ∃ places, DataW.whole enc Tryz.prog ((laidWorld os).forCall (fun _ _ => 0) ⟨#[], #[Value.agg #[Value.slice none 0 0, Value.slice none 0 0, Value.int .u8 0, Value.bool false]], []⟩).memory Tryz.f10.params.toList Rows.schemaLoopsSpec.vars false #[Value.agg #[Value.slice none 0 0, Value.slice none 0 0, Value.int .u8 0, Value.bool false]].toList 8 = some ([.agg [.nil, .nil, .lit (.int .u8 0), .lit (.bool false)]], [], places) :=
  ⟨[], by kernel_rfl⟩
set_option maxRecDepth 100000 in
theorem contract (H : Type) (enc : TypeId × Value → H) (W : World) (base : Nat) (args : Array Value) (ds gs : List (DataW H)) (before : List MemPlace)
    (hval0 : ∀ (j : Nat) t v, Tryz.f10.params[j]? = some t → args[j]? = some v → Value.okWide Tryz.prog W .any base t v)
    (hW : DataW.Whole enc Tryz.prog Tryz.f10.params.toList Rows.schemaLoopsSpec.vars false W args.toList ds gs before) (hL : laidMetH Tryz.prog Rows.schemaLoopsRow.laid W) :
    Calls Tryz.prog 10 args W fun e W' => ∃ v, e = .returned v ∧ Rows.schemaLoopsSpec.post enc Tryz.prog Tryz.f10 false true false false W args v W' := by
  have hval : ∀ (j : Nat) t v, Tryz.f10.params[j]? = some t → args[j]? = some v → Value.okWide Tryz.prog W .any base t v := hval0
  have hW' := hW
  obtain ⟨p, q, hA0, hV, rfl, _hfz, _hnd⟩ := hW
  have hA : DataW.TrodAll enc Tryz.prog W 0 (fun _ => true) true Tryz.f10.params.toList args.toList ds p := hA0
  rw [Tryz.params10] at hA hval
  obtain ⟨v0, vs0, d0, ds0, p0, q0, hargs, rfl, rfl, h0, r0⟩ := trodAll_cons hA
  obtain ⟨rfl, rfl, rfl⟩ := trodAll_nil r0
  obtain rfl : args = #[v0] := by cases args; simp_all
  obtain ⟨rfl, rfl⟩ := trodVars_none hV
  have k0 := h0
  have lt0 : ∀ x ∈ p0, x.block < W.heap.size := by obtain ⟨m, hm⟩ := k0; exact DataW.trod_lt m _ _ _ hm
  obtain ⟨a0, _, _, _, _, _, _, rfl, w0⟩ := open_plan (hval 0 25 v0 rfl rfl) h0
  clear hA0 hval0
  refine (schemaLoops_walk a0 W w0 (tabs_of_laid7 hL) (errV_of_laid7 hL)).mono fun e W' ⟨he, bel⟩ => ?_
  subst he
  exact ⟨_, rfl, _, _, _, [], _, [], hW', trodAll_mk1 (shut_bool Tryz.underlying4 _), (trodAll_cons_mk (Below.trod laidOut (by kernel_rfl) (of_decide_eq_true (by kernel_rfl)) k0 bel lt0) trodAll_mk0), rfl, bel.frame _, fun h => by cases h⟩

set_option maxRecDepth 100000 in
theorem lifted (os : Os) (started : os.Started) (H : Type) (enc : TypeId × Value → H) (F : Stop.Interp) :
    ReturnsInHanded {} Tryz.checked os 10 .any ((OpenSpec.ofChange Rows.schemaLoopsSpec).preRow enc Tryz.prog Tryz.f10 Rows.schemaLoopsRow.domain false Rows.schemaLoopsRow.laid) (((OpenSpec.ofChange Rows.schemaLoopsSpec).at F).post enc Tryz.prog Tryz.f10 false true false false) := by
  obtain ⟨places, hx⟩ := reads os enc
  refine returnsInHanded_of_row (C := Tryz.checked) (s := OpenSpec.ofChange Rows.schemaLoopsSpec) own started (by kernel_rfl) Tryz.func10
    (witness_row_at (enc := enc) (C := Tryz.checked) false (laidWorld os) #[Value.agg #[Value.slice none 0 0, Value.slice none 0 0, Value.int .u8 0, Value.bool false]] rfl (by kernel_rfl) (by kernel_rfl) (by kernel_rfl)
      (OpenSpec.preRow_of_cond 8 hx (by kernel_rfl) (fun k hk => by cases hk) (by kernel_rfl) (laid_met os))) ?_
  intro W base args ds gs before hval hW _ _ _ hL _ _
  exact contract H enc W base args ds gs before hval hW hL
end schemaLoopsFrame
end Go.Proofs.YtgbcchiheddfpaaGreatDoor
