/-
  The statement of the law SchemaPrints, from its walk: for every input that can be read the law returns true, and its arguments read as they did. Conditions: those of the given row (the listed tables hold what the program's text lays; the card ties them).
-/
import Derived.Test.YtokhnoogkdlidaaGreatDoorPkP14
import Derived.Test.YtokhnoogkdlidaaGreatDoorPkP27
import Derived.Test.YtokhnoogkdlidaaGreatDoorPkP52
import Derived.Test.YtokhnoogkdlidaaGreatDoorCards
import Derived.Test.YtokhnoogkdlidaaGreatDoorTie
namespace Go.Proofs.YtokhnoogkdlidaaGreatDoor
open Go.ChangeShapes Go.WideShapes Go.ChangeAt Go.RowKit
open Go.ChangeMaps (open_string shut_string)
namespace schemaPrintsFrame
theorem laid_met (os:Os):laidMet Tryz.prog Rows.schemaPrintsRow.laid ((laidWorld os).forCall (fun _ _=>0) ⟨#[],#[Value.agg #[Value.slice none 0 0,Value.slice none 0 0,Value.int .u8 0,Value.bool false]],[]⟩).memory:=
 laid7_met os _
theorem reads (os:Os){H:Type}(enc:TypeId × Value→H):∃ places,DataW.whole enc Tryz.prog ((laidWorld os).forCall (fun _ _=>0) ⟨#[],#[Value.agg #[Value.slice none 0 0,Value.slice none 0 0,Value.int .u8 0,Value.bool false]],[]⟩).memory Tryz.f3.params.toList Rows.schemaPrintsSpec.vars false #[Value.agg #[Value.slice none 0 0,Value.slice none 0 0,Value.int .u8 0,Value.bool false]].toList 8=some ([.agg [.nil,.nil,.lit (.int .u8 0),.lit (.bool false)]],[],places):=
 ⟨[],by kernel_rfl⟩
set_option maxRecDepth 100000 in
theorem contract (H:Type)(enc:TypeId × Value→H)(W:World)(base:Nat)(args:Array Value)(ds gs:List (DataW H))(before:List MemPlace)
  (hval0:∀ (j:Nat) t v,Tryz.f3.params[j]?=some t→args[j]?=some v→Value.okWide Tryz.prog W .any base t v)
  (hW:DataW.Whole enc Tryz.prog Tryz.f3.params.toList Rows.schemaPrintsSpec.vars false W args.toList ds gs before) (hL:laidMetH Tryz.prog Rows.schemaPrintsRow.laid W) :
  Calls Tryz.prog 3 args W fun e W'=>∃ v,e=.returned v∧Rows.schemaPrintsSpec.post enc Tryz.prog Tryz.f3 false true false false W args v W':=by
 have hval:∀ (j:Nat) t v,Tryz.f3.params[j]?=some t→args[j]?=some v→Value.okWide Tryz.prog W .any base t v:=hval0
 have hW':=hW
 obtain ⟨p,q,hA0,hV,rfl,_hfz,_hnd⟩:=hW
 have hA:DataW.TrodAll enc Tryz.prog W 0 (fun _=>true) true Tryz.f3.params.toList args.toList ds p:=hA0
 rw [Tryz.params3] at hA hval
 obtain ⟨v0,vs0,d0,ds0,p0,q0,hargs,rfl,rfl,h0,r0⟩:=trodAll_cons hA
 obtain ⟨rfl,rfl,rfl⟩:=trodAll_nil r0
 obtain rfl:args=#[v0]:=by cases args;simp_all
 obtain ⟨rfl,rfl⟩:=trodVars_none hV
 have k0:=h0
 have lt0:∀ x ∈ p0,x.block<W.heap.size:=by obtain ⟨m,hm⟩:=k0;exact DataW.trod_lt m _ _ _ hm
 obtain ⟨a0,_,_,_,_,_,_,rfl,w0⟩:=open_plan (hval 0 25 v0 rfl rfl) h0
 clear hA0 hval0
 refine (schemaPrints_walk a0 W w0 (tabs_of_laid7 hL) (errV_of_laid7 hL)).mono fun e W' ⟨he,bel⟩=>?_
 subst he
 exact ⟨_,rfl,_,_,_,[],_,[],hW',trodAll_mk1 (shut_bool Tryz.underlying4 _),(trodAll_cons_mk (Below.trod laidOut (by kernel_rfl) (of_decide_eq_true (by kernel_rfl)) k0 bel lt0) trodAll_mk0),rfl,bel.frame _,fun h=>by cases h⟩
set_option maxRecDepth 100000 in
theorem lifted (os:Os)(started:os.Started)(H:Type)(enc:TypeId × Value→H)(F:Stop.Interp) :
  ReturnsInHanded {} Tryz.checked os 3 .any ((OpenSpec.ofChange Rows.schemaPrintsSpec).preRow enc Tryz.prog Tryz.f3 Rows.schemaPrintsRow.domain false Rows.schemaPrintsRow.laid) (((OpenSpec.ofChange Rows.schemaPrintsSpec).at F).post enc Tryz.prog Tryz.f3 false true false false):=by
 obtain ⟨places,hx⟩:=reads os enc
 refine returnsInHanded_of_row (C:=Tryz.checked) (s:=OpenSpec.ofChange Rows.schemaPrintsSpec) own started (by kernel_rfl) Tryz.func3
  (witness_row_at (enc:=enc) (C:=Tryz.checked) false (laidWorld os) #[Value.agg #[Value.slice none 0 0,Value.slice none 0 0,Value.int .u8 0,Value.bool false]] rfl (by kernel_rfl) (by kernel_rfl) (by kernel_rfl)
   (OpenSpec.preRow_of_cond 8 hx (by kernel_rfl) (fun k hk=>by cases hk) (by kernel_rfl) (laid_met os))) ?_
 intro W base args ds gs before hval hW _ _ _ hL _ _
 exact contract H enc W base args ds gs before hval hW hL
theorem said:Rows.SchemaPrintsSaid:=
 OpenClaim.holds_of_cond 3 Tryz.f3 rfl rfl rfl rfl rfl rfl rfl ⟨rfl,rfl,rfl,rfl,rfl⟩ rfl rfl rfl rfl rfl (by kernel_rfl) Tryz.func3 (by kernel_rfl)
  (of_decide_eq_true (by kernel_rfl)) (by unfold Func.isWrapper;first|(rw [if_pos (by decide +kernel)];kernel_rfl)|(rw [if_neg (by decide +kernel)];exact ⟨rfl,rfl⟩))
  (fun os started H enc _ F=>by rw [OpenClaim.pre_eq_preRow];exact lifted os started H enc F)
theorem plain (f:FuncId)(fn:Func)(hf:Tryz.pinned.checked.prog.funcNamed "transom/transomlaw05.SchemaPrints" = some f)(hfn:Tryz.pinned.checked.prog.funcs[f]?=some fn) :
  true=Tryz.pinned.checked.prog.looks []∧∀ (j:Nat) t,fn.params[j]?=some t→Tryz.pinned.checked.prog.wantsStandIn t=false:=by
 obtain rfl:f=3 := Option.some.inj ((show Tryz.prog.funcNamed "transom/transomlaw05.SchemaPrints" = some 3 by kernel_rfl).symm.trans hf) |>.symm
 obtain rfl:fn=Tryz.f3 := (Option.some.inj (Tryz.func3.symm.trans hfn)).symm
 refine ⟨by kernel_rfl,fun j t ht=>?_⟩
 rw [Tryz.params3] at ht
 have hm:t=25 := by simpa using Array.mem_of_getElem? ht
 rcases hm with rfl
 exact (show Tryz.prog.wantsStandIn 25 = false by kernel_rfl)
end schemaPrintsFrame
theorem schemaPrints_card:Rows.SchemaPrintsCardSaid:=
 Claim7.holds_tied_plain_at .later [] _ _ _ _ schemaPrintsFrame.said (fun _ h=>by cases h) (by kernel_rfl) (fun _ h=>by cases h) schemaPrints_row_tie rfl ⟨rfl,rfl⟩ (by kernel_rfl) rfl schemaPrintsFrame.plain (by kernel_rfl)
end Go.Proofs.YtokhnoogkdlidaaGreatDoor
