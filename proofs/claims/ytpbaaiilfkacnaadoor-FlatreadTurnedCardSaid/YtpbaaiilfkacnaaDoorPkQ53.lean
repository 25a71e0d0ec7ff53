/-
  The law FlatreadTurned, from its walk. Conditions: those of the given rows.
-/
import Derived.Test.YtpbaaiilfkacnaaDoorPkQ25
import Derived.Test.YtpbaaiilfkacnaaDoorPkQ51
import Derived.Test.YtpbaaiilfkacnaaDoorPkQ52
import Derived.Test.YtpbaaiilfkacnaaDoorCards
import Derived.Test.YtpbaaiilfkacnaaDoorTie
namespace Go.Proofs.YtpbaaiilfkacnaaDoor
set_option maxRecDepth 100000
set_option maxHeartbeats 16000000
section
open Go.ChangeShapes Go.WideShapes Go.ChangeAt Go.RowKit Go.Shelf
theorem oM (p:dM)(b0:Option Addr)(nb cb:Nat)(z1:List Int)(A1:Option Addr)(l1 c1':Nat)(Z1:List Int)(A2:Option Addr)(l2 c2:Nat)(Z2:List Int)(A3:Option Addr)(l3 c3:Nat)(Z3:List Int){a0 a1:Option Addr}{n0 e0 n1 c1:Nat}(w:World)(hp:IsPlan w p a0 n0 e0 a1 n1 c1)(h1:IsRow .u8 w b0 nb cb z1)(h2:IsRow .i64 w A1 l1 c1' Z1)(h3:IsRow .i64 w A2 l2 c2 Z2)(h4:IsRow .u8 w A3 l3 c3 Z3)(hT:Tabs w) :
  Calls Tryd.prog 3 #[.agg #[.slice a0 n0 e0,.slice a1 n1 c1,.int .u8 p.root,.bool p.tree],.slice b0 nb cb,.slice A1 l1 c1',.slice A2 l2 c2,.slice A3 l3 c3] w fun e w'=>e=.returned (.bool true)∧Below w.heap.size w w':=by
 obtain ⟨k1,k2,k3,_⟩:=vO h1;exact wV w h2 h3 h4 (fun W hW=>rN W (hT.below bD hW)) (fun W hW=>vA p _ w hp k1 k2 k3 hT W hW)
end
section
open Go.ChangeShapes Go.WideShapes Go.ChangeAt Go.RowKit
open Go.ChangeMaps (open_string shut_string)
namespace flatreadTurnedFrame
theorem aDQ (os:Os):laidMet Tryd.prog Rows.flatreadTurnedRow.laid ((qN os).forCall (fun _ _=>0) ⟨#[],#[Value.agg #[Value.slice none 0 0,Value.slice none 0 0,Value.int .u8 0,Value.bool false],Value.slice none 0 0,Value.slice none 0 0,Value.slice none 0 0,Value.slice none 0 0],[]⟩).memory:=
 laidMet_of_run' 8 (by kernel_rfl) (by kernel_rfl)
theorem reads (os:Os){H:Type}(enc:TypeId × Value→H):∃ places,DataW.whole enc Tryd.prog ((qN os).forCall (fun _ _=>0) ⟨#[],#[Value.agg #[Value.slice none 0 0,Value.slice none 0 0,Value.int .u8 0,Value.bool false],Value.slice none 0 0,Value.slice none 0 0,Value.slice none 0 0,Value.slice none 0 0],[]⟩).memory Tryd.f3.params.toList Rows.flatreadTurnedSpec.vars false #[Value.agg #[Value.slice none 0 0,Value.slice none 0 0,Value.int .u8 0,Value.bool false],Value.slice none 0 0,Value.slice none 0 0,Value.slice none 0 0,Value.slice none 0 0].toList 8=some ([.agg [.nil,.nil,.lit (.int .u8 0),.lit (.bool false)],.nil,.nil,.nil,.nil],[],places):=
 ⟨[],by kernel_rfl⟩
theorem aDd (H:Type)(enc:TypeId × Value→H)(W:World)(base:Nat)(args:Array Value)(ds gs:List (DataW H))(before:List MemPlace)
  (hval0:∀ (j:Nat) t v,Tryd.f3.params[j]?=some t→args[j]?=some v→Value.okWide Tryd.prog W .any base t v)
  (hW:DataW.Whole enc Tryd.prog Tryd.f3.params.toList Rows.flatreadTurnedSpec.vars false W args.toList ds gs before) (hL:laidMetH Tryd.prog Rows.flatreadTurnedRow.laid W) :
  Calls Tryd.prog 3 args W fun e W'=>∃ v,e=.returned v∧Rows.flatreadTurnedSpec.post enc Tryd.prog Tryd.f3 false true false false W args v W':=by
 have hval:∀ (j:Nat) t v,Tryd.f3.params[j]?=some t→args[j]?=some v→Value.okWide Tryd.prog W .any base t v:=hval0;have hW':=hW;obtain ⟨p,q,hA0,hV,rfl,_hfz,_hnd⟩:=hW;have hA:DataW.TrodAll enc Tryd.prog W 0 (fun _=>true) true Tryd.f3.params.toList args.toList ds p:=hA0;rw [Tryd.params3] at hA hval;obtain ⟨v0,vs0,d0,ds0,p0,q0,hargs,rfl,rfl,h0,r0⟩:=trodAll_cons hA;obtain ⟨v1,vs1,d1,ds1,p1,q1,rfl,rfl,rfl,h1,r1⟩:=trodAll_cons r0;obtain ⟨v2,vs2,d2,ds2,p2,q2,rfl,rfl,rfl,h2,r2⟩:=trodAll_cons r1;obtain ⟨v3,vs3,d3,ds3,p3,q3,rfl,rfl,rfl,h3,r3⟩:=trodAll_cons r2;obtain ⟨v4,vs4,d4,ds4,p4,q4,rfl,rfl,rfl,h4,r4⟩:=trodAll_cons r3;obtain ⟨rfl,rfl,rfl⟩:=trodAll_nil r4;obtain rfl:args=#[v0,v1,v2,v3,v4]:=by cases args;simp_all
 obtain ⟨rfl,rfl⟩:=trodVars_none hV;have k0:=h0;have lt0:∀ x ∈ p0,x.block<W.heap.size:=by obtain ⟨m,hm⟩:=k0;exact DataW.trod_lt m _ _ _ hm
 obtain ⟨a0,_,_,_,_,_,_,rfl,w0⟩:=aCK (hval 0 25 v0 rfl rfl) h0;obtain ⟨a1,len1,cap1,rfl⟩:=okWide_slice Tryd.underlying22 (hval 1 22 v1 rfl rfl);have k1:=h1;have lt1:∀ x ∈ p1,x.block<W.heap.size:=by obtain ⟨m,hm⟩:=k1;exact DataW.trod_lt m _ _ _ hm
 obtain ⟨z1,w1⟩:∃ zs,IsRow .u8 W a1 len1 cap1 zs:=by
  obtain ⟨fuel,hf⟩:=h1;rcases open_ints Tryd.underlying22 Tryd.underlying5 (by kernel_rfl) hf with ⟨hcs,_⟩|⟨x,l,c,zs,hcs,_,hl,hm,hz,_,hcell,hwz⟩
  · simp [Value.cells] at hcs;obtain ⟨rfl,rfl,rfl⟩:=hcs;exact ⟨[],mH _ _ _⟩
  · simp [Value.cells] at hcs;obtain ⟨rfl,rfl,rfl⟩:=hcs;exact ⟨zs,nH hl hm (by simpa using hz) hcell hwz⟩
 obtain ⟨a2,len2,cap2,rfl⟩:=okWide_slice Tryd.underlying26 (hval 2 26 v2 rfl rfl);have k2:=h2;have lt2:∀ x ∈ p2,x.block<W.heap.size:=by obtain ⟨m,hm⟩:=k2;exact DataW.trod_lt m _ _ _ hm
 obtain ⟨z2,w2⟩:∃ zs,IsRow .i64 W a2 len2 cap2 zs:=by
  obtain ⟨fuel,hf⟩:=h2;rcases open_ints Tryd.underlying26 Tryd.underlying3 (by kernel_rfl) hf with ⟨hcs,_⟩|⟨x,l,c,zs,hcs,_,hl,hm,hz,_,hcell,hwz⟩
  · simp [Value.cells] at hcs;obtain ⟨rfl,rfl,rfl⟩:=hcs;exact ⟨[],mH _ _ _⟩
  · simp [Value.cells] at hcs;obtain ⟨rfl,rfl,rfl⟩:=hcs;exact ⟨zs,nH hl hm (by simpa using hz) hcell hwz⟩
 obtain ⟨a3,len3,cap3,rfl⟩:=okWide_slice Tryd.underlying26 (hval 3 26 v3 rfl rfl);have k3:=h3;have lt3:∀ x ∈ p3,x.block<W.heap.size:=by obtain ⟨m,hm⟩:=k3;exact DataW.trod_lt m _ _ _ hm
 obtain ⟨z3,w3⟩:∃ zs,IsRow .i64 W a3 len3 cap3 zs:=by
  obtain ⟨fuel,hf⟩:=h3;rcases open_ints Tryd.underlying26 Tryd.underlying3 (by kernel_rfl) hf with ⟨hcs,_⟩|⟨x,l,c,zs,hcs,_,hl,hm,hz,_,hcell,hwz⟩
  · simp [Value.cells] at hcs;obtain ⟨rfl,rfl,rfl⟩:=hcs;exact ⟨[],mH _ _ _⟩
  · simp [Value.cells] at hcs;obtain ⟨rfl,rfl,rfl⟩:=hcs;exact ⟨zs,nH hl hm (by simpa using hz) hcell hwz⟩
 obtain ⟨a4,len4,cap4,rfl⟩:=okWide_slice Tryd.underlying22 (hval 4 22 v4 rfl rfl);have k4:=h4;have lt4:∀ x ∈ p4,x.block<W.heap.size:=by obtain ⟨m,hm⟩:=k4;exact DataW.trod_lt m _ _ _ hm
 obtain ⟨z4,w4⟩:∃ zs,IsRow .u8 W a4 len4 cap4 zs:=by
  obtain ⟨fuel,hf⟩:=h4;rcases open_ints Tryd.underlying22 Tryd.underlying5 (by kernel_rfl) hf with ⟨hcs,_⟩|⟨x,l,c,zs,hcs,_,hl,hm,hz,_,hcell,hwz⟩
  · simp [Value.cells] at hcs;obtain ⟨rfl,rfl,rfl⟩:=hcs;exact ⟨[],mH _ _ _⟩
  · simp [Value.cells] at hcs;obtain ⟨rfl,rfl,rfl⟩:=hcs;exact ⟨zs,nH hl hm (by simpa using hz) hcell hwz⟩
 clear hA0 hval0;refine (oM a0 a1 len1 cap1 z1 a2 len2 cap2 z2 a3 len3 cap3 z3 a4 len4 cap4 z4 W w0 w1 w2 w3 w4 (wC hL)).mono fun e W' ⟨he,bel⟩=>?_;subst he;exact ⟨_,rfl,_,_,_,[],_,[],hW',trodAll_mk1 (shut_bool Tryd.underlying4 _),(trodAll_cons_mk (Below.trod pK (by kernel_rfl) (of_decide_eq_true (by kernel_rfl)) k0 bel lt0) (trodAll_cons_mk (Below.trod pK (by kernel_rfl) (of_decide_eq_true (by kernel_rfl)) k1 bel lt1) (trodAll_cons_mk (Below.trod pK (by kernel_rfl) (of_decide_eq_true (by kernel_rfl)) k2 bel lt2) (trodAll_cons_mk (Below.trod pK (by kernel_rfl) (of_decide_eq_true (by kernel_rfl)) k3 bel lt3) (trodAll_cons_mk (Below.trod pK (by kernel_rfl) (of_decide_eq_true (by kernel_rfl)) k4 bel lt4) trodAll_mk0))))),rfl,bel.frame _,fun h=>by cases h⟩
theorem aFG (os:Os)(started:os.Started)(H:Type)(enc:TypeId × Value→H)(F:Stop.Interp) :
  ReturnsInHanded {} Tryd.checked os 3 .any ((OpenSpec.ofChange Rows.flatreadTurnedSpec).preRow enc Tryd.prog Tryd.f3 Rows.flatreadTurnedRow.domain false Rows.flatreadTurnedRow.laid) (((OpenSpec.ofChange Rows.flatreadTurnedSpec).at F).post enc Tryd.prog Tryd.f3 false true false false):=by
 obtain ⟨places,hx⟩:=reads os enc;refine returnsInHanded_of_row (C:=Tryd.checked) (s:=OpenSpec.ofChange Rows.flatreadTurnedSpec) own started (by kernel_rfl) Tryd.func3
  (witness_row_at (enc:=enc) (C:=Tryd.checked) false (qN os) #[Value.agg #[Value.slice none 0 0,Value.slice none 0 0,Value.int .u8 0,Value.bool false],Value.slice none 0 0,Value.slice none 0 0,Value.slice none 0 0,Value.slice none 0 0] rfl (by kernel_rfl) (by kernel_rfl) (by kernel_rfl)
   (OpenSpec.preRow_of_cond 8 hx (by kernel_rfl) (fun k hk=>by cases hk) (by kernel_rfl) (aDQ os))) ?_
 intro W base args ds gs before hval hW _ _ _ hL _ _;exact aDd H enc W base args ds gs before hval hW hL
theorem said:Rows.FlatreadTurnedSaid:=
 OpenClaim.holds_of_cond 3 Tryd.f3 rfl rfl rfl rfl rfl rfl rfl ⟨rfl,rfl,rfl,rfl,rfl⟩ rfl rfl rfl rfl rfl (by kernel_rfl) Tryd.func3 (by kernel_rfl)
  (of_decide_eq_true (by kernel_rfl)) (by unfold Func.isWrapper;first|(rw [bG (by decide +kernel)];kernel_rfl)|(rw [if_neg (by decide +kernel)];exact ⟨rfl,rfl⟩))
  (fun os started H enc _ F=>by rw [OpenClaim.pre_eq_preRow];exact aFG os started H enc F)
theorem plain (f:FuncId)(fn:Func)(hf:Tryd.pinned.checked.prog.funcNamed "transom/transomlaw10.FlatreadTurned" = some f)(hfn:Tryd.pinned.checked.prog.funcs[f]?=some fn) :
  false=Tryd.pinned.checked.prog.looks []∧∀ (j:Nat) t,fn.params[j]?=some t→Tryd.pinned.checked.prog.wantsStandIn t=false:=by
 obtain rfl:f=3 := Option.some.inj ((show Tryd.prog.funcNamed "transom/transomlaw10.FlatreadTurned" = some 3 by kernel_rfl).symm.trans hf) |>.symm;obtain rfl:fn=Tryd.f3 := (Option.some.inj (Tryd.func3.symm.trans hfn)).symm;refine ⟨by kernel_rfl,fun j t ht=>?_⟩;rw [Tryd.params3] at ht;have hm:t=25 ∨ t=22 ∨ t=26 ∨ t=26 ∨ t=22 := by simpa using Array.mem_of_getElem? ht
 rcases hm with rfl|rfl|rfl|rfl|rfl
 · exact (show Tryd.prog.wantsStandIn 25 = false by kernel_rfl)
 · exact (show Tryd.prog.wantsStandIn 22 = false by kernel_rfl)
 · exact (show Tryd.prog.wantsStandIn 26 = false by kernel_rfl)
 · exact (show Tryd.prog.wantsStandIn 26 = false by kernel_rfl)
 · exact (show Tryd.prog.wantsStandIn 22 = false by kernel_rfl)
end flatreadTurnedFrame
theorem flatreadTurned_card:Rows.FlatreadTurnedCardSaid:=
 Claim7.holds_tied_plain_at .later [] _ _ _ _ flatreadTurnedFrame.said (fun _ h=>by cases h) (by kernel_rfl) (fun _ h=>by cases h) flatreadTurned_row_tie rfl ⟨rfl,rfl⟩ (by kernel_rfl) rfl flatreadTurnedFrame.plain (by kernel_rfl)
end
end Go.Proofs.YtpbaaiilfkacnaaDoor
