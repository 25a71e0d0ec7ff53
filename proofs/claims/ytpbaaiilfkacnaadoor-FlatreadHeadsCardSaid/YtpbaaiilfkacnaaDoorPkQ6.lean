/-
  What wire.Part hands back, by a walk of its text. Conditions: those that each theorem names.
-/
import Derived.Test.YtpbaaiilfkacnaaDoorPkQ3
namespace Go.Proofs.YtpbaaiilfkacnaaDoor
open Go.ChangeShapes Go.WideShapes Go.ChangeAt Go.RowKit
set_option maxRecDepth 100000
set_option maxHeartbeats 16000000
section
open Go.Shelf
theorem rO {P:Program}{f:FuncId}{args:Array Value}{w:World}{k n:Nat}{v:Value}
  (h:Calls P f args (w.drewN (k+n)) fun e w'=>e=.returned v∧w.drewN (k+n)=w'):Calls P f args (w.drewN (k+n)) fun e w''=>e=.returned v∧∃ m,w''=w.drewN (k+m):=
 h.mono fun _ _ ⟨he,hm⟩=>⟨he,n,hm.symm⟩
theorem gB (w:World){base m:Nat}{bp:Option Addr}{bc:Nat}{sv ev:Value}{zs:List Int}{fs:List (List dT × Value)}{ns:List Nat}(h:IsMsg base w m bp bc sv ev zs fs ns)(k:Nat)(ref lists at':Int)(d:Nat)(there:Bool) :
  Calls Tryd.prog 108 #[.pointer (some ⟨m,0,none⟩),dD k ref lists at' d there] w fun e w'=>e=.returned (sQ (if there=true then fM zs at' else none))∧Below w.heap.size w w':=by
 have hb:=(bH w.heap.size w).alloc bD (.cells #[.int .u8 k,.int .i64 ref,.int .i64 lists,.int .i64 at',.int .u64 d,.bool there] 182);have HB:=aA hb;have HM:=aA (h.below hb);obtain ⟨_,x0,x1,x2,x3,x4,x5⟩:=bB (cN w (.cells #[.int .u8 k,.int .i64 ref,.int .i64 lists,.int .i64 at',.int .u64 d,.bool there] 182));clear hb h;unfold dD;cases there with
 | false =>
  go_enter Tryd.func108,Tryd.ntmps108;go_wp2
  go_ret2
  exact ⟨rfl,HB.out⟩
 | true =>
  obtain ⟨_,m0,m1,m2,_⟩:=aS HM.out.blk;rw [bG rfl];have HBY:=aA HM.out.bytes;have hlen:=HM.out.len;obtain ⟨jv,hjv⟩:∃ jv,fM zs at'=jv:=⟨_,rfl⟩;rw [hjv];have HJ0:=aA hjv;clear hjv;go_enter Tryd.func108,Tryd.ntmps108;go_upto_region 3 with (fail);generalize w.alloc (.cells #[.int .u8 k,.int .i64 ref,.int .i64 lists,.int .i64 at',.int .u64 d,.bool true] 182)=W0 at *;by_cases hin:cV (aH zs) at' 4=true
  · have hld:=dW zs at'.toNat HBY.out.1;have hat:=aW.1 hin;have HL:Hid (∀ n,Calls Tryd.prog 129 #[.slice bp zs.length bc,.int .i64 at',.int .i64 4] (W0.drewN n) fun e w'=>e=.returned (.tuple #[.int .u64 (aY zs at'.toNat 4),.bool true])∧W0.drewN n=w'):=aA (fun n=>oJ bp bc zs at' 4 _ (HBY.out.below bD (dB (bH _ _) n)) hlen hin (by decide));have hz:aH zs=(zs.length:Int):=rfl;rw [hz] at *;have hj:fM zs at'=if at'+aY zs at'.toNat 4≤(zs.length:Int) then some (at'+aY zs at'.toNat 4) else none:=by
     unfold fM;rw [bG hin];rfl
    have HJ:=aA (HJ0.out.symm.trans hj);clear hj hin HJ0;generalize aY zs at'.toNat 4=z at *;have hcv:=cU z;go_quiet (first|(go_at_call 129;exact iW (HL.out _)))
    go_wp2_with fail;by_cases hle:at'+z≤(zs.length:Int)
    · have HJ2:Hid (jv=some (at'+z)):=aA (HJ.out.trans (bG hle));have HN:=aA (fun W=>tK at' z zs.length W (by omega) (by omega) (by omega) (by omega) (by omega));go_quiet (first|(go_at_call 94;exact rO (HN.out _)))
      go_wp2
      go_ret2
      exact ⟨by rw [HJ2.out];rfl,by first|exact dB HB.out _|exact dB (dB HB.out _) _⟩
    · have HJ2:Hid (jv=none):=aA (HJ.out.trans (if_neg hle));have HN:=aA (fun W=>wE at' z zs.length W (by omega) (by omega));go_quiet (first|(go_at_call 94;exact rO (HN.out _)))
      go_wp2
      go_ret2
      exact ⟨by rw [HJ2.out];rfl,by first|exact dB HB.out _|exact dB (dB HB.out _) _⟩
  · have HJ:Hid (jv=none):=aA (HJ0.out.symm.trans (by unfold fM;rw [if_neg hin]));go_quiet (first|(go_at_call 129;exact iW (nM bp bc zs at' 4 _ hlen hin)))
    go_wp2
    go_ret2
    exact ⟨by rw [HJ.out];rfl,by first|exact dB HB.out _|exact dB (dB HB.out _) _⟩
theorem aAk (a b c d:Int)(w:World)(hd:0≤d) :
  Calls Tryd.prog 130 #[.agg #[.int .i64 a,.int .i64 b,.int .i64 c,.int .i64 d]] w fun e w'=>e=.returned (.bool (decide (4≤b∧4≤d∧d % 2=0)))∧Below w.heap.size w w':=by
 have HB:=aA ((bH w.heap.size w).alloc bD (.cells #[.int .i64 a,.int .i64 b,.int .i64 c,.int .i64 d] 140));obtain ⟨_,x0,x1,x2,x3⟩:=aF (cN w (.cells #[.int .i64 a,.int .i64 b,.int .i64 c,.int .i64 d] 140));have e2:d.tmod 2=d % 2:=Int.tmod_eq_emod_of_nonneg hd;have h2:d % 2=0∨d % 2=1:=by omega
 obtain ⟨r,hr⟩:∃ r,decide (4≤b∧4≤d∧d % 2=0)=r:=⟨_,rfl⟩;rw [hr];have HR:=aA hr.symm;clear hr;by_cases h0:4≤b
 · by_cases h1:4≤d
   · rcases h2 with h2|h2
     · have HV:Hid (r=true):=aA (HR.out.trans (fO ⟨h0,h1,h2⟩));rw [h2] at e2;clear h2;go_enter Tryd.func130,Tryd.ntmps130;go_wp2;go_ret;exact ⟨bZ HV.out.symm,HB.out⟩
     · have HV:Hid (r=false):=aA (HR.out.trans (iB (by omega)));rw [h2] at e2;clear h2;go_enter Tryd.func130,Tryd.ntmps130;go_wp2;go_ret;exact ⟨bZ HV.out.symm,HB.out⟩
   · have HV:Hid (r=false):=aA (HR.out.trans (iB (by omega)));clear h2 e2;go_enter Tryd.func130,Tryd.ntmps130;go_wp2;go_ret;exact ⟨bZ HV.out.symm,HB.out⟩
 · have HV:Hid (r=false):=aA (HR.out.trans (iB (by omega)));clear h2 e2;go_enter Tryd.func130,Tryd.ntmps130;go_wp2;go_ret;exact ⟨bZ HV.out.symm,HB.out⟩
theorem pD (t:mO)(p at' size:Int)(w:World)(ha : -1000000000000≤at'∧at'≤1000000000000)(hs:0≤size∧size≤8) :
  Calls Tryd.prog 114 #[wO t p,.int .i64 at',.int .i64 size] w fun e w'=>e=.returned (.bool (decide (4≤at'∧at'+size≤t.own)))∧Below w.heap.size w w':=by
 have HB:=aA ((bH w.heap.size w).alloc bD (.cells #[.int .i64 p,.int .i64 t.own,.int .i64 t.la,.int .i64 t.size] 140));obtain ⟨_,x0,x1,x2,x3⟩:=aF (cN w (.cells #[.int .i64 p,.int .i64 t.own,.int .i64 t.la,.int .i64 t.size] 140));have hw:=cU (at'+size);obtain ⟨r,hr⟩:∃ r,decide (4≤at'∧at'+size≤t.own)=r:=⟨_,rfl⟩;rw [hr];have HR:=aA hr.symm;clear hr;unfold wO;generalize t.own=b at *;by_cases h0:4≤at'
 · by_cases h1:at'+size≤b
   · have HV:Hid (r=true):=aA (HR.out.trans (fO ⟨h0,h1⟩));go_enter Tryd.func114,Tryd.ntmps114;go_wp2;go_ret;exact ⟨bZ HV.out.symm,HB.out⟩
   · have HV:Hid (r=false):=aA (HR.out.trans (iB (by omega)));go_enter Tryd.func114,Tryd.ntmps114;go_wp2;go_ret;exact ⟨bZ HV.out.symm,HB.out⟩
 · have HV:Hid (r=false):=aA (HR.out.trans (iB (by omega)));go_enter Tryd.func114,Tryd.ntmps114;go_wp2;go_ret;exact ⟨bZ HV.out.symm,HB.out⟩
theorem aAN (w:World){base m:Nat}{bp:Option Addr}{bc:Nat}{sv ev:Value}{zs:List Int}{fs:List (List dT × Value)}{ns:List Nat}(h:IsMsg base w m bp bc sv ev zs fs ns)(t:mO)(p:Int)(j:Nat)(hj:j≤1000000)
  (ht:cV (aH zs) t.la t.size=true∧t.size % 2=0) :
  Calls Tryd.prog 133 #[.pointer (some ⟨m,0,none⟩),wO t p,.int .i64 j] w fun e w'=>e=.returned (.int .i64 (eC zs t j))∧Below w.heap.size w w':=by
 have hb:=(bH w.heap.size w).alloc bD (.cells #[.int .i64 p,.int .i64 t.own,.int .i64 t.la,.int .i64 t.size] 140);have HB:=aA hb;have HM:=aA (h.below hb);obtain ⟨_,x0,x1,x2,x3⟩:=aF (cN w (.cells #[.int .i64 p,.int .i64 t.own,.int .i64 t.la,.int .i64 t.size] 140));obtain ⟨_,m0,m1,m2,_⟩:=aS HM.out.blk;have HBY:=aA HM.out.bytes;have hlen:=HM.out.len;have htt:=aW.1 ht.1;have hz:aH zs=(zs.length:Int):=rfl;rw [hz] at htt;have hw1:=cU (2 * (j:Int));have hw2:=cU (4+2 * (j:Int));have HEV:=aA ht.2;obtain ⟨r,hr⟩:∃ r,eC zs t j=r:=⟨_,rfl⟩;rw [hr];have HR:=aA hr.symm;have hb0:=hb;clear hr hb h ht;unfold wO;by_cases h0:4+2 * (j:Int)<t.size
 · have hin:cV (aH zs) (t.la+(4+2 * (j:Int))) 2=true:=aW.2 (by have:=HEV.out;rw [hz];omega);have HL:Hid (∀ W,Below (w.alloc (.cells #[.int .i64 p,.int .i64 t.own,.int .i64 t.la,.int .i64 t.size] 140)).heap.size (w.alloc (.cells #[.int .i64 p,.int .i64 t.own,.int .i64 t.la,.int .i64 t.size] 140)) W→Calls Tryd.prog 129 #[.slice bp zs.length bc,.int .i64 (t.la+(4+2 * (j:Int))),.int .i64 2] W fun e w'=>e=.returned (.tuple #[.int .u64 (aY zs (t.la+(4+2 * (j:Int))).toNat 2),.bool true])∧W=w'):=
    aA (fun W hb=>oJ bp bc zs (t.la+(4+2 * (j:Int))) 2 W (HBY.out.below bD hb) hlen hin (by decide))
   have HV:Hid (r=aY zs (t.la+(4+2 * (j:Int))).toNat 2):=aA (HR.out.trans (by unfold eC;rw [bG h0,show t.la.toNat+4+2 * j=(t.la+(4+2 * (j:Int))).toNat by omega]));have hld:=mU zs (t.la+(4+2 * (j:Int))).toNat HBY.out.1;have hw3:=IntWalk.i64_in (t.la+(4+2 * (j:Int))) (by omega);generalize aY zs (t.la+(4+2 * (j:Int))).toNat 2=z at *;have hcv:=cU z;have h0':¬t.size≤4+2 * (j:Int):=by omega
   clear hin hb0;generalize t.la=la at *;generalize t.size=sz at *;generalize t.own=ow at *;go_enter Tryd.func133,Tryd.ntmps133;go_upto_region 4 with (fail);generalize w.alloc (.cells #[.int .i64 p,.int .i64 ow,.int .i64 la,.int .i64 sz] 140)=W0 at *;go_quiet (first|(go_at_call 129;exact iW (HL.out _ (dB (bH _ _) _))))
   go_wp2;go_ret;exact ⟨cH HV.out.symm,dB HB.out _⟩
 · have HV:Hid (r=0):=aA (HR.out.trans (by unfold eC;rw [if_neg h0]));generalize t.la=la at *;generalize t.size=sz at *;generalize t.own=ow at *;go_enter Tryd.func133,Tryd.ntmps133;go_wp2;go_ret;exact ⟨cH HV.out.symm,HB.out⟩
inductive PV where
 | mk (num:Nat) (bytes:List Int) (kids:List PV) (has:Bool)
def PV.num:PV→Nat|.mk n _ _ _=>n
def PV.bytes:PV→List Int|.mk _ b _ _=>b
def PV.kids:PV→List PV|.mk _ _ k _=>k
def PV.has:PV→Bool|.mk _ _ _ h=>h
inductive IsV (w:World):PV→Value→Prop
 | mk (n:Nat) (bs:List Int) (ks:List PV) (h:Bool) (ba ka:Option Addr) (bc kc kb ko:Nat) (c0 c1 c2 c3:Nat→Value) (hn:n≤18446744073709551615) (hb:Bytes w ba bs) (hbl:bs.length≤bc) (hbm:(bs.length:Int)≤9223372036854775807)
   (hkl:ks.length≤kc) (hkm:(ks.length:Int)≤9223372036854775807) (hka:ks.length≠0→ka=some ⟨kb,ko,none⟩)
   (hc:∀ i,i<ks.length→w.cell? ⟨kb,ko+i * 4,none⟩=some (c0 i)∧w.cell? ⟨kb,ko+i * 4+1,none⟩=some (c1 i)∧w.cell? ⟨kb,ko+i * 4+2,none⟩=some (c2 i)∧w.cell? ⟨kb,ko+i * 4+3,none⟩=some (c3 i))
   (hk:∀ i (hi:i<ks.length),IsV w (ks[i]'hi) (.agg #[c0 i,c1 i,c2 i,c3 i])) :
   IsV w (.mk n bs ks h) (.agg #[.int .u64 n,.slice ba bs.length bc,.slice ka ks.length kc,.bool h])
theorem aC {w W:World}(h:Below w.heap.size w W){p:Addr}{v:Value}(hp:w.cell? p=some v):W.cell? p=some v:=(h.cell (cP hp)).trans hp
theorem IsV.later {w W:World}{v:PV}{val:Value}(h:IsV w v val)(hb:Below w.heap.size w W):IsV W v val:=by
 induction h with
 | mk n bs ks h ba ka bc kc kb ko c0 c1 c2 c3 hn hbb hbl hbm hkl hkm hka hc _ ih =>
  exact .mk n bs ks h ba ka bc kc kb ko c0 c1 c2 c3 hn (hbb.below bD hb) hbl hbm hkl hkm hka (fun i hi=>by obtain ⟨h0,h1,h2,h3⟩:=hc i hi;exact ⟨aC hb h0,aC hb h1,aC hb h2,aC hb h3⟩) ih
theorem IsV.form {w:World}{v:PV}{val:Value}(h:IsV w v val):∃ (ba ka:Option Addr) (bc kc:Nat),val=.agg #[.int .u64 v.num,.slice ba v.bytes.length bc,.slice ka v.kids.length kc,.bool v.has]∧v.num≤18446744073709551615∧Bytes w ba v.bytes∧v.bytes.length≤bc∧(v.bytes.length:Int)≤9223372036854775807∧v.kids.length≤kc∧(v.kids.length:Int)≤9223372036854775807 ∧
  ∀ i (hi:i<v.kids.length),∃ (kb ko:Nat) (u0 u1 u2 u3:Value),ka=some ⟨kb,ko,none⟩∧w.cell? ⟨kb,ko+i * 4,none⟩=some u0∧w.cell? ⟨kb,ko+i * 4+1,none⟩=some u1∧w.cell? ⟨kb,ko+i * 4+2,none⟩=some u2∧w.cell? ⟨kb,ko+i * 4+3,none⟩=some u3∧IsV w (v.kids[i]'hi) (.agg #[u0,u1,u2,u3]):=by
 cases h with
 | mk n bs ks h ba ka bc kc kb ko c0 c1 c2 c3 hn hbb hbl hbm hkl hkm hka hc hk =>
  refine ⟨ba,ka,bc,kc,rfl,hn,hbb,hbl,hbm,hkl,hkm,fun i hi=>?_⟩;obtain ⟨h0,h1,h2,h3⟩:=hc i hi;exact ⟨kb,ko,_,_,_,_,hka (Nat.ne_of_gt (Nat.lt_of_le_of_lt (Nat.zero_le _) hi)),h0,h1,h2,h3,hk i hi⟩
def gO:PV:=.mk 0 [] [] false
theorem kE (w:World):Bytes w none []:=⟨fun i=>by simp,fun h=>absurd rfl h⟩
theorem aEu (w:World):IsV w gO (.agg #[.int .u64 0,.slice none 0 0,.slice none 0 0,.bool false]):=
 .mk 0 [] [] false none none 0 0 0 0 (fun _=>.bool false) (fun _=>.bool false) (fun _=>.bool false) (fun _=>.bool false) (by decide) (kE w) bD (by decide) bD (by decide) (fun h=>absurd rfl h) (fun i hi=>absurd hi (Nat.not_lt_zero i)) (fun i hi=>absurd hi (Nat.not_lt_zero i))
theorem aO {w:World}{g:Nat}{x y z u:Value}{t:TypeId}(h:w.heap[g]?=some (.cells #[x,y,z,u] t (0,0)))(x' y' z' u':Value) :
  ((((w.setCell ⟨g,0,none⟩ x').setCell ⟨g,1,none⟩ y').setCell ⟨g,2,none⟩ z').setCell ⟨g,3,none⟩ u').heap[g]?=some (.cells #[x',y',z',u'] t (0,0)):=
 (aN (aN (aN (aN h 0 x') 1 y') 2 z') 3 u').trans rfl
theorem fR {B:Nat}{a w:World}(h:Below B a w){g:Nat}(hg:B≤g)(x y z u:Value):Below B a ((((w.setCell ⟨g,0,none⟩ x).setCell ⟨g,1,none⟩ y).setCell ⟨g,2,none⟩ z).setCell ⟨g,3,none⟩ u):=
 (((h.setCell (p:=⟨g,0,none⟩) hg x).setCell (p:=⟨g,1,none⟩) hg y).setCell (p:=⟨g,2,none⟩) hg z).setCell (p:=⟨g,3,none⟩) hg u
def nL (S:Nat→Bool)(w:World):World:={ w with heap:=w.heap.mapIdx fun i o=>if S i=true then .cells #[] 38 (0,0) else o }
theorem jC (S:Nat→Bool)(w:World):(nL S w).heap.size=w.heap.size:=by simp [nL]
theorem aAF (S:Nat→Bool)(w:World)(k:Nat)(h:S k=false):(nL S w).heap[k]?=w.heap[k]?:=by simp [nL,Array.getElem?_mapIdx,h]
theorem oD (S:Nat→Bool)(w:World)(p:Addr)(h:S p.block=false):(nL S w).cell? p=w.cell? p:=World.cell?_of_block (aAF S w _ h)
theorem aBR (S:Nat→Bool)(w:World)(p:Addr)(h:S p.block=true):(nL S w).cell? p=none:=by
 unfold World.cell? nL;simp only [Array.getElem?_mapIdx];cases w.heap[p.block]? with
 | none=>rfl
 | some o=>simp [h]
theorem lX {S:Nat→Bool}{w:World}{p:Addr}{x:Value}(h:(nL S w).cell? p=some x):S p.block=false∧w.cell? p=some x:=by
 cases hs:S p.block with
 | false=>exact ⟨rfl,(oD S w p hs)▸h⟩
 | true=>rw [aBR S w p hs] at h;cases h
theorem Bytes.mono {w W:World}{p:Option Addr}{zs:List Int}(hs:w.heap.size≤W.heap.size)(hc:∀ p x,w.cell? p=some x→W.cell? p=some x)(h:Bytes w p zs):Bytes W p zs:=by refine ⟨h.1,fun hne=>?_⟩;obtain ⟨b,off,rfl,hlt,hcell⟩:=h.2 hne;exact ⟨b,off,rfl,Nat.lt_of_lt_of_le hlt hs,fun i hi=>hc _ _ (hcell i hi)⟩
theorem IsV.mono {w W:World}{v:PV}{val:Value}(h:IsV w v val)(hs:w.heap.size≤W.heap.size)(hc:∀ p x,w.cell? p=some x→W.cell? p=some x):IsV W v val:=by
 induction h with
 | mk n bs ks h ba ka bc kc kb ko c0 c1 c2 c3 hn hbb hbl hbm hkl hkm hka hcc _ ih =>
  exact .mk n bs ks h ba ka bc kc kb ko c0 c1 c2 c3 hn (hbb.mono hs hc) hbl hbm hkl hkm hka (fun i hi=>by obtain ⟨h0,h1,h2,h3⟩:=hcc i hi;exact ⟨hc _ _ h0,hc _ _ h1,hc _ _ h2,hc _ _ h3⟩) ih
def VH (S:Nat→Bool)(w:World)(v:PV)(val:Value):Prop:=IsV (nL S w) v val
theorem VH.out {S:Nat→Bool}{w:World}{v:PV}{val:Value}(h:VH S w v val):IsV w v val:=
 IsV.mono h (by rw [jC];exact Nat.le_refl _) (fun _ _ h=>(lX h).2)
theorem VH.step {S S':Nat→Bool}{w W:World}{v:PV}{val:Value}(h:VH S w v val)(hs:w.heap.size≤W.heap.size)(hb:∀ k,k<w.heap.size→S k=false→S' k=false∧W.heap[k]?=w.heap[k]?):VH S' W v val:=
 IsV.mono h (by rw [jC,jC];exact hs) (fun p x hx=>by obtain ⟨h1,h2⟩:=lX hx;obtain ⟨h3,h4⟩:=hb p.block (cP h2) h1;rw [oD S' W p h3,World.cell?_of_block h4];exact h2)
theorem VH.alloc {S:Nat→Bool}{w:World}{v:PV}{val:Value}(h:VH S w v val)(o:Obj):VH S (w.alloc o) v val:=
 h.step (by simp) (fun k hk hs=>⟨hs,by rw [World.alloc];simp [Array.getElem?_push,Nat.ne_of_lt hk]⟩)
theorem VH.below {S:Nat→Bool}{w W:World}{v:PV}{val:Value}(h:VH S w v val)(hb:Below w.heap.size w W):VH S W v val:=h.step hb.size (fun k hk hs=>⟨hs,hb.block k hk⟩)
theorem VH.exc {S:Nat→Bool}{w W:World}{v:PV}{val:Value}{R:Nat}(h:VH S w v val)(hb:Exc R w.heap.size w W)(hR:S R=true):VH S W v val:=
 h.step hb.size (fun k hk hs=>⟨hs,hb.block k hk (fun e=>by subst e;rw [hR] at hs;cases hs)⟩)
theorem pA (S:Nat→Bool)(w:World):VH S w gO (.agg #[.int .u64 0,.slice none 0 0,.slice none 0 0,.bool false]):=aEu _
end
def iC (zs:List Int):Nat→Nat→Int
 | 0,_ => -1
 | fuel+1,i=>if i<zs.length then (if (mZ (zs.drop i)).1=65533∧(mZ (zs.drop i)).2=1 then (i:Int) else iC zs fuel (i+(mZ (zs.drop i)).2.toNat)) else -1
def fU (zs:List Int)(i:Nat):Int:=iC zs (zs.length+1) i
theorem rD (zs:List Int):∀ (f g i:Nat),zs.length<f+i→zs.length<g+i→iC zs f i=iC zs g i
 | 0,0,_,_,_=>rfl
 | 0,g+1,i,hf,_=>by simp only [iC];rw [if_neg (by omega)]
 | f+1,0,i,_,hg=>by simp only [iC];rw [if_neg (by omega)]
 | f+1,g+1,i,hf,hg=>by
  simp only [iC];by_cases h:i<zs.length
  · have hw:=oB (zs.drop i) (by simp;omega);rw [bG h,bG h,rD zs f g (i+(mZ (zs.drop i)).2.toNat) (by omega) (by omega)]
  · rw [if_neg h,if_neg h]
theorem tS (zs:List Int)(i:Nat)(h:zs.length≤i):fU zs i = -1:=by unfold fU iC;rw [if_neg (by omega)]
theorem zY (zs:List Int)(i:Nat)(h:i<zs.length)(h1:(mZ (zs.drop i)).1=65533)(h2:(mZ (zs.drop i)).2=1):fU zs i=i:=by unfold fU iC;rw [bG h,bG ⟨h1,h2⟩]
theorem rB (zs:List Int)(i:Nat)(h:i<zs.length)(h1:¬((mZ (zs.drop i)).1=65533∧(mZ (zs.drop i)).2=1)):fU zs i=fU zs (i+(mZ (zs.drop i)).2.toNat):=by
 have hw:=oB (zs.drop i) (by simp;omega);conv=>lhs;unfold fU iC
 rw [bG h,if_neg h1];exact rD zs _ _ _ (by omega) (by omega)
theorem aEh (zs:List Int)(i:Nat)(b off cap:Nat)(w:World)(hT:Tabs w)(hc:∀ i,i<zs.length→w.cell? ⟨b,off+i,none⟩=some (.int .u8 (zs.getD i 0)))(hb:∀ i,0≤zs.getD i 0∧zs.getD i 0≤255) :
  Calls Tryd.prog 106 #[.slice (some ⟨b,off+i,none⟩) (zs.length-i) cap] w fun e w'=>e=.returned (.tuple #[.int .i32 (mZ (zs.drop i)).1,.int .i64 (mZ (zs.drop i)).2])∧Below w.heap.size w w':=by
 have h:=aEO (zs.drop i) b (off+i) cap w hT (fun j hj=>by
  have:=hc (i+j) (by simp at hj;omega);rw [Nat.add_assoc,this];simp [List.getD]) (fun j=>by
  have:=hb (i+j);simpa [List.getD] using this)
 simp only [List.length_drop] at h;exact h
theorem pL (zs:List Int):∀ (f i:Nat),-1≤iC zs f i∧iC zs f i≤zs.length
 | 0,i=>by simp [iC]
 | f+1,i=>by
  simp only [iC];split
  · split
    · omega
    · exact pL zs f _
  · omega
theorem aBk (zs:List Int)(i:Nat) : -1≤fU zs i∧fU zs i≤zs.length:=pL zs _ i
theorem aAR (b off cap:Nat)(zs:List Int)(w:World)(hT:Tabs w)(hb:∀ i,0≤zs.getD i 0∧zs.getD i 0≤255)(hlt:zs≠[]→b<w.heap.size)(hc:∀ i,i<zs.length→w.cell? ⟨b,off+i,none⟩=some (.int .u8 (zs.getD i 0)))
  (hl:(zs.length:Int)≤9223372036854775807) (hcap:zs.length≤cap) :
  Calls Tryd.prog 107 #[.slice (some ⟨b,off,none⟩) zs.length cap] w fun e w'=>e=.returned (.int .i64 (fU zs 0))∧Below w.heap.size w w':=by
 obtain ⟨n,hn⟩:∃ n,n=zs.length:=⟨_,rfl⟩;have HN:=aA hn;have HP:=aA hc;have HB:=aA hb;have HL:=aA hlt;have HT:=aA hT;rw [←hn] at hl hcap ⊢;clear hc hb hn hlt hT;go_enter Tryd.func107,Tryd.ntmps107;go_wp2;go_loopw [3] (fun i wr=>Below w.heap.size w wr∧∃ k:Nat,k≤n∧i=.int .i64 k∧fU zs 0=fU zs k) (fun i _=>n-(intOf i).toNat)
 case atStart=>exact ⟨bH _ _,0,Nat.zero_le _,rfl,rfl⟩
 case round =>
  obtain ⟨hbel,k,hkn,rfl,hans⟩:=hrel;have HA:=aA hans;clear hans;by_cases hlt:k<n
  · have hk:k<zs.length:=by rw [←HN.out];exact hlt
    have hw:=oB (zs.drop k) (by simp;omega);have hbs:b<w.heap.size:=HL.out (by intro h;rw [h] at hk;simp at hk);have D:=aEh zs k b off (cap-k) _ (HT.out.below bD hbel) (fun i hi=>(hbel.cell (p:=⟨b,off+i,none⟩) hbs).trans (HP.out i hi)) HB.out;rw [←HN.out] at D;have hbad:=zY zs k hk;have hgood:=rB zs k hk;have hw3:(mZ (zs.drop k)).2≤n-k:=by have h2:=hw.2.2;have h3:=HN.out;simp at h2;omega
    clear hk hbs;generalize (mZ (zs.drop k)).1=R at D hbad hgood hw hw3;generalize (mZ (zs.drop k)).2=K at D hbad hgood hw hw3;obtain ⟨hw1,hw2,_⟩:=hw;by_cases hx:R=65533∧K=1
    · have E:=aA (hbad hx.1 hx.2);have t1:(R==65533)=true:=by simp [hx.1]
      have t2:K≤1:=by omega
      have HD:=aA D;clear hbad hgood hx D;go_wp2_with (go_at_call 106;refine HD.out.mono ?_;rintro e w1 ⟨rfl,hb1⟩);go_ret;exact ⟨cH (by rw [HA.out,E.out]),hbel.trans (hb1.mono hbel.size)⟩
    · have E:=aA (hgood hx);have HD:=aA D;have HA2:Hid (fU zs 0=fU zs (k+K.toNat)):=HA.out.trans E.out;clear hbad hgood D E HA;by_cases hr:R=65533
      · have t1:(R==65533)=true:=by simp [hr]
        have t2:¬K≤1:=fun h=>hx ⟨hr,by omega⟩;clear hx hr;go_wp2_with (go_at_call 106;refine HD.out.mono ?_;rintro e w1 ⟨rfl,hb1⟩);go_roundw
        case rel=>exact ⟨hbel.trans (hb1.mono hbel.size),k+K.toNat,by omega,by rw [show ((k+K.toNat:Nat):Int)=k+K from by omega],HA2.out⟩
        case measure=>simp [intOf];omega
      · have t1:(R==65533)=false:=by simp [hr]
        clear hx hr;go_wp2_with (go_at_call 106;refine HD.out.mono ?_;rintro e w1 ⟨rfl,hb1⟩);go_roundw
        case rel=>exact ⟨hbel.trans (hb1.mono hbel.size),k+K.toNat,by omega,by rw [show ((k+K.toNat:Nat):Int)=k+K from by omega],HA2.out⟩
        case measure=>simp [intOf];omega
  · go_wp2;go_ret;have hj:k=n:=by omega
    exact ⟨cH (by rw [HA.out,tS _ _ (by rw [hj,HN.out];exact Nat.le_refl _)]),hbel⟩
theorem aAU (p:Option Addr)(cap:Nat)(w:World) :
  Calls Tryd.prog 107 #[.slice p 0 cap] w fun e w'=>e=.returned (.int .i64 (-1))∧w=w':=by
 go_enter Tryd.func107,Tryd.ntmps107;go_wp2
 go_loop [3] (fun i=>i=.int .i64 0) (fun _=>0)
 case atStart=>rfl
 case round =>
  subst hrel;go_wp2;go_ret;exact ⟨rfl,rfl⟩
theorem aBf (p:Option Addr)(cap:Nat)(zs:List Int)(w:World)(hT:Tabs w)(hz:Bytes w p zs)(hl:(zs.length:Int)≤9223372036854775807)(hcap:zs.length≤cap) :
  Calls Tryd.prog 107 #[.slice p zs.length cap] w fun e w'=>e=.returned (.int .i64 (fU zs 0))∧Below w.heap.size w w':=by
 by_cases hne:zs=[]
 · subst hne;exact (aAU p cap w).mono fun e w' h=>⟨h.1,by rw [←h.2];exact bH _ _⟩
 · obtain ⟨b,off,rfl,hlt,hc⟩:=hz.2 hne;exact aAR b off cap zs w hT hz.1 (fun _=>hlt) hc hl hcap
theorem aBX (a:Option Addr)(cap n:Nat)(zs:List Int)(w:World)(hT:Tabs w)(hz:Bytes w a zs)(hn:zs.length=n)(hl:(n:Int)≤9223372036854775807)(hcap:n≤cap) :
  Calls Tryd.prog 107 #[.slice a n cap] w fun e w'=>e=.returned (.int .i64 (fU zs 0))∧Below w.heap.size w w':=by
 subst hn;exact aBf _ cap zs w hT hz hl hcap
theorem aBj (b off cap:Nat)(zs:List Int)(w:World)(hT:Tabs w)(hb:∀ i,0≤zs.getD i 0∧zs.getD i 0≤255)(hlt:zs≠[]→b<w.heap.size)(hc:∀ i,i<zs.length→w.cell? ⟨b,off+i,none⟩=some (.int .u8 (zs.getD i 0)))
  (hl:(zs.length:Int)≤9223372036854775807) (hcap:zs.length≤cap) :
  Calls Tryd.prog 77 #[.slice (some ⟨b,off,none⟩) zs.length cap] w fun e w'=>e=.returned (.int .i64 (fU zs 0))∧Below w.heap.size w w':=by
 obtain ⟨n,hn⟩:∃ n,n=zs.length:=⟨_,rfl⟩;have HN:=aA hn;have HP:=aA hc;have HB:=aA hb;have HL:=aA hlt;have HT:=aA hT;rw [←hn] at hl hcap ⊢;clear hc hb hn hlt hT;go_enter Tryd.func77,Tryd.ntmps77;go_wp2;go_loopw [3,9] (fun x i wr=>Below w.heap.size w wr∧∃ k j:Nat,k≤j∧j≤n∧i=.int .i64 k∧x=.int .i64 j∧fU zs 0=fU zs j) (fun _ i _=>n-(intOf i).toNat)
 case atStart=>exact ⟨bH _ _,0,0,Nat.le_refl _,Nat.zero_le _,rfl,rfl,rfl⟩
 case round =>
  obtain ⟨hbel,k,j,hkj,hjn,rfl,rfl,hans⟩:=hrel;have HA:=aA hans;clear hans;by_cases hlt:k<n
  · by_cases hkj':k<j
    · go_wp2;go_roundw
      case rel=>exact ⟨hbel,k+1,j,by omega,hjn,by go_num,rfl,HA.out⟩
      case measure=>simp [intOf];omega
    · obtain rfl:k=j:=by omega
      have hk:k<zs.length:=by rw [←HN.out];exact hlt
      have hw:=oB (zs.drop k) (by simp;omega);have hbs:b<w.heap.size:=HL.out (by intro h;rw [h] at hk;simp at hk);have D:=aEh zs k b off (cap-k) _ (HT.out.below bD hbel) (fun i hi=>(hbel.cell (p:=⟨b,off+i,none⟩) hbs).trans (HP.out i hi)) HB.out;rw [←HN.out] at D;have hbad:=zY zs k hk;have hgood:=rB zs k hk;have hw3:(mZ (zs.drop k)).2≤n-k:=by have h2:=hw.2.2;have h3:=HN.out;simp at h2;omega
      clear hk hbs;generalize (mZ (zs.drop k)).1=R at D hbad hgood hw hw3;generalize (mZ (zs.drop k)).2=K at D hbad hgood hw hw3;obtain ⟨hw1,hw2,_⟩:=hw;by_cases hx:R=65533∧K=1
      · have E:=aA (hbad hx.1 hx.2);have t1:(R==65533)=true:=by simp [hx.1]
        have t2:(K==1)=true:=by simp [hx.2]
        have HD:=aA D;clear hbad hgood hx D;go_wp2_with (go_at_call 106;refine HD.out.mono ?_;rintro e w1 ⟨rfl,hb1⟩);go_ret;exact ⟨cH (by rw [HA.out,E.out]),hbel.trans (hb1.mono hbel.size)⟩
      · have E:=aA (hgood hx);have HD:=aA D;have HA2:Hid (fU zs 0=fU zs (k+K.toNat)):=HA.out.trans E.out;clear hbad hgood D E HA;by_cases hr:R=65533
        · have t1:(R==65533)=true:=by simp [hr]
          have t2:(K==1)=false:=by simp;exact fun h=>hx ⟨hr,h⟩
          clear hx hr;go_wp2_with (go_at_call 106;refine HD.out.mono ?_;rintro e w1 ⟨rfl,hb1⟩);go_roundw
          case rel=>exact ⟨hbel.trans (hb1.mono hbel.size),k+1,k+K.toNat,by omega,by omega,by go_num,by rw [show ((k+K.toNat:Nat):Int)=k+K from by omega],HA2.out⟩
          case measure=>simp [intOf];omega
        · have t1:(R==65533)=false:=by simp [hr]
          clear hx hr;go_wp2_with (go_at_call 106;refine HD.out.mono ?_;rintro e w1 ⟨rfl,hb1⟩);go_roundw
          case rel=>exact ⟨hbel.trans (hb1.mono hbel.size),k+1,k+K.toNat,by omega,by omega,by go_num,by rw [show ((k+K.toNat:Nat):Int)=k+K from by omega],HA2.out⟩
          case measure=>simp [intOf];omega
  · go_wp2;go_ret;have hj:j=n:=by omega
    exact ⟨cH (by rw [HA.out,tS _ _ (by rw [hj,HN.out];exact Nat.le_refl _)]),hbel⟩
theorem aAE (p:Option Addr)(cap:Nat)(w:World) :
  Calls Tryd.prog 77 #[.slice p 0 cap] w fun e w'=>e=.returned (.int .i64 (-1))∧w=w':=by
 go_enter Tryd.func77,Tryd.ntmps77;go_wp2
 go_loop [9] (fun i=>i=.int .i64 0) (fun _=>0)
 case atStart=>rfl
 case round =>
  subst hrel;go_wp2;go_ret;exact ⟨rfl,rfl⟩
theorem aBl (p:Option Addr)(cap:Nat)(zs:List Int)(w:World)(hT:Tabs w)(hz:Bytes w p zs)(hl:(zs.length:Int)≤9223372036854775807)(hcap:zs.length≤cap) :
  Calls Tryd.prog 77 #[.slice p zs.length cap] w fun e w'=>e=.returned (.int .i64 (fU zs 0))∧Below w.heap.size w w':=by
 by_cases hne:zs=[]
 · subst hne;exact (aAE p cap w).mono fun e w' h=>⟨h.1,by rw [←h.2];exact bH _ _⟩
 · obtain ⟨b,off,rfl,hlt,hc⟩:=hz.2 hne;exact aBj b off cap zs w hT hz.1 (fun _=>hlt) hc hl hcap
theorem aB7 (p:Option Addr)(cap n:Nat)(zs:List Int)(w:World)(hT:Tabs w)(hz:Bytes w p zs)(hn:zs.length=n)(hl:(n:Int)≤9223372036854775807)(hcap:n≤cap) :
  Calls Tryd.prog 77 #[.slice p n cap] w fun e w'=>e=.returned (.int .i64 (fU zs 0))∧Below w.heap.size w w':=by
 subst hn;exact aBl _ cap zs w hT hz hl hcap
section
open Go.Shelf
def aT (k:Nat)(lists:Int):Nat:=if 0<lists then 3 else if lists<0 then 0 else if 0<aP k then 1 else if k=11∨k=12 then 2 else if k=13 then 4 else 0
def nS (o:Nat)(v:PV):Bool:=
 (decide (o=1)||decide (v.num=0))&&((decide (o=2)||decide (v.bytes.length=0))&&(((decide (o=3)||v.has)||decide (v.kids.length=0))&&(decide (o=4) || !v.has)))
def kY (f:Nat→Int→Int→PV→Bool):List dT→List PV→Bool
 | [],_=>true
 | _::_,[]=>false
 | x::xs,v::vs=>f x.kind x.ref x.lists v&&kY f xs vs
def qH (ss:List cO)(es:List aX)(next:Option (Nat→Int→Int→PV→Bool))(k:Nat)(ref lists:Int)(v:PV):Bool:=
 nS (aT k lists) v &&
  (if aT k lists=1 then dV es k ref lists v.num
   else if aT k lists=2 then decide (k=12)||decide (fU v.bytes 0<0)
   else if aT k lists=3 then (match next with
    | none=>decide (v.kids.length=0)
    | some f=>v.kids.all fun q => !(decide (aT k (lists-1)=4) && !q.has)&&f k ref (lists-1) q)
   else if aT k lists=4 then !v.has||(match next with
    | none=>false
    | some f=>decide (0≤ref∧ref<ss.length)&&(decide (v.kids.length=(ss.getD ref.toNat ⟨⟨#[]⟩,[]⟩).fields.length)&&kY f (ss.getD ref.toNat ⟨⟨#[]⟩,[]⟩).fields v.kids))
   else false)
def cZ (ss:List cO)(es:List aX):Nat→Nat→Int→Int→PV→Bool
 | 0=>qH ss es none
 | r+1=>qH ss es (some (cZ ss es r))
end
def aDh (g off a n:Nat)(e:Ending):Prop:=∃ o,e=.returned (.tuple #[.slice (some ⟨g,o,none⟩) n n,.bool true])∧(0<n→o=off+a)
theorem xV {g o m m':Nat}(h:m=m'):Ending.returned (.tuple #[.slice (some ⟨g,o,none⟩) m m,.bool true])=.returned (.tuple #[.slice (some ⟨g,o,none⟩) m' m',.bool true]):=by rw [h]
theorem aDI (g off len cap:Nat)(a n:Int)(w:World)(hl:(len:Int)≤9223372036854775807)(hcap:len≤cap)(h0:0≤a)(h1:0≤n)(h2:a≤len)(h3:n≤len-a) :
  Calls Tryd.prog 149 #[.slice (some ⟨g,off,none⟩) len cap,.int .i64 a,.int .i64 n] w fun e w'=>aDh g off a.toNat n.toNat e∧w=w':=by
 have e1:(a+n).toNat-a.toNat=n.toNat:=by omega
 have E:=aA e1;clear e1;go_enter Tryd.func149,Tryd.ntmps149;go_wp2_with (go_at_call 94;refine (tK a n len _ h0 h1 h2 h3 hl).mono ?_;rintro e w' ⟨rfl,rfl⟩)
 · go_ret2
   exact ⟨⟨_,xV (show 0=n.toNat by omega),fun hn=>by omega⟩,rfl⟩
 · go_ret2
   exact ⟨⟨_,xV E.out,fun _=>rfl⟩,rfl⟩
theorem aEP (p:Option Addr)(len cap:Nat)(a n:Int)(w:World)(hl:(len:Int)≤9223372036854775807)(h:a<0∨n<0∨(len:Int)<a∨len-a<n) :
  Calls Tryd.prog 149 #[.slice p len cap,.int .i64 a,.int .i64 n] w fun e w'=>e=.returned (.tuple #[.slice none 0 0,.bool false])∧w=w':=by
 go_enter Tryd.func149,Tryd.ntmps149;go_wp2_with (go_at_call 94;refine (wE a n len _ h hl).mono ?_;rintro e w' ⟨rfl,rfl⟩)
 go_ret2
 exact ⟨rfl,rfl⟩
end Go.Proofs.YtpbaaiilfkacnaaDoor
