/-
  The document's own Inline. Conditions: those that each theorem names.
-/
import Derived.Test.YtpbaaiilfkacnaaDoorPkQ5
import Derived.Test.YtpbaaiilfkacnaaDoorPkQ6
import Derived.Test.YtpbaaiilfkacnaaDoorPkQ7
import Derived.StillTailTactics
namespace Go.Proofs.YtpbaaiilfkacnaaDoor
open Go.ChangeShapes Go.WideShapes Go.ChangeAt Go.RowKit Go.Shelf
set_option maxRecDepth 100000
set_option maxHeartbeats 16000000
structure WState (w:World)(wk m mt:Nat)(out:Bool)(left ml:Int)(mo:Bool):Prop where
 walk:w.heap[wk]?=some (.cells #[.pointer (some ⟨m,0,none⟩),.pointer (some ⟨mt,0,none⟩),.bool out,.int .i64 left] 138 (0,0))
 meter:w.heap[mt]?=some (.cells #[.int .i64 ml,.bool mo] 117 (0,0))
theorem WState.below {w W:World}{wk m mt:Nat}{out mo:Bool}{left ml:Int}(h:WState w wk m mt out left ml mo)(hb:Below w.heap.size w W):WState W wk m mt out left ml mo:=
 ⟨aE h.walk hb (aD h.walk),aE h.meter hb (aD h.meter)⟩
theorem WState.apart {w:World}{wk m mt:Nat}{out mo:Bool}{left ml:Int}(h:WState w wk m mt out left ml mo):wk≠mt:=fun e=>by have h1:=h.walk;have h2:=h.meter;rw [e,h2] at h1;injection h1 with h1;injection h1 with h1 _ _;have h3:=congrArg Array.size h1;simp at h3
theorem kH {w:World}{g:Nat}{x y z u:Value}{t:TypeId}(h:w.heap[g]?=some (.cells #[x,y,z,u] t (0,0))) :
  g<w.heap.size∧w.cell? ⟨g,0,none⟩=some x∧w.cell? ⟨g,1,none⟩=some y∧w.cell? ⟨g,2,none⟩=some z∧w.cell? ⟨g,3,none⟩=some u:=
 ⟨aD h,(aU h 0).trans rfl,(aU h 1).trans rfl,(aU h 2).trans rfl,(aU h 3).trans rfl⟩
theorem iT (w:World){wk m mt:Nat}{out mo:Bool}{left ml:Int}(h:WState w wk m mt out left ml mo)(size:Int)(hb : -9000000000000000000≤left-size∧left-size≤9000000000000000000) :
  Calls Tryd.prog 111 #[.pointer (some ⟨wk,0,none⟩),.int .i64 size] w fun e w'=>e=.returned (.bool (decide (0≤left-size)))∧WState w' wk m mt out (left-size) ml mo∧Exw wk mt w.heap.size w w':=by
 obtain ⟨_,c0,c1,c2,c3⟩:=kH h.walk;obtain ⟨l,hl0⟩:∃ l,left-size=l:=⟨_,rfl⟩;have hw:IntKind.i64.wrap (left-size)=l:=by rw [←hl0];exact cU (left-size)
 rw [hl0];have f3:=aB h.walk 3;have HW:=aA ((aN h.walk 3 (.int .i64 l)).trans rfl);have HM:=aA (bA h.meter (p:=⟨wk,3,none⟩) h.apart (.int .i64 l));have HX:=aA ((Exw.refl wk mt w.heap.size w).setCell (p:=⟨wk,3,none⟩) (.inl rfl) (.int .i64 l));clear h hl0;by_cases hl:0≤l
 · have hd:decide (0≤l)=true:=fO hl;rw [hd];go_enter Tryd.func111,Tryd.ntmps111;go_wp2;go_ret;exact ⟨rfl,⟨HW.out,HM.out⟩,HX.out⟩
 · have hd:decide (0≤l)=false:=iB hl;rw [hd];go_enter Tryd.func111,Tryd.ntmps111;go_wp2;go_ret;exact ⟨rfl,⟨HW.out,HM.out⟩,HX.out⟩
theorem WState.isMeter {w:World}{wk m mt:Nat}{out mo:Bool}{left ml:Int}(h:WState w wk m mt out left ml mo):wJ w mt ml mo:=
 ⟨(aU h.meter 0).trans rfl,(aU h.meter 1).trans rfl,aB h.meter 0,aB h.meter 1⟩
theorem lT (w:World){wk m mt:Nat}{left ml:Int}(h:WState w wk m mt false left ml false)(n:Int)(h0:0≤n)(h1:n≤ml)(h2:ml≤9223372036854775807) :
  Calls Tryd.prog 112 #[.pointer (some ⟨wk,0,none⟩),.int .i64 n] w fun e w'=>e=.returned (.bool true)∧WState w' wk m mt false left (ml-n) false∧Exw wk mt w.heap.size w w':=by
 obtain ⟨_,c0,c1,c2,c3⟩:=kH h.walk;have hap:=h.apart;have HT:=aA (aDV mt ml n w h.isMeter h0 h1 h2);have hW:=bA h.walk (p:=⟨mt,0,none⟩) (fun e=>hap e.symm) (.int .i64 (ml-n));have hM:=(aN h.meter 0 (.int .i64 (ml-n))).trans rfl;have hX:=(Exw.refl wk mt w.heap.size w).setCell (p:=⟨mt,0,none⟩) (.inr (.inl rfl)) (.int .i64 (ml-n));have HW:=aA ((aN hW 2 (.bool false)).trans rfl);have HM:=aA (bA hM (p:=⟨wk,2,none⟩) hap (.bool false));have HX:=aA (hX.setCell (p:=⟨wk,2,none⟩) (.inl rfl) (.bool false));have HW0:=aA hW;clear h hW hM hX;go_enter Tryd.func112,Tryd.ntmps112;go_wp2_with fail;refine HT.out.mono ?_;rintro e W1 ⟨rfl,rfl⟩;generalize w.setCell ⟨mt,0,none⟩ (.int .i64 (ml-n))=W1 at *;clear c0 c1 c2 c3;obtain ⟨_,c0,c1,c2,c3⟩:=kH HW0.out;have f2:=aB HW0.out 2;go_wp2;go_ret;exact ⟨rfl,⟨HW.out,HM.out⟩,HX.out⟩
theorem nY (w:World){wk m mt:Nat}{left ml:Int}(h:WState w wk m mt false left ml false)(n:Int)(h0:0≤n)(h1:ml<n) :
  Calls Tryd.prog 112 #[.pointer (some ⟨wk,0,none⟩),.int .i64 n] w fun e w'=>e=.returned (.bool false)∧WState w' wk m mt true left 0 true∧Exw wk mt w.heap.size w w':=by
 obtain ⟨_,c0,c1,c2,c3⟩:=kH h.walk;have hap:=h.apart;have HT:=aA (aCA mt ml n w h.isMeter h0 h1);have hW:=bA (bA h.walk (p:=⟨mt,0,none⟩) (fun e=>hap e.symm) (.int .i64 0)) (p:=⟨mt,1,none⟩) (fun e=>hap e.symm) (.bool true);have hM:=(aN ((aN h.meter 0 (.int .i64 0)).trans rfl:_=some (Obj.cells #[.int .i64 0,.bool false] 117 (0,0))) 1 (.bool true)).trans rfl;have hX:=((Exw.refl wk mt w.heap.size w).setCell (p:=⟨mt,0,none⟩) (.inr (.inl rfl)) (.int .i64 0)).setCell (p:=⟨mt,1,none⟩) (.inr (.inl rfl)) (.bool true);have HW:=aA ((aN hW 2 (.bool true)).trans rfl);have HM:=aA (bA hM (p:=⟨wk,2,none⟩) hap (.bool true));have HX:=aA (hX.setCell (p:=⟨wk,2,none⟩) (.inl rfl) (.bool true));have HW0:=aA hW;clear h hW hM hX;go_enter Tryd.func112,Tryd.ntmps112;go_wp2_with fail;refine HT.out.mono ?_;rintro e W1 ⟨rfl,rfl⟩
 generalize (w.setCell ⟨mt,0,none⟩ (.int .i64 0)).setCell ⟨mt,1,none⟩ (.bool true)=W1 at *;clear c0 c1 c2 c3;obtain ⟨_,c0,c1,c2,c3⟩:=kH HW0.out;have f2:=aB HW0.out 2;go_wp2;go_ret;exact ⟨rfl,⟨HW.out,HM.out⟩,HX.out⟩
def gG (res:Option (PV × Int))(wk m mt:Nat)(left ml:Int)(w:World)(e:Ending)(w':World):Prop:=
 Exw wk mt w.heap.size w w' ∧
 ((∃ v l' ml',res=some (v,l')∧(0≤l'∧l'≤left)∧e=.returned (.bool true)∧WState w' wk m mt false l' ml' false∧(0≤ml'∧ml'≤ml)∧(3 * left≤ml→3 * l'≤ml')) ∨
  (e=.returned (.bool false)∧∃ o l' ml' mo,WState w' wk m mt o l' ml' mo∧(o=false→res=none)∧(o=true→ml<3 * left)))
structure Src (g:Nat)(a:Option Addr)(bs:List Int)(bc:Nat)(W:World)(i:Nat):Prop where
 blk:W.heap[g]?=some (.cells #[.slice a bs.length bc,.int .i64 i] 100 (0,0))
 le:i≤bs.length
 byt:Bytes W a bs
 low:bs≠[]→∀ b off,a=some ⟨b,off,none⟩→b≠g
 len:(bs.length:Int)≤9223372036854775807
 cap:bs.length≤bc
theorem Src.below {g:Nat}{a:Option Addr}{bs:List Int}{bc:Nat}{W W':World}{i:Nat}(h:Src g a bs bc W i)(hb:Below W.heap.size W W'):Src g a bs bc W' i:=
 ⟨aE h.blk hb (aD h.blk),h.le,h.byt.below bD hb,h.low,h.len,h.cap⟩
theorem Bytes.exc {w w':World}{R B:Nat}{a:Option Addr}{bs:List Int}(h:Bytes w a bs)(hb:Exc R B w w')(hB:w.heap.size≤B)(hR:bs≠[]→∀ b off,a=some ⟨b,off,none⟩→b≠R):Bytes w' a bs:=by refine ⟨h.1,fun hne=>?_⟩;obtain ⟨b,off,rfl,hlt,hc⟩:=h.2 hne;exact ⟨b,off,rfl,Nat.lt_of_lt_of_le hlt hb.size,fun i hi=>(hb.cell (p:=⟨b,off+i,none⟩) (Nat.lt_of_lt_of_le hlt hB) (hR hne b off rfl)).trans (hc i hi)⟩
theorem fS {R B:Nat}{a w:World}(h:Exc R B a w)(n:Nat):Exc R B a (w.drewN n):=⟨h.os,h.tape,h.output,h.size,h.block⟩
theorem oT (w:World)(n:Nat):Below w.heap.size w (w.drewN n):=⟨rfl,rfl,rfl,Nat.le_refl _,fun _ _=>rfl⟩
theorem Src.dN {g:Nat}{a:Option Addr}{bs:List Int}{bc:Nat}{W:World}{i:Nat}(h:Src g a bs bc W i)(n:Nat):Src g a bs bc (W.drewN n) i:=h.below (oT W n)
theorem Src.put {g:Nat}{a:Option Addr}{bs:List Int}{bc:Nat}{W:World}{i:Nat}(h:Src g a bs bc W i)(hi:i<bs.length):Src g a bs bc (W.setCell ⟨g,1,none⟩ (.int .i64 ((i:Int)+1))) (i+1):=
 ⟨aN h.blk 1 _,hi,h.byt.exc (aEx W g 1 _) bD h.low,h.low,h.len,h.cap⟩
theorem mJ (g:Nat)(a:Option Addr)(bs:List Int)(bc i:Nat)(w:World)(h:Src g a bs bc w i) :
  Calls Tryd.prog 67 #[.pointer (some ⟨g,0,none⟩)] w fun e w'=>∃ c i':Nat,e=.returned (.int .i64 c)∧c≤255∧i≤i'∧Src g a bs bc w' i'∧Exc g w.heap.size w w'∧Hid (i<bs.length→i'=i+1):=by
 obtain ⟨_,s0,s1,sf0,sf1⟩:=mI h.blk;have HS:=aA h;have hle:=h.le;have hlen:=h.len;have hcap:=h.cap;have hbyt:=h.byt;clear h;by_cases hi:bs.length≤i
 · go_enter Tryd.func67,Tryd.ntmps67;go_wp2;go_quiet (fail)
   go_wp2;go_ret;exact ⟨0,i,rfl,by decide,Nat.le_refl _,HS.out.dN _,fS (Exc.refl _ _ _) _,aA (fun h=>absurd h (by omega))⟩
 · have hne:bs≠[]:=fun e=>by rw [e] at hi;exact hi (Nat.zero_le _)
   obtain ⟨b,off,rfl,hlt,hc⟩:=hbyt.2 hne;have hci:=hc i (by omega);obtain ⟨c,hcc⟩:∃ c:Nat,bs.getD i 0=c:=⟨(bs.getD i 0).toNat,by have:=(hbyt.1 i).1;omega⟩;have hc255:c≤255:=by have:=(hbyt.1 i).2;omega
   rw [hcc] at hci;have hbg:b≠g:=HS.out.low hne b off rfl;clear hc hbyt hcc hne;go_enter Tryd.func67,Tryd.ntmps67;go_wp2;go_quiet (fail)
   go_wp2;go_quiet (fail)
   go_wp2;go_ret;exact ⟨c,i+1,rfl,hc255,Nat.le_succ _,((HS.out.dN _).put (by omega)).dN _,fS ((fS (Exc.refl _ _ _) _).setCell (p:=⟨g,1,none⟩) (.inl rfl) _) _,aA (fun _=>rfl)⟩
theorem kT (g:Nat)(a:Option Addr)(bs:List Int)(bc i:Nat)(w:World)(h:Src g a bs bc w i) :
  Calls Tryd.prog 67 #[.pointer (some ⟨g,0,none⟩)] w fun e w'=>∃ c i':Nat,e=.returned (.int .i64 c)∧c≤255∧i≤i'∧Src g a bs bc w' i'∧Exc g w.heap.size w w':=by
 refine (mJ g a bs bc i w h).mono ?_;rintro e W ⟨c,i',h1,h2,h3,h4,h5,_⟩;exact ⟨c,i',h1,h2,h3,h4,h5⟩
noncomputable def aFH:Code:=(Tryd.f10.body.bind (fB 23)).getD .skip
structure aGK (w W:World)(p:dM)(f:PF)(a a0 a1 ea:Option Addr)(b i n k B off T n0 e0 n1 c1:Nat):Prop where
 pf:aEt w a k f B off
 bel:Below w.heap.size w W
 hb:b=w.heap.size
 hT:b+2<T
 out:W.cell? ⟨b+2,1,none⟩=some (.slice ea n0 e0)
 bx1:W.cell? ⟨b,1,none⟩=some (.slice a1 n1 c1)
 bx3:W.cell? ⟨b,3,none⟩=some (.bool p.tree)
 el:p.enums.length=n0
 sl:p.structs.length=n1
 i1:i<n1
 n16:n1≤16
 n8:n0≤8
 kn:k<n
 nn:n≤16
theorem aF1 {p:dM}{f:PF}{i:Nat}(h:f.kind % 13+1=10)(h0:p.enums.length=0):dK p i f=7∧gC p i f=0:=by have k0:oO p f=7:=bG ⟨h,h0⟩;have k1:dK p i f=7:=(if_neg (by omega)).trans k0;exact ⟨k1,(if_neg (by omega)).trans (if_neg (by omega))⟩
theorem aFr {p:dM}{f:PF}{i:Nat}(h:f.kind % 13+1=10)(h0:p.enums.length≠0):dK p i f=10∧gC p i f=f.ref % p.enums.length:=by have k0:oO p f=10:=(if_neg (fun hh=>h0 hh.2)).trans h;have k1:dK p i f=10:=(if_neg (by omega)).trans k0;exact ⟨k1,(if_neg (by omega)).trans (bG k0)⟩
theorem aFB {p:dM}{f:PF}{i:Nat}(h:f.kind % 13+1=13)(ht:p.tree=true)(h0:i+1=p.structs.length):dK p i f=11∧gC p i f=0:=by have k0:oO p f=13:=(if_neg (by omega)).trans h;have k1:dK p i f=11:=bG ⟨k0,ht,h0⟩;exact ⟨k1,(if_neg (by omega)).trans (if_neg (by omega))⟩
theorem aFu {p:dM}{f:PF}{i:Nat}(h:f.kind % 13+1=13)(ht:p.tree=true)(h0:i+1≠p.structs.length):dK p i f=13∧gC p i f=i+1+f.ref % (p.structs.length-i-1):=by have k0:oO p f=13:=(if_neg (by omega)).trans h;have k1:dK p i f=13:=(if_neg (fun hh=>h0 hh.2.2)).trans k0;exact ⟨k1,(bG k1).trans (bG ht)⟩
theorem aFJ {p:dM}{f:PF}{i:Nat}(h:f.kind % 13+1=13)(ht:p.tree=false):dK p i f=13∧gC p i f=f.ref % p.structs.length:=by have k0:oO p f=13:=(if_neg (by omega)).trans h;have k1:dK p i f=13:=(if_neg (fun hh=>by rw [ht] at hh;cases hh.2.1)).trans k0;exact ⟨k1,(bG k1).trans (if_neg (by rw [ht];decide))⟩
theorem aFD {p:dM}{f:PF}{i:Nat}(h:f.kind % 13+1≠10)(h13:f.kind % 13+1≠13):dK p i f=f.kind % 13+1∧gC p i f=0:=by have k0:oO p f=f.kind % 13+1:=if_neg (fun hh=>h hh.1);have k1:dK p i f=f.kind % 13+1:=(if_neg (fun hh=>h13 (k0▸hh.1))).trans k0;exact ⟨k1,(if_neg (by omega)).trans (if_neg (by omega))⟩
theorem qG (x y:Nat):(x:Int).tmod (y:Int)=((x % y:Nat):Int):=by rw [Int.tmod_eq_emod_of_nonneg (by omega)];exact (Int.natCast_emod x y).symm
theorem aDo {Q:Exit→Act→World→Prop}{c:Act}{w W:World}{p:dM}{f:PF}{a a0 a1 ea:Option Addr}{b i n c0 R k T B off n0 e0 n1 c1:Nat}(hc:FrE b i a n c0 R k T c)(hin:aGK w W p f a a0 a1 ea b i n k B off T n0 e0 n1 c1)(ht:nE W T (f.kind % 13+1) 0 (f.lists % 4))
  (hK:∀ c' w' G,FrF b i a n c0 R k T G c'→T<G→Below T W w'→nE w' T (dK p i f) (gC p i f) (f.lists % 4)→aBt w' G ⟨nZ f.name k,dK p i f,gC p i f,f.lists % 4,0⟩→Code.wp Tryd.prog aAx Q c' w') :
  Code.wp Tryd.prog aFH Q c W:=by
 obtain ⟨u,rfl⟩:=aBE hc;obtain ⟨pf,bel,hb,hT,out,bx1,bx3,el,sl,i1,n16,n8,kn,nn⟩:=hin;have hTW:T<W.heap.size:=aD ht;have HT:=aA ht;have HPF:=aA pf;have HBEL:=aA bel
 -- what ends each way: the rest of the round,from a world in which the type is made
 have HE:Hid (∀ (c':Act) (W':World) (K:Act→World→Prop),FrE b i a n c0 R k T c'→Below T W W'→nE W' T (dK p i f) (gC p i f) (f.lists % 4)→(∀ a w,Code.wp Tryd.prog aAx Q a w→K a w)→Code.wp Tryd.prog aDZ (Exit.then K Q) c' W'):=aA (fun c' W' K h1 h2 h3 h4 =>
  aFE h1 pf (bel.trans (h2.mono (by omega))) kn nn h3 (fun c2 w2 G g1 g2 g3 g4=>h4 _ _ (hK c2 w2 G g1 (by have:=aD h3;omega) (h2.trans (g3.mono (Nat.le_of_lt (aD h3)))) (aE h3 g3 (aD h3)) g4)))
 obtain ⟨_,t0,t1,t2,s0,s1,s2⟩:=aS ht;have HEL:=aA el;have HSL:=aA sl;have hq13:f.kind % 13<13:=by omega
 obtain ⟨rfl,hB,x0,x1,x2,x3,x4,l0,l1,l2,l3,l4⟩:=pf;have y2:=(bel.cell (p:=⟨B,off+k * 5+2,none⟩) hB).trans x2;have hBT:B<T:=by omega
 have hki:(k:Int)<n:=by omega
 have BX1:=aA bx1;have Y2:=aA y2;clear hc hK ht bel el sl x0 x1 x2 x3 x4 l0 l1 l3 l4 hB hb;conv=>arg 2;whnf
 by_cases h10:f.kind % 13+1=10
 · by_cases hn0:n0=0
   · -- no enum: a number
     obtain ⟨e1,e2⟩:=aF1 (p:=p) (i:=i) h10 (by rw [HEL.out];exact hn0);rw [e1,e2] at HE;rw [h10] at t0 HT;subst hn0;clear e1 e2 h10;go_upto_region 34 with (fail);refine HE.out _ _ _ ⟨rfl,rfl,rfl,rfl,rfl,rfl,rfl,rfl,rfl,rfl,rfl⟩ ?_ ?_ (by assumption)
     · exact (bH _ _).setCell (p:=⟨T,0,none⟩) bD _
     · exact (aN HT.out 0 _).trans rfl
   · -- an enum
     obtain ⟨e1,e2⟩:=aFr (p:=p) (i:=i) h10 (by rw [HEL.out];exact hn0);rw [HEL.out] at e2;rw [e1,e2] at HE;rw [h10] at t0 HT;have w1:=cU (f.ref:Int);have w2:=qG f.ref n0;have hlt:f.ref % n0<n0:=Nat.mod_lt _ (by omega);have w3:=cU ((f.ref % n0:Nat):Int);have z0:(n0:Int)≠0:=by omega
     have z1:((n0:Int)==0)=false:=by simp;omega
     generalize f.ref % n0=rr at *;clear e1 e2 h10;go_upto_region 27 with (fail);go_still_tail 11,(by kernel_rfl)
     change wpList _ _ _ _ _ W.drew;have d0:W.drew.cell? ⟨T,0,none⟩=some (.int .u8 10):=t0;have HTD:=aA (show nE W.drew T 10 0 (f.lists % 4) from HT.out);have HBD:=aA ((bH T W).drew);obtain ⟨_,t0',t1',t2',s0',s1',s2'⟩:=aS HTD.out;have bx3':W.drew.cell? ⟨b,3,none⟩=some (.bool p.tree):=bx3;clear t0 t1 t2 s0 s1 s2 d0 HT bx3 out bx1 y2;generalize W.drew=W2 at *;go_upto_region 34 with (fail);refine HE.out _ _ _ ⟨rfl,rfl,rfl,rfl,rfl,rfl,rfl,rfl,rfl,rfl,rfl⟩ ?_ ?_ (by assumption)
     · exact HBD.out.setCell (p:=⟨T,1,none⟩) bD _
     · exact (aN HTD.out 1 _).trans rfl
 · have k10:((f.kind % 13+1:Nat):Int)≠10:=by omega
   by_cases h13:f.kind % 13+1=13
   · rw [h13] at t0 HT;clear k10;generalize htr:p.tree=tr at *;cases tr with
     | true =>
      by_cases hla:i+1=n1
      · -- the last struct: a text
        obtain ⟨e1,e2⟩:=aFB (p:=p) (i:=i) h13 htr (by rw [HSL.out];exact hla);rw [e1,e2] at HE;have hlb:((i:Int)+1==n1)=true:=by simp;omega
        clear e1 e2 h10 h13 htr;go_upto_region 34 with (fail);refine HE.out _ _ _ ⟨rfl,rfl,rfl,rfl,rfl,rfl,rfl,rfl,rfl,rfl,rfl⟩ ?_ ?_ (by assumption)
        · exact (bH _ _).setCell (p:=⟨T,0,none⟩) bD _
        · exact (aN HT.out 0 _).trans rfl
      · -- a struct behind this one
        obtain ⟨e1,e2⟩:=aFu (p:=p) (i:=i) h13 htr (by rw [HSL.out];exact hla);rw [HSL.out] at e2;rw [e1,e2] at HE;have hlb:((i:Int)+1==n1)=false:=by simp;omega
        have w1:=cU (f.ref:Int);have w2:=qG f.ref n1;have hlt:f.ref % n1<n1:=Nat.mod_lt _ (by omega);have w3:=cU ((f.ref % n1:Nat):Int);have z0:(n1:Int)≠0:=by omega
        have z2:¬n1=0:=by omega
        have z1:((n1:Int)==0)=false:=by simp;omega
        have v2:(f.ref:Int).tmod ((n1:Int)-i-1)=((f.ref % (n1-i-1):Nat):Int):=by rw [show (n1:Int)-i-1=((n1-i-1:Nat):Int) by omega];exact qG _ _
        have hlt2:f.ref % (n1-i-1)<n1-i-1:=Nat.mod_lt _ (by omega);have v3:=IntWalk.i64_in ((f.ref % (n1-i-1):Nat):Int) (by omega);have v4:=cU ((n1:Int)-i);have v5:=cU ((n1:Int)-i-1);have v6:=cU ((i:Int)+1);have v7:=IntWalk.i64_in ((i:Int)+1+(f.ref % (n1-i-1):Nat)) (by omega);have v8:(n1:Int)-i-1≠0:=by omega
        have v9:((n1:Int)-i-1==0)=false:=by simp;omega
        have va:¬((n1:Int)-i=1):=by omega
        have HES:=aA (show ((i+1+f.ref % (n1-i-1):Nat):Int)=(i:Int)+1+((f.ref % (n1-i-1):Nat):Int) by omega);generalize f.ref % (n1-i-1)=r2 at *;generalize f.ref % n1=rr at *;clear e1 e2 h10 h13 htr;go_upto_region 31 with (fail);go_still_tail 11,(by kernel_rfl)
        change wpList _ _ _ _ _ W.drew;have d0:W.drew.cell? ⟨T,0,none⟩=some (.int .u8 13):=t0;have HTD:=aA (show nE W.drew T 13 0 (f.lists % 4) from HT.out);have HBD:=aA ((bH T W).drew);obtain ⟨_,t0',t1',t2',s0',s1',s2'⟩:=aS HTD.out;have bx1':W.drew.cell? ⟨b,1,none⟩=some (.slice a1 n1 c1):=bx1;have bx3':W.drew.cell? ⟨b,3,none⟩=some (.bool true):=bx3;have y2':W.drew.cell? ⟨B,off+k * 5+2,none⟩=some (.int .u8 (f.ref:Nat)):=y2;clear t0 t1 t2 s0 s1 s2 d0 HT bx3 out bx1 y2;generalize W.drew=W2 at *;go_upto_region 33 with (fail);have HTS:=aA (show nE (W2.setCell ⟨T,1,none⟩ (.int .i64 rr)) T 13 rr (f.lists % 4) from (aN HTD.out 1 _).trans rfl);have HBS:=aA (HBD.out.setCell (p:=⟨T,1,none⟩) bD (.int .i64 rr));have bx1s:=(HBS.out.cell (p:=⟨b,1,none⟩) (by show b<T;omega)).trans BX1.out;have y2s:=(HBS.out.cell (p:=⟨B,off+k * 5+2,none⟩) hBT).trans Y2.out;obtain ⟨_,r0,r1,r2c,p0,p1,p2⟩:=aS HTS.out
        clear t0' t1' t2' s0' s1' s2' bx1' bx3' y2';generalize W2.setCell ⟨T,1,none⟩ (.int .i64 rr)=W3 at *;go_still_tail 17,(by kernel_rfl)
        change wpList _ _ _ _ _ W3.drew;have HTE:=aA (show nE W3.drew T 13 rr (f.lists % 4) from HTS.out);have HBE:=aA HBS.out.drew;obtain ⟨_,r0',r1',r2',p0',p1',p2'⟩:=aS HTE.out;clear r0 r1 r2c p0 p1 p2 bx1s y2s HTS HBS;generalize W3.drew=W4 at *;go_upto_region 34 with (fail);refine HE.out _ _ _ ⟨rfl,rfl,rfl,rfl,rfl,rfl,rfl,rfl,rfl,rfl,rfl⟩ ?_ ?_ (by assumption)
        · exact HBE.out.setCell (p:=⟨T,1,none⟩) bD _
        · exact (aN HTE.out 1 _).trans (by rw [←HES.out];rfl)
     | false =>
      obtain ⟨e1,e2⟩:=aFJ (p:=p) (i:=i) h13 htr;rw [HSL.out] at e2;rw [e1,e2] at HE;have w1:=cU (f.ref:Int);have w2:=qG f.ref n1;have hlt:f.ref % n1<n1:=Nat.mod_lt _ (by omega);have w3:=cU ((f.ref % n1:Nat):Int);have z0:(n1:Int)≠0:=by omega
      have z2:¬n1=0:=by omega
      have z1:((n1:Int)==0)=false:=by simp;omega
      generalize f.ref % n1=rr at *;clear e1 e2 h10 h13 htr;go_upto_region 31 with (fail);go_still_tail 11,(by kernel_rfl)
      change wpList _ _ _ _ _ W.drew;have d0:W.drew.cell? ⟨T,0,none⟩=some (.int .u8 13):=t0;have HTD:=aA (show nE W.drew T 13 0 (f.lists % 4) from HT.out);have HBD:=aA ((bH T W).drew);obtain ⟨_,t0',t1',t2',s0',s1',s2'⟩:=aS HTD.out;have bx1':W.drew.cell? ⟨b,1,none⟩=some (.slice a1 n1 c1):=bx1;have bx3':W.drew.cell? ⟨b,3,none⟩=some (.bool false):=bx3;have y2':W.drew.cell? ⟨B,off+k * 5+2,none⟩=some (.int .u8 (f.ref:Nat)):=y2;clear t0 t1 t2 s0 s1 s2 d0 HT bx3 out bx1 y2;generalize W.drew=W2 at *;go_upto_region 34 with (fail);refine HE.out _ _ _ ⟨rfl,rfl,rfl,rfl,rfl,rfl,rfl,rfl,rfl,rfl,rfl⟩ ?_ ?_ (by assumption)
      · exact HBD.out.setCell (p:=⟨T,1,none⟩) bD _
      · exact (aN HTD.out 1 _).trans rfl
   · -- as it is
     obtain ⟨e1,e2⟩:=aFD (p:=p) (i:=i) h10 h13;rw [e1,e2] at HE;have q1:(((f.kind % 13+1:Nat):Int)==10)=false:=by simp;omega
     have q2:(((f.kind % 13+1:Nat):Int)==13)=false:=by simp;omega
     generalize f.kind % 13+1=q at *;clear e1 e2 h10 h13 k10;go_upto_region 34 with (fail);refine HE.out _ _ _ ⟨rfl,rfl,rfl,rfl,rfl,rfl,rfl,rfl,rfl,rfl,rfl⟩ ?_ ?_ (by assumption)
     · exact bH _ _
     · exact HT.out
noncomputable def aFw:Code:=(Tryd.f10.body.bind (fQ 37)).getD .skip
theorem aEg {Q:Exit→Act→World→Prop}{c:Act}{W:World}{a:Option Addr}{b i n c0 R k T G:Nat}{rn fv:Value}{f:SFld}{xs:List Value}(hc:FrF b i a n c0 R k T G c)(hG:aBt W G f)(hk:k≤16)
  (hR:W.heap[R]?=some (.cells #[rn,fv] 60 (0,0))) (hrow:W.ownsRow (R+1) 77 5 fv k xs)
  (hQ:∀ c' w' fv',FrD b i a n c0 R k c'→Below R W w'→w'.heap[R]?=some (.cells #[rn,fv'] 60 (0,0))→w'.ownsRow (R+1) 77 5 fv' (k+1) (xs++eV f)→Q .normal c' w') :
  Code.wp Tryd.prog aFw Q c W:=by
 obtain ⟨u,rfl⟩:=aBH hc;have HQ:=aA hQ;have HR:=aA hR;have HROW:=aA hrow;obtain ⟨fva,fvc,rfl⟩:=aJ hrow;obtain ⟨hRl,r0,r1,s0,s1⟩:=mI hR;obtain ⟨_,g0,g1,g2,g3,g4,_⟩:=lL hG;obtain ⟨i0,hi0,hzz0,hzz1,hzz2⟩:=info_parts aB6;have I1:=aA hi0;have I2:=aA hzz0;have I3:=aA hzz1;have I4:=aA hzz2;have HBN:=aA (cN W (.cells #[.string f.name,.int .u8 f.kind,.int .i64 f.ref,.int .i64 f.lists,.int .u64 f.dflt] 77));have HBA:=aA ((bH W.heap.size W).alloc bD (.cells #[.string f.name,.int .u8 f.kind,.int .i64 f.ref,.int .i64 f.lists,.int .u64 f.dflt] 77));clear hc hQ hR hrow hG hi0 hzz0 hzz1 hzz2;conv=>arg 2;whnf
 go_wp2_with (at_builtin;refine wpList_append_own _ rfl (.tmp 229) (.tmp 231) 58 rfl (R+1) 77 i0 _ 5 48 Tryd.underlying58 I1.out I2.out I3.out I4.out rfl (by decide) _ k xs rfl (bE HBA.out HROW.out) _ 1 1 (eV f) rfl rfl (World.news_of_block HBN.out) (by intro u hu;simp [eV] at hu;rcases hu with rfl|rfl|rfl|rfl|rfl<;>rfl) (by unfold maxLen;omega) (by omega) (by simp;omega) ?_;intro v4 W8 hown4 hg4 hx;clear hx;obtain ⟨a4,m4,rfl⟩:=aJ hown4;obtain ⟨s1',s2',s3',s4'⟩:=aFe (bH R W) HR.out HROW.out HBA.out hg4 hown4;obtain ⟨_,d0,d1,e0,e1⟩:=mI s4';have S1:=aA s1';have S2:=aA s2';have S3:=aA s3';clear s1' s2' s3' s4' hown4 hg4);exact HQ.out _ _ _ ⟨rfl,rfl,rfl,rfl,rfl,rfl,rfl,rfl,rfl,rfl⟩ S1.out S2.out S3.out
theorem sO {w:World}{g i:Nat}{p:Addr}{v x:Value}(h:w.cell? p=some v)(hp:p.block≠g):(w.setCell ⟨g,i,none⟩ x).cell? p=some v:=
 (World.cell?_of_block (oG _ _ _ _ hp)).trans h
theorem aCs {w w':World}{B base:Nat}{e:TypeId}{size:Nat}{v:Value}{n:Nat}{xs:List Value}(h:Below B w w')(ho:w.ownsRow base e size v n xs)(hB:∀ k,v.ownBlock=some k→k<B):w'.ownsRow base e size v n xs:=by
 obtain ⟨hl,h'⟩:=ho;refine ⟨hl,?_⟩;rcases h' with h1|⟨g',cap',cur,hv,h1,hg',h2⟩
 · exact .inl h1
 · subst hv;exact .inr ⟨g',cap',cur,rfl,h1,(h.block g' (hB g' (by simp [Value.ownBlock]))).trans hg',h2⟩
def xG (p:dM)(kd rf ls n:Nat)(sv ev:Value)(rt:Nat)(W:World):Prop:=
 ∀ W',Below W.heap.size W W'→Calls Tryd.prog 39 #[.agg #[sv,ev,.int .i64 rt],.agg #[.int .u8 kd,.int .i64 rf,.int .i64 ls],.int .u64 n] W' fun e w'=>e=.returned (.int .u64 (gM (jN p rf) kd n:Nat))∧Below W'.heap.size W' w'
theorem aEv {Q:Exit→Act→World→Prop}{c:Act}{w W:World}{p:dM}{f:PF}{a:Option Addr}{b i n c0 R k T G B off kd rf ls rt:Nat}{nm:ByteArray}{rn fv sv ev:Value}{xs:List Value}(hc:FrF b i a n c0 R k T G c)(hf:aEt w a k f B off)(hbw:Below w.heap.size w W)(hkn:k<n)(hn:n≤16)
  (ht:nE W T kd rf ls) (hkd:kd≤255) (hG:aBt W G ⟨nm,kd,rf,ls,0⟩) (hTG:T<G) (hRT:R<T) (hbR:b+2<R) (hBR:B<R)
  (hout:W.heap[b+2]?=some (.cells #[sv,ev,.int .i64 rt] 31 (0,0))) (hnum:dE kd ls=true→xG p kd rf ls f.dflt sv ev rt W)
  (hR:W.heap[R]?=some (.cells #[rn,fv] 60 (0,0))) (hrow:W.ownsRow (R+1) 77 5 fv k xs) (hrT:∀ g,fv.ownBlock=some g→g<T)
  (hQ:∀ c' w' fv',FrD b i a n c0 R k c'→Below R W w'→w'.heap[R]?=some (.cells #[rn,fv'] 60 (0,0))→w'.ownsRow (R+1) 77 5 fv' (k+1) (xs++eV ⟨nm,kd,rf,ls,if dE kd ls=true then gM (jN p rf) kd f.dflt else 0⟩)→Q .normal c' w') :
  Code.wp Tryd.prog aAx Q c W:=by
 obtain ⟨u,rfl⟩:=aBH hc;obtain ⟨_,t0,t1,t2,_⟩:=aS ht;have HIS:=aA (mG kd rf ls);have HQ:=aA hQ;have HNUM:=aA hnum;have HT:=aA ht;have HG:=aA hG;have HOUT:=aA hout;have HR:=aA hR;have HROW:=aA hrow;have HRT:=aA hrT;obtain ⟨rfl,hB,x0,x1,x2,x3,x4,l0,l1,l2,l3,l4⟩:=hf;have y4:=(hbw.cell (p:=⟨B,off+k * 5+4,none⟩) hB).trans x4;have HY4:=aA y4;have hGW:G<W.heap.size:=aD hG;have hki:(k:Int)<n:=by omega
 clear hc hQ hnum ht hG hout hR hrow hrT x0 x1 x2 x3 x4 l0 l1 l2 l3 l4 hbw hB y4;conv=>arg 2;whnf
 go_wp2_with fail;refine (HIS.out _ hkd).mono ?_;rintro e W1 ⟨rfl,hb1⟩;have HB1:=aA hb1;have hG1:G<W1.heap.size:=Nat.lt_of_lt_of_le hGW hb1.size;have t0':=(hb1.cell (p:=⟨T,0,none⟩) (by show T<_;omega)).trans t0;clear hb1 t0 t1 t2;generalize hin:dE kd ls=bb at *;have HIN:=aA hin;clear hin;cases bb with
 | false =>
  go_upto_region 37 with (fail);refine aEg (fv:=fv) (rn:=rn) ⟨rfl,rfl,rfl,rfl,rfl,rfl,rfl,rfl,rfl,rfl,rfl,rfl⟩ (aE HG.out HB1.out (aD HG.out)) (by omega) (aE HR.out HB1.out (aD HR.out)) (bE HB1.out HROW.out) ?_;intro c' w' fv' h1 h2 h3 h4;exact HQ.out c' w' fv' h1 ((HB1.out.mono (by omega)).trans h2) h3 h4
 | true =>
  have hN0:=HNUM.out rfl;unfold xG at hN0;have HN:=aA hN0;clear hN0;have HG1:=aA (aE HG.out HB1.out (aD HG.out));have HR1:=aA (aE HR.out HB1.out (aD HR.out));have HROW1:=aA (bE HB1.out HROW.out);have ho1:=aE HOUT.out HB1.out (aD HOUT.out);have ht1:=aE HT.out HB1.out (aD HT.out);have y4:=(HB1.out.cell (p:=⟨B,off+k * 5+4,none⟩) (by show B<_;omega)).trans HY4.out;obtain ⟨_,o0,o1,o2,_⟩:=aS ho1;obtain ⟨_,t0,t1,t2,_⟩:=aS ht1;have HB1D:=aA HB1.out.drew;have hbs:b+2<W1.heap.size:=aD ho1;have hOne:b+2≠G:=by omega
  have hTne:T≠G:=by omega
  have hBne:B≠G:=by omega
  have hTs:T<W1.heap.size:=by omega
  have hBs:B<W1.heap.size:=by omega
  have HCC:=aA (show ∀ W3,Below W1.heap.size W1 W3→W3.cell? ⟨b+2,0,none⟩=some sv∧W3.cell? ⟨b+2,1,none⟩=some ev∧W3.cell? ⟨b+2,2,none⟩=some (.int .i64 rt)∧W3.cell? ⟨T,0,none⟩=some (.int .u8 kd)∧W3.cell? ⟨T,1,none⟩=some (.int .i64 rf)∧W3.cell? ⟨T,2,none⟩=some (.int .i64 ls)∧W3.cell? ⟨B,off+k * 5+4,none⟩=some (.int .u64 (f.dflt:Nat)) from fun W3 hb3=>⟨(hb3.cell (p:=⟨b+2,0,none⟩) hbs).trans o0,(hb3.cell (p:=⟨b+2,1,none⟩) hbs).trans o1,(hb3.cell (p:=⟨b+2,2,none⟩) hbs).trans o2,(hb3.cell (p:=⟨T,0,none⟩) hTs).trans t0,(hb3.cell (p:=⟨T,1,none⟩) hTs).trans t1,(hb3.cell (p:=⟨T,2,none⟩) hTs).trans t2,(hb3.cell (p:=⟨B,off+k * 5+4,none⟩) hBs).trans y4⟩);clear ho1 ht1 t0';go_upto_region 36 with (fail)
  go_region_held3 (fun w'=>w'.cell? ⟨b+2,0,none⟩=some sv∧w'.cell? ⟨b+2,1,none⟩=some ev∧w'.cell? ⟨b+2,2,none⟩=some (.int .i64 rt)∧w'.cell? ⟨T,0,none⟩=some (.int .u8 kd)∧w'.cell? ⟨T,1,none⟩=some (.int .i64 rf)∧w'.cell? ⟨T,2,none⟩=some (.int .i64 ls)∧w'.cell? ⟨B,off+k * 5+4,none⟩=some (.int .u64 (f.dflt:Nat)))
   (first|assumption|(with_reducible exact ⟨sO k0 hOne,sO k1 hOne,sO k2 hOne,sO k3 hTne,sO k4 hTne,sO k5 hTne,sO k6 hBne⟩)|go_keep)
   (first|(go_at_call 39;(with_reducible refine (HN.out W1.drew HB1D.out).mono ?_);rintro e W3 ⟨rfl,hb3⟩;have hbW:Below W1.heap.size W1 W3:=oV hb3;obtain ⟨k0,k1,k2,k3,k4,k5,k6⟩:=HCC.out W3 hbW;have hGb:=aE HG1.out hbW hG1;have HGB:=aA hGb;obtain ⟨_,g0,g1,g2,g3,g4,j0,j1,j2,j3,j4⟩:=lL hGb;clear hGb g0 g1 g2 g3 j0 j1 j2 j3)|(go_at_call 39;(with_reducible refine (HN.out W1 HB1.out).mono ?_);rintro e W3 ⟨rfl,hb3⟩;have hbW:Below W1.heap.size W1 W3:=hb3;obtain ⟨k0,k1,k2,k3,k4,k5,k6⟩:=HCC.out W3 hbW;have hGb:=aE HG1.out hbW hG1;have HGB:=aA hGb;obtain ⟨_,g0,g1,g2,g3,g4,j0,j1,j2,j3,j4⟩:=lL hGb;clear hGb g0 g1 g2 g3 j0 j1 j2 j3))
  all_goals
   go_upto_region 37 with (fail);have hbn:Below G W1 (W3.setCell ⟨G,4,none⟩ (.int .u64 (gM (jN p rf) kd f.dflt:Nat))):=(hbW.mono (Nat.le_of_lt hG1)).setCell (p:=⟨G,4,none⟩) bD _;refine aEg (fv:=fv) (rn:=rn) (xs:=xs) (f:=⟨nm,kd,rf,ls,gM (jN p rf) kd f.dflt⟩) ⟨rfl,rfl,rfl,rfl,rfl,rfl,rfl,rfl,rfl,rfl,rfl,rfl⟩ ((aN HGB.out 4 _).trans rfl) (by omega) (aE HR1.out hbn (by omega)) (aCs hbn HROW1.out (fun g hg=>by have:=HRT.out g hg;omega)) ?_;intro c' w' fv' h1 h2 h3 h4;exact HQ.out c' w' fv' h1 (((HB1.out.mono (by omega)).trans (hbn.mono (by omega))).trans h2) h3 h4
theorem rH (fn:ByteArray)(fk fr fl fd:Nat)(w:World)(hk:fk≤255) :
  Calls Tryd.prog 86 #[.agg #[.string fn,.int .u8 fk,.int .i64 fr,.int .i64 fl,.int .u64 fd]] w fun e w'=>e=.returned (.int .i64 (gW ⟨fn,fk,fr,fl,fd⟩))∧Below w.heap.size w w':=by
 have hq:=cN w (.cells #[.string fn,.int .u8 fk,.int .i64 fr,.int .i64 fl,.int .u64 fd] 77);have HB:=aA ((bH w.heap.size w).alloc bD (.cells #[.string fn,.int .u8 fk,.int .i64 fr,.int .i64 fl,.int .u64 fd] 77));have hw:=cU (fk:Int);go_enter Tryd.func86,Tryd.ntmps86;go_upto_region 1 with (fail);generalize w.alloc (.cells #[.string fn,.int .u8 fk,.int .i64 fr,.int .i64 fl,.int .u64 fd] 77)=W1 at *;have hlt:=aD hq;have y1:=(aU hq 1).trans rfl;have y2:=(aU hq 2).trans rfl;have y3:=(aU hq 3).trans rfl;have HQ:=aA hq;clear hq;go_wp2_with fail;refine (mG fk fr fl W1 hk).mono ?_;rintro e W2 ⟨rfl,hb2⟩;have HB2:=aA (HB.out.trans (hb2.mono HB.out.size));have z1:=(aU (aE HQ.out hb2 hlt) 1).trans rfl;clear hb2 y1 y2 y3;cases hnum:dE fk fl
 · have HE:=aA (aBB (fn:=fn) (fr:=fr) (fd:=fd) hnum);clear hnum;go_wp2;go_ret;exact ⟨cH HE.out.symm,HB2.out⟩
 · have HE:=aA (zB (fn:=fn) (fr:=fr) (fd:=fd) hnum);clear hnum;go_wp2_with fail;refine (bY (fk:Int) W2).mono ?_;rintro e W3 ⟨rfl,rfl⟩;go_wp2;go_ret;exact ⟨cH HE.out.symm,HB2.out⟩
end Go.Proofs.YtpbaaiilfkacnaaDoor
