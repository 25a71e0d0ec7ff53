/-
  The document's own parser: how it lies in memory, and what its small methods do: here, bad, is, want, name. Conditions: those that each theorem names.
-/
import Derived.Test.YtokhnoogkdlidaaGreatDoorPkP6
import Derived.Test.YtokhnoogkdlidaaGreatDoorPkP10
import Derived.Deep.RegionHeld3
import Derived.StillTailTactics
import Derived.Deep.RegionWith
import Derived.Deep.Cut
namespace Go.Proofs.YtokhnoogkdlidaaGreatDoor
open Go.ChangeShapes Go.WideShapes Go.ChangeAt Go.RowKit Go.Shelf
structure PFAt (w:World)(a:Option Addr)(k:Nat)(f:PF)(B off:Nat):Prop where
 ha:a=some ⟨B,off,none⟩
 hB:B<w.heap.size
 x0:w.cell? ⟨B,off+k * 5,none⟩=some (.int .u8 (f.kind:Nat))
 x1:w.cell? ⟨B,off+k * 5+1,none⟩=some (.int .u8 (f.lists:Nat))
 x2:w.cell? ⟨B,off+k * 5+2,none⟩=some (.int .u8 (f.ref:Nat))
 x3:w.cell? ⟨B,off+k * 5+3,none⟩=some (.int .u8 (f.name:Nat))
 x4:w.cell? ⟨B,off+k * 5+4,none⟩=some (.int .u64 (f.dflt:Nat))
 l0:f.kind≤255
 l1:f.lists≤255
 l2:f.ref≤255
 l3:f.name≤255
 l4:(f.dflt:Int)≤18446744073709551615
theorem u8_in (n:Int)(h0:0≤n)(h1:n≤255):IntKind.u8.wrap n=n:=by simp only [IntKind.wrap,IntKind.bits,IntKind.signed];simp;omega
def MTyAt (W:World)(T kd rf ls:Nat):Prop:=W.heap[T]?=some (.cells #[.int .u8 kd,.int .i64 rf,.int .i64 ls] 46 (0,0))
def findRegion (n:Nat):Code→Option Code
 | .loop c=>findRegion n c
 | .seq a b=>match findRegion n a with
  | some c=>some c
  | none=>findRegion n b
 | .block _ c=>findRegion n c
 | .scope c=>findRegion n c
 | .cond _ a b=>match findRegion n a with
  | some c=>some c
  | none=>findRegion n b
 | .region m ops d=>if m=n then some (.region m ops d) else none
 | _=>none
def isRegion (n:Nat):Code→Bool
 | .region m _ _=>m==n
 | _=>false
def afterRegion (n:Nat):Code→Option Code
 | .loop c=>afterRegion n c
 | .seq a b=>if isRegion n a then some b else match afterRegion n a with
  | some c=>some c
  | none=>afterRegion n b
 | .block _ c=>afterRegion n c
 | .scope c=>afterRegion n c
 | .cond _ a b=>match afterRegion n a with
  | some c=>some c
  | none=>afterRegion n b
 | _=>none
noncomputable def made34:Code:=(Tryz.f5.body.bind (findRegion 34)).getD .skip
noncomputable def made35:Code:=(Tryz.f5.body.bind (afterRegion 34)).getD .skip
theorem blk5 {w:World}{g:Nat}{x0 x1 x2 x3 x4:Value}{t:TypeId}(h:w.heap[g]?=some (.cells #[x0,x1,x2,x3,x4] t (0,0))) :
  g<w.heap.size∧w.cell? ⟨g,0,none⟩=some x0∧w.cell? ⟨g,1,none⟩=some x1∧w.cell? ⟨g,2,none⟩=some x2∧w.cell? ⟨g,3,none⟩=some x3∧w.cell? ⟨g,4,none⟩=some x4 ∧
   w.frozen? ⟨g,0,none⟩=false∧w.frozen? ⟨g,1,none⟩=false∧w.frozen? ⟨g,2,none⟩=false∧w.frozen? ⟨g,3,none⟩=false∧w.frozen? ⟨g,4,none⟩=false:=
 ⟨blk_lt h,(blk_cell h 0).trans rfl,(blk_cell h 1).trans rfl,(blk_cell h 2).trans rfl,(blk_cell h 3).trans rfl,(blk_cell h 4).trans rfl,blk_frozen h 0,blk_frozen h 1,blk_frozen h 2,blk_frozen h 3,blk_frozen h 4⟩
theorem blk_set5 {w:World}{g:Nat}{a b c d e:Value}{t:TypeId}(h:w.heap[g]?=some (.cells #[a,b,c,d,e] t (0,0)))(x0 x1 x2 x3 x4:Value) :
  (((((w.setCell ⟨g,0,none⟩ x0).setCell ⟨g,1,none⟩ x1).setCell ⟨g,2,none⟩ x2).setCell ⟨g,3,none⟩ x3).setCell ⟨g,4,none⟩ x4).heap[g]?=some (.cells #[x0,x1,x2,x3,x4] t (0,0)):=
 (blk_set (blk_set (blk_set (blk_set (blk_set h 0 x0) 1 x1) 2 x2) 3 x3) 4 x4).trans rfl
theorem gfact {W W3:World}{cs:Array Value}{t:TypeId}(hb:Below (W.alloc (.cells cs t)).heap.size (W.alloc (.cells cs t)) W3):W3.heap[W.heap.size]?=some (.cells cs t (0,0)):=(hb.block _ (by simp)).trans (heap_alloc_new W _)
theorem gfact_drew {W W3:World}{cs:Array Value}{t:TypeId}(hb:Below (W.alloc (.cells cs t)).drew.heap.size (W.alloc (.cells cs t)).drew W3):W3.heap[W.heap.size]?=some (.cells cs t (0,0)):=(hb.block _ (by show _<(W.alloc _).heap.size;simp)).trans (heap_alloc_new W _)
theorem bfact {W W3:World}{o:Obj}(hb:Below (W.alloc o).heap.size (W.alloc o) W3):Below W.heap.size W W3:=((Below.refl _ W).alloc (Nat.le_refl _) _).trans (hb.mono (by simp))
theorem bfact_drew {W W3:World}(hb:Below W.drew.heap.size W.drew W3):Below W.heap.size W W3:=(Below.refl _ W).drew.trans hb
theorem bfact_alloc_drew {W W3:World}{o:Obj}(hb:Below (W.alloc o).drew.heap.size (W.alloc o).drew W3):Below W.heap.size W W3:=((Below.refl _ W).alloc (Nat.le_refl _) _).drew.trans (hb.mono (by show _≤(W.alloc _).heap.size;simp))
theorem keep5 {w:World}{g:Nat}{p:Addr}{v x0 x1 x2 x3 x4:Value}(h:w.cell? p=some v)(hp:p.block≠g) :
  (((((w.setCell ⟨g,0,none⟩ x0).setCell ⟨g,1,none⟩ x1).setCell ⟨g,2,none⟩ x2).setCell ⟨g,3,none⟩ x3).setCell ⟨g,4,none⟩ x4).cell? p=some v:=by
 have e:∀ (w:World) (i:Nat) (x:Value),(w.setCell ⟨g,i,none⟩ x).cell? p=w.cell? p:=fun w i x=>World.cell?_of_block (Below.heap_setCell _ _ _ _ hp)
 rw [e,e,e,e,e,h]
def FldAt (W:World)(G:Nat)(f:SFld):Prop:=W.heap[G]?=some (.cells #[.string f.name,.int .u8 f.kind,.int .i64 f.ref,.int .i64 f.lists,.int .u64 f.dflt] 49 (0,0))
set_option maxRecDepth 100000 in
set_option maxHeartbeats 4000000 in
theorem fld_wp {K:Act→World→Prop}{Q:Exit→Act→World→Prop}{c:Act}{w W:World}{f:PF}{a:Option Addr}{b i n c0 R k T B off kd rf ls:Nat}(hc:FrE b i a n c0 R k T c)(hf:PFAt w a k f B off)(hbw:Below w.heap.size w W)(hkn:k<n)(hn:n≤16)(ht:MTyAt W T kd rf ls)
  (hK:∀ c' w' G,FrF b i a n c0 R k T G c'→W.heap.size≤G→Below W.heap.size W w'→FldAt w' G ⟨labelOf f.name k,kd,rf,ls,0⟩→K c' w') :
  Code.wp Tryz.prog made34 (Exit.then K Q) c W:=by
 obtain ⟨u,rfl⟩:=fre_lit hc
 obtain ⟨rfl,hB,x0,x1,x2,x3,x4,l0,l1,l2,l3,l4⟩:=hf
 have HK:=Lib.hid hK
 have HL:=Lib.hid (hlabel_any f.name k)
 have y3:=(hbw.cell (p:=⟨B,off+k * 5+3,none⟩) hB).trans x3
 have hBW:B<W.heap.size:=Nat.lt_of_lt_of_le hB hbw.size
 have hTW:T<W.heap.size:=blk_lt ht
 obtain ⟨_,t0,t1,t2,_⟩:=blk3 ht
 have hki:(k:Int)<n:=by omega
 have hk16:k<16:=by omega
 clear hc hK x0 x1 x2 x3 x4 l0 l1 l2 l4 hbw hB ht
 conv=>arg 2;whnf
 have hBne:B≠W.heap.size:=by omega
 have hTne:T≠W.heap.size:=by omega
 have HCC:=Lib.hid (show ∀ W3,Below W.heap.size W W3→W3.cell? ⟨B,off+k * 5+3,none⟩=some (.int .u8 (f.name:Nat))∧W3.cell? ⟨T,0,none⟩=some (.int .u8 kd)∧W3.cell? ⟨T,1,none⟩=some (.int .i64 rf)∧W3.cell? ⟨T,2,none⟩=some (.int .i64 ls) from fun W3 hb3=>⟨(hb3.cell (p:=⟨B,off+k * 5+3,none⟩) hBW).trans y3,(hb3.cell (p:=⟨T,0,none⟩) hTW).trans t0,(hb3.cell (p:=⟨T,1,none⟩) hTW).trans t1,(hb3.cell (p:=⟨T,2,none⟩) hTW).trans t2⟩)
 go_region_held3 (fun w'=>w'.cell? ⟨B,off+k * 5+3,none⟩=some (.int .u8 (f.name:Nat))∧w'.cell? ⟨T,0,none⟩=some (.int .u8 kd)∧w'.cell? ⟨T,1,none⟩=some (.int .i64 rf)∧w'.cell? ⟨T,2,none⟩=some (.int .i64 ls)) (first|assumption|(with_reducible exact ⟨keep5 k0 hBne,keep5 k1 hTne,keep5 k2 hTne,keep5 k3 hTne⟩)|go_keep)
  (first|(go_at_call 11;(with_reducible refine (HL.out W l3 hk16).mono ?_);rintro e W3 ⟨rfl,hb3⟩;have hbW:Below W.heap.size W W3:=hb3;obtain ⟨k0,k1,k2,k3⟩:=HCC.out W3 hbW)|(go_at_call 11;(with_reducible refine (HL.out W.drew l3 hk16).mono ?_);rintro e W3 ⟨rfl,hb3⟩;have hbW:Below W.heap.size W W3:=bfact_drew hb3;obtain ⟨k0,k1,k2,k3⟩:=HCC.out W3 hbW)|(go_at_call 11;(with_reducible refine (HL.out (W.alloc (.cells #[.string ⟨#[]⟩,.int .u8 0,.int .i64 0,.int .i64 0,.int .u64 0] 49)) l3 hk16).mono ?_);rintro e W3 ⟨rfl,hb3⟩;have hbW:Below W.heap.size W W3:=bfact hb3;obtain ⟨k0,k1,k2,k3⟩:=HCC.out W3 hbW;have hGb:W3.heap[W.heap.size]?=some (.cells #[.string ⟨#[]⟩,.int .u8 0,.int .i64 0,.int .i64 0,.int .u64 0] 49 (0,0)):=gfact hb3;have HGB:=Lib.hid hGb;obtain ⟨_,g0,g1,g2,g3,g4,j0,j1,j2,j3,j4⟩:=blk5 hGb;clear hGb)|(go_at_call 11;(with_reducible refine (HL.out (W.alloc (.cells #[.string ⟨#[]⟩,.int .u8 0,.int .i64 0,.int .i64 0,.int .u64 0] 49)).drew l3 hk16).mono ?_);rintro e W3 ⟨rfl,hb3⟩;have hbW:Below W.heap.size W W3:=bfact_alloc_drew hb3;obtain ⟨k0,k1,k2,k3⟩:=HCC.out W3 hbW;have hGb:W3.heap[W.heap.size]?=some (.cells #[.string ⟨#[]⟩,.int .u8 0,.int .i64 0,.int .i64 0,.int .u64 0] 49 (0,0)):=gfact_drew hb3;have HGB:=Lib.hid hGb;obtain ⟨_,g0,g1,g2,g3,g4,j0,j1,j2,j3,j4⟩:=blk5 hGb;clear hGb)|(go_at_call 11;(with_reducible refine (HL.out (W.drew.alloc (.cells #[.string ⟨#[]⟩,.int .u8 0,.int .i64 0,.int .i64 0,.int .u64 0] 49)) l3 hk16).mono ?_);rintro e W3 ⟨rfl,hb3⟩;have hbW:Below W.heap.size W W3:=bfact_drew (bfact hb3);obtain ⟨k0,k1,k2,k3⟩:=HCC.out W3 hbW;have hGb:W3.heap[W.heap.size]?=some (.cells #[.string ⟨#[]⟩,.int .u8 0,.int .i64 0,.int .i64 0,.int .u64 0] 49 (0,0)):=gfact hb3;have HGB:=Lib.hid hGb;obtain ⟨_,g0,g1,g2,g3,g4,j0,j1,j2,j3,j4⟩:=blk5 hGb;clear hGb))
 · exact HK.out _ _ W3.heap.size ⟨rfl,rfl,rfl,rfl,rfl,rfl,rfl,rfl,rfl,rfl,rfl,rfl⟩ hbW.size (hbW.alloc hbW.size _) (heap_alloc_new W3 _)
 · exact HK.out _ _ W.heap.size ⟨rfl,rfl,rfl,rfl,rfl,rfl,rfl,rfl,rfl,rfl,rfl,rfl⟩ (Nat.le_refl _) (((((hbW.setCell (p:=⟨W.heap.size,0,none⟩) (Nat.le_refl _) _).setCell (p:=⟨W.heap.size,1,none⟩) (Nat.le_refl _) _).setCell (p:=⟨W.heap.size,2,none⟩) (Nat.le_refl _) _).setCell (p:=⟨W.heap.size,3,none⟩) (Nat.le_refl _) _).setCell (p:=⟨W.heap.size,4,none⟩) (Nat.le_refl _) _) (blk_set5 HGB.out _ _ _ _ _)
end Go.Proofs.YtokhnoogkdlidaaGreatDoor
namespace Go.Proofs.YtokhnoogkdlidaaGreatDoor
open Go.ChangeShapes Go.WideShapes Go.ChangeAt Go.RowKit Go.Shelf
noncomputable def made24:Code:=(Tryz.f5.body.bind (afterRegion 23)).getD .skip
structure TyIn (w W:World)(p:Plan)(f:PF)(a a0 a1 ea:Option Addr)(b i n k B off T n0 e0 n1 c1:Nat):Prop where
 pf:PFAt w a k f B off
 bel:Below w.heap.size w W
 hb:b=w.heap.size
 hT:b+2<T
 out:W.cell? ⟨b+2,1,none⟩=some (.slice ea n0 e0)
 bx1:W.cell? ⟨b,1,none⟩=some (.slice a1 n1 c1)
 bx3:W.cell? ⟨b,3,none⟩=some (.bool p.tree)
 el:p.enums.length=n0
 sl:p.structs.length=n1
 i1:i<n1
 n16:n1≤16
 n8:n0≤8
 kn:k<n
 nn:n≤16
theorem kp_a {p:Plan}{f:PF}{i:Nat}(h:f.kind % 13+1=10)(h0:p.enums.length=0):kindP p i f=7∧refP p i f=0:=by
 have k0:kind0 p f=7:=if_pos ⟨h,h0⟩
 have k1:kindP p i f=7:=(if_neg (by omega)).trans k0
 exact ⟨k1,(if_neg (by omega)).trans (if_neg (by omega))⟩
theorem kp_b {p:Plan}{f:PF}{i:Nat}(h:f.kind % 13+1=10)(h0:p.enums.length≠0):kindP p i f=10∧refP p i f=f.ref % p.enums.length:=by
 have k0:kind0 p f=10:=(if_neg (fun hh=>h0 hh.2)).trans h
 have k1:kindP p i f=10:=(if_neg (by omega)).trans k0
 exact ⟨k1,(if_neg (by omega)).trans (if_pos k0)⟩
theorem kp_c {p:Plan}{f:PF}{i:Nat}(h:f.kind % 13+1=13)(ht:p.tree=true)(h0:i+1=p.structs.length):kindP p i f=11∧refP p i f=0:=by
 have k0:kind0 p f=13:=(if_neg (by omega)).trans h
 have k1:kindP p i f=11:=if_pos ⟨k0,ht,h0⟩
 exact ⟨k1,(if_neg (by omega)).trans (if_neg (by omega))⟩
theorem kp_d {p:Plan}{f:PF}{i:Nat}(h:f.kind % 13+1=13)(ht:p.tree=true)(h0:i+1≠p.structs.length):kindP p i f=13∧refP p i f=i+1+f.ref % (p.structs.length-i-1):=by
 have k0:kind0 p f=13:=(if_neg (by omega)).trans h
 have k1:kindP p i f=13:=(if_neg (fun hh=>h0 hh.2.2)).trans k0
 exact ⟨k1,(if_pos k1).trans (if_pos ht)⟩
theorem kp_e {p:Plan}{f:PF}{i:Nat}(h:f.kind % 13+1=13)(ht:p.tree=false):kindP p i f=13∧refP p i f=f.ref % p.structs.length:=by
 have k0:kind0 p f=13:=(if_neg (by omega)).trans h
 have k1:kindP p i f=13:=(if_neg (fun hh=>by rw [ht] at hh;cases hh.2.1)).trans k0
 exact ⟨k1,(if_pos k1).trans (if_neg (by rw [ht];decide))⟩
theorem kp_f {p:Plan}{f:PF}{i:Nat}(h:f.kind % 13+1≠10)(h13:f.kind % 13+1≠13):kindP p i f=f.kind % 13+1∧refP p i f=0:=by
 have k0:kind0 p f=f.kind % 13+1:=if_neg (fun hh=>h hh.1)
 have k1:kindP p i f=f.kind % 13+1:=(if_neg (fun hh=>h13 (k0▸hh.1))).trans k0
 exact ⟨k1,(if_neg (by omega)).trans (if_neg (by omega))⟩
theorem tmod_nat (x y:Nat):(x:Int).tmod (y:Int)=((x % y:Nat):Int):=by
 rw [Int.tmod_eq_emod_of_nonneg (by omega)]
 exact (Int.natCast_emod x y).symm
set_option maxRecDepth 100000 in
set_option maxHeartbeats 4000000 in
theorem kinds_wp {Q:Exit→Act→World→Prop}{c:Act}{w W:World}{p:Plan}{f:PF}{a a0 a1 ea:Option Addr}{b i n c0 R k T B off n0 e0 n1 c1:Nat}(hc:FrE b i a n c0 R k T c)(hin:TyIn w W p f a a0 a1 ea b i n k B off T n0 e0 n1 c1)(ht:MTyAt W T (f.kind % 13+1) 0 (f.lists % 4))
  (hK:∀ c' w' G,FrF b i a n c0 R k T G c'→T<G→Below T W w'→MTyAt w' T (kindP p i f) (refP p i f) (f.lists % 4)→FldAt w' G ⟨labelOf f.name k,kindP p i f,refP p i f,f.lists % 4,0⟩→Code.wp Tryz.prog made35 Q c' w') :
  Code.wp Tryz.prog made24 Q c W:=by
 obtain ⟨u,rfl⟩:=fre_lit hc
 obtain ⟨pf,bel,hb,hT,out,bx1,bx3,el,sl,i1,n16,n8,kn,nn⟩:=hin
 have hTW:T<W.heap.size:=blk_lt ht
 have HT:=Lib.hid ht
 have HPF:=Lib.hid pf
 have HBEL:=Lib.hid bel
 -- what ends each way: the rest of the round,from a world in which the type is made
 have HE:Hid (∀ (c':Act) (W':World) (K:Act→World→Prop),FrE b i a n c0 R k T c'→Below T W W'→MTyAt W' T (kindP p i f) (refP p i f) (f.lists % 4)→(∀ a w,Code.wp Tryz.prog made35 Q a w→K a w)→Code.wp Tryz.prog made34 (Exit.then K Q) c' W'):=Lib.hid (fun c' W' K h1 h2 h3 h4 =>
  fld_wp h1 pf (bel.trans (h2.mono (by omega))) kn nn h3 (fun c2 w2 G g1 g2 g3 g4=>h4 _ _ (hK c2 w2 G g1 (by have:=blk_lt h3;omega) (h2.trans (g3.mono (Nat.le_of_lt (blk_lt h3)))) (blk_below h3 g3 (blk_lt h3)) g4)))
 obtain ⟨_,t0,t1,t2,s0,s1,s2⟩:=blk3 ht
 have HEL:=Lib.hid el
 have HSL:=Lib.hid sl
 have hq13:f.kind % 13<13:=by omega
 obtain ⟨rfl,hB,x0,x1,x2,x3,x4,l0,l1,l2,l3,l4⟩:=pf
 have y2:=(bel.cell (p:=⟨B,off+k * 5+2,none⟩) hB).trans x2
 have hBT:B<T:=by omega
 have hki:(k:Int)<n:=by omega
 have BX1:=Lib.hid bx1
 have Y2:=Lib.hid y2
 clear hc hK ht bel el sl x0 x1 x2 x3 x4 l0 l1 l3 l4 hB hb
 conv=>arg 2;whnf
 by_cases h10:f.kind % 13+1=10
 · by_cases hn0:n0=0
   · -- no enum: a number
     obtain ⟨e1,e2⟩:=kp_a (p:=p) (i:=i) h10 (by rw [HEL.out];exact hn0)
     rw [e1,e2] at HE
     rw [h10] at t0 HT
     subst hn0
     clear e1 e2 h10
     go_upto_region 34 with (fail)
     refine HE.out _ _ _ ⟨rfl,rfl,rfl,rfl,rfl,rfl,rfl,rfl,rfl,rfl,rfl⟩ ?_ ?_ (by assumption)
     · exact (Below.refl _ _).setCell (p:=⟨T,0,none⟩) (Nat.le_refl _) _
     · exact (blk_set HT.out 0 _).trans rfl
   · -- an enum
     obtain ⟨e1,e2⟩:=kp_b (p:=p) (i:=i) h10 (by rw [HEL.out];exact hn0)
     rw [HEL.out] at e2
     rw [e1,e2] at HE
     rw [h10] at t0 HT
     have w1:=IntWalk.i64_in (f.ref:Int) (by omega)
     have w2:=tmod_nat f.ref n0
     have hlt:f.ref % n0<n0:=Nat.mod_lt _ (by omega)
     have w3:=IntWalk.i64_in ((f.ref % n0:Nat):Int) (by omega)
     have z0:(n0:Int)≠0:=by omega
     have z1:((n0:Int)==0)=false:=by simp;omega
     generalize f.ref % n0=rr at *
     clear e1 e2 h10
     go_upto_region 27 with (fail)
     go_still_tail 11,(by kernel_rfl)
     change wpList _ _ _ _ _ W.drew
     have d0:W.drew.cell? ⟨T,0,none⟩=some (.int .u8 10):=t0
     have HTD:=Lib.hid (show MTyAt W.drew T 10 0 (f.lists % 4) from HT.out)
     have HBD:=Lib.hid ((Below.refl T W).drew)
     obtain ⟨_,t0',t1',t2',s0',s1',s2'⟩:=blk3 HTD.out
     have bx3':W.drew.cell? ⟨b,3,none⟩=some (.bool p.tree):=bx3
     clear t0 t1 t2 s0 s1 s2 d0 HT bx3 out bx1 y2
     generalize W.drew=W2 at *
     go_upto_region 34 with (fail)
     refine HE.out _ _ _ ⟨rfl,rfl,rfl,rfl,rfl,rfl,rfl,rfl,rfl,rfl,rfl⟩ ?_ ?_ (by assumption)
     · exact HBD.out.setCell (p:=⟨T,1,none⟩) (Nat.le_refl _) _
     · exact (blk_set HTD.out 1 _).trans rfl
 · have k10:((f.kind % 13+1:Nat):Int)≠10:=by omega
   by_cases h13:f.kind % 13+1=13
   · rw [h13] at t0 HT
     clear k10
     generalize htr:p.tree=tr at *
     cases tr with
     | true =>
      by_cases hla:i+1=n1
      · -- the last struct: a text
        obtain ⟨e1,e2⟩:=kp_c (p:=p) (i:=i) h13 htr (by rw [HSL.out];exact hla)
        rw [e1,e2] at HE
        have hlb:((i:Int)+1==n1)=true:=by simp;omega
        clear e1 e2 h10 h13 htr
        go_upto_region 34 with (fail)
        refine HE.out _ _ _ ⟨rfl,rfl,rfl,rfl,rfl,rfl,rfl,rfl,rfl,rfl,rfl⟩ ?_ ?_ (by assumption)
        · exact (Below.refl _ _).setCell (p:=⟨T,0,none⟩) (Nat.le_refl _) _
        · exact (blk_set HT.out 0 _).trans rfl
      · -- a struct behind this one
        obtain ⟨e1,e2⟩:=kp_d (p:=p) (i:=i) h13 htr (by rw [HSL.out];exact hla)
        rw [HSL.out] at e2
        rw [e1,e2] at HE
        have hlb:((i:Int)+1==n1)=false:=by simp;omega
        have w1:=IntWalk.i64_in (f.ref:Int) (by omega)
        have w2:=tmod_nat f.ref n1
        have hlt:f.ref % n1<n1:=Nat.mod_lt _ (by omega)
        have w3:=IntWalk.i64_in ((f.ref % n1:Nat):Int) (by omega)
        have z0:(n1:Int)≠0:=by omega
        have z2:¬n1=0:=by omega
        have z1:((n1:Int)==0)=false:=by simp;omega
        have v2:(f.ref:Int).tmod ((n1:Int)-i-1)=((f.ref % (n1-i-1):Nat):Int):=by rw [show (n1:Int)-i-1=((n1-i-1:Nat):Int) by omega];exact tmod_nat _ _
        have hlt2:f.ref % (n1-i-1)<n1-i-1:=Nat.mod_lt _ (by omega)
        have v3:=IntWalk.i64_in ((f.ref % (n1-i-1):Nat):Int) (by omega)
        have v4:=IntWalk.i64_in ((n1:Int)-i) (by omega)
        have v5:=IntWalk.i64_in ((n1:Int)-i-1) (by omega)
        have v6:=IntWalk.i64_in ((i:Int)+1) (by omega)
        have v7:=IntWalk.i64_in ((i:Int)+1+(f.ref % (n1-i-1):Nat)) (by omega)
        have v8:(n1:Int)-i-1≠0:=by omega
        have v9:((n1:Int)-i-1==0)=false:=by simp;omega
        have va:¬((n1:Int)-i=1):=by omega
        have HES:=Lib.hid (show ((i+1+f.ref % (n1-i-1):Nat):Int)=(i:Int)+1+((f.ref % (n1-i-1):Nat):Int) by omega)
        generalize f.ref % (n1-i-1)=r2 at *
        generalize f.ref % n1=rr at *
        clear e1 e2 h10 h13 htr
        go_upto_region 31 with (fail)
        go_still_tail 11,(by kernel_rfl)
        change wpList _ _ _ _ _ W.drew
        have d0:W.drew.cell? ⟨T,0,none⟩=some (.int .u8 13):=t0
        have HTD:=Lib.hid (show MTyAt W.drew T 13 0 (f.lists % 4) from HT.out)
        have HBD:=Lib.hid ((Below.refl T W).drew)
        obtain ⟨_,t0',t1',t2',s0',s1',s2'⟩:=blk3 HTD.out
        have bx1':W.drew.cell? ⟨b,1,none⟩=some (.slice a1 n1 c1):=bx1
        have bx3':W.drew.cell? ⟨b,3,none⟩=some (.bool true):=bx3
        have y2':W.drew.cell? ⟨B,off+k * 5+2,none⟩=some (.int .u8 (f.ref:Nat)):=y2
        clear t0 t1 t2 s0 s1 s2 d0 HT bx3 out bx1 y2
        generalize W.drew=W2 at *
        go_upto_region 33 with (fail)
        have HTS:=Lib.hid (show MTyAt (W2.setCell ⟨T,1,none⟩ (.int .i64 rr)) T 13 rr (f.lists % 4) from (blk_set HTD.out 1 _).trans rfl)
        have HBS:=Lib.hid (HBD.out.setCell (p:=⟨T,1,none⟩) (Nat.le_refl _) (.int .i64 rr))
        have bx1s:=(HBS.out.cell (p:=⟨b,1,none⟩) (by show b<T;omega)).trans BX1.out
        have y2s:=(HBS.out.cell (p:=⟨B,off+k * 5+2,none⟩) hBT).trans Y2.out
        obtain ⟨_,r0,r1,r2c,p0,p1,p2⟩:=blk3 HTS.out
        clear t0' t1' t2' s0' s1' s2' bx1' bx3' y2'
        generalize W2.setCell ⟨T,1,none⟩ (.int .i64 rr)=W3 at *
        go_still_tail 17,(by kernel_rfl)
        change wpList _ _ _ _ _ W3.drew
        have HTE:=Lib.hid (show MTyAt W3.drew T 13 rr (f.lists % 4) from HTS.out)
        have HBE:=Lib.hid HBS.out.drew
        obtain ⟨_,r0',r1',r2',p0',p1',p2'⟩:=blk3 HTE.out
        clear r0 r1 r2c p0 p1 p2 bx1s y2s HTS HBS
        generalize W3.drew=W4 at *
        go_upto_region 34 with (fail)
        refine HE.out _ _ _ ⟨rfl,rfl,rfl,rfl,rfl,rfl,rfl,rfl,rfl,rfl,rfl⟩ ?_ ?_ (by assumption)
        · exact HBE.out.setCell (p:=⟨T,1,none⟩) (Nat.le_refl _) _
        · exact (blk_set HTE.out 1 _).trans (by rw [←HES.out];rfl)
     | false =>
      obtain ⟨e1,e2⟩:=kp_e (p:=p) (i:=i) h13 htr
      rw [HSL.out] at e2
      rw [e1,e2] at HE
      have w1:=IntWalk.i64_in (f.ref:Int) (by omega)
      have w2:=tmod_nat f.ref n1
      have hlt:f.ref % n1<n1:=Nat.mod_lt _ (by omega)
      have w3:=IntWalk.i64_in ((f.ref % n1:Nat):Int) (by omega)
      have z0:(n1:Int)≠0:=by omega
      have z2:¬n1=0:=by omega
      have z1:((n1:Int)==0)=false:=by simp;omega
      generalize f.ref % n1=rr at *
      clear e1 e2 h10 h13 htr
      go_upto_region 31 with (fail)
      go_still_tail 11,(by kernel_rfl)
      change wpList _ _ _ _ _ W.drew
      have d0:W.drew.cell? ⟨T,0,none⟩=some (.int .u8 13):=t0
      have HTD:=Lib.hid (show MTyAt W.drew T 13 0 (f.lists % 4) from HT.out)
      have HBD:=Lib.hid ((Below.refl T W).drew)
      obtain ⟨_,t0',t1',t2',s0',s1',s2'⟩:=blk3 HTD.out
      have bx1':W.drew.cell? ⟨b,1,none⟩=some (.slice a1 n1 c1):=bx1
      have bx3':W.drew.cell? ⟨b,3,none⟩=some (.bool false):=bx3
      have y2':W.drew.cell? ⟨B,off+k * 5+2,none⟩=some (.int .u8 (f.ref:Nat)):=y2
      clear t0 t1 t2 s0 s1 s2 d0 HT bx3 out bx1 y2
      generalize W.drew=W2 at *
      go_upto_region 34 with (fail)
      refine HE.out _ _ _ ⟨rfl,rfl,rfl,rfl,rfl,rfl,rfl,rfl,rfl,rfl,rfl⟩ ?_ ?_ (by assumption)
      · exact HBD.out.setCell (p:=⟨T,1,none⟩) (Nat.le_refl _) _
      · exact (blk_set HTD.out 1 _).trans rfl
   · -- as it is
     obtain ⟨e1,e2⟩:=kp_f (p:=p) (i:=i) h10 h13
     rw [e1,e2] at HE
     have q1:(((f.kind % 13+1:Nat):Int)==10)=false:=by simp;omega
     have q2:(((f.kind % 13+1:Nat):Int)==13)=false:=by simp;omega
     generalize f.kind % 13+1=q at *
     clear e1 e2 h10 h13 k10
     go_upto_region 34 with (fail)
     refine HE.out _ _ _ ⟨rfl,rfl,rfl,rfl,rfl,rfl,rfl,rfl,rfl,rfl,rfl⟩ ?_ ?_ (by assumption)
     · exact Below.refl _ _
     · exact HT.out
end Go.Proofs.YtokhnoogkdlidaaGreatDoor
namespace Go.Proofs.YtokhnoogkdlidaaGreatDoor
open Go.ChangeShapes Go.WideShapes Go.ChangeAt Go.RowKit Go.Shelf
structure Dp (w:World)(P g c:Nat)(l r:List Tok)(F:Int × Nat):Prop where
 blk:w.heap[P]?=some (.cells #[.slice (some ⟨g,0,none⟩) l.length c,.int .i64 (l.length-r.length:Nat),.int .i64 F.1,.int .i64 F.2] 94 (0,0))
 suf:l.drop (l.length-r.length)=r
 len:r.length≤l.length
 glt:g<w.heap.size
 gne:g≠P
 cells:∀ k,k<l.length * 3→w.cell? ⟨g,k,none⟩=(toksCells l)[k]?
 cap:l.length≤c∧c≤maxLen
 ends:Ends r
 byt:∀ t ∈ l,∀ z ∈ t.text,0≤z∧z≤255
 few:l.length≤2048
theorem Dp.keep {w W:World}{P g c:Nat}{l r:List Tok}{F:Int × Nat}(h:Dp w P g c l r F)(hb:Below w.heap.size w W):Dp W P g c l r F:=
 ⟨(hb.block P (blk_lt h.blk)).trans h.blk,h.suf,h.len,Nat.lt_of_lt_of_le h.glt hb.size,h.gne,fun k hk=>(hb.cell (p:=⟨g,k,none⟩) h.glt).trans (h.cells k hk),h.cap,h.ends,h.byt,h.few⟩
theorem Dp.other {w W:World}{P X g c:Nat}{l r:List Tok}{F:Int × Nat}(h:Dp w P g c l r F)(hb:Exc X w.heap.size w W)(hP:P≠X)(hg:g≠X):Dp W P g c l r F:=
 ⟨(hb.block P (blk_lt h.blk) hP).trans h.blk,h.suf,h.len,Nat.lt_of_lt_of_le h.glt hb.size,h.gne,fun k hk=>(hb.cell (p:=⟨g,k,none⟩) h.glt hg).trans (h.cells k hk),h.cap,h.ends,h.byt,h.few⟩
theorem Dp.deep {w W:World}{P g c B:Nat}{l r:List Tok}{F:Int × Nat}(h:Dp w P g c l r F)(hb:Below B w W)(hP:P<B)(hg:g<B):Dp W P g c l r F:=
 ⟨(hb.block P hP).trans h.blk,h.suf,h.len,Nat.lt_of_lt_of_le h.glt hb.size,h.gne,fun k hk=>(hb.cell (p:=⟨g,k,none⟩) hg).trans (h.cells k hk),h.cap,h.ends,h.byt,h.few⟩
theorem Dp.alloc {w:World}{P g c:Nat}{l r:List Tok}{F:Int × Nat}(h:Dp w P g c l r F)(o:Obj):Dp (w.alloc o) P g c l r F:=h.keep ((Below.refl _ _).alloc (Nat.le_refl _) _)
theorem Dp.set3 {w:World}{P g c:Nat}{l r:List Tok}{F:Int × Nat}(h:Dp w P g c l r F){X:Nat}(hP:P≠X)(hg:g≠X)(x y z:Value):Dp (((w.setCell ⟨X,0,none⟩ x).setCell ⟨X,1,none⟩ y).setCell ⟨X,2,none⟩ z) P g c l r F:=h.other (exc_set3 w X x y z) hP hg
theorem Dp.set1 {w:World}{P g c:Nat}{l r:List Tok}{F:Int × Nat}(h:Dp w P g c l r F){X:Nat}(hP:P≠X)(hg:g≠X)(i:Nat)(x:Value):Dp (w.setCell ⟨X,i,none⟩ x) P g c l r F:=h.other (exc_set w X i x) hP hg
theorem blk4 {w:World}{g:Nat}{x y z u:Value}{t:TypeId}(h:w.heap[g]?=some (.cells #[x,y,z,u] t (0,0))) :
  g<w.heap.size∧w.cell? ⟨g,0,none⟩=some x∧w.cell? ⟨g,1,none⟩=some y∧w.cell? ⟨g,2,none⟩=some z∧w.cell? ⟨g,3,none⟩=some u∧w.frozen? ⟨g,1,none⟩=false∧w.frozen? ⟨g,2,none⟩=false∧w.frozen? ⟨g,3,none⟩=false:=
 ⟨blk_lt h,(blk_cell h 0).trans rfl,(blk_cell h 1).trans rfl,(blk_cell h 2).trans rfl,(blk_cell h 3).trans rfl,blk_frozen h 1,blk_frozen h 2,blk_frozen h 3⟩
theorem Dp.next {w:World}{P g c:Nat}{l r:List Tok}{F:Int × Nat}(h:Dp w P g c l r F) :
  l.length-r.length<l.length∧w.cell? ⟨g,(l.length-r.length) * 3,none⟩=some (.int .i64 (hd r).kind)∧w.cell? ⟨g,(l.length-r.length) * 3+1,none⟩=some (.string (strOfNums (hd r).text))∧w.cell? ⟨g,(l.length-r.length) * 3+2,none⟩=some (.int .i64 (hd r).place):=
 tok_cell h.cells h.glt (Below.refl _ _) _ _ _ (h.suf.trans h.ends.cons)
theorem Dp.mem {w:World}{P g c:Nat}{l r:List Tok}{F:Int × Nat}(h:Dp w P g c l r F):hd r ∈ l:=by
 have h1:∀ q:List Tok,Ends q→hd q ∈ q:=fun q hq=>by
  cases q with
  | nil=>exact hq.elim
  | cons t q=>exact List.mem_cons_self
 have h2:=h1 r h.ends
 have h3:∀ x,x ∈ r→x ∈ l:=fun x hx=>List.mem_of_mem_drop (h.suf▸hx)
 exact h3 _ h2
theorem Dp.taken {w W:World}{P g c:Nat}{l r:List Tok}{F:Int × Nat}(h:Dp w P g c l r F)(h0:(hd r).kind≠0)(hb:Exc P w.heap.size w W)
  (hblk:W.heap[P]?=some (.cells #[.slice (some ⟨g,0,none⟩) l.length c,.int .i64 (((l.length-r.length:Nat):Int)+1),.int .i64 F.1,.int .i64 F.2] 94 (0,0))):Dp W P g c l r.tail F:=by
 have hl:=h.ends.len
 have hl2:=h.len
 have e:l.length-r.tail.length=l.length-r.length+1:=by omega
 refine ⟨?_,?_,by omega,Nat.lt_of_lt_of_le h.glt hb.size,h.gne,fun k hk=>(hb.cell (p:=⟨g,k,none⟩) h.glt h.gne).trans (h.cells k hk),h.cap,h.ends.tail h0,h.byt,h.few⟩
 · rw [hblk,e]
   rfl
 · rw [e,←List.drop_drop,h.suf]
   cases r with
   | nil=>exact h.ends.elim
   | cons t q=>rfl
theorem Dp.faulted {w W:World}{P g c:Nat}{l r:List Tok}{F F':Int × Nat}(h:Dp w P g c l r F)(hb:Exc P w.heap.size w W)
  (hblk:W.heap[P]?=some (.cells #[.slice (some ⟨g,0,none⟩) l.length c,.int .i64 (l.length-r.length:Nat),.int .i64 F'.1,.int .i64 F'.2] 94 (0,0))):Dp W P g c l r F':=
 ⟨hblk,h.suf,h.len,Nat.lt_of_lt_of_le h.glt hb.size,h.gne,fun k hk=>(hb.cell (p:=⟨g,k,none⟩) h.glt h.gne).trans (h.cells k hk),h.cap,h.ends,h.byt,h.few⟩
set_option maxRecDepth 100000 in
theorem dhere_any (w:World)(P g c:Nat)(l r:List Tok)(F:Int × Nat)(h:Dp w P g c l r F) :
  Calls Tryz.prog 36 #[.pointer (some ⟨P,0,none⟩)] w fun e w'=>e=.returned (tokV (hd r))∧Below w.heap.size w w':=by
 have hZ:=heap_alloc_new w (.cells #[.int .i64 0,.string ⟨#[]⟩,.int .i64 0] 97)
 have HZ:=Lib.hid hZ
 have hbA:Below w.heap.size w (w.alloc (.cells #[.int .i64 0,.string ⟨#[]⟩,.int .i64 0] 97)):=(Below.refl _ _).alloc (Nat.le_refl _) _
 have HB:=Lib.hid hbA
 have h1:=h.keep hbA
 obtain ⟨hP,r0,r1,_⟩:=blk4 h1.blk
 obtain ⟨hk,x0,x1,x2⟩:=h1.next
 have hg:=h1.glt
 have hlen:=h.few
 clear hZ hbA h1 h
 unfold tokV
 generalize l.length-r.length=j at *
 generalize hd r=t at *
 go_enter Tryz.func36,Tryz.ntmps36
 go_upto_region 1 with (fail)
 generalize w.alloc (.cells #[.int .i64 0,.string ⟨#[]⟩,.int .i64 0] 97)=W1 at *
 obtain ⟨hz,z0,z1,z2,y0,y1,y2⟩:=blk3 HZ.out
 go_region_with (fail)
 all_goals
  go_wp2
  refine post_gen (fun Wf=>Wf.heap[w.heap.size]?=some (.cells #[.int .i64 t.kind,.string (strOfNums t.text),.int .i64 t.place] 97 (0,0))∧Below w.heap.size w Wf) ⟨?_,?_⟩ ?_
  · exact blk_set3 (w:=W1) HZ.out _ _ _
  · exact (((HB.out.setCell (p:=⟨w.heap.size,0,none⟩) (Nat.le_refl _) _).setCell (p:=⟨w.heap.size,1,none⟩) (Nat.le_refl _) _).setCell (p:=⟨w.heap.size,2,none⟩) (Nat.le_refl _) _).drew
  · rintro Wf ⟨e1,e2⟩
    obtain ⟨_,c0,c1,c2,_⟩:=blk3 e1
    exact bodyPost_ret (v:=.agg #[.int .i64 t.kind,.string (strOfNums t.text),.int .i64 t.place]) (by simp [results,Tryz.results36,go_sem,c0,c1,c2]) rfl ⟨rfl,e2⟩
/-! ### where the parser is -/
inductive Sto where
 | go (r:List Tok):Sto
 | fell (c:Int) (p:Nat):Sto
def DpS (w:World)(P g c:Nat)(l:List Tok):Sto→Prop
 | .go r=>Dp w P g c l r (0,0)
 | .fell c' p=>c'≠0∧∃ r,Dp w P g c l r (c',p)
def isS (k:Int)(s:List Int):Sto→Bool
 | .go r=>isT k s r
 | .fell _ _=>false
def Sto.step {α:Type}(f:List Tok→Res α):Sto→Sto
 | .go r=>match f r with
  | .ok _ r'=>.go r'
  | .no c p=>.fell c p
 | .fell c p=>.fell c p
theorem DpS.form {w:World}{P g c:Nat}{l:List Tok}{st:Sto}(h:DpS w P g c l st):∃ r F,Dp w P g c l r F∧((st=.go r∧F=(0,0))∨(st=.fell F.1 F.2∧F.1≠0)):=by
 cases st with
 | go r=>exact ⟨r,_,h,.inl ⟨rfl,rfl⟩⟩
 | fell c' p=>exact ⟨_,_,h.2.choose_spec,.inr ⟨rfl,h.1⟩⟩
theorem DpS.keep {w W:World}{P g c:Nat}{l:List Tok}{st:Sto}(h:DpS w P g c l st)(hb:Below w.heap.size w W):DpS W P g c l st:=by
 cases st with
 | go r=>exact Dp.keep h hb
 | fell c' p=>exact ⟨h.1,_,h.2.choose_spec.keep hb⟩
theorem DpS.other {w W:World}{P X g c:Nat}{l:List Tok}{st:Sto}(h:DpS w P g c l st)(hb:Exc X w.heap.size w W)(hP:P≠X)(hg:g≠X):DpS W P g c l st:=by
 cases st with
 | go r=>exact Dp.other h hb hP hg
 | fell c' p=>exact ⟨h.1,_,h.2.choose_spec.other hb hP hg⟩
theorem DpS.deep {w W:World}{P g c B:Nat}{l:List Tok}{st:Sto}(h:DpS w P g c l st)(hb:Below B w W)(hP:P<B)(hg:g<B):DpS W P g c l st:=by
 cases st with
 | go r=>exact Dp.deep h hb hP hg
 | fell c' p=>exact ⟨h.1,_,h.2.choose_spec.deep hb hP hg⟩
theorem DpS.facts {w:World}{P g c:Nat}{l:List Tok}{st:Sto}(h:DpS w P g c l st):P<w.heap.size∧g<w.heap.size∧g≠P:=by
 obtain ⟨r,F,hd,_⟩:=h.form
 exact ⟨blk_lt hd.blk,hd.glt,hd.gne⟩
set_option maxRecDepth 100000 in
theorem dbad_go (w:World)(P g c:Nat)(l r:List Tok)(code:Int)(h:Dp w P g c l r (0,0)) :
  Calls Tryz.prog 42 #[.pointer (some ⟨P,0,none⟩),.int .i64 code] w fun e w'=>e=.returned (.tuple #[])∧Dp w' P g c l r (code,(hd r).place)∧Exc P w.heap.size w w':=by
 obtain ⟨hP,r0,r1,r2,r3,s1,s2,s3⟩:=blk4 h.blk
 have HD:=Lib.hid h
 have hg:=h.glt
 have hf:=fld2
 simp only at r2 r3
 go_enter Tryz.func42,Tryz.ntmps42
 go_upto_region 2 with (fail)
 have HX1:=Lib.hid (exc_set w P 2 (.int .i64 code))
 have HD1:=Lib.hid (HD.out.faulted (F':=(code,0)) HX1.out ((blk_set HD.out.blk 2 _).trans rfl))
 clear r0 r1 r2 r3 s1 s2 s3 h
 generalize w.setCell ⟨P,2,none⟩ (.int .i64 code)=W1 at *
 go_wp2_with fail
 refine (dhere_any _ P g c l r _ HD1.out).mono ?_
 rintro e W2 ⟨rfl,hb2⟩
 have HD2:=Lib.hid (HD1.out.keep hb2)
 have HX2:=Lib.hid (HX1.out.then (.of_below hb2))
 obtain ⟨hP2,r0,r1,r2,r3,s1,s2,s3⟩:=blk4 HD2.out.blk
 clear hb2 HX1 HD1
 unfold tokV
 go_wp2
 first|refine bodyPost_end (v:=.tuple #[]) (by simp [results,Tryz.results42,go_sem]) rfl ?_|refine bodyPost_ret (v:=.tuple #[]) (by simp [results,Tryz.results42,go_sem]) rfl ?_
 exact ⟨rfl,HD2.out.faulted (exc_set W2 P 3 _) ((blk_set HD2.out.blk 3 _).trans rfl),HX2.out.setCell (p:=⟨P,3,none⟩) (.inl rfl) _⟩
end Go.Proofs.YtokhnoogkdlidaaGreatDoor
