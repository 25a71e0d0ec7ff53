/-
  The hand's Made: of each plan the schema, or false. Conditions: those that each theorem names.
-/
import Derived.Test.YtachghaegokpdaaDoorPkFA1
import Derived.Test.YtachghaegokpdaaDoorPkFC1
import Derived.Test.YtachghaegokpdaaDoorPkFC2
import Derived.Test.YtachghaegokpdaaDoorPkFC3
import Derived.Test.YtachghaegokpdaaDoorPkFC5
import Derived.Deep.RegionHeld3
import Derived.StillTailTactics
namespace Go.Proofs.YtachghaegokpdaaDoor
open Go.ChangeShapes Go.WideShapes Go.ChangeAt Go.RowKit Go.Shelf
structure PFAt (w:World)(a:Option Addr)(k:Nat)(f:PF)(B off:Nat):Prop where
 ha:a=some ⟨B,off,none⟩
 hB:B<w.heap.size
 x0:w.cell? ⟨B,off+k * 5,none⟩=some (.int .u8 (f.kind:Nat))
 x1:w.cell? ⟨B,off+k * 5+1,none⟩=some (.int .u8 (f.lists:Nat))
 x2:w.cell? ⟨B,off+k * 5+2,none⟩=some (.int .u8 (f.ref:Nat))
 x3:w.cell? ⟨B,off+k * 5+3,none⟩=some (.int .u8 (f.name:Nat))
 x4:w.cell? ⟨B,off+k * 5+4,none⟩=some (.int .u64 (f.dflt:Nat))
 l0:f.kind≤255
 l1:f.lists≤255
 l2:f.ref≤255
 l3:f.name≤255
 l4:(f.dflt:Int)≤18446744073709551615
theorem u8_in (n:Int)(h0:0≤n)(h1:n≤255):IntKind.u8.wrap n=n:=by simp only [IntKind.wrap,IntKind.bits,IntKind.signed];simp;omega
def MTyAt (W:World)(T kd rf ls:Nat):Prop:=W.heap[T]?=some (.cells #[.int .u8 kd,.int .i64 rf,.int .i64 ls] 58 (0,0))
def findRegion (n:Nat):Code→Option Code
 | .loop c=>findRegion n c
 | .seq a b=>match findRegion n a with
  | some c=>some c
  | none=>findRegion n b
 | .block _ c=>findRegion n c
 | .scope c=>findRegion n c
 | .cond _ a b=>match findRegion n a with
  | some c=>some c
  | none=>findRegion n b
 | .region m ops d=>if m=n then some (.region m ops d) else none
 | _=>none
def isRegion (n:Nat):Code→Bool
 | .region m _ _=>m==n
 | _=>false
def afterRegion (n:Nat):Code→Option Code
 | .loop c=>afterRegion n c
 | .seq a b=>if isRegion n a then some b else match afterRegion n a with
  | some c=>some c
  | none=>afterRegion n b
 | .block _ c=>afterRegion n c
 | .scope c=>afterRegion n c
 | .cond _ a b=>match afterRegion n a with
  | some c=>some c
  | none=>afterRegion n b
 | _=>none
noncomputable def made34:Code:=(Tryd.f24.body.bind (findRegion 34)).getD .skip
noncomputable def made35:Code:=(Tryd.f24.body.bind (afterRegion 34)).getD .skip
theorem blk_set5 {w:World}{g:Nat}{a b c d e:Value}{t:TypeId}(h:w.heap[g]?=some (.cells #[a,b,c,d,e] t (0,0)))(x0 x1 x2 x3 x4:Value) :
  (((((w.setCell ⟨g,0,none⟩ x0).setCell ⟨g,1,none⟩ x1).setCell ⟨g,2,none⟩ x2).setCell ⟨g,3,none⟩ x3).setCell ⟨g,4,none⟩ x4).heap[g]?=some (.cells #[x0,x1,x2,x3,x4] t (0,0)):=
 (blk_set (blk_set (blk_set (blk_set (blk_set h 0 x0) 1 x1) 2 x2) 3 x3) 4 x4).trans rfl
theorem gfact {W W3:World}{cs:Array Value}{t:TypeId}(hb:Below (W.alloc (.cells cs t)).heap.size (W.alloc (.cells cs t)) W3):W3.heap[W.heap.size]?=some (.cells cs t (0,0)):=(hb.block _ (by simp)).trans (heap_alloc_new W _)
theorem gfact_drew {W W3:World}{cs:Array Value}{t:TypeId}(hb:Below (W.alloc (.cells cs t)).drew.heap.size (W.alloc (.cells cs t)).drew W3):W3.heap[W.heap.size]?=some (.cells cs t (0,0)):=(hb.block _ (by show _<(W.alloc _).heap.size;simp)).trans (heap_alloc_new W _)
theorem bfact {W W3:World}{o:Obj}(hb:Below (W.alloc o).heap.size (W.alloc o) W3):Below W.heap.size W W3:=((Below.refl _ W).alloc (Nat.le_refl _) _).trans (hb.mono (by simp))
theorem bfact_drew {W W3:World}(hb:Below W.drew.heap.size W.drew W3):Below W.heap.size W W3:=(Below.refl _ W).drew.trans hb
theorem bfact_alloc_drew {W W3:World}{o:Obj}(hb:Below (W.alloc o).drew.heap.size (W.alloc o).drew W3):Below W.heap.size W W3:=((Below.refl _ W).alloc (Nat.le_refl _) _).drew.trans (hb.mono (by show _≤(W.alloc _).heap.size;simp))
theorem keep5 {w:World}{g:Nat}{p:Addr}{v x0 x1 x2 x3 x4:Value}(h:w.cell? p=some v)(hp:p.block≠g) :
  (((((w.setCell ⟨g,0,none⟩ x0).setCell ⟨g,1,none⟩ x1).setCell ⟨g,2,none⟩ x2).setCell ⟨g,3,none⟩ x3).setCell ⟨g,4,none⟩ x4).cell? p=some v:=by
 have e:∀ (w:World) (i:Nat) (x:Value),(w.setCell ⟨g,i,none⟩ x).cell? p=w.cell? p:=fun w i x=>World.cell?_of_block (Below.heap_setCell _ _ _ _ hp)
 rw [e,e,e,e,e,h]
def FldAt (W:World)(G:Nat)(f:SFld):Prop:=W.heap[G]?=some (.cells #[.string f.name,.int .u8 f.kind,.int .i64 f.ref,.int .i64 f.lists,.int .u64 f.dflt] 60 (0,0))
set_option maxRecDepth 100000 in
set_option maxHeartbeats 4000000 in
theorem fld_wp {K:Act→World→Prop}{Q:Exit→Act→World→Prop}{c:Act}{w W:World}{f:PF}{a:Option Addr}{b i n c0 R k T B off kd rf ls:Nat}(hc:FrE b i a n c0 R k T c)(hf:PFAt w a k f B off)(hbw:Below w.heap.size w W)(hkn:k<n)(hn:n≤16)(ht:MTyAt W T kd rf ls)
  (hK:∀ c' w' G,FrF b i a n c0 R k T G c'→W.heap.size≤G→Below W.heap.size W w'→FldAt w' G ⟨labelOf f.name k,kd,rf,ls,0⟩→K c' w') :
  Code.wp Tryd.prog made34 (Exit.then K Q) c W:=by
 obtain ⟨u,rfl⟩:=fre_lit hc
 obtain ⟨rfl,hB,x0,x1,x2,x3,x4,l0,l1,l2,l3,l4⟩:=hf
 have HK:=Lib.hid hK
 have HL:=Lib.hid (hlabel_any f.name k)
 have y3:=(hbw.cell (p:=⟨B,off+k * 5+3,none⟩) hB).trans x3
 have hBW:B<W.heap.size:=Nat.lt_of_lt_of_le hB hbw.size
 have hTW:T<W.heap.size:=blk_lt ht
 obtain ⟨_,t0,t1,t2,_⟩:=blk3 ht
 have hki:(k:Int)<n:=by omega
 have hk16:k<16:=by omega
 clear hc hK x0 x1 x2 x3 x4 l0 l1 l2 l4 hbw hB ht
 conv=>arg 2;whnf
 have hBne:B≠W.heap.size:=by omega
 have hTne:T≠W.heap.size:=by omega
 have HCC:=Lib.hid (show ∀ W3,Below W.heap.size W W3→W3.cell? ⟨B,off+k * 5+3,none⟩=some (.int .u8 (f.name:Nat))∧W3.cell? ⟨T,0,none⟩=some (.int .u8 kd)∧W3.cell? ⟨T,1,none⟩=some (.int .i64 rf)∧W3.cell? ⟨T,2,none⟩=some (.int .i64 ls) from fun W3 hb3=>⟨(hb3.cell (p:=⟨B,off+k * 5+3,none⟩) hBW).trans y3,(hb3.cell (p:=⟨T,0,none⟩) hTW).trans t0,(hb3.cell (p:=⟨T,1,none⟩) hTW).trans t1,(hb3.cell (p:=⟨T,2,none⟩) hTW).trans t2⟩)
 go_region_held3 (fun w'=>w'.cell? ⟨B,off+k * 5+3,none⟩=some (.int .u8 (f.name:Nat))∧w'.cell? ⟨T,0,none⟩=some (.int .u8 kd)∧w'.cell? ⟨T,1,none⟩=some (.int .i64 rf)∧w'.cell? ⟨T,2,none⟩=some (.int .i64 ls)) (first|assumption|(with_reducible exact ⟨keep5 k0 hBne,keep5 k1 hTne,keep5 k2 hTne,keep5 k3 hTne⟩)|go_keep)
  (first|(go_at_call 49;(with_reducible refine (HL.out W l3 hk16).mono ?_);rintro e W3 ⟨rfl,hb3⟩;have hbW:Below W.heap.size W W3:=hb3;obtain ⟨k0,k1,k2,k3⟩:=HCC.out W3 hbW)|(go_at_call 49;(with_reducible refine (HL.out W.drew l3 hk16).mono ?_);rintro e W3 ⟨rfl,hb3⟩;have hbW:Below W.heap.size W W3:=bfact_drew hb3;obtain ⟨k0,k1,k2,k3⟩:=HCC.out W3 hbW)|(go_at_call 49;(with_reducible refine (HL.out (W.alloc (.cells #[.string ⟨#[]⟩,.int .u8 0,.int .i64 0,.int .i64 0,.int .u64 0] 60)) l3 hk16).mono ?_);rintro e W3 ⟨rfl,hb3⟩;have hbW:Below W.heap.size W W3:=bfact hb3;obtain ⟨k0,k1,k2,k3⟩:=HCC.out W3 hbW;have hGb:W3.heap[W.heap.size]?=some (.cells #[.string ⟨#[]⟩,.int .u8 0,.int .i64 0,.int .i64 0,.int .u64 0] 60 (0,0)):=gfact hb3;have HGB:=Lib.hid hGb;obtain ⟨_,g0,g1,g2,g3,g4,j0,j1,j2,j3,j4⟩:=blk5 hGb;clear hGb)|(go_at_call 49;(with_reducible refine (HL.out (W.alloc (.cells #[.string ⟨#[]⟩,.int .u8 0,.int .i64 0,.int .i64 0,.int .u64 0] 60)).drew l3 hk16).mono ?_);rintro e W3 ⟨rfl,hb3⟩;have hbW:Below W.heap.size W W3:=bfact_alloc_drew hb3;obtain ⟨k0,k1,k2,k3⟩:=HCC.out W3 hbW;have hGb:W3.heap[W.heap.size]?=some (.cells #[.string ⟨#[]⟩,.int .u8 0,.int .i64 0,.int .i64 0,.int .u64 0] 60 (0,0)):=gfact_drew hb3;have HGB:=Lib.hid hGb;obtain ⟨_,g0,g1,g2,g3,g4,j0,j1,j2,j3,j4⟩:=blk5 hGb;clear hGb)|(go_at_call 49;(with_reducible refine (HL.out (W.drew.alloc (.cells #[.string ⟨#[]⟩,.int .u8 0,.int .i64 0,.int .i64 0,.int .u64 0] 60)) l3 hk16).mono ?_);rintro e W3 ⟨rfl,hb3⟩;have hbW:Below W.heap.size W W3:=bfact_drew (bfact hb3);obtain ⟨k0,k1,k2,k3⟩:=HCC.out W3 hbW;have hGb:W3.heap[W.heap.size]?=some (.cells #[.string ⟨#[]⟩,.int .u8 0,.int .i64 0,.int .i64 0,.int .u64 0] 60 (0,0)):=gfact hb3;have HGB:=Lib.hid hGb;obtain ⟨_,g0,g1,g2,g3,g4,j0,j1,j2,j3,j4⟩:=blk5 hGb;clear hGb))
 · exact HK.out _ _ W3.heap.size ⟨rfl,rfl,rfl,rfl,rfl,rfl,rfl,rfl,rfl,rfl,rfl,rfl⟩ hbW.size (hbW.alloc hbW.size _) (heap_alloc_new W3 _)
 · exact HK.out _ _ W.heap.size ⟨rfl,rfl,rfl,rfl,rfl,rfl,rfl,rfl,rfl,rfl,rfl,rfl⟩ (Nat.le_refl _) (((((hbW.setCell (p:=⟨W.heap.size,0,none⟩) (Nat.le_refl _) _).setCell (p:=⟨W.heap.size,1,none⟩) (Nat.le_refl _) _).setCell (p:=⟨W.heap.size,2,none⟩) (Nat.le_refl _) _).setCell (p:=⟨W.heap.size,3,none⟩) (Nat.le_refl _) _).setCell (p:=⟨W.heap.size,4,none⟩) (Nat.le_refl _) _) (blk_set5 HGB.out _ _ _ _ _)
end Go.Proofs.YtachghaegokpdaaDoor
namespace Go.Proofs.YtachghaegokpdaaDoor
open Go.ChangeShapes Go.WideShapes Go.ChangeAt Go.RowKit Go.Shelf
structure NumTy (es:List SCho)(kind ref:Nat):Prop where
 lo:1≤kind
 hi:kind≤10
 en:kind=10→ref<es.length∧1≤cntE es ref
theorem sgn_keep (M m:Int)(hM:M=128∨M=32768∨M=2147483648)(h0:0≤m)(h1:m<2 * M):sgn M (sgn M m).toNat=(sgn M m).toNat:=by
 unfold sgn
 rcases hM with rfl|rfl|rfl
 all_goals
  rw [Int.emod_eq_of_lt h0 h1]
  split
  · rw [Int.toNat_of_nonneg h0,Int.emod_eq_of_lt h0 h1]
    split<;>omega
  · rw [Int.toNat_of_nonneg (by omega)]
    split<;>omega
theorem fits_signed (es:List SCho)(k:Nat)(ref:Int)(x:Nat)(h1:numTB k 0=true)(h2:k≠1)(h3:k≠10)(h4:kSign k=true):fitsT es k ref 0 x=decide (sgnOf x (kSize k)=x):=by
 unfold fitsT
 rw [if_neg (by rw [h1];decide),if_neg h2,if_neg h3,if_pos h4]
theorem num_fits {es:List SCho}{kind ref n:Nat}(h:NumTy es kind ref)(hn:n≤18446744073709551615):fitsT es kind ref 0 (numP (cntE es ref) kind n)=true:=by
 obtain ⟨h1,h2,h3⟩:=h
 have hk:kind=1∨kind=2∨kind=3∨kind=4∨kind=5∨kind=6∨kind=7∨kind=8∨kind=9∨kind=10:=by omega
 obtain ⟨p1,p2,p3,p4,p5,p6,p7,p8⟩:=number_plain (cntE es ref) n
 rcases hk with rfl|rfl|rfl|rfl|rfl|rfl|rfl|rfl|rfl|rfl
 · show decide (n % 2≤1)=true
   exact decide_eq_true (by omega)
 · rw [p1]
   have hs:∀ z,sgnOf z 1=sgn 128 z:=fun z=>by unfold sgnOf;simp
   have hm:(0:Int)≤(n % 256:Nat)∧((n % 256:Nat):Int)<2 * 128:=by omega
   rw [hs]
   generalize ((n % 256:Nat):Int)=m at *
   have hkp:=sgn_keep 128 m (.inl rfl) hm.1 hm.2
   generalize (sgn 128 m).toNat=x at *
   rw [fits_signed es 2 ref x (by decide) (by decide) (by decide) (by decide),show kSize ((2:Nat):Int)=1 by decide,hs]
   exact decide_eq_true hkp
 · rw [p2]
   have hs:∀ z,sgnOf z 2=sgn 32768 z:=fun z=>by unfold sgnOf;simp
   have hm:(0:Int)≤(n % 65536:Nat)∧((n % 65536:Nat):Int)<2 * 32768:=by omega
   rw [hs]
   generalize ((n % 65536:Nat):Int)=m at *
   have hkp:=sgn_keep 32768 m (.inr (.inl rfl)) hm.1 hm.2
   generalize (sgn 32768 m).toNat=x at *
   rw [fits_signed es 3 ref x (by decide) (by decide) (by decide) (by decide),show kSize ((3:Nat):Int)=2 by decide,hs]
   exact decide_eq_true hkp
 · rw [p3]
   have hs:∀ z,sgnOf z 4=sgn 2147483648 z:=fun z=>by unfold sgnOf;simp
   have hm:(0:Int)≤(n % 4294967296:Nat)∧((n % 4294967296:Nat):Int)<2 * 2147483648:=by omega
   rw [hs]
   generalize ((n % 4294967296:Nat):Int)=m at *
   have hkp:=sgn_keep 2147483648 m (.inr (.inr rfl)) hm.1 hm.2
   generalize (sgn 2147483648 m).toNat=x at *
   rw [fits_signed es 4 ref x (by decide) (by decide) (by decide) (by decide),show kSize ((4:Nat):Int)=4 by decide,hs]
   exact decide_eq_true hkp
 · show decide (sgnOf _ 8=_)=true
   exact decide_eq_true (sgnOf_else _ 8 (by decide) (by decide) (by decide))
 · rw [p5]
   show decide ((n % 256) / 256=0)=true
   exact decide_eq_true (by omega)
 · rw [p6]
   show decide ((n % 65536) / 65536=0)=true
   exact decide_eq_true (by omega)
 · rw [p7]
   show decide ((n % 4294967296) / 4294967296=0)=true
   exact decide_eq_true (by omega)
 · rw [p8]
   show decide (n / 18446744073709551616=0)=true
   exact decide_eq_true (by omega)
 · obtain ⟨h4,h5⟩:=h3 rfl
   show (decide (0≤(ref:Int)∧(ref:Int)<es.length)&&decide (n % cntE es ref<(es.getD (ref:Int).toNat ⟨⟨#[]⟩,[]⟩).names.length))=true
   rw [decide_eq_true ⟨by omega,by omega⟩,Int.toNat_natCast]
   exact decide_eq_true (Nat.mod_lt _ h5)
end Go.Proofs.YtachghaegokpdaaDoor
namespace Go.Proofs.YtachghaegokpdaaDoor
open Go.ChangeShapes Go.WideShapes Go.ChangeAt Go.RowKit
theorem take_nil (n:Int)(w:World) :
  Calls Tryd.prog 115 #[.pointer none,.int .i64 n] w fun e w'=>e=.returned (.bool false)∧w=w':=by
 go_enter Tryd.func115,Tryd.ntmps115
 go_wp2
 go_ret
 exact ⟨rfl,rfl⟩
end Go.Proofs.YtachghaegokpdaaDoor
namespace Go.Proofs.YtachghaegokpdaaDoor
open Go.ChangeShapes Go.WideShapes Go.ChangeAt Go.RowKit Go.Shelf
noncomputable def made24:Code:=(Tryd.f24.body.bind (afterRegion 23)).getD .skip
structure TyIn (w W:World)(p:Plan)(f:PF)(a a0 a1 ea:Option Addr)(b i n k B off T n0 e0 n1 c1:Nat):Prop where
 pf:PFAt w a k f B off
 bel:Below w.heap.size w W
 hb:b=w.heap.size
 hT:b+2<T
 out:W.cell? ⟨b+2,1,none⟩=some (.slice ea n0 e0)
 bx1:W.cell? ⟨b,1,none⟩=some (.slice a1 n1 c1)
 bx3:W.cell? ⟨b,3,none⟩=some (.bool p.tree)
 el:p.enums.length=n0
 sl:p.structs.length=n1
 i1:i<n1
 n16:n1≤16
 n8:n0≤8
 kn:k<n
 nn:n≤16
theorem kp_a {p:Plan}{f:PF}{i:Nat}(h:f.kind % 13+1=10)(h0:p.enums.length=0):kindP p i f=7∧refP p i f=0:=by
 have k0:kind0 p f=7:=if_pos ⟨h,h0⟩
 have k1:kindP p i f=7:=(if_neg (by omega)).trans k0
 exact ⟨k1,(if_neg (by omega)).trans (if_neg (by omega))⟩
theorem kp_b {p:Plan}{f:PF}{i:Nat}(h:f.kind % 13+1=10)(h0:p.enums.length≠0):kindP p i f=10∧refP p i f=f.ref % p.enums.length:=by
 have k0:kind0 p f=10:=(if_neg (fun hh=>h0 hh.2)).trans h
 have k1:kindP p i f=10:=(if_neg (by omega)).trans k0
 exact ⟨k1,(if_neg (by omega)).trans (if_pos k0)⟩
theorem kp_c {p:Plan}{f:PF}{i:Nat}(h:f.kind % 13+1=13)(ht:p.tree=true)(h0:i+1=p.structs.length):kindP p i f=11∧refP p i f=0:=by
 have k0:kind0 p f=13:=(if_neg (by omega)).trans h
 have k1:kindP p i f=11:=if_pos ⟨k0,ht,h0⟩
 exact ⟨k1,(if_neg (by omega)).trans (if_neg (by omega))⟩
theorem kp_d {p:Plan}{f:PF}{i:Nat}(h:f.kind % 13+1=13)(ht:p.tree=true)(h0:i+1≠p.structs.length):kindP p i f=13∧refP p i f=i+1+f.ref % (p.structs.length-i-1):=by
 have k0:kind0 p f=13:=(if_neg (by omega)).trans h
 have k1:kindP p i f=13:=(if_neg (fun hh=>h0 hh.2.2)).trans k0
 exact ⟨k1,(if_pos k1).trans (if_pos ht)⟩
theorem kp_e {p:Plan}{f:PF}{i:Nat}(h:f.kind % 13+1=13)(ht:p.tree=false):kindP p i f=13∧refP p i f=f.ref % p.structs.length:=by
 have k0:kind0 p f=13:=(if_neg (by omega)).trans h
 have k1:kindP p i f=13:=(if_neg (fun hh=>by rw [ht] at hh;cases hh.2.1)).trans k0
 exact ⟨k1,(if_pos k1).trans (if_neg (by rw [ht];decide))⟩
theorem kp_f {p:Plan}{f:PF}{i:Nat}(h:f.kind % 13+1≠10)(h13:f.kind % 13+1≠13):kindP p i f=f.kind % 13+1∧refP p i f=0:=by
 have k0:kind0 p f=f.kind % 13+1:=if_neg (fun hh=>h hh.1)
 have k1:kindP p i f=f.kind % 13+1:=(if_neg (fun hh=>h13 (k0▸hh.1))).trans k0
 exact ⟨k1,(if_neg (by omega)).trans (if_neg (by omega))⟩
theorem tmod_nat (x y:Nat):(x:Int).tmod (y:Int)=((x % y:Nat):Int):=by
 rw [Int.tmod_eq_emod_of_nonneg (by omega)]
 exact (Int.natCast_emod x y).symm
set_option maxRecDepth 100000 in
set_option maxHeartbeats 4000000 in
theorem kinds_wp {Q:Exit→Act→World→Prop}{c:Act}{w W:World}{p:Plan}{f:PF}{a a0 a1 ea:Option Addr}{b i n c0 R k T B off n0 e0 n1 c1:Nat}(hc:FrE b i a n c0 R k T c)(hin:TyIn w W p f a a0 a1 ea b i n k B off T n0 e0 n1 c1)(ht:MTyAt W T (f.kind % 13+1) 0 (f.lists % 4))
  (hK:∀ c' w' G,FrF b i a n c0 R k T G c'→T<G→Below T W w'→MTyAt w' T (kindP p i f) (refP p i f) (f.lists % 4)→FldAt w' G ⟨labelOf f.name k,kindP p i f,refP p i f,f.lists % 4,0⟩→Code.wp Tryd.prog made35 Q c' w') :
  Code.wp Tryd.prog made24 Q c W:=by
 obtain ⟨u,rfl⟩:=fre_lit hc
 obtain ⟨pf,bel,hb,hT,out,bx1,bx3,el,sl,i1,n16,n8,kn,nn⟩:=hin
 have hTW:T<W.heap.size:=blk_lt ht
 have HT:=Lib.hid ht
 have HPF:=Lib.hid pf
 have HBEL:=Lib.hid bel
 -- what ends each way: the rest of the round,from a world in which the type is made
 have HE:Hid (∀ (c':Act) (W':World) (K:Act→World→Prop),FrE b i a n c0 R k T c'→Below T W W'→MTyAt W' T (kindP p i f) (refP p i f) (f.lists % 4)→(∀ a w,Code.wp Tryd.prog made35 Q a w→K a w)→Code.wp Tryd.prog made34 (Exit.then K Q) c' W'):=Lib.hid (fun c' W' K h1 h2 h3 h4 =>
  fld_wp h1 pf (bel.trans (h2.mono (by omega))) kn nn h3 (fun c2 w2 G g1 g2 g3 g4=>h4 _ _ (hK c2 w2 G g1 (by have:=blk_lt h3;omega) (h2.trans (g3.mono (Nat.le_of_lt (blk_lt h3)))) (blk_below h3 g3 (blk_lt h3)) g4)))
 obtain ⟨_,t0,t1,t2,s0,s1,s2⟩:=blk3 ht
 have HEL:=Lib.hid el
 have HSL:=Lib.hid sl
 have hq13:f.kind % 13<13:=by omega
 obtain ⟨rfl,hB,x0,x1,x2,x3,x4,l0,l1,l2,l3,l4⟩:=pf
 have y2:=(bel.cell (p:=⟨B,off+k * 5+2,none⟩) hB).trans x2
 have hBT:B<T:=by omega
 have hki:(k:Int)<n:=by omega
 have BX1:=Lib.hid bx1
 have Y2:=Lib.hid y2
 clear hc hK ht bel el sl x0 x1 x2 x3 x4 l0 l1 l3 l4 hB hb
 conv=>arg 2;whnf
 by_cases h10:f.kind % 13+1=10
 · by_cases hn0:n0=0
   · -- no enum: a number
     obtain ⟨e1,e2⟩:=kp_a (p:=p) (i:=i) h10 (by rw [HEL.out];exact hn0)
     rw [e1,e2] at HE
     rw [h10] at t0 HT
     subst hn0
     clear e1 e2 h10
     go_upto_region 34 with (fail)
     refine HE.out _ _ _ ⟨rfl,rfl,rfl,rfl,rfl,rfl,rfl,rfl,rfl,rfl,rfl⟩ ?_ ?_ (by assumption)
     · exact (Below.refl _ _).setCell (p:=⟨T,0,none⟩) (Nat.le_refl _) _
     · exact (blk_set HT.out 0 _).trans rfl
   · -- an enum
     obtain ⟨e1,e2⟩:=kp_b (p:=p) (i:=i) h10 (by rw [HEL.out];exact hn0)
     rw [HEL.out] at e2
     rw [e1,e2] at HE
     rw [h10] at t0 HT
     have w1:=IntWalk.i64_in (f.ref:Int) (by omega)
     have w2:=tmod_nat f.ref n0
     have hlt:f.ref % n0<n0:=Nat.mod_lt _ (by omega)
     have w3:=IntWalk.i64_in ((f.ref % n0:Nat):Int) (by omega)
     have z0:(n0:Int)≠0:=by omega
     have z1:((n0:Int)==0)=false:=by simp;omega
     generalize f.ref % n0=rr at *
     clear e1 e2 h10
     go_upto_region 27 with (fail)
     go_still_tail 11,(by kernel_rfl)
     change wpList _ _ _ _ _ W.drew
     have d0:W.drew.cell? ⟨T,0,none⟩=some (.int .u8 10):=t0
     have HTD:=Lib.hid (show MTyAt W.drew T 10 0 (f.lists % 4) from HT.out)
     have HBD:=Lib.hid ((Below.refl T W).drew)
     obtain ⟨_,t0',t1',t2',s0',s1',s2'⟩:=blk3 HTD.out
     have bx3':W.drew.cell? ⟨b,3,none⟩=some (.bool p.tree):=bx3
     clear t0 t1 t2 s0 s1 s2 d0 HT bx3 out bx1 y2
     generalize W.drew=W2 at *
     go_upto_region 34 with (fail)
     refine HE.out _ _ _ ⟨rfl,rfl,rfl,rfl,rfl,rfl,rfl,rfl,rfl,rfl,rfl⟩ ?_ ?_ (by assumption)
     · exact HBD.out.setCell (p:=⟨T,1,none⟩) (Nat.le_refl _) _
     · exact (blk_set HTD.out 1 _).trans rfl
 · have k10:((f.kind % 13+1:Nat):Int)≠10:=by omega
   by_cases h13:f.kind % 13+1=13
   · rw [h13] at t0 HT
     clear k10
     generalize htr:p.tree=tr at *
     cases tr with
     | true =>
      by_cases hla:i+1=n1
      · -- the last struct: a text
        obtain ⟨e1,e2⟩:=kp_c (p:=p) (i:=i) h13 htr (by rw [HSL.out];exact hla)
        rw [e1,e2] at HE
        have hlb:((i:Int)+1==n1)=true:=by simp;omega
        clear e1 e2 h10 h13 htr
        go_upto_region 34 with (fail)
        refine HE.out _ _ _ ⟨rfl,rfl,rfl,rfl,rfl,rfl,rfl,rfl,rfl,rfl,rfl⟩ ?_ ?_ (by assumption)
        · exact (Below.refl _ _).setCell (p:=⟨T,0,none⟩) (Nat.le_refl _) _
        · exact (blk_set HT.out 0 _).trans rfl
      · -- a struct behind this one
        obtain ⟨e1,e2⟩:=kp_d (p:=p) (i:=i) h13 htr (by rw [HSL.out];exact hla)
        rw [HSL.out] at e2
        rw [e1,e2] at HE
        have hlb:((i:Int)+1==n1)=false:=by simp;omega
        have w1:=IntWalk.i64_in (f.ref:Int) (by omega)
        have w2:=tmod_nat f.ref n1
        have hlt:f.ref % n1<n1:=Nat.mod_lt _ (by omega)
        have w3:=IntWalk.i64_in ((f.ref % n1:Nat):Int) (by omega)
        have z0:(n1:Int)≠0:=by omega
        have z2:¬n1=0:=by omega
        have z1:((n1:Int)==0)=false:=by simp;omega
        have v2:(f.ref:Int).tmod ((n1:Int)-i-1)=((f.ref % (n1-i-1):Nat):Int):=by rw [show (n1:Int)-i-1=((n1-i-1:Nat):Int) by omega];exact tmod_nat _ _
        have hlt2:f.ref % (n1-i-1)<n1-i-1:=Nat.mod_lt _ (by omega)
        have v3:=IntWalk.i64_in ((f.ref % (n1-i-1):Nat):Int) (by omega)
        have v4:=IntWalk.i64_in ((n1:Int)-i) (by omega)
        have v5:=IntWalk.i64_in ((n1:Int)-i-1) (by omega)
        have v6:=IntWalk.i64_in ((i:Int)+1) (by omega)
        have v7:=IntWalk.i64_in ((i:Int)+1+(f.ref % (n1-i-1):Nat)) (by omega)
        have v8:(n1:Int)-i-1≠0:=by omega
        have v9:((n1:Int)-i-1==0)=false:=by simp;omega
        have va:¬((n1:Int)-i=1):=by omega
        have HES:=Lib.hid (show ((i+1+f.ref % (n1-i-1):Nat):Int)=(i:Int)+1+((f.ref % (n1-i-1):Nat):Int) by omega)
        generalize f.ref % (n1-i-1)=r2 at *
        generalize f.ref % n1=rr at *
        clear e1 e2 h10 h13 htr
        go_upto_region 31 with (fail)
        go_still_tail 11,(by kernel_rfl)
        change wpList _ _ _ _ _ W.drew
        have d0:W.drew.cell? ⟨T,0,none⟩=some (.int .u8 13):=t0
        have HTD:=Lib.hid (show MTyAt W.drew T 13 0 (f.lists % 4) from HT.out)
        have HBD:=Lib.hid ((Below.refl T W).drew)
        obtain ⟨_,t0',t1',t2',s0',s1',s2'⟩:=blk3 HTD.out
        have bx1':W.drew.cell? ⟨b,1,none⟩=some (.slice a1 n1 c1):=bx1
        have bx3':W.drew.cell? ⟨b,3,none⟩=some (.bool true):=bx3
        have y2':W.drew.cell? ⟨B,off+k * 5+2,none⟩=some (.int .u8 (f.ref:Nat)):=y2
        clear t0 t1 t2 s0 s1 s2 d0 HT bx3 out bx1 y2
        generalize W.drew=W2 at *
        go_upto_region 33 with (fail)
        have HTS:=Lib.hid (show MTyAt (W2.setCell ⟨T,1,none⟩ (.int .i64 rr)) T 13 rr (f.lists % 4) from (blk_set HTD.out 1 _).trans rfl)
        have HBS:=Lib.hid (HBD.out.setCell (p:=⟨T,1,none⟩) (Nat.le_refl _) (.int .i64 rr))
        have bx1s:=(HBS.out.cell (p:=⟨b,1,none⟩) (by show b<T;omega)).trans BX1.out
        have y2s:=(HBS.out.cell (p:=⟨B,off+k * 5+2,none⟩) hBT).trans Y2.out
        obtain ⟨_,r0,r1,r2c,p0,p1,p2⟩:=blk3 HTS.out
        clear t0' t1' t2' s0' s1' s2' bx1' bx3' y2'
        generalize W2.setCell ⟨T,1,none⟩ (.int .i64 rr)=W3 at *
        go_still_tail 17,(by kernel_rfl)
        change wpList _ _ _ _ _ W3.drew
        have HTE:=Lib.hid (show MTyAt W3.drew T 13 rr (f.lists % 4) from HTS.out)
        have HBE:=Lib.hid HBS.out.drew
        obtain ⟨_,r0',r1',r2',p0',p1',p2'⟩:=blk3 HTE.out
        clear r0 r1 r2c p0 p1 p2 bx1s y2s HTS HBS
        generalize W3.drew=W4 at *
        go_upto_region 34 with (fail)
        refine HE.out _ _ _ ⟨rfl,rfl,rfl,rfl,rfl,rfl,rfl,rfl,rfl,rfl,rfl⟩ ?_ ?_ (by assumption)
        · exact HBE.out.setCell (p:=⟨T,1,none⟩) (Nat.le_refl _) _
        · exact (blk_set HTE.out 1 _).trans (by rw [←HES.out];rfl)
     | false =>
      obtain ⟨e1,e2⟩:=kp_e (p:=p) (i:=i) h13 htr
      rw [HSL.out] at e2
      rw [e1,e2] at HE
      have w1:=IntWalk.i64_in (f.ref:Int) (by omega)
      have w2:=tmod_nat f.ref n1
      have hlt:f.ref % n1<n1:=Nat.mod_lt _ (by omega)
      have w3:=IntWalk.i64_in ((f.ref % n1:Nat):Int) (by omega)
      have z0:(n1:Int)≠0:=by omega
      have z2:¬n1=0:=by omega
      have z1:((n1:Int)==0)=false:=by simp;omega
      generalize f.ref % n1=rr at *
      clear e1 e2 h10 h13 htr
      go_upto_region 31 with (fail)
      go_still_tail 11,(by kernel_rfl)
      change wpList _ _ _ _ _ W.drew
      have d0:W.drew.cell? ⟨T,0,none⟩=some (.int .u8 13):=t0
      have HTD:=Lib.hid (show MTyAt W.drew T 13 0 (f.lists % 4) from HT.out)
      have HBD:=Lib.hid ((Below.refl T W).drew)
      obtain ⟨_,t0',t1',t2',s0',s1',s2'⟩:=blk3 HTD.out
      have bx1':W.drew.cell? ⟨b,1,none⟩=some (.slice a1 n1 c1):=bx1
      have bx3':W.drew.cell? ⟨b,3,none⟩=some (.bool false):=bx3
      have y2':W.drew.cell? ⟨B,off+k * 5+2,none⟩=some (.int .u8 (f.ref:Nat)):=y2
      clear t0 t1 t2 s0 s1 s2 d0 HT bx3 out bx1 y2
      generalize W.drew=W2 at *
      go_upto_region 34 with (fail)
      refine HE.out _ _ _ ⟨rfl,rfl,rfl,rfl,rfl,rfl,rfl,rfl,rfl,rfl,rfl⟩ ?_ ?_ (by assumption)
      · exact HBD.out.setCell (p:=⟨T,1,none⟩) (Nat.le_refl _) _
      · exact (blk_set HTD.out 1 _).trans rfl
   · -- as it is
     obtain ⟨e1,e2⟩:=kp_f (p:=p) (i:=i) h10 h13
     rw [e1,e2] at HE
     have q1:(((f.kind % 13+1:Nat):Int)==10)=false:=by simp;omega
     have q2:(((f.kind % 13+1:Nat):Int)==13)=false:=by simp;omega
     generalize f.kind % 13+1=q at *
     clear e1 e2 h10 h13 k10
     go_upto_region 34 with (fail)
     refine HE.out _ _ _ ⟨rfl,rfl,rfl,rfl,rfl,rfl,rfl,rfl,rfl,rfl,rfl⟩ ?_ ?_ (by assumption)
     · exact Below.refl _ _
     · exact HT.out
end Go.Proofs.YtachghaegokpdaaDoor
namespace Go.Proofs.YtachghaegokpdaaDoor
open Go.ChangeShapes Go.WideShapes Go.ChangeAt Go.RowKit Go.Shelf
noncomputable def made37:Code:=(Tryd.f24.body.bind (findRegion 37)).getD .skip
set_option maxRecDepth 100000 in
theorem put_wp {Q:Exit→Act→World→Prop}{c:Act}{W:World}{a:Option Addr}{b i n c0 R k T G:Nat}{rn fv:Value}{f:SFld}{xs:List Value}(hc:FrF b i a n c0 R k T G c)(hG:FldAt W G f)(hk:k≤16)
  (hR:W.heap[R]?=some (.cells #[rn,fv] 36 (0,0))) (hrow:W.ownsRow (R+1) 60 5 fv k xs)
  (hQ:∀ c' w' fv',FrD b i a n c0 R k c'→Below R W w'→w'.heap[R]?=some (.cells #[rn,fv'] 36 (0,0))→w'.ownsRow (R+1) 60 5 fv' (k+1) (xs++sfldCells f)→Q .normal c' w') :
  Code.wp Tryd.prog made37 Q c W:=by
 obtain ⟨u,rfl⟩:=frf_lit hc
 have HQ:=Lib.hid hQ
 have HR:=Lib.hid hR
 have HROW:=Lib.hid hrow
 obtain ⟨fva,fvc,rfl⟩:=ownsRow_form hrow
 obtain ⟨hRl,r0,r1,s0,s1⟩:=blk2 hR
 obtain ⟨_,g0,g1,g2,g3,g4,_⟩:=blk5 hG
 obtain ⟨i0,hi0,hzz0,hzz1,hzz2⟩:=info_parts sfld_info
 have I1:=Lib.hid hi0
 have I2:=Lib.hid hzz0
 have I3:=Lib.hid hzz1
 have I4:=Lib.hid hzz2
 have HBN:=Lib.hid (heap_alloc_new W (.cells #[.string f.name,.int .u8 f.kind,.int .i64 f.ref,.int .i64 f.lists,.int .u64 f.dflt] 60))
 have HBA:=Lib.hid ((Below.refl W.heap.size W).alloc (Nat.le_refl _) (.cells #[.string f.name,.int .u8 f.kind,.int .i64 f.ref,.int .i64 f.lists,.int .u64 f.dflt] 60))
 clear hc hQ hR hrow hG hi0 hzz0 hzz1 hzz2
 conv=>arg 2;whnf
 go_wp2_with (at_builtin;refine wpList_append_own _ rfl (.tmp 229) (.tmp 231) 34 rfl (R+1) 60 i0 _ 5 48 Tryd.underlying34 I1.out I2.out I3.out I4.out rfl (by decide) _ k xs rfl (row_keep HBA.out HROW.out) _ 1 1 (sfldCells f) rfl rfl (World.news_of_block HBN.out) (by intro u hu;simp [sfldCells] at hu;rcases hu with rfl|rfl|rfl|rfl|rfl<;>rfl) (by unfold maxLen;omega) (by omega) (by simp;omega) ?_;intro v4 W8 hown4 hg4 hx;clear hx;obtain ⟨a4,m4,rfl⟩:=ownsRow_form hown4;obtain ⟨s1',s2',s3',s4'⟩:=step2 (Below.refl R W) HR.out HROW.out HBA.out hg4 hown4;obtain ⟨_,d0,d1,e0,e1⟩:=blk2 s4';have S1:=Lib.hid s1';have S2:=Lib.hid s2';have S3:=Lib.hid s3';clear s1' s2' s3' s4' hown4 hg4)
 exact HQ.out _ _ _ ⟨rfl,rfl,rfl,rfl,rfl,rfl,rfl,rfl,rfl,rfl⟩ S1.out S2.out S3.out
theorem keep1 {w:World}{g i:Nat}{p:Addr}{v x:Value}(h:w.cell? p=some v)(hp:p.block≠g):(w.setCell ⟨g,i,none⟩ x).cell? p=some v:=
 (World.cell?_of_block (Below.heap_setCell _ _ _ _ hp)).trans h
theorem row_under {w w':World}{B base:Nat}{e:TypeId}{size:Nat}{v:Value}{n:Nat}{xs:List Value}(h:Below B w w')(ho:w.ownsRow base e size v n xs)(hB:∀ k,v.ownBlock=some k→k<B):w'.ownsRow base e size v n xs:=by
 obtain ⟨hl,h'⟩:=ho
 refine ⟨hl,?_⟩
 rcases h' with h1|⟨g',cap',cur,hv,h1,hg',h2⟩
 · exact .inl h1
 · subst hv
   exact .inr ⟨g',cap',cur,rfl,h1,(h.block g' (hB g' (by simp [Value.ownBlock]))).trans hg',h2⟩
def NumsAre (p:Plan)(kd rf ls n:Nat)(sv ev:Value)(rt:Nat)(W:World):Prop:=
 ∀ W',Below W.heap.size W W'→Calls Tryd.prog 50 #[.agg #[sv,ev,.int .i64 rt],.agg #[.int .u8 kd,.int .i64 rf,.int .i64 ls],.int .u64 n] W' fun e w'=>e=.returned (.int .u64 (numP (cntOf p rf) kd n:Nat))∧Below W'.heap.size W' w'
set_option maxRecDepth 100000 in
set_option maxHeartbeats 4000000 in
theorem dflt_wp {Q:Exit→Act→World→Prop}{c:Act}{w W:World}{p:Plan}{f:PF}{a:Option Addr}{b i n c0 R k T G B off kd rf ls rt:Nat}{nm:ByteArray}{rn fv sv ev:Value}{xs:List Value}(hc:FrF b i a n c0 R k T G c)(hf:PFAt w a k f B off)(hbw:Below w.heap.size w W)(hkn:k<n)(hn:n≤16)
  (ht:MTyAt W T kd rf ls) (hkd:kd≤255) (hG:FldAt W G ⟨nm,kd,rf,ls,0⟩) (hTG:T<G) (hRT:R<T) (hbR:b+2<R) (hBR:B<R)
  (hout:W.heap[b+2]?=some (.cells #[sv,ev,.int .i64 rt] 33 (0,0))) (hnum:isNumP kd ls=true→NumsAre p kd rf ls f.dflt sv ev rt W)
  (hR:W.heap[R]?=some (.cells #[rn,fv] 36 (0,0))) (hrow:W.ownsRow (R+1) 60 5 fv k xs) (hrT:∀ g,fv.ownBlock=some g→g<T)
  (hQ:∀ c' w' fv',FrD b i a n c0 R k c'→Below R W w'→w'.heap[R]?=some (.cells #[rn,fv'] 36 (0,0))→w'.ownsRow (R+1) 60 5 fv' (k+1) (xs++sfldCells ⟨nm,kd,rf,ls,if isNumP kd ls=true then numP (cntOf p rf) kd f.dflt else 0⟩)→Q .normal c' w') :
  Code.wp Tryd.prog made35 Q c W:=by
 obtain ⟨u,rfl⟩:=frf_lit hc
 obtain ⟨_,t0,t1,t2,_⟩:=blk3 ht
 have HIS:=Lib.hid (isnum_any kd rf ls)
 have HQ:=Lib.hid hQ
 have HNUM:=Lib.hid hnum
 have HT:=Lib.hid ht
 have HG:=Lib.hid hG
 have HOUT:=Lib.hid hout
 have HR:=Lib.hid hR
 have HROW:=Lib.hid hrow
 have HRT:=Lib.hid hrT
 obtain ⟨rfl,hB,x0,x1,x2,x3,x4,l0,l1,l2,l3,l4⟩:=hf
 have y4:=(hbw.cell (p:=⟨B,off+k * 5+4,none⟩) hB).trans x4
 have HY4:=Lib.hid y4
 have hGW:G<W.heap.size:=blk_lt hG
 have hki:(k:Int)<n:=by omega
 clear hc hQ hnum ht hG hout hR hrow hrT x0 x1 x2 x3 x4 l0 l1 l2 l3 l4 hbw hB y4
 conv=>arg 2;whnf
 go_wp2_with fail
 refine (HIS.out _ hkd).mono ?_
 rintro e W1 ⟨rfl,hb1⟩
 have HB1:=Lib.hid hb1
 have hG1:G<W1.heap.size:=Nat.lt_of_lt_of_le hGW hb1.size
 have t0':=(hb1.cell (p:=⟨T,0,none⟩) (by show T<_;omega)).trans t0
 clear hb1 t0 t1 t2
 generalize hin:isNumP kd ls=bb at *
 have HIN:=Lib.hid hin
 clear hin
 cases bb with
 | false =>
  go_upto_region 37 with (fail)
  refine put_wp (fv:=fv) (rn:=rn) ⟨rfl,rfl,rfl,rfl,rfl,rfl,rfl,rfl,rfl,rfl,rfl,rfl⟩ (blk_below HG.out HB1.out (blk_lt HG.out)) (by omega) (blk_below HR.out HB1.out (blk_lt HR.out)) (row_keep HB1.out HROW.out) ?_
  intro c' w' fv' h1 h2 h3 h4
  exact HQ.out c' w' fv' h1 ((HB1.out.mono (by omega)).trans h2) h3 h4
 | true =>
  have hN0:=HNUM.out rfl
  unfold NumsAre at hN0
  have HN:=Lib.hid hN0
  clear hN0
  have HG1:=Lib.hid (blk_below HG.out HB1.out (blk_lt HG.out))
  have HR1:=Lib.hid (blk_below HR.out HB1.out (blk_lt HR.out))
  have HROW1:=Lib.hid (row_keep HB1.out HROW.out)
  have ho1:=blk_below HOUT.out HB1.out (blk_lt HOUT.out)
  have ht1:=blk_below HT.out HB1.out (blk_lt HT.out)
  have y4:=(HB1.out.cell (p:=⟨B,off+k * 5+4,none⟩) (by show B<_;omega)).trans HY4.out
  obtain ⟨_,o0,o1,o2,_⟩:=blk3 ho1
  obtain ⟨_,t0,t1,t2,_⟩:=blk3 ht1
  have HB1D:=Lib.hid HB1.out.drew
  have hbs:b+2<W1.heap.size:=blk_lt ho1
  have hOne:b+2≠G:=by omega
  have hTne:T≠G:=by omega
  have hBne:B≠G:=by omega
  have hTs:T<W1.heap.size:=by omega
  have hBs:B<W1.heap.size:=by omega
  have HCC:=Lib.hid (show ∀ W3,Below W1.heap.size W1 W3→W3.cell? ⟨b+2,0,none⟩=some sv∧W3.cell? ⟨b+2,1,none⟩=some ev∧W3.cell? ⟨b+2,2,none⟩=some (.int .i64 rt)∧W3.cell? ⟨T,0,none⟩=some (.int .u8 kd)∧W3.cell? ⟨T,1,none⟩=some (.int .i64 rf)∧W3.cell? ⟨T,2,none⟩=some (.int .i64 ls)∧W3.cell? ⟨B,off+k * 5+4,none⟩=some (.int .u64 (f.dflt:Nat)) from fun W3 hb3=>⟨(hb3.cell (p:=⟨b+2,0,none⟩) hbs).trans o0,(hb3.cell (p:=⟨b+2,1,none⟩) hbs).trans o1,(hb3.cell (p:=⟨b+2,2,none⟩) hbs).trans o2,(hb3.cell (p:=⟨T,0,none⟩) hTs).trans t0,(hb3.cell (p:=⟨T,1,none⟩) hTs).trans t1,(hb3.cell (p:=⟨T,2,none⟩) hTs).trans t2,(hb3.cell (p:=⟨B,off+k * 5+4,none⟩) hBs).trans y4⟩)
  clear ho1 ht1 t0'
  go_upto_region 36 with (fail)
  go_region_held3 (fun w'=>w'.cell? ⟨b+2,0,none⟩=some sv∧w'.cell? ⟨b+2,1,none⟩=some ev∧w'.cell? ⟨b+2,2,none⟩=some (.int .i64 rt)∧w'.cell? ⟨T,0,none⟩=some (.int .u8 kd)∧w'.cell? ⟨T,1,none⟩=some (.int .i64 rf)∧w'.cell? ⟨T,2,none⟩=some (.int .i64 ls)∧w'.cell? ⟨B,off+k * 5+4,none⟩=some (.int .u64 (f.dflt:Nat)))
   (first|assumption|(with_reducible exact ⟨keep1 k0 hOne,keep1 k1 hOne,keep1 k2 hOne,keep1 k3 hTne,keep1 k4 hTne,keep1 k5 hTne,keep1 k6 hBne⟩)|go_keep)
   (first|(go_at_call 50;(with_reducible refine (HN.out W1.drew HB1D.out).mono ?_);rintro e W3 ⟨rfl,hb3⟩;have hbW:Below W1.heap.size W1 W3:=bfact_drew hb3;obtain ⟨k0,k1,k2,k3,k4,k5,k6⟩:=HCC.out W3 hbW;have hGb:=blk_below HG1.out hbW hG1;have HGB:=Lib.hid hGb;obtain ⟨_,g0,g1,g2,g3,g4,j0,j1,j2,j3,j4⟩:=blk5 hGb;clear hGb g0 g1 g2 g3 j0 j1 j2 j3)|(go_at_call 50;(with_reducible refine (HN.out W1 HB1.out).mono ?_);rintro e W3 ⟨rfl,hb3⟩;have hbW:Below W1.heap.size W1 W3:=hb3;obtain ⟨k0,k1,k2,k3,k4,k5,k6⟩:=HCC.out W3 hbW;have hGb:=blk_below HG1.out hbW hG1;have HGB:=Lib.hid hGb;obtain ⟨_,g0,g1,g2,g3,g4,j0,j1,j2,j3,j4⟩:=blk5 hGb;clear hGb g0 g1 g2 g3 j0 j1 j2 j3))
  all_goals
   go_upto_region 37 with (fail)
   have hbn:Below G W1 (W3.setCell ⟨G,4,none⟩ (.int .u64 (numP (cntOf p rf) kd f.dflt:Nat))):=(hbW.mono (Nat.le_of_lt hG1)).setCell (p:=⟨G,4,none⟩) (Nat.le_refl _) _
   refine put_wp (fv:=fv) (rn:=rn) (xs:=xs) (f:=⟨nm,kd,rf,ls,numP (cntOf p rf) kd f.dflt⟩) ⟨rfl,rfl,rfl,rfl,rfl,rfl,rfl,rfl,rfl,rfl,rfl,rfl⟩ ((blk_set HGB.out 4 _).trans rfl) (by omega) (blk_below HR1.out hbn (by omega)) (row_under hbn HROW1.out (fun g hg=>by have:=HRT.out g hg;omega)) ?_
   intro c' w' fv' h1 h2 h3 h4
   exact HQ.out c' w' fv' h1 (((HB1.out.mono (by omega)).trans (hbn.mono (by omega))).trans h2) h3 h4
end Go.Proofs.YtachghaegokpdaaDoor
namespace Go.Proofs.YtachghaegokpdaaDoor
open Go.ChangeShapes Go.WideShapes Go.ChangeAt Go.RowKit Go.Shelf
theorem isNum_kinds {kd ls:Nat}(h:isNumP kd ls=true):1≤kd∧kd≤10:=by
 unfold isNumP at h
 have h2:=(Bool.and_eq_true_iff.1 h).2
 have h3:0<kSize kd:=of_decide_eq_true h2
 rcases Nat.lt_or_ge kd 1 with h4|h4
 · rw [kSize_else _ (.inl (by omega))] at h3
   omega
 · rcases Nat.lt_or_ge 10 kd with h5|h5
   · rw [kSize_else _ (.inr (by omega))] at h3
     omega
   · exact ⟨h4,h5⟩
theorem kind_enum {p:Plan}{f:PF}{i:Nat}(h:kindP p i f=10):p.enums.length≠0∧refP p i f=f.ref % p.enums.length:=by
 by_cases h10:f.kind % 13+1=10
 · by_cases h0:p.enums.length=0
   · have:=(kp_a (i:=i) h10 h0).1
     omega
   · exact ⟨h0,(kp_b h10 h0).2⟩
 · by_cases h13:f.kind % 13+1=13
   · cases ht:p.tree with
     | true =>
      by_cases hl:i+1=p.structs.length
      · have:=(kp_c h13 ht hl).1
        omega
      · have:=(kp_d h13 ht hl).1
        omega
     | false =>
      have:=(kp_e (i:=i) h13 ht).1
      omega
   · have:=(kp_f (p:=p) (i:=i) h10 h13).1
     omega
theorem kindP_le (p:Plan)(i:Nat)(f:PF):1≤kindP p i f∧kindP p i f≤13:=by
 have h:=Nat.mod_lt f.kind (show 0<13 by decide)
 unfold kindP
 split
 · omega
 · unfold kind0
   split<;>omega
theorem enum_at {p:Plan}{n0:Nat}{es:List (SCho × Value)}(hes:es.map Prod.fst=chosP p n0){k:Nat}(hk:k<n0):∃ h:k<es.length,es[k].1=choP p k:=by
 have hl:es.length=n0:=by have:=congrArg List.length hes;rw [chosP_length] at this;simpa using this
 refine ⟨by omega,?_⟩
 have h1:(es.map Prod.fst)[k]?=(chosP p n0)[k]?:=by rw [hes]
 rw [List.getElem?_map,List.getElem?_eq_getElem (by omega)] at h1
 unfold chosP at h1
 rw [List.getElem?_map,List.getElem?_range hk] at h1
 exact Option.some.inj h1
theorem nums_of {p:Plan}{f:PF}{i n0 base ls rt:Nat}{W:World}{ss:List (SRec × Value)}{es:List (SCho × Value)}{sv ev:Value}(hs:SchRows base W ss es sv ev)(hes:es.map Prod.fst=chosP p n0)(hel:p.enums.length=n0)(hd:(f.dflt:Int)≤18446744073709551615)(h:isNumP (kindP p i f) ls=true) :
  NumsAre p (kindP p i f) (refP p i f) ls f.dflt sv ev rt W:=by
 obtain ⟨h1,h10⟩:=isNum_kinds h
 by_cases hk:kindP p i f=10
 · obtain ⟨h0,hr⟩:=kind_enum hk
   rw [hel] at h0 hr
   obtain ⟨hlt,he⟩:=enum_at hes (show refP p i f<n0 by rw [hr];exact Nat.mod_lt _ (by omega))
   have hc:es[refP p i f].1.names.length=cntOf p (refP p i f):=by rw [he];simp [choP]
   intro W' hb
   rw [hk,←hc]
   exact numberE_any (refP p i f) ls f.dflt rt W' (hs.below hb) hlt (by rw [hc];unfold cntOf;omega) hd
 · intro W' _
   exact hnumber_any (kindP p i f) (refP p i f) ls f.dflt (cntOf p (refP p i f)) sv ev rt W' hd h1 (by omega)
def FldsInv (w0:World)(p:Plan)(l:List PF)(b i n c0 R:Nat)(a:Option Addr)(rn:Value)(c':Act)(w':World):Prop:=
 ∃ (k:Nat) (fv:Value),k≤n∧FrD b i a n c0 R k c'∧Below R w0 w'∧w'.heap[R]?=some (.cells #[rn,fv] 36 (0,0))∧w'.ownsRow (R+1) 60 5 fv k (sfldsCells (fldsP p i l k))
set_option maxRecDepth 100000 in
set_option maxHeartbeats 4000000 in
theorem flds_wp {Q:Exit→Act→World→Prop}{c:Act}{w wS w0:World}{p:Plan}{a a0 a1:Option Addr}{b i n c0 n0 e0 n1 c1 R rt:Nat}{rn sv ev:Value}{ss:List (SRec × Value)}{es:List (SCho × Value)}{l:List PF}
  (hF:∀ k,k<n→∃ B off,PFAt w a k (l.getD k noPF) B off) (hn:n≤16) (hkp:MKeeps w b (.slice a0 n0 e0) (.slice a1 n1 c1) p.root p.tree wS) (hs:SchAt (b+2) wS ss es sv ev rt) (hes:es.map Prod.fst=chosP p n0) (hel:p.enums.length=n0) (hsl:p.structs.length=n1)
  (hi:i<n1) (h16:n1≤16) (h8:n0≤8) (hbS:Below wS.heap.size wS w0) (hSR:wS.heap.size≤R) (hR:w0.heap[R]?=some (.cells #[rn,.slice none 0 0] 36 (0,0))) (hc:FrD b i a n c0 R 0 c)
  (hQ:∀ c' w' fv,FrD b i a n c0 R n c'→Below R w0 w'→w'.heap[R]?=some (.cells #[rn,fv] 36 (0,0))→w'.ownsRow (R+1) 60 5 fv n (sfldsCells (fldsP p i l n))→Q (.exit 6) c' w') :
  Code.wp Tryd.prog (Code.loop (madeLoop 3)) Q c w0:=by
 refine wp_loop (FldsInv w0 p l b i n c0 R a rn)
  (fun c' _=>n-(intOf (c'.tmps.getD 11 undef)).toNat) ⟨0,_,Nat.zero_le _,hc,Below.refl _ _,hR,World.ownsRow_nil _ _ _ _⟩ ?_
 clear hc hR
 rintro c wr ⟨k,fv,hk,hc,hb,hR,hrow⟩
 have hbb:Below wS.heap.size wS wr:=hbS.trans (hb.mono hSR)
 have HSA:=Lib.hid (hs.below hbb)
 have HKP:=Lib.hid (hkp.below hbb (Nat.le_of_lt (blk_lt hs.blk)))
 have HQ:=Lib.hid hQ
 have HB:=Lib.hid hb
 have HR:=Lib.hid hR
 have HROW:=Lib.hid hrow
 have HES:=Lib.hid hes
 have HEL:=Lib.hid hel
 have HSL:=Lib.hid hsl
 have hbR:b+2<R:=Nat.lt_of_lt_of_le (blk_lt hs.blk) hSR
 have hRw:R<wr.heap.size:=blk_lt hR
 have hbeq:=hkp.hb
 obtain ⟨u,rfl⟩:=frd_lit hc
 by_cases hkl:k<n
 · obtain ⟨B,off,hpf⟩:=hF k hkl
   have HFX:=Lib.hid (rfl:l.getD k noPF=l.getD k noPF)
   have HSN:=Lib.hid (fldsP_succ p i l k)
   generalize l.getD k noPF=f at *
   have HPF:=Lib.hid hpf
   obtain ⟨rfl,hB,x0,x1,x2,x3,x4,l0,l1,l2,l3,l4⟩:=hpf
   have y0:=(HKP.out.bel.cell (p:=⟨B,off+k * 5,none⟩) (by show B<b;omega)).trans x0
   have y1:=(HKP.out.bel.cell (p:=⟨B,off+k * 5+1,none⟩) (by show B<b;omega)).trans x1
   have hBb:B<b:=by omega
   have HBEQ:=Lib.hid hbeq
   clear hc hQ hb hR hrow hes hel hsl hbb hs hkp hF x0 x1 x2 x3 x4 l2 l3 hbS hB hbeq
   have m0:(f.kind:Int).tmod 13=((f.kind % 13:Nat):Int):=by rw [Int.tmod_eq_emod_of_nonneg (by omega)];omega
   have m1:(f.lists:Int).tmod 4=((f.lists % 4:Nat):Int):=by rw [Int.tmod_eq_emod_of_nonneg (by omega)];omega
   have hk13:f.kind % 13<13:=by omega
   have hl4:f.lists % 4<4:=by omega
   obtain ⟨kq,hkq⟩:∃ kq,f.kind % 13=kq:=⟨_,rfl⟩
   obtain ⟨lq,hlq⟩:∃ lq,f.lists % 4=lq:=⟨_,rfl⟩
   rw [hkq] at m0 hk13
   rw [hlq] at m1 hl4
   have HKQ:=Lib.hid hkq
   have HLQ:=Lib.hid hlq
   clear hkq hlq
   have v0:=u8_in (kq:Int) (by omega) (by omega)
   have v1:=u8_in ((kq:Int)+1) (by omega) (by omega)
   have v2:=u8_in (lq:Int) (by omega) (by omega)
   have v3:=IntWalk.i64_in (lq:Int) (by omega)
   have hki:(k:Int)<n:=by omega
   conv=>arg 2;whnf
   go_upto_region 23 with (fail)
   go_region_held3 (fun w'=>w'.cell? ⟨B,off+k * 5,none⟩=some (.int .u8 (f.kind:Nat))∧w'.cell? ⟨B,off+k * 5+1,none⟩=some (.int .u8 (f.lists:Nat))) (first|assumption|go_keep) (first|fail)
   all_goals
    simp only [Exit.then]
    apply_assumption
    have hbt:Below wr.heap.size wr (wr.alloc (.cells #[.int .u8 ((kq:Int)+1),.int .i64 0,.int .i64 lq] 58)).drew:=((Below.refl _ _).alloc (Nat.le_refl _) _).drew
    have hty:MTyAt (wr.alloc (.cells #[.int .u8 ((kq:Int)+1),.int .i64 0,.int .i64 lq] 58)).drew wr.heap.size (f.kind % 13+1) 0 (f.lists % 4):=by
     rw [HKQ.out,HLQ.out]
     exact heap_alloc_new wr _
    generalize (wr.alloc (.cells #[.int .u8 ((kq:Int)+1),.int .i64 0,.int .i64 lq] 58)).drew=W1 at *
    have hs1:=HSA.out.below hbt
    have hk1:=HKP.out.below hbt (by omega)
    obtain ⟨eva,evc,hevf⟩:=ownsRow_form hs1.rows.enums
    have hesl:es.length=n0:=by have:=congrArg List.length HES.out;rw [chosP_length] at this;simpa using this
    rw [hesl] at hevf
    subst hevf
    refine kinds_wp (a0:=a0) (c1:=c1) ⟨rfl,rfl,rfl,rfl,rfl,rfl,rfl,rfl,rfl,rfl,rfl⟩ ⟨HPF.out,by rw [←HBEQ.out];exact hk1.bel,HBEQ.out,by omega,(blk_cell hs1.blk 1).trans rfl,(blk_cell hk1.box 1).trans rfl,(blk_cell hk1.box 3).trans rfl,HEL.out,HSL.out,hi,h16,h8,hkl,hn⟩ hty ?_
    intro c2 W2 G hf2 hTG hbel hty2 hfl
    have hT:wr.heap.size<W1.heap.size:=blk_lt hty
    have HS1:=Lib.hid hs1
    have hs2:SchAt (b+2) W2 ss es sv (.slice eva n0 evc) rt:=HSA.out.below (hbt.trans hbel)
    have hb2:Below wr.heap.size wr W2:=hbt.trans hbel
    have hR2:=blk_below HR.out hb2 (by omega)
    have hrow2:=row_keep hb2 HROW.out
    refine dflt_wp (w:=w) (p:=p) (fv:=fv) (rn:=rn) (xs:=sfldsCells (fldsP p i l k)) hf2 HPF.out (by rw [←HBEQ.out];exact (HKP.out.below hb2 (by omega)).bel) hkl hn hty2 (by have:=(kindP_le p i f).2;omega) hfl hTG hRw hbR (by omega) hs2.blk (fun h=>nums_of hs2.rows HES.out HEL.out l4 h) hR2 hrow2 (fun g hg=>(ownsRow_lt HROW.out g hg).2) ?_
    intro c3 W4 fv' h1 h2 h3 h4
    have HF1:=Lib.hid h1
    have HB4:=Lib.hid ((HB.out.trans (hb2.mono (Nat.le_of_lt hRw))).trans h2)
    have HR4:=Lib.hid h3
    have HROW4:=Lib.hid h4
    obtain ⟨u3,rfl⟩:=frd_lit h1
    clear h1 h2 h3 h4 hR2 hrow2 hs2 hb2 hf2 hbel hty2 hfl hs1 hk1 hbt hty
    simp only [Exit.inBlock,Exit.then]
    apply_assumption
    go_wp2
    refine ⟨⟨k+1,fv',by omega,⟨rfl,rfl,rfl,rfl,rfl,rfl,rfl,rfl,rfl,rfl⟩,HB4.out,HR4.out,?_⟩,?_⟩
    · rw [HSN.out,sfldsCells_snoc]
      exact HROW4.out
    · show n-(intOf (.int .i64 ((k:Int)+1))).toNat<n-(intOf (.int .i64 (k:Int))).toNat
      simp [intOf];omega
 · obtain rfl:k=n:=by omega
   clear hc hQ hb hR hrow hes hel hsl hbb hs hkp hF hbS hbeq
   conv=>arg 2;whnf
   go_wp2
   exact HQ.out _ _ _ ⟨rfl,rfl,rfl,rfl,rfl,rfl,rfl,rfl,rfl,rfl⟩ HB.out HR.out HROW.out
end Go.Proofs.YtachghaegokpdaaDoor
namespace Go.Proofs.YtachghaegokpdaaDoor
open Go.ChangeShapes Go.WideShapes Go.ChangeAt Go.RowKit Go.Shelf
def LensOk (p:Plan)(i:Nat):Prop:=∀ j,j<i→1≤(p.structs.getD j []).length∧(p.structs.getD j []).length≤16
def RecsInv (w:World)(p:Plan)(es:List (SCho × Value))(ev x0 x1:Value)(b n1 rt:Nat)(c':Act)(w':World):Prop:=
 ∃ (i:Nat) (ss:List (SRec × Value)) (sv:Value),i≤n1∧FrC b i c'∧MKeeps w b x0 x1 p.root p.tree w'∧SchAt (b+2) w' ss es sv ev rt∧ss.map Prod.fst=recsP p i∧LensOk p i
set_option maxRecDepth 100000 in
set_option maxHeartbeats 4000000 in
theorem recs_wp {Q:Exit→Act→World→Prop}{c:Act}{w w0:World}{p:Plan}{a0 a1:Option Addr}{n0 e0 n1 c1 b rt:Nat}{es:List (SCho × Value)}{ev:Value}(hp:IsPlan w p a0 n0 e0 a1 n1 c1)(h8:n0≤8)(h16:n1≤16)(hc:FrC b 0 c)
  (hk:MKeeps w b (.slice a0 n0 e0) (.slice a1 n1 c1) p.root p.tree w0) (hs:SchAt (b+2) w0 [] es (.slice none 0 0) ev rt) (hes:es.map Prod.fst=chosP p n0)
  (hQ:∀ c' w' ss sv,FrC b n1 c'→MKeeps w b (.slice a0 n0 e0) (.slice a1 n1 c1) p.root p.tree w'→SchAt (b+2) w' ss es sv ev rt→ss.map Prod.fst=recsP p n1→LensOk p n1→Q (.exit 4) c' w')
  (hB:∀ c' w' j,FrC b j c'→w'.heap[b+1]?=some (.cells #[.slice none 0 0,.slice none 0 0,.int .i64 0] 33 (0,0))→Below b w w'→j<n1→¬(1≤(p.structs.getD j []).length∧(p.structs.getD j []).length≤16)→Q .ret c' w') :
  Code.wp Tryd.prog (Code.loop (madeLoop 2)) Q c w0:=by
 refine wp_loop (RecsInv w p es ev (.slice a0 n0 e0) (.slice a1 n1 c1) b n1 rt)
  (fun c' _=>n1-(intOf (c'.tmps.getD 8 undef)).toNat) ⟨0,[],_,Nat.zero_le _,hc,hk,hs,rfl,fun j hj=>absurd hj (Nat.not_lt_zero j)⟩ ?_
 clear hc hk hs
 rintro c wr ⟨i,ss,sv,hi,hc,hk,hs,hss,hlen⟩
 have HP:=Lib.hid hp
 have HQ:=Lib.hid hQ
 have HBAD:=Lib.hid hB
 have HK:=Lib.hid hk
 have HS:=Lib.hid hs
 have HES:=Lib.hid hes
 have HSS:=Lib.hid hss
 have HLEN:=Lib.hid hlen
 have hssl:ss.length≤16:=by have:=congrArg List.length hss;rw [recsP_length] at this;simp at this;omega
 obtain ⟨u,rfl⟩:=frc_lit hc
 have y1:=(blk_cell hk.box 1).trans rfl
 have hbl:b+2<wr.heap.size:=blk_lt hs.blk
 clear hc hQ hB hk hs hp hes hss hlen
 conv=>arg 2;whnf
 by_cases hlt:i<n1
 · obtain ⟨B,off,a,n,cc,rfl,hB0,hz,hn,hnc,hcm,hfl⟩:=HP.out.s_at i hlt
   have hB:B<b:=by rw [HK.out.hb];exact hB0
   have hzr:=(HK.out.bel.cell (p:=⟨B,off+i,none⟩) hB).trans hz
   have HFL:=Lib.hid hfl
   have HN:=Lib.hid hn
   clear hfl hz hB0
   by_cases hb1:n<1
   · obtain ⟨_,_,_,_,s0,s1,s2⟩:=blk3 HK.out.res
     clear hn
     go_wp2
     refine HBAD.out _ _ i ⟨rfl,rfl,rfl,rfl,rfl,rfl,rfl⟩ (blk_set3 HK.out.res _ _ _) (((HK.out.bel.setCell (p:=⟨b+1,0,none⟩) (by show b≤b+1;omega) _).setCell (p:=⟨b+1,1,none⟩) (by show b≤b+1;omega) _).setCell (p:=⟨b+1,2,none⟩) (by show b≤b+1;omega) _) hlt (by rw [HN.out];omega)
   · by_cases hb2:16<n
     · obtain ⟨_,_,_,_,s0,s1,s2⟩:=blk3 HK.out.res
       clear hn
       go_wp2
       refine HBAD.out _ _ i ⟨rfl,rfl,rfl,rfl,rfl,rfl,rfl⟩ (blk_set3 HK.out.res _ _ _) (((HK.out.bel.setCell (p:=⟨b+1,0,none⟩) (by show b≤b+1;omega) _).setCell (p:=⟨b+1,1,none⟩) (by show b≤b+1;omega) _).setCell (p:=⟨b+1,2,none⟩) (by show b≤b+1;omega) _) hlt (by rw [HN.out];omega)
     · have kc:=one_str
       have hsz:¬9223372036854775807<1+(strOfNums [97+(i:Int)]).size:=by rw [strOfNums_size];simp
       obtain ⟨hbw2,hB1,hB2⟩:=two_start wr #[.int .u8 (97+(i:Int))] #[.string (recName i),.slice none 0 0] 5 36
       have HB2:=Lib.hid hbw2
       have HBB:=Lib.hid hB2
       clear hbw2 hB1 hB2 hn
       go_wp2_with fail
       refine flds_wp (a0:=a0) (c1:=c1) (R:=wr.heap.size+1) (rn:=.string (recName i)) (l:=p.structs.getD i []) ?_ (by omega) HK.out HS.out HES.out HP.out.e_len HP.out.s_len hlt h16 h8 HB2.out (by omega) HBB.out ⟨rfl,rfl,rfl,rfl,rfl,rfl,rfl,rfl,rfl,rfl⟩ ?_
       · intro k hk
         obtain ⟨b',off',f,hf,ha,hbf,x0,x1,x2,x3,x4,q0,q1,q2,q3,q4⟩:=HFL.out k hk
         rw [hf]
         exact ⟨b',off',⟨ha,hbf,x0,x1,x2,x3,x4,q0,q1,q2,q3,q4⟩⟩
       intro c2 w2 fv hf hbel hR2 hrow2
       obtain ⟨fva,fvc,rfl⟩:=ownsRow_form hrow2
       have hb3:Below wr.heap.size wr w2:=HB2.out.trans (hbel.mono (by omega))
       have hs2:=HS.out.below hb3
       have HS2:=Lib.hid hs2
       have HK2:=Lib.hid (HK.out.below hb3 (by omega))
       have HROW:=Lib.hid hrow2
       have HPR:Hid (recP p i=⟨recName i,fldsP p i (p.structs.getD i []) n⟩):=Lib.hid (by unfold recP;rw [HN.out])
       have HFN:Hid ((fldsP p i (p.structs.getD i []) n).length=n):=Lib.hid (fldsP_length _ _ _ _)
       have HLI:Hid (LensOk p (i+1)):=Lib.hid (fun j hj=>by
        rcases Nat.lt_or_ge j i with h|h
        · exact HLEN.out j h
        · obtain rfl:j=i:=by omega
          rw [HN.out]
          omega)
       generalize fldsP p i (p.structs.getD i []) n=FL at *
       obtain ⟨_,z0,z1,z2,f0,f1,f2⟩:=blk3 hs2.blk
       obtain ⟨hCl,d0,d1,_⟩:=blk2 hR2
       obtain ⟨sva,svc,rfl⟩:=ownsRow_form hs2.rows.structs
       obtain ⟨i0,hi0,hzz0,hzz1,hzz2⟩:=info_parts srec_info
       have I1:=Lib.hid hi0
       have I2:=Lib.hid hzz0
       have I3:=Lib.hid hzz1
       have I4:=Lib.hid hzz2
       have hbs:b+2<w2.heap.size:=blk_lt hs2.blk
       have HBN:=Lib.hid (heap_alloc_new w2 (.cells #[.string (recName i),.slice fva n fvc] 36))
       have HBA:=Lib.hid ((Below.refl w2.heap.size w2).alloc (Nat.le_refl _) (.cells #[.string (recName i),.slice fva n fvc] 36))
       obtain ⟨u2,rfl⟩:=frd_lit hf
       clear hf hbel hR2 hrow2 hb3 hs2 hi0 hzz0 hzz1 hzz2 HS HK y1 kc hsz hzr
       simp only [Exit.inBlock,Exit.then]
       apply_assumption
       go_wp2_with (at_builtin;refine wpList_append_own _ rfl (.tmp 235) (.tmp 237) 30 rfl (b+2+1) 36 i0 _ 2 40 Tryd.underlying30 I1.out I2.out I3.out I4.out rfl (by decide) _ ss.length (srecsCells ss) rfl (row_keep HBA.out HS2.out.rows.structs) _ 1 1 [.string (recName i),.slice fva n fvc] rfl rfl (World.news_of_block HBN.out) (by intro u hu;simp at hu;rcases hu with rfl|rfl<;>rfl) (by unfold maxLen;omega) (by omega) (by simp;omega) ?_;intro v4 W8 hown4 hg4 hx;clear hx;obtain ⟨a4,m4,rfl⟩:=ownsRow_form hown4;have s5:=SchAt.strct (q:=(⟨recName i,FL⟩,.slice fva n fvc)) (HS2.out.below HBA.out) (by have h:=ownsRow_base (row_keep HBA.out HROW.out) (show b+2+1≤wr.heap.size+1+1 by omega);show World.ownsRow _ _ _ _ _ FL.length (sfldsCells FL);rw [HFN.out];exact h) hg4 hown4;have s4:W8.heap[b+2]?=some (.cells #[.slice sva ss.length svc,ev,.int .i64 rt] 33 (0,0)):=(hg4.block (b+2) (by simp;omega) (fun e=>by have:=(ownsRow_lt HS2.out.rows.structs _ e.symm).1;omega)).trans (HS2.out.below HBA.out).blk;obtain ⟨_,p0,p1,p2,q0,q1,q2⟩:=blk3 s4;have S5:=Lib.hid s5;have S6:=Lib.hid (bel_app HBA.out hbs hg4 (fun k hk=>by have:=(ownsRow_lt HS2.out.rows.structs k hk).1;omega) 0 (.slice a4 (ss.length+1) m4));clear s5 s4 hown4 hg4)
       refine ⟨⟨i+1,_,_,by omega,⟨rfl,rfl,rfl,rfl,rfl,rfl,rfl⟩,HK2.out.below S6.out (Nat.le_refl _),S5.out,by rw [List.map_append,HSS.out,recsP_succ,HPR.out];rfl,HLI.out⟩,?_⟩
       show n1-(intOf (.int .i64 ((i:Int)+1))).toNat<n1-(intOf (.int .i64 (i:Int))).toNat
       simp [intOf];omega
 · obtain rfl:i=n1:=by omega
   clear hlt
   go_wp2
   exact HQ.out _ _ _ _ ⟨rfl,rfl,rfl,rfl,rfl,rfl,rfl⟩ HK.out HS.out HSS.out HLEN.out
end Go.Proofs.YtachghaegokpdaaDoor
namespace Go.Proofs.YtachghaegokpdaaDoor
open Go.ChangeShapes Go.WideShapes Go.ChangeAt Go.RowKit Go.Shelf
def MadePost (p:Plan)(w:World)(e:Ending)(w':World):Prop:=
 Below w.heap.size w w'∧((planOk p∧∃ ss es sv ev,e=.returned (.tuple #[.agg #[sv,ev,.int .i64 (p.root % p.structs.length:Nat)],.bool true])∧ss.map Prod.fst=recsP p p.structs.length∧es.map Prod.fst=chosP p p.enums.length∧SchRows w.heap.size w' ss es sv ev) ∨
  (¬planOk p∧e=.returned (.tuple #[.agg #[.slice none 0 0,.slice none 0 0,.int .i64 0],.bool false])))
theorem made_no {p:Plan}{w w':World}(h:¬planOk p)(hb:Below w.heap.size w w'):MadePost p w (.returned (.tuple #[.agg #[.slice none 0 0,.slice none 0 0,.int .i64 0],.bool false])) w':=⟨hb,.inr ⟨h,rfl⟩⟩
theorem lens_ok {p:Plan}(h1:1≤p.structs.length)(h2:p.structs.length≤16)(h3:p.enums.length≤8)(h:LensOk p p.structs.length):planOk p:=by
 refine ⟨h1,h2,h3,fun l hl=>?_⟩
 obtain ⟨j,hj,rfl⟩:=List.getElem_of_mem hl
 have:=h j hj
 rwa [List.getD,List.getElem?_eq_getElem hj] at this
theorem lens_bad {p:Plan}{j:Nat}(hj:j<p.structs.length)(h:¬(1≤(p.structs.getD j []).length∧(p.structs.getD j []).length≤16)):¬planOk p:=by
 intro ho
 apply h
 rw [List.getD,List.getElem?_eq_getElem hj]
 exact ho.2.2.2 _ (List.getElem_mem hj)
set_option maxRecDepth 100000 in
set_option maxHeartbeats 4000000 in
theorem made_bad (p:Plan)(w:World){a0 a1:Option Addr}{n0 e0 n1 c1:Nat}(hp:IsPlan w p a0 n0 e0 a1 n1 c1)(hg:¬(1≤n1∧n1≤16∧n0≤8)) :
  Calls Tryd.prog 24 #[.agg #[.slice a0 n0 e0,.slice a1 n1 c1,.int .u8 p.root,.bool p.tree]] w (MadePost p w):=by
 obtain ⟨hb,hz1,hz2⟩:=two_start w #[.slice a0 n0 e0,.slice a1 n1 c1,.int .u8 p.root,.bool p.tree] #[.slice none 0 0,.slice none 0 0,.int .i64 0] 25 33
 have HP:=Lib.hid hp
 have HB:=Lib.hid hb
 have HZ1:=Lib.hid hz1
 have HZ2:=Lib.hid hz2
 have hrt:=hp.rt
 have hcaps:n0≤9223372036854775807∧n1≤9223372036854775807:=by
  have h1:=hp.e_cap
  have h2:=hp.s_cap
  unfold maxLen at h1 h2
  omega
 obtain ⟨hn0,hn1⟩:=hcaps
 have y0:=(blk_cell hz1 0).trans rfl
 have y1:=(blk_cell hz1 1).trans rfl
 have y2:=(blk_cell hz1 2).trans rfl
 obtain ⟨_,_,_,_,s0,s1,s2⟩:=blk3 hz2
 clear hp hb hz1 hz2
 have HNO:Hid (¬planOk p):=Lib.hid (fun ho=>hg ⟨by rw [←HP.out.s_len];exact ho.1,by rw [←HP.out.s_len];exact ho.2.1,by rw [←HP.out.e_len];exact ho.2.2.1⟩)
 by_cases g1:n1<1
 · have t1:decide ((n1:Int)<1)=true:=decide_eq_true (by omega)
   clear hg
   go_enter Tryd.func24,Tryd.ntmps24
   go_wp2
   refine post_gen (fun Wf=>Wf.heap[w.heap.size+1]?=some (.cells #[.slice none 0 0,.slice none 0 0,.int .i64 0] 33 (0,0))∧Below w.heap.size w Wf) ⟨?_,?_⟩ ?_
   · first
      | exact HZ2.out
      | exact blk_set3 HZ2.out _ _ _
   · first
      | exact HB.out
      | exact ((HB.out.setCell (p:=⟨w.heap.size+1,0,none⟩) (Nat.le_succ _) _).setCell (p:=⟨w.heap.size+1,1,none⟩) (Nat.le_succ _) _).setCell (p:=⟨w.heap.size+1,2,none⟩) (Nat.le_succ _) _
   · rintro Wf ⟨e1,e2⟩
     obtain ⟨_,d0,d1,d2,_⟩:=blk3 e1
     exact bodyPost_ret (v:=.tuple #[.agg #[.slice none 0 0,.slice none 0 0,.int .i64 0],.bool false]) (by simp [results,Tryd.results24,go_sem,d0,d1,d2]) rfl (made_no (HNO.out) e2)
 · by_cases g2:16<n1
   · have t1:decide ((n1:Int)<1)=false:=decide_eq_false (by omega)
     have t2:decide ((16:Int)<n1)=true:=decide_eq_true (by omega)
     clear hg
     go_enter Tryd.func24,Tryd.ntmps24
     go_wp2
     refine post_gen (fun Wf=>Wf.heap[w.heap.size+1]?=some (.cells #[.slice none 0 0,.slice none 0 0,.int .i64 0] 33 (0,0))∧Below w.heap.size w Wf) ⟨?_,?_⟩ ?_
     · first
       | exact HZ2.out
       | exact blk_set3 HZ2.out _ _ _
     · first
       | exact HB.out
       | exact ((HB.out.setCell (p:=⟨w.heap.size+1,0,none⟩) (Nat.le_succ _) _).setCell (p:=⟨w.heap.size+1,1,none⟩) (Nat.le_succ _) _).setCell (p:=⟨w.heap.size+1,2,none⟩) (Nat.le_succ _) _
     · rintro Wf ⟨e1,e2⟩
       obtain ⟨_,d0,d1,d2,_⟩:=blk3 e1
       exact bodyPost_ret (v:=.tuple #[.agg #[.slice none 0 0,.slice none 0 0,.int .i64 0],.bool false]) (by simp [results,Tryd.results24,go_sem,d0,d1,d2]) rfl (made_no (HNO.out) e2)
   · have g3:8<n0:=by omega
     have t1:decide ((n1:Int)<1)=false:=decide_eq_false (by omega)
     have t2:decide ((16:Int)<n1)=false:=decide_eq_false (by omega)
     have t3:decide ((8:Int)<n0)=true:=decide_eq_true (by omega)
     clear hg
     go_enter Tryd.func24,Tryd.ntmps24
     go_wp2
     refine post_gen (fun Wf=>Wf.heap[w.heap.size+1]?=some (.cells #[.slice none 0 0,.slice none 0 0,.int .i64 0] 33 (0,0))∧Below w.heap.size w Wf) ⟨?_,?_⟩ ?_
     · first
       | exact HZ2.out
       | exact blk_set3 HZ2.out _ _ _
     · first
       | exact HB.out
       | exact ((HB.out.setCell (p:=⟨w.heap.size+1,0,none⟩) (Nat.le_succ _) _).setCell (p:=⟨w.heap.size+1,1,none⟩) (Nat.le_succ _) _).setCell (p:=⟨w.heap.size+1,2,none⟩) (Nat.le_succ _) _
     · rintro Wf ⟨e1,e2⟩
       obtain ⟨_,d0,d1,d2,_⟩:=blk3 e1
       exact bodyPost_ret (v:=.tuple #[.agg #[.slice none 0 0,.slice none 0 0,.int .i64 0],.bool false]) (by simp [results,Tryd.results24,go_sem,d0,d1,d2]) rfl (made_no (HNO.out) e2)
end Go.Proofs.YtachghaegokpdaaDoor
