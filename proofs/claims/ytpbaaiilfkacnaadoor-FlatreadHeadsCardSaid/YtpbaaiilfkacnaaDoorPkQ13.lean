/-
  Package flatread: a struct's field and a list's element as kids. Conditions: those that each theorem names.
-/
import Derived.Test.YtpbaaiilfkacnaaDoorPkQ11
namespace Go.Proofs.YtpbaaiilfkacnaaDoor
open Go.ChangeShapes Go.WideShapes Go.ChangeAt Go.RowKit Go.Shelf
set_option maxRecDepth 100000
set_option maxHeartbeats 16000000
def kG (m k:Nat)(ref lists at' count size:Int):Value:=.agg #[.pointer (some ⟨m,0,none⟩),.int .u8 k,.int .i64 ref,.int .i64 lists,.int .i64 at',.int .i64 count,.int .i64 size]
def lJ:Value:=.agg #[.pointer none,.int .u8 0,.int .i64 0,.int .i64 0,.int .i64 0,.int .i64 0,.int .i64 0]
def eQ (zs:List Int)(k:Nat)(lists at':Int):Bool:=cV (aH zs) at' 4&&cV (aH zs) (at'+4) (aY zs at'.toNat 4 * bN k lists)
def mW (zs:List Int)(m k:Nat)(ref lists at':Int)(e:Ending):Prop:=
 (eQ zs k lists at'=true∧e=.returned (.tuple #[kG m k ref lists (at'+4) (aY zs at'.toNat 4) (bN k lists),.bool true]))∨(eQ zs k lists at'=false∧e=.returned (.tuple #[lJ,.bool false]))
theorem pP (k:Nat)(lists:Int):aT k lists=1 ↔ cK k lists=true:=by
 unfold aT cK;rw [Bool.and_eq_true,decide_eq_true_iff,decide_eq_true_iff];constructor
 · intro h;split at h
   · cases h
   split at h
   · cases h
   split at h
   · exact ⟨by omega,by assumption⟩
   split at h
   · cases h
   split at h<;>cases h
 · rintro ⟨h1,h2⟩;rw [if_neg (by omega),if_neg (by omega),bG h2]
theorem iF (k:Nat)(lists:Int):1≤bN k lists∧bN k lists≤8:=by
 unfold bN;split
 · rename_i h
   unfold cK at h;rw [Bool.and_eq_true,decide_eq_true_iff,decide_eq_true_iff] at h;obtain ⟨s,h1,h2⟩:=kQ h.2;omega
 · omega
theorem uD (w:World){base m:Nat}{bp:Option Addr}{bc:Nat}{sv ev:Value}{zs:List Int}{fs:List (List dT × Value)}{ns:List Nat}(h:IsMsg base w m bp bc sv ev zs fs ns)(k:Nat)(ref lists at':Int) :
  Calls Tryd.prog 146 #[.pointer (some ⟨m,0,none⟩),.int .i64 at',.agg #[.int .u8 k,.int .i64 ref,.int .i64 lists]] w fun e w'=>mW zs m k ref lists at' e∧Below w.heap.size w w':=by
 obtain ⟨hb,hq1,hq2⟩:=bF w #[.int .u8 k,.int .i64 ref,.int .i64 lists] #[.pointer none,.int .u8 0,.int .i64 0,.int .i64 0,.int .i64 0,.int .i64 0,.int .i64 0] 75 245;have HB:=aA hb;have HM:=aA (h.below hb);have HQ1:=aA hq1;have HQ2:=aA hq2;have hlen:=h.len;have hzb:=h.bytes.1;clear hb hq1 hq2 h;by_cases hin:cV (aH zs) at' 4=true
 case neg =>
  have HV:Hid (eQ zs k lists at'=false):=aA (by unfold eQ;rw [Bool.not_eq_true _ |>.mp hin];rfl);have HL:Hid (∀ W,Calls Tryd.prog 129 #[.slice bp zs.length bc,.int .i64 at',.int .i64 4] W fun e w'=>e=.returned (.tuple #[.int .u64 0,.bool false])∧W=w'):=aA (fun W=>nM bp bc zs at' 4 W hlen hin);clear hin hzb;go_enter Tryd.func146,Tryd.ntmps146;go_upto_region 1 with (fail);generalize (w.alloc (.cells #[.int .u8 k,.int .i64 ref,.int .i64 lists] 75)).alloc (.cells #[.pointer none,.int .u8 0,.int .i64 0,.int .i64 0,.int .i64 0,.int .i64 0,.int .i64 0] 245)=W0 at *;obtain ⟨_,m0,m1,m2,_⟩:=aS HM.out.blk;obtain ⟨_,u0,u1,u2,u3,u4,u5,u6⟩:=eU HQ2.out;have p0:=aB HQ2.out 0;have p1:=aB HQ2.out 1;have p2:=aB HQ2.out 2;have p3:=aB HQ2.out 3;have p4:=aB HQ2.out 4
  have p5:=aB HQ2.out 5;have p6:=aB HQ2.out 6;go_wp2_with fail;refine (HL.out _).mono ?_;rintro e _ ⟨rfl,rfl⟩;go_wp2;refine aI (fun Wf=>Wf.heap[w.heap.size+1]?=some (.cells #[.pointer none,.int .u8 0,.int .i64 0,.int .i64 0,.int .i64 0,.int .i64 0,.int .i64 0] 245 (0,0))∧Below w.heap.size w Wf) ⟨?_,?_⟩ ?_
  · exact gQ HQ2.out _ _ _ _ _ _ _
  · exact fE HB.out (Nat.le_succ _) _ _ _ _ _ _ _
  · rintro Wf ⟨e1,e2⟩;obtain ⟨_,d0,d1,d2,d3,d4,d5,d6⟩:=eU e1;exact dZ (v:=.tuple #[.agg #[.pointer none,.int .u8 0,.int .i64 0,.int .i64 0,.int .i64 0,.int .i64 0,.int .i64 0],.bool false]) (by simp [results,Tryd.results146,go_sem,d0,d1,d2,d3,d4,d5,d6]) rfl ⟨.inr ⟨HV.out,rfl⟩,e2⟩
 have h1:=aW.1 hin;have hz:aH zs=(zs.length:Int):=rfl;rw [hz] at h1;have hld:=dW zs at'.toNat hzb;have HL:Hid (∀ W,Below ((w.alloc (.cells #[.int .u8 k,.int .i64 ref,.int .i64 lists] 75)).alloc (.cells #[.pointer none,.int .u8 0,.int .i64 0,.int .i64 0,.int .i64 0,.int .i64 0,.int .i64 0] 245)).heap.size ((w.alloc (.cells #[.int .u8 k,.int .i64 ref,.int .i64 lists] 75)).alloc (.cells #[.pointer none,.int .u8 0,.int .i64 0,.int .i64 0,.int .i64 0,.int .i64 0,.int .i64 0] 245)) W→Calls Tryd.prog 129 #[.slice bp zs.length bc,.int .i64 at',.int .i64 4] W fun e w'=>e=.returned (.tuple #[.int .u64 (aY zs at'.toNat 4),.bool true])∧W=w'):=aA (fun W hb=>oJ _ bc zs at' 4 W (HM.out.bytes.below bD hb) hlen hin (by decide));have hw4:=cU (at'+4);obtain ⟨P,hP⟩:∃ P,mW zs m k ref lists at'=P:=⟨_,rfl⟩
 rw [hP];have HP:=aA hP.symm;clear hP;unfold mW eQ kG lJ at HP;rw [hin,Bool.true_and] at HP;generalize aY zs at'.toNat 4=n at *;have hcv:=cU n;have hsb:=iF k lists;obtain ⟨st,hst⟩:∃ st,bN k lists=st:=⟨_,rfl⟩;rw [hst] at HP hsb;have hns:0≤n * st∧n * st≤4294967296 * 8:=⟨Int.mul_nonneg hld.1 (by omega),Int.le_trans (Int.mul_le_mul_of_nonneg_right (Int.le_of_lt hld.2) (by omega)) (Int.mul_le_mul_of_nonneg_left hsb.2 (by decide))⟩;have hwm:=cU (n * st);have HWI:=aA (fun W=>pC bp zs bc (at'+4) (n * st) W hlen);generalize cV (aH zs) (at'+4) (n * st)=ok at *;have HSO:=aA (fun W=>dS k ref lists W);clear hin hzb hld hns;by_cases hs:aT k lists=1
 case' pos =>
  obtain rfl:aP k=st:=by rw [←hst];unfold bN;rw [bG ((pP k lists).1 hs)]
  have HSZ:=aA (fun W=>lO (k:Int) W);rw [hs] at HSO;generalize aP k=st at *
 case' neg =>
  obtain rfl:4=st:=by rw [←hst];unfold bN;rw [if_neg (fun h=>hs ((pP k lists).2 h))]
  have t1:((aT k lists:Nat):Int)≠1:=by omega
  have t1':(((aT k lists:Nat):Int)==1)=false:=by simpa using t1
  generalize ((aT k lists:Nat):Int)=so at *
 all_goals
  clear hs hst;go_enter Tryd.func146,Tryd.ntmps146;go_upto_region 1 with (fail);generalize (w.alloc (.cells #[.int .u8 k,.int .i64 ref,.int .i64 lists] 75)).alloc (.cells #[.pointer none,.int .u8 0,.int .i64 0,.int .i64 0,.int .i64 0,.int .i64 0,.int .i64 0] 245)=W0 at *;obtain ⟨_,m0,m1,m2,_⟩:=aS HM.out.blk;obtain ⟨_,t0,t1,t2,_⟩:=aS HQ1.out;go_wp2_with fail;refine (HL.out _ (bH _ _)).mono ?_;rintro e _ ⟨rfl,rfl⟩;go_upto_region 5 with (fail);have hba:Below W0.heap.size W0 (W0.alloc (.cells #[.pointer (some ⟨m,0,none⟩),.int .u8 k,.int .i64 ref,.int .i64 lists,.int .i64 (at'+4),.int .i64 n,.int .i64 4] 245)):=(bH _ _).alloc bD _
  have hn:=cN W0 (.cells #[.pointer (some ⟨m,0,none⟩),.int .u8 k,.int .i64 ref,.int .i64 lists,.int .i64 (at'+4),.int .i64 n,.int .i64 4] 245);have HB1:=aA (HB.out.trans (hba.mono HB.out.size));have HQ3:=aA (aE HQ2.out hba (aD HQ2.out));have HQ4:=aA (aE HQ1.out hba (aD HQ1.out));have HM1:=aA (HM.out.below hba);have HT0:Hid (w.heap.size+1<W0.heap.size):=aA (aD HQ2.out);have HMT:Hid (m<W0.heap.size):=aA (aD HM.out.blk);have HNB:=aA hn;clear hba hn m0 m1 m2 t0 t1 t2;generalize W0.alloc (.cells #[.pointer (some ⟨m,0,none⟩),.int .u8 k,.int .i64 ref,.int .i64 lists,.int .i64 (at'+4),.int .i64 n,.int .i64 4] 245)=W1 at *;generalize W0.heap.size=L at *;obtain ⟨_,t0,t1,t2,_⟩:=aS HQ4.out;go_wp2_with fail;refine (HSO.out _).mono ?_;rintro e W2 ⟨rfl,hb2⟩;have HB2:=aA (HB1.out.trans (hb2.mono HB1.out.size));have HQ5:=aA (aE HQ3.out hb2 (aD HQ3.out))
  have HQ6:=aA (aE HQ4.out hb2 (aD HQ4.out));have HM2:=aA (HM1.out.below hb2);have HN2:=aA (aE HNB.out hb2 (aD HNB.out));clear hb2 t0 t1 t2
 · obtain ⟨_,m0,m1,m2,_⟩:=aS HM2.out.blk;obtain ⟨_,l0,l1,l2,l3,l4,l5,l6⟩:=eU HN2.out;obtain ⟨_,u0,u1,u2,u3,u4,u5,u6⟩:=eU HQ5.out;have p0:=aB HQ5.out 0;have p1:=aB HQ5.out 1;have p2:=aB HQ5.out 2;have p3:=aB HQ5.out 3;have p4:=aB HQ5.out 4;have p5:=aB HQ5.out 5;have p6:=aB HQ5.out 6;go_upto_region 7 with (fail);go_quiet (first|(go_at_call 131;exact iW (HWI.out _)))
   cases ok with
   | false =>
    have HPV:Hid (P (.returned (.tuple #[.agg #[.pointer none,.int .u8 0,.int .i64 0,.int .i64 0,.int .i64 0,.int .i64 0,.int .i64 0],.bool false]))):=aA (by rw [HP.out];exact .inr ⟨rfl,rfl⟩);go_wp2;refine aI (fun Wf=>Wf.heap[w.heap.size+1]?=some (.cells #[.pointer none,.int .u8 0,.int .i64 0,.int .i64 0,.int .i64 0,.int .i64 0,.int .i64 0] 245 (0,0))∧Below w.heap.size w Wf) ⟨?_,?_⟩ ?_
    · exact gQ (w:=W2.drewN _) HQ5.out _ _ _ _ _ _ _
    · exact fE (dB HB2.out _) (Nat.le_succ _) _ _ _ _ _ _ _
    · rintro Wf ⟨e1,e2⟩;obtain ⟨_,d0,d1,d2,d3,d4,d5,d6⟩:=eU e1;exact dZ (v:=.tuple #[.agg #[.pointer none,.int .u8 0,.int .i64 0,.int .i64 0,.int .i64 0,.int .i64 0,.int .i64 0],.bool false]) (by simp [results,Tryd.results146,go_sem,d0,d1,d2,d3,d4,d5,d6]) rfl ⟨HPV.out,e2⟩
   | true =>
    have HPV:Hid (P (.returned (.tuple #[.agg #[.pointer (some ⟨m,0,none⟩),.int .u8 k,.int .i64 ref,.int .i64 lists,.int .i64 (at'+4),.int .i64 n,.int .i64 4],.bool true]))):=aA (by rw [HP.out];exact .inl ⟨rfl,rfl⟩);go_wp2;refine aI (fun Wf=>Wf.heap[w.heap.size+1]?=some (.cells #[.pointer (some ⟨m,0,none⟩),.int .u8 k,.int .i64 ref,.int .i64 lists,.int .i64 (at'+4),.int .i64 n,.int .i64 4] 245 (0,0))∧Below w.heap.size w Wf) ⟨?_,?_⟩ ?_
    · exact gQ (w:=W2.drewN _) HQ5.out _ _ _ _ _ _ _
    · exact fE (dB HB2.out _) (Nat.le_succ _) _ _ _ _ _ _ _
    · rintro Wf ⟨e1,e2⟩;obtain ⟨_,d0,d1,d2,d3,d4,d5,d6⟩:=eU e1;exact dZ (v:=.tuple #[.agg #[.pointer (some ⟨m,0,none⟩),.int .u8 k,.int .i64 ref,.int .i64 lists,.int .i64 (at'+4),.int .i64 n,.int .i64 4],.bool true]) (by simp [results,Tryd.results146,go_sem,d0,d1,d2,d3,d4,d5,d6]) rfl ⟨HPV.out,e2⟩
 · obtain ⟨_,t0,t1,t2,_⟩:=aS HQ6.out;go_wp2_with fail;refine (HSZ.out _).mono ?_;rintro e _ ⟨rfl,rfl⟩;have HB3:=aA (HB2.out.setCell (p:=⟨L,6,none⟩) (by have:=HT0.out;show w.heap.size≤L;omega) (.int .i64 st));have HQ7:=aA (bA HQ5.out (p:=⟨L,6,none⟩) (by have:=HT0.out;show L≠_;omega) (.int .i64 st));have HM3:=aA (bA HM2.out.blk (p:=⟨L,6,none⟩) (by have:=HMT.out;show L≠_;omega) (.int .i64 st));have HN3:=aA ((aN HN2.out 6 (.int .i64 st)).trans rfl);obtain ⟨_,l0,l1,l2,l3,l4,l5,l6⟩:=eU HN2.out;have lf:=aB HN2.out 6;go_upto_region 7 with (fail);generalize W2.setCell ⟨L,6,none⟩ (.int .i64 st)=W3 at *;clear l0 l1 l2 l3 l4 l5 l6 lf t0 t1 t2;obtain ⟨_,m0,m1,m2,_⟩:=aS HM3.out;obtain ⟨_,l0,l1,l2,l3,l4,l5,l6⟩:=eU HN3.out;obtain ⟨_,u0,u1,u2,u3,u4,u5,u6⟩:=eU HQ7.out;have p0:=aB HQ7.out 0;have p1:=aB HQ7.out 1;have p2:=aB HQ7.out 2;have p3:=aB HQ7.out 3;have p4:=aB HQ7.out 4;have p5:=aB HQ7.out 5
   have p6:=aB HQ7.out 6;go_quiet (first|(go_at_call 131;exact iW (HWI.out _)))
   cases ok with
   | false =>
    have HPV:Hid (P (.returned (.tuple #[.agg #[.pointer none,.int .u8 0,.int .i64 0,.int .i64 0,.int .i64 0,.int .i64 0,.int .i64 0],.bool false]))):=aA (by rw [HP.out];exact .inr ⟨rfl,rfl⟩);go_wp2;refine aI (fun Wf=>Wf.heap[w.heap.size+1]?=some (.cells #[.pointer none,.int .u8 0,.int .i64 0,.int .i64 0,.int .i64 0,.int .i64 0,.int .i64 0] 245 (0,0))∧Below w.heap.size w Wf) ⟨?_,?_⟩ ?_
    · exact gQ (w:=W3.drewN _) HQ7.out _ _ _ _ _ _ _
    · exact fE (dB HB3.out _) (Nat.le_succ _) _ _ _ _ _ _ _
    · rintro Wf ⟨e1,e2⟩;obtain ⟨_,d0,d1,d2,d3,d4,d5,d6⟩:=eU e1;exact dZ (v:=.tuple #[.agg #[.pointer none,.int .u8 0,.int .i64 0,.int .i64 0,.int .i64 0,.int .i64 0,.int .i64 0],.bool false]) (by simp [results,Tryd.results146,go_sem,d0,d1,d2,d3,d4,d5,d6]) rfl ⟨HPV.out,e2⟩
   | true =>
    have HPV:Hid (P (.returned (.tuple #[.agg #[.pointer (some ⟨m,0,none⟩),.int .u8 k,.int .i64 ref,.int .i64 lists,.int .i64 (at'+4),.int .i64 n,.int .i64 st],.bool true]))):=aA (by rw [HP.out];exact .inl ⟨rfl,rfl⟩);go_wp2;refine aI (fun Wf=>Wf.heap[w.heap.size+1]?=some (.cells #[.pointer (some ⟨m,0,none⟩),.int .u8 k,.int .i64 ref,.int .i64 lists,.int .i64 (at'+4),.int .i64 n,.int .i64 st] 245 (0,0))∧Below w.heap.size w Wf) ⟨?_,?_⟩ ?_
    · exact gQ (w:=W3.drewN _) HQ7.out _ _ _ _ _ _ _
    · exact fE (dB HB3.out _) (Nat.le_succ _) _ _ _ _ _ _ _
    · rintro Wf ⟨e1,e2⟩;obtain ⟨_,d0,d1,d2,d3,d4,d5,d6⟩:=eU e1;exact dZ (v:=.tuple #[.agg #[.pointer (some ⟨m,0,none⟩),.int .u8 k,.int .i64 ref,.int .i64 lists,.int .i64 (at'+4),.int .i64 n,.int .i64 st],.bool true]) (by simp [results,Tryd.results146,go_sem,d0,d1,d2,d3,d4,d5,d6]) rfl ⟨HPV.out,e2⟩
def bR (w:World)(g:Nat)(a b c d e f:Value):World:=(((((w.setCell ⟨g,0,none⟩ a).setCell ⟨g,1,none⟩ b).setCell ⟨g,2,none⟩ c).setCell ⟨g,3,none⟩ d).setCell ⟨g,4,none⟩ e).setCell ⟨g,5,none⟩ f
theorem gN {w:World}{g:Nat}{p:Addr}{v x0 x1 x2 x3 x4 x5:Value}(h:w.cell? p=some v)(hp:p.block≠g):(bR w g x0 x1 x2 x3 x4 x5).cell? p=some v:=by have e:∀ (w:World) (i:Nat) (x:Value),(w.setCell ⟨g,i,none⟩ x).cell? p=w.cell? p:=fun w i x=>World.cell?_of_block (oG _ _ _ _ hp);unfold bR;rw [e,e,e,e,e,e,h]
theorem aBI (o:Nat):(((o:Nat):Int) != (o:Int))=false:=by simp
theorem oI (w:World)(m k:Nat)(ref lists at' count size:Int)(i o:Nat)(hi:(i:Int)<count)(hc:count≤4294967296)(hs:1≤size∧size≤8)(ha:0≤at'∧at'≤1000000)(ho:aT k lists=o) :
  Calls Tryd.prog 147 #[kG m k ref lists at' count size,.int .i64 i,.int .i64 o] w fun e w'=>e=.returned (dD k ref lists (at'+i * size) 0 true)∧Below w.heap.size w w':=by
 obtain ⟨hb,hq1,hq2⟩:=bF w #[.pointer (some ⟨m,0,none⟩),.int .u8 k,.int .i64 ref,.int .i64 lists,.int .i64 at',.int .i64 count,.int .i64 size] #[.int .u8 0,.int .i64 0,.int .i64 0,.int .i64 0,.int .u64 0,.bool false] 245 182;have HB:=aA hb;have HQ1:=aA hq1;have HQ2:=aA hq2;have hx0:0≤(i:Int) * size:=Int.mul_nonneg (by omega) (by omega);have hx1:(i:Int) * size≤4294967296 * 8:=Int.le_trans (Int.mul_le_mul_of_nonneg_right (by omega:(i:Int)≤4294967296) (by omega)) (Int.mul_le_mul_of_nonneg_left hs.2 (by decide));obtain ⟨y,hy⟩:∃ y,(i:Int) * size=y:=⟨_,rfl⟩;have hw1:IntKind.i64.wrap ((i:Int) * size)=y:=by rw [←hy];exact cU ((i:Int) * size)
 have hw2:IntKind.i64.wrap (at'+y)=at'+y:=cU (at'+y);rw [hy];clear hy hx0 hx1;have HSO:Hid (∀ W,Calls Tryd.prog 55 #[.agg #[.int .u8 k,.int .i64 ref,.int .i64 lists]] W fun e w'=>e=.returned (.int .i64 (o:Int))∧Below W.heap.size W w'):=aA (fun W=>by have h:=dS k ref lists W;rw [ho] at h;exact h);have ht:=aBI o;have hi0:¬(i:Int)<0:=by omega
 have hi1:¬count≤(i:Int):=by omega
 unfold kG dD;generalize (o:Int)=oi at *;generalize (i:Int)=ii at *;clear hb hq1 hq2;go_enter Tryd.func147,Tryd.ntmps147;go_upto_region 1 with (fail);generalize (w.alloc (.cells #[.pointer (some ⟨m,0,none⟩),.int .u8 k,.int .i64 ref,.int .i64 lists,.int .i64 at',.int .i64 count,.int .i64 size] 245)).alloc (.cells #[.int .u8 0,.int .i64 0,.int .i64 0,.int .i64 0,.int .u64 0,.bool false] 182)=W0 at *;obtain ⟨_,l0,l1,l2,l3,l4,l5,l6⟩:=eU HQ1.out;go_wp2_with fail;refine (HSO.out _).mono ?_;rintro e W1 ⟨rfl,hb1⟩;have HB1:=aA (HB.out.trans (hb1.mono HB.out.size));have P1:=aA (aE HQ1.out hb1 (aD HQ1.out));have P2:=aA (aE HQ2.out hb1 (aD HQ2.out));clear hb1 l0 l1 l2 l3 l4 l5 l6;obtain ⟨_,l0,l1,l2,l3,l4,l5,l6⟩:=eU P1.out;obtain ⟨_,u0,u1,u2,u3,u4,u5⟩:=bB P2.out;have p0:=aB P2.out 0
 have p1:=aB P2.out 1;have p2:=aB P2.out 2;have p3:=aB P2.out 3;have p4:=aB P2.out 4;have p5:=aB P2.out 5;go_wp2;refine aI (fun Wf=>Wf.heap[w.heap.size+1]?=some (.cells #[.int .u8 k,.int .i64 ref,.int .i64 lists,.int .i64 (at'+y),.int .u64 0,.bool true] 182 (0,0))∧Below w.heap.size w Wf) ⟨?_,?_⟩ ?_
 · exact cT P2.out _ _ _ _ _ _
 · exact cI HB1.out (Nat.le_succ _) _ _ _ _ _ _
 · rintro Wf ⟨e1,e2⟩;obtain ⟨_,d0,d1,d2,d3,d4,d5⟩:=bB e1;exact dZ (v:=.agg #[.int .u8 k,.int .i64 ref,.int .i64 lists,.int .i64 (at'+y),.int .u64 0,.bool true]) (by simp [results,Tryd.results147,go_sem,d0,d1,d2,d3,d4,d5]) rfl ⟨rfl,e2⟩
theorem vW (w:World){base m:Nat}{bp:Option Addr}{bc:Nat}{sv ev:Value}{zs:List Int}{fs:List (List dT × Value)}{ns:List Nat}(h:IsMsg base w m bp bc sv ev zs fs ns)(rec:Nat)(hr:rec<fs.length)(t:mO)(p:Int)(hp:0≤p∧p≤1000000)(j o:Nat)(hj:j<fs[rec].1.length)(hj2:j≤1000000)
  (ht:cV (aH zs) t.la t.size=true∧t.size % 2=0) (x:dT) (hx:fs[rec].1[j]=x) (ho:aT x.kind x.lists=o) :
  Calls Tryd.prog 113 #[jT m rec t p,.int .i64 j,.int .i64 o] w fun e w'=>e=.returned (dD x.kind x.ref x.lists (p+eC zs t j) x.dflt (decide (eC zs t j≠0)))∧Below w.heap.size w w':=by
 obtain ⟨hb,hq1,hq2⟩:=bF w #[.pointer (some ⟨m,0,none⟩),.int .i64 rec,.int .i64 p,.int .i64 t.own,.int .i64 t.la,.int .i64 t.size] #[.int .u8 0,.int .i64 0,.int .i64 0,.int .i64 0,.int .u64 0,.bool false] 142 182;have HB:=aA hb;have HM:=aA (h.below hb);have HQ1:=aA hq1;have HQ2:=aA hq2;have hoz:0≤eC zs t j∧eC zs t j<65536:=by
  unfold eC;split
  · exact mU zs _ h.bytes.1
  · omega
 have HFF:=aA (fun W (hb:Below ((w.alloc (.cells #[.pointer (some ⟨m,0,none⟩),.int .i64 rec,.int .i64 p,.int .i64 t.own,.int .i64 t.la,.int .i64 t.size] 142)).alloc (.cells #[.int .u8 0,.int .i64 0,.int .i64 0,.int .i64 0,.int .u64 0,.bool false] 182)).heap.size ((w.alloc (.cells #[.pointer (some ⟨m,0,none⟩),.int .i64 rec,.int .i64 p,.int .i64 t.own,.int .i64 t.la,.int .i64 t.size] 142)).alloc (.cells #[.int .u8 0,.int .i64 0,.int .i64 0,.int .i64 0,.int .u64 0,.bool false] 182)) W)=>aAN W (HM.out.below hb) t p j hj2 ht);have hw1:=cU (p+eC zs t j);have hfrow:=h.fields _ (jK hr);have hfew:=iG hfrow;obtain ⟨fa,fc,hf⟩:=aJ hfrow
 have HFS:Hid (∀ W,Calls Tryd.prog 110 #[.pointer (some ⟨m,0,none⟩),.int .i64 rec] ((w.alloc (.cells #[.pointer (some ⟨m,0,none⟩),.int .i64 rec,.int .i64 p,.int .i64 t.own,.int .i64 t.la,.int .i64 t.size] 142)).alloc (.cells #[.int .u8 0,.int .i64 0,.int .i64 0,.int .i64 0,.int .u64 0,.bool false] 182)) (fun e w'=>e=.returned (.slice fa fs[rec].1.length fc)∧((w.alloc (.cells #[.pointer (some ⟨m,0,none⟩),.int .i64 rec,.int .i64 p,.int .i64 t.own,.int .i64 t.la,.int .i64 t.size] 142)).alloc (.cells #[.int .u8 0,.int .i64 0,.int .i64 0,.int .i64 0,.int .u64 0,.bool false] 182))=w')→W=W):=aA (fun _ _=>rfl);have HFA:=aA (rS _ (h.below hb) rec);have HROW:=aA (bE hb hfrow);clear HFS;rw [hf] at HROW;have HHF:=aA hf
 obtain ⟨g,cc,hv,hcc,hgl,hcell⟩:=eP (l:=fs[rec].1) qK 5 (fun _=>rfl) HROW.out j hj;obtain ⟨rfl,rfl⟩:=dG hv;have hgw:g<w.heap.size:=(aV hfrow g (by rw [hf];rfl)).2;rw [hx] at hcell;have x0:((w.alloc (.cells #[.pointer (some ⟨m,0,none⟩),.int .i64 rec,.int .i64 p,.int .i64 t.own,.int .i64 t.la,.int .i64 t.size] 142)).alloc (.cells #[.int .u8 0,.int .i64 0,.int .i64 0,.int .i64 0,.int .u64 0,.bool false] 182)).cell? ⟨g,j * 5,none⟩=some (.int .u8 x.kind):=hcell 0 (by omega);have x1:=show _=some (Value.int .i64 x.ref) from hcell 1 (by omega);have x2:=show _=some (Value.int .i64 x.lists) from hcell 2 (by omega);have x3:=show _=some (Value.int .i64 (gK x.kind x.lists)) from hcell 3 (by omega);have x4:=show _=some (Value.int .u64 (x.dflt:Nat)) from hcell 4 (by omega)
 have HSO:Hid (∀ W,Calls Tryd.prog 55 #[.agg #[.int .u8 x.kind,.int .i64 x.ref,.int .i64 x.lists]] W fun e w'=>e=.returned (.int .i64 (o:Int))∧Below W.heap.size W w'):=aA (fun W=>by have h:=dS x.kind x.ref x.lists W;rw [ho] at h;exact h);have htr:=aBI o;have hj0:¬(j:Int)<0:=by omega
 have hjl0:=hj;have hjl:(j:Int)<(fs[rec].1.length:Int):=by omega
 have hjl2:¬(fs[rec].1.length:Int)≤(j:Int):=by omega
 have hjj0:(0:Int)≤(j:Int):=by omega
 have hdec:(eC zs t j != 0)=decide (eC zs t j≠0):=by by_cases h:eC zs t j=0<;>simp [h]
 clear hcell hv hx ho hb hq1 hq2 h ht hfrow hp;unfold jT dD;generalize decide (eC zs t j≠0)=tb at *;generalize eC zs t j=oz at *;generalize (o:Int)=oi at *;generalize gK x.kind x.lists=xi at *;generalize x.kind=xk at *;generalize x.ref=xr at *;generalize x.lists=xl at *;generalize x.dflt=xd at *;have HLEN:Hid (fs[rec].2=.slice (some ⟨g,0,none⟩) fs[rec].1.length fc):=HHF;obtain ⟨fl,hfl⟩:∃ fl,fs[rec].1.length=fl:=⟨_,rfl⟩;rw [hfl] at hjl hjl2 HLEN;have HR:=aA hr;clear HHF HROW hfl hf hj hjl0;go_enter Tryd.func113,Tryd.ntmps113;go_upto_region 1 with (fail)
 generalize (w.alloc (.cells #[.pointer (some ⟨m,0,none⟩),.int .i64 rec,.int .i64 p,.int .i64 t.own,.int .i64 t.la,.int .i64 t.size] 142)).alloc (.cells #[.int .u8 0,.int .i64 0,.int .i64 0,.int .i64 0,.int .u64 0,.bool false] 182)=W0 at *;obtain ⟨_,l0,l1,l2,l3,l4,l5⟩:=bB HQ1.out;go_wp2_with fail;refine HFA.out.mono ?_;rintro e _ ⟨hpost,rfl⟩;rcases hpost with ⟨hno,rfl⟩|⟨i',hi',hii,rfl⟩
 · exact absurd ⟨by omega,by have:=HR.out;omega⟩ hno
 obtain rfl:rec=i':=by omega
 rw [HLEN.out];clear hii;go_wp2_with fail;refine (HSO.out _).mono ?_;rintro e W1 ⟨rfl,hb1⟩;have HB1:=aA (HB.out.trans (hb1.mono HB.out.size));have P1:=aA (aE HQ1.out hb1 (aD HQ1.out));have P2:=aA (aE HQ2.out hb1 (aD HQ2.out));have HFW:=aA (HFF.out W1 hb1);replace x0:=aC hb1 x0
 replace x1:=aC hb1 x1
 replace x2:=aC hb1 x2
 replace x4:=aC hb1 x4
 clear hb1 l0 l1 l2 l3 l4 l5 x3 HFF;obtain ⟨_,l0,l1,l2,l3,l4,l5⟩:=bB P1.out;unfold wO at HFW;go_wp2_with fail;refine HFW.out.mono ?_;rintro e W2 ⟨rfl,hb2⟩;have HB2:=aA (HB1.out.trans (hb2.mono HB1.out.size));have P3:=aA (aE P1.out hb2 (aD P1.out));have P4:=aA (aE P2.out hb2 (aD P2.out));replace x0:=aC hb2 x0
 replace x1:=aC hb2 x1
 replace x2:=aC hb2 x2
 replace x4:=aC hb2 x4
 have hgne:g≠w.heap.size+1:=by omega
 clear hb2 l0 l1 l2 l3 l4 l5 HFW;obtain ⟨_,l0,l1,l2,l3,l4,l5⟩:=bB P3.out;obtain ⟨_,u0,u1,u2,u3,u4,u5⟩:=bB P4.out;have p0:=aB P4.out 0;have p1:=aB P4.out 1;have p2:=aB P4.out 2;have p3:=aB P4.out 3;have p4:=aB P4.out 4;have p5:=aB P4.out 5;go_upto_region 5 with (fail);have s0:=x0;have s1:=x1;have s2:=x2;have s3:=x4;have s4:=l2;refine gL ?_;refine aEa s0 s1 s2 s3 s4 ?_;intro hS;refine aK 0 (.slice (some ⟨g,0,none⟩) fl fc) ?_;simp only [td];refine aK 1 (.int .i64 j) ?_;simp only [td];refine aK 2 (.pointer (some ⟨g,j * 5,none⟩)) ?_;simp only [td];refine aK 3 (.pointer (some ⟨g,j * 5,none⟩)) ?_;simp only [td];refine aK 4 (.agg #[.int .u8 xk,.int .i64 xr,.int .i64 xl]) ?_;simp only [td];refine aK 5 (.pointer (some ⟨w.heap.size,2,none⟩)) ?_;simp only [td];refine aK 6 (.pointer (some ⟨w.heap.size,2,none⟩)) ?_;simp only [td];refine aK 7 (.int .i64 p) ?_;simp only [td]
 refine aK 8 (.int .i64 oz) ?_;simp only [td];refine aK 9 (.int .i64 (p+oz)) ?_;simp only [td];refine aK 10 (.slice (some ⟨g,0,none⟩) fl fc) ?_;simp only [td];refine aK 11 (.int .i64 j) ?_;simp only [td];refine aK 12 (.pointer (some ⟨g,j * 5,none⟩)) ?_;simp only [td];refine aK 13 (.pointer (some ⟨g,j * 5+4,none⟩)) ?_;simp only [td];refine aK 14 (.int .u64 xd) ?_;simp only [td];refine aK 15 (.int .i64 oz) ?_;simp only [td];refine aK 16 (.bool tb) ?_;simp only [td];refine aK 17 (.agg #[.int .u8 xk,.int .i64 xr,.int .i64 xl,.int .i64 (p+oz),.int .u64 xd,.bool tb]) ?_;simp only [td];have hP5:W2.drew.heap[w.heap.size+1]?=some (.cells #[.int .u8 0,.int .i64 0,.int .i64 0,.int .i64 0,.int .u64 0,.bool false] 182 (0,0)):=P4.out;have hthere:W2.drew.there (w.heap.size+1) 0 6:=fun i hi=>by
  have h4:i=0∨i=1∨i=2∨i=3∨i=4∨i=5:=by omega
  obtain ⟨_,v0,v1,v2,v3,v4,v5⟩:=bB hP5;rcases h4 with rfl|rfl|rfl|rfl|rfl|rfl
  · exact ⟨by rw [Nat.add_zero,v0];rfl,aB hP5 _⟩
  · exact ⟨by rw [cX,v1];rfl,aB hP5 _⟩
  · exact ⟨by rw [cX,v2];rfl,aB hP5 _⟩
  · exact ⟨by rw [cX,v3];rfl,aB hP5 _⟩
  · exact ⟨by rw [cX,v4];rfl,aB hP5 _⟩
  · exact ⟨by rw [cX,v5];rfl,aB hP5 _⟩
 refine bS 18 fun K hK=>?_;refine wp_store_mid 182 (.tmp 6) (.tmp 56) rfl (w.heap.size+1) 0 #[.int .u8 xk,.int .i64 xr,.int .i64 xl,.int .i64 (p+oz),.int .u64 xd,.bool tb] rfl rfl hthere (by kernel_rfl) (pW.2 (by intro x hx;simp at hx;rcases hx with rfl|rfl|rfl|rfl|rfl|rfl<;>rfl)) ?_;change K _ (bR W2.drew (w.heap.size+1) (.int .u8 xk) (.int .i64 xr) (.int .i64 xl) (.int .i64 (p+oz)) (.int .u64 xd) (.bool tb));have hks:∀ (b o:Nat) (c:Value),b≠w.heap.size+1→W2.cell? ⟨b,o,none⟩=some c→(bR W2.drew (w.heap.size+1) (.int .u8 xk) (.int .i64 xr) (.int .i64 xl) (.int .i64 (p+oz)) (.int .u64 xd) (.bool tb)).cell? ⟨b,o,none⟩=some c:=fun b o c hb hc=>gN (w:=W2.drew) hc hb;refine hK.out _ _ ⟨hks _ _ _ hgne s0,hks _ _ _ hgne s1,hks _ _ _ hgne s2,hks _ _ _ hgne s3,hks _ _ _ (by omega) s4⟩ (fun hS=>?_);refine gA (by kernel_rfl) ?_ _;refine fI ?_;try simp only [Exit.then]
 have HE1:=aA (show (bR W2.drew (w.heap.size+1) (.int .u8 xk) (.int .i64 xr) (.int .i64 xl) (.int .i64 (p+oz)) (.int .u64 xd) (.bool tb)).heap[w.heap.size+1]?=some (.cells #[.int .u8 xk,.int .i64 xr,.int .i64 xl,.int .i64 (p+oz),.int .u64 xd,.bool tb] 182 (0,0)) from cT hP5 _ _ _ _ _ _);have HE2:=aA (show Below w.heap.size w (bR W2.drew (w.heap.size+1) (.int .u8 xk) (.int .i64 xr) (.int .i64 xl) (.int .i64 (p+oz)) (.int .u64 xd) (.bool tb)) from cI HB2.out.drew (Nat.le_succ _) _ _ _ _ _ _);clear hS hks hthere hP5 u0 u1 u2 u3 u4 u5 p0 p1 p2 p3 p4 p5 s0 s1 s2 s3 s4 l0 l1 l2 l3 l4 l5 x0 x1 x2 x4;generalize bR W2.drew (w.heap.size+1) (.int .u8 xk) (.int .i64 xr) (.int .i64 xl) (.int .i64 (p+oz)) (.int .u64 xd) (.bool tb)=W9 at *;go_wp2
 refine aI (fun Wf=>Wf.heap[w.heap.size+1]?=some (.cells #[.int .u8 xk,.int .i64 xr,.int .i64 xl,.int .i64 (p+oz),.int .u64 xd,.bool tb] 182 (0,0))∧Below w.heap.size w Wf) ⟨HE1.out,HE2.out⟩ ?_;rintro Wf ⟨e1,e2⟩;obtain ⟨_,d0,d1,d2,d3,d4,d5⟩:=bB e1;exact dZ (v:=.agg #[.int .u8 xk,.int .i64 xr,.int .i64 xl,.int .i64 (p+oz),.int .u64 xd,.bool tb]) (by simp [results,Tryd.results113,go_sem,d0,d1,d2,d3,d4,d5]) rfl ⟨rfl,e2⟩
end Go.Proofs.YtpbaaiilfkacnaaDoor
