/-
  What the hand's Made makes has such fields as the package view and the document's Value are told of. Conditions: those that each theorem names.
-/
import Derived.Test.YtpbaaiilfkacnaaDoorPkQ12
namespace Go.Proofs.YtpbaaiilfkacnaaDoor
open Go.ChangeShapes Go.WideShapes Go.ChangeAt Go.RowKit Go.Shelf
set_option maxRecDepth 100000
set_option maxHeartbeats 16000000
theorem aEk (p:dM)(w:World){a0 a1:Option Addr}{n0 e0 n1 c1:Nat}(hp:IsPlan w p a0 n0 e0 a1 n1 c1) :
  Calls Tryd.prog 10 #[.agg #[.slice a0 n0 e0,.slice a1 n1 c1,.int .u8 p.root,.bool p.tree]] w (tF p w):=by
 obtain ⟨hb,hz1,hz2⟩:=bF w #[.slice a0 n0 e0,.slice a1 n1 c1,.int .u8 p.root,.bool p.tree] #[.slice none 0 0,.slice none 0 0,.int .i64 0] 25 31;have HP:=aA hp;have HB:=aA hb;have HZ1:=aA hz1;have HZ2:=aA hz2;have hrt:=hp.rt;have hcaps:n0≤9223372036854775807∧n1≤9223372036854775807:=by have h1:=hp.e_cap;have h2:=hp.s_cap;unfold maxLen at h1 h2;omega
 obtain ⟨hn0,hn1⟩:=hcaps;have y0:=(aU hz1 0).trans rfl;have y1:=(aU hz1 1).trans rfl;have y2:=(aU hz1 2).trans rfl;obtain ⟨_,_,_,_,s0,s1,s2⟩:=aS hz2;clear hp hb hz1 hz2;by_cases hg:1≤n1∧n1≤16∧n0≤8
 · obtain ⟨g1,g2,g3⟩:=hg;have hmod:(p.root:Int) % (n1:Int)=((p.root % n1:Nat):Int):=(Int.natCast_emod _ _).symm;have hz0:(n1:Int)≠0:=by omega
   have HRT:Hid (p.root % n1=p.root % p.structs.length):=aA (by rw [HP.out.s_len]);generalize p.root % n1=rt at *;have hsz:((w.alloc (.cells #[.slice a0 n0 e0,.slice a1 n1 c1,.int .u8 p.root,.bool p.tree] 25)).alloc (.cells #[.slice none 0 0,.slice none 0 0,.int .i64 0] 31)).heap.size=w.heap.size+2:=by simp
   have HSZ:=aA hsz;clear hsz;go_enter Tryd.func10,Tryd.ntmps10;go_upto_region 4 with (fail);generalize (w.alloc (.cells #[.slice a0 n0 e0,.slice a1 n1 c1,.int .u8 p.root,.bool p.tree] 25)).alloc (.cells #[.slice none 0 0,.slice none 0 0,.int .i64 0] 31)=W0 at *;have hba:Below W0.heap.size W0 (W0.alloc (.cells #[.slice none 0 0,.slice none 0 0,.int .i64 rt] 31)):=(bH _ _).alloc bD _;have hba2:=hba;rw [HSZ.out] at hba2;have HK1:Hid (MKeeps w w.heap.size (.slice a0 n0 e0) (.slice a1 n1 c1) p.root p.tree (W0.alloc (.cells #[.slice none 0 0,.slice none 0 0,.int .i64 rt] 31))):=aA ⟨rfl,aE HZ1.out hba (aD HZ1.out),aE HZ2.out hba (aD HZ2.out),HB.out.trans (hba.mono HB.out.size)⟩
   have hnew:=cN W0 (.cells #[.slice none 0 0,.slice none 0 0,.int .i64 rt] 31);rw [HSZ.out] at hnew;have HS1:Hid (SchAt (w.heap.size+2) (W0.alloc (.cells #[.slice none 0 0,.slice none 0 0,.int .i64 rt] 31)) [] [] (.slice none 0 0) (.slice none 0 0) rt):=aA ⟨hnew,World.ownsRow_nil _ _ _ _,World.ownsRow_nil _ _ _ _,(fun q hq=>by cases hq),(fun q hq=>by cases hq)⟩;clear hba hba2 hnew y0 y1 y2 s0 s1 s2;generalize W0.alloc (.cells #[.slice none 0 0,.slice none 0 0,.int .i64 rt] 31)=W1 at *;go_wp2_with fail;refine aDP HP.out g3 ⟨rfl,rfl,rfl,rfl,rfl,rfl,rfl⟩ HK1.out HS1.out ?_;intro c2 w2 es ev hf hk hs hes;have HK2:=aA hk;have HS2:=aA hs;have HES:=aA hes;obtain ⟨u,rfl⟩:=aBF hf;clear hf hk hs hes;simp only [Exit.inBlock,Exit.then]
   apply_assumption
   go_wp2_with fail;refine aEK HP.out g3 g2 ⟨rfl,rfl,rfl,rfl,rfl,rfl,rfl⟩ HK2.out HS2.out HES.out ?_ ?_
   · intro c3 w3 ss sv hf hk hs hss hlen;have HK3:=aA hk;have HS3:=aA hs;have HOK:Hid (kN p):=aA (aEz (by rw [HP.out.s_len];exact g1) (by rw [HP.out.s_len];exact g2) (by rw [HP.out.e_len];exact g3) (by rw [HP.out.s_len];exact hlen));have HSS:=aA hss;obtain ⟨_,o0,o1,o2,_⟩:=aS hs.blk;obtain ⟨_,r0,r1,r2,q0,q1,q2⟩:=aS hk.res;obtain ⟨u3,rfl⟩:=wW hf;obtain ⟨sva,svc,eva,evc,rfl,rfl⟩:=hs.rows.forms;clear hf hk hs hss hlen;simp only [Exit.inBlock,Exit.then]
     apply_assumption
     go_wp2;refine aI (fun Wf=>Wf.heap[w.heap.size+1]?=some (.cells #[.slice sva ss.length svc,.slice eva es.length evc,.int .i64 rt] 31 (0,0))∧Below w.heap.size w Wf∧SchRows w.heap.size Wf ss es (.slice sva ss.length svc) (.slice eva es.length evc)) ⟨?_,?_,?_⟩ ?_
     · exact kI HK3.out.res _ _ _
     · exact ((HK3.out.bel.setCell (p:=⟨w.heap.size+1,0,none⟩) (Nat.le_succ _) _).setCell (p:=⟨w.heap.size+1,1,none⟩) (Nat.le_succ _) _).setCell (p:=⟨w.heap.size+1,2,none⟩) (Nat.le_succ _) _
     · have hr:=HS3.out.rows;have key:∀ {e:TypeId} {s:Nat} {v:Value} {n:Nat} {xs:List Value},w3.ownsRow (w.heap.size+2+1) e s v n xs→World.ownsRow (((w3.setCell ⟨w.heap.size+1,0,none⟩ (.slice sva ss.length svc)).setCell ⟨w.heap.size+1,1,none⟩ (.slice eva es.length evc)).setCell ⟨w.heap.size+1,2,none⟩ (.int .i64 rt)) w.heap.size e s v n xs:=fun ho =>
        eE (ownsRow_setCell_below (ownsRow_setCell_below (ownsRow_setCell_below ho (by show w.heap.size+1<_;omega) _) (by show w.heap.size+1<_;omega) _) (by show w.heap.size+1<_;omega) _) (by omega)
       exact ⟨key hr.structs,key hr.enums,fun q hq=>key (hr.fields q hq),fun q hq=>key (hr.names q hq)⟩
     · rintro Wf ⟨e1,e2,e3⟩;obtain ⟨_,d0,d1,d2,_⟩:=aS e1;refine dZ (v:=.tuple #[.agg #[.slice sva ss.length svc,.slice eva es.length evc,.int .i64 rt],.bool true]) (by simp [results,Tryd.results10,go_sem,d0,d1,d2]) rfl ⟨e2,.inl ⟨HOK.out,ss,es,_,_,?_,?_,?_,e3⟩⟩
       · rw [HRT.out]
       · rw [HP.out.s_len];exact HSS.out
       · rw [HP.out.e_len];exact HES.out
   · intro c3 w3 j hf hres hbel hj hbad;have HNO:Hid (¬kN p):=aA (aDx (by rw [HP.out.s_len];exact hj) hbad);have HRE:=aA hres;have HBE:=aA hbel;obtain ⟨u3,rfl⟩:=wW hf;clear hf hres hbel hj hbad;simp only [Exit.inBlock,Exit.then];refine aI (fun Wf=>Wf.heap[w.heap.size+1]?=some (.cells #[.slice none 0 0,.slice none 0 0,.int .i64 0] 31 (0,0))∧Below w.heap.size w Wf) ⟨HRE.out,HBE.out⟩ ?_;rintro Wf ⟨e1,e2⟩;obtain ⟨_,d0,d1,d2,_⟩:=aS e1;exact dZ (v:=.tuple #[.agg #[.slice none 0 0,.slice none 0 0,.int .i64 0],.bool false]) (by simp [results,Tryd.results10,go_sem,d0,d1,d2]) rfl (sD HNO.out e2)
 · exact aDm p w HP.out hg
def tE (p:dM):Prop:=∀ i,i<p.structs.length→∀ k,k<(p.structs.getD i []).length→(((p.structs.getD i []).getD k nA).dflt:Int)≤18446744073709551615
theorem aCe {w:World}{p:dM}{a0 a1:Option Addr}{n0 e0 n1 c1:Nat}(hp:IsPlan w p a0 n0 e0 a1 n1 c1):tE p:=by intro i hi k hk;obtain ⟨_,_,_,n,_,_,_,_,hn,_,_,hfl⟩:=hp.s_at i (by rw [←hp.s_len];exact hi);obtain ⟨_,_,f,hf,_,_,_,_,_,_,_,_,_,_,_,h⟩:=hfl k (by rw [←hn];exact hk);rw [hf];exact h
theorem xL (m n:Int)(h1:0<m)(h2:m≤2147483648):oU m n≤18446744073709551615:=by unfold oU;have:=Int.emod_lt_of_pos n (show 0<2 * m by omega);split<;>omega
theorem aCH (n s:Int)(h:n≤18446744073709551615):cG n s≤18446744073709551615:=by
 unfold cG;split
 · exact xL _ _ (by decide) (by decide)
 · split
   · exact xL _ _ (by decide) (by decide)
   · split
     · exact xL _ _ (by decide) (by decide)
     · exact h
theorem pQ (cnt kind n:Nat)(hn:(n:Int)≤18446744073709551615):(gM cnt kind n:Int)≤18446744073709551615:=by
 unfold gM;split
 · omega
 · split
   · have:=Nat.mod_le n cnt;omega
   · have hm:((if aP kind<8 then n % 2 ^ (8 * (aP kind).toNat) else n:Nat):Int)≤18446744073709551615:=by
      split
      · have:=Nat.mod_le n (2 ^ (8 * (aP kind).toNat));omega
      · exact hn
     simp only;generalize (if aP kind<8 then n % 2 ^ (8 * (aP kind).toNat) else n:Nat)=m at *;split
     · have:=aCH m (aP kind) hm;omega
     · exact hm
theorem rC {p:dM}{f:PF}{i:Nat}(hi:i<p.structs.length)(h:dK p i f=13):gC p i f<p.structs.length:=by
 by_cases h10:f.kind % 13+1=10
 · by_cases h0:p.enums.length=0
   · have:=(aF1 (i:=i) h10 h0).1;omega
   · have:=(aFr (i:=i) h10 h0).1;omega
 · by_cases h13:f.kind % 13+1=13
   · cases ht:p.tree with
     | true =>
      by_cases hl:i+1=p.structs.length
      · have:=(aFB h13 ht hl).1;omega
      · rw [(aFu h13 ht hl).2];have:=Nat.mod_lt f.ref (show 0<p.structs.length-i-1 by omega);omega
     | false =>
      rw [(aFJ (i:=i) h13 ht).2];exact Nat.mod_lt _ (by omega)
   · have:=(aFD (p:=p) (i:=i) h10 h13).1;omega
theorem kK (kind ref n:Nat){b:Nat}{ss:List (bK × Value)}{es:List (aX × Value)}{sv ev:Value}(root:Int)(w:World)(h:SchRows b w ss es sv ev)(ht:uO (es.map Prod.fst) kind ref)(hn:(n:Int)≤18446744073709551615) :
  Calls Tryd.prog 39 #[.agg #[sv,ev,.int .i64 root],.agg #[.int .u8 kind,.int .i64 ref,.int .i64 0],.int .u64 n] w fun e w'=>(∃ z:Nat,e=.returned (.int .u64 z)∧(z:Int)≤18446744073709551615∧dV (es.map Prod.fst) kind ref 0 z=true)∧Below w.heap.size w w':=by
 have hf:=tY ht (n:=n) (by omega);obtain ⟨h1,h2,h3⟩:=ht;by_cases hk:kind=10
 · subst hk;obtain ⟨h4,h5⟩:=h3 rfl;rw [List.length_map] at h4;have hc:qC (es.map Prod.fst) ref=es[ref].1.names.length:=by
    unfold qC;rw [List.getD,iO (by rw [List.length_map];exact h4),Option.getD_some,List.getElem_map]
   rw [hc] at hf h5;exact (rP ref 0 n root w h h4 h5 hn).mono fun e W ⟨he,hb⟩=>⟨⟨_,he,pQ _ _ _ hn,hf⟩,hb⟩
 · exact (rE kind ref 0 n (qC (es.map Prod.fst) ref) sv ev root w hn h1 (by omega)).mono fun e W ⟨he,hb⟩=>⟨⟨_,he,pQ _ _ _ hn,hf⟩,hb⟩
theorem aE8 (n:Int):IntKind.u64.wrap n=n % 18446744073709551616:=by simp [IntKind.wrap,IntKind.bits,IntKind.signed]
theorem aEV (n:Int):∃ z:Nat,IntKind.u64.wrap n=z∧(z:Int)≤18446744073709551615:=by rw [aE8];exact ⟨(n % 18446744073709551616).toNat,by omega,by omega⟩
theorem aFU (x y:Int):∃ z:Nat,bits BinOp.or .u64 x y=z∧(z:Int)≤18446744073709551615:=aEV _
def aET (g:Nat)(a:Option Addr)(bs:List Int)(bc i:Nat)(w:World)(es:List aX)(kind ref:Nat)(e:Ending)(w':World):Prop:=
 ∃ z i':Nat,e=.returned (.int .u64 z)∧(z:Int)≤18446744073709551615∧dV es kind ref 0 z=true∧i≤i'∧Src g a bs bc w' i'∧Exc g w.heap.size w w'
def aGg (g:Nat)(a:Option Addr)(bs:List Int)(bc i:Nat)(W0:World)(x n:Value)(W:World):Prop:=
 ∃ j z i2:Nat,j≤8∧x=.int .i64 j∧n=.int .u64 z∧(z:Int)≤18446744073709551615∧i≤i2∧Src g a bs bc W i2∧Exc g W0.heap.size W0 W
theorem aAp (kind ref c d fk:Nat)(fr fl:Int)(nm:ByteArray){b g i bc:Nat}{a:Option Addr}{bs:List Int}{ss:List (bK × Value)}{es:List (aX × Value)}{sv ev:Value}(root:Int)(w:World)(ht:uO (es.map Prod.fst) kind ref)(hs:Src g a bs bc w i)(hg:∀ W,Exc g w.heap.size w W→SchRows b W ss es sv ev)(hc:c≤255)(hd:(d:Int)≤18446744073709551615)(hdf:dV (es.map Prod.fst) kind ref 0 d=true) :
  Calls Tryd.prog 68 #[.agg #[sv,ev,.int .i64 root],.agg #[.int .u8 kind,.int .i64 ref,.int .i64 0],.pointer (some ⟨g,0,none⟩),.int .i64 c,.agg #[.string nm,.int .u8 fk,.int .i64 fr,.int .i64 fl,.int .u64 d]] w (aET g a bs bc i w (es.map Prod.fst) kind ref):=by
 obtain ⟨hb,hq1,hq2,hq3⟩:=hJ w #[sv,ev,.int .i64 root] #[.int .u8 kind,.int .i64 ref,.int .i64 0] #[.string nm,.int .u8 fk,.int .i64 fr,.int .i64 fl,.int .u64 d] 31 75 77;have HS:=aA (hs.below hb);have HGL:=aA (aD hs.blk);have HB:=aA hb;have HG:=aA hg;have HT:=aA ht;have HDF:=aA hdf;have HQ1:=aA hq1;have HQ2:=aA hq2;have HQ3:=aA hq3;clear hb hs hg ht hdf hq1 hq2 hq3;have hmod:(c:Int).tmod 5=(c % 5:Nat):=by rw [Int.tmod_eq_emod_of_nonneg (by omega)];omega
 have hcases:c % 5=0∨c % 5=1∨c % 5=2∨c % 5=3∨c % 5=4:=by omega
 rcases hcases with h5|h5|h5|h5|h5
 all_goals rw [h5] at hmod
 · obtain ⟨_,f0,f1,f2,f3,f4⟩:=lL HQ3.out;go_enter Tryd.func68,Tryd.ntmps68;go_upto_region 1 with (fail);generalize ((w.alloc (.cells #[sv,ev,.int .i64 root] 31)).alloc (.cells #[.int .u8 kind,.int .i64 ref,.int .i64 0] 75)).alloc (.cells #[.string nm,.int .u8 fk,.int .i64 fr,.int .i64 fl,.int .u64 d] 77)=W0 at *;go_wp2;go_ret;exact ⟨d,i,rfl,hd,HDF.out,Nat.le_refl _,HS.out,Exc.of_below HB.out⟩
 · go_enter Tryd.func68,Tryd.ntmps68;go_upto_region 1 with (fail);generalize ((w.alloc (.cells #[sv,ev,.int .i64 root] 31)).alloc (.cells #[.int .u8 kind,.int .i64 ref,.int .i64 0] 75)).alloc (.cells #[.string nm,.int .u8 fk,.int .i64 fr,.int .i64 fl,.int .u64 d] 77)=W0 at *;obtain ⟨_,s0,s1,s2,_⟩:=aS HQ1.out;obtain ⟨_,t0,t1,t2,_⟩:=aS HQ2.out;go_wp2_with fail;refine (kK kind ref 18446744073709551615 root W0 (HG.out W0 (Exc.of_below HB.out)) HT.out (by decide)).mono ?_;rintro e W1 ⟨⟨z,rfl,hz,hfz⟩,hb1⟩;have HFZ:=aA hfz;have HB1:=aA (HB.out.trans (hb1.mono HB.out.size));have HS1:=aA (HS.out.below hb1);clear hb1 hfz s0 s1 s2 t0 t1 t2;go_wp2;go_ret;exact ⟨z,i,rfl,hz,HFZ.out,Nat.le_refl _,HS1.out,Exc.of_below HB1.out⟩
 · go_enter Tryd.func68,Tryd.ntmps68;go_upto_region 1 with (fail);generalize ((w.alloc (.cells #[sv,ev,.int .i64 root] 31)).alloc (.cells #[.int .u8 kind,.int .i64 ref,.int .i64 0] 75)).alloc (.cells #[.string nm,.int .u8 fk,.int .i64 fr,.int .i64 fl,.int .u64 d] 77)=W0 at *;obtain ⟨_,s0,s1,s2,_⟩:=aS HQ1.out;obtain ⟨_,t0,t1,t2,_⟩:=aS HQ2.out;go_upto_region 7 with (fail);obtain ⟨q1,q2,q3,q4,q5,q6,q7,q8,q9,q10⟩:=uG;have hk4:aP kind=1∨aP kind=2∨aP kind=4∨aP kind=8:=by
    have h1:=HT.out.lo;have h2:=HT.out.hi;have hk:kind=1∨kind=2∨kind=3∨kind=4∨kind=5∨kind=6∨kind=7∨kind=8∨kind=9∨kind=10:=by omega
    rcases hk with rfl|rfl|rfl|rfl|rfl|rfl|rfl|rfl|rfl|rfl<;>decide
   clear q1 q2 q3 q4 q5 q6 q7 q8 q9 q10;have hkw:IntKind.i64.wrap (kind:Int)=kind:=IntWalk.i64_in _ (by have h2:=HT.out.hi;omega);rcases hk4 with hsz|hsz|hsz|hsz
   · have HN:Hid (∀ W,Below W0.heap.size W0 W→Calls Tryd.prog 39 #[.agg #[sv,ev,.int .i64 root],.agg #[.int .u8 kind,.int .i64 ref,.int .i64 0],.int .u64 128] W fun e w'=>(∃ z:Nat,e=.returned (.int .u64 z)∧(z:Int)≤18446744073709551615∧dV (es.map Prod.fst) kind ref 0 z=true)∧Below W.heap.size W w'):=aA (fun W hb=>kK kind ref 128 root W (HG.out W (Exc.of_below (HB.out.trans (hb.mono HB.out.size)))) HT.out (by decide));have hw1:IntKind.i64.wrap 8=8:=by decide
     have hw2:IntKind.i64.wrap 7=7:=by decide
     have hw3:IntKind.u64.wrap 128=128:=by decide
     have HSZ:Hid (∀ W,Calls Tryd.prog 50 #[.int .i64 kind] W fun e w'=>e=.returned (.int .i64 1)∧W=w'):=aA (fun W=>by have h:=bY kind W;rw [hsz] at h;exact h)
     go_region_held3 (fun w'=>w'.cell? ⟨w.heap.size,0,none⟩=some sv∧w'.cell? ⟨w.heap.size,1,none⟩=some ev∧w'.cell? ⟨w.heap.size,2,none⟩=some (.int .i64 root)∧w'.cell? ⟨w.heap.size+1,0,none⟩=some (.int .u8 kind)∧w'.cell? ⟨w.heap.size+1,1,none⟩=some (.int .i64 ref)∧w'.cell? ⟨w.heap.size+1,2,none⟩=some (.int .i64 0)) (first|assumption|(with_reducible exact ⟨k0,k1,k2,k3,k4,k5⟩)|go_keep) (first|(go_at_call 50;(first|(with_reducible refine (HSZ.out W0).mono ?_)|(with_reducible refine (HSZ.out W0.drew).mono ?_));rintro e W5 ⟨rfl,rfl⟩)|(go_at_call 39;(first|(with_reducible refine (HN.out W0 (bH _ _)).mono ?_)|(with_reducible refine (HN.out W0.drew (bH _ _).drew).mono ?_));rintro e W6 ⟨⟨z,rfl,hz,hfz⟩,hb6⟩;have hx6:Below W0.heap.size W0 W6:=(by first|exact (bH _ W0).drew.trans hb6|exact hb6);clear hb6;have k0:=aC hx6 s0;have k1:=aC hx6 s1;have k2:=aC hx6 s2;have k3:=aC hx6 t0;have k4:=aC hx6 t1;have k5:=aC hx6 t2))
     all_goals
      have HFZ:=aA hfz;have HB1:=aA (HB.out.trans (hx6.mono HB.out.size));have HS1:=aA (HS.out.below hx6);clear hx6 hfz s0 s1 s2 t0 t1 t2 k0 k1 k2 k3 k4 k5;simp only [Exit.then];go_wp2;go_ret;exact ⟨z,i,rfl,hz,HFZ.out,Nat.le_refl _,HS1.out,Exc.of_below HB1.out⟩
   · have HN:Hid (∀ W,Below W0.heap.size W0 W→Calls Tryd.prog 39 #[.agg #[sv,ev,.int .i64 root],.agg #[.int .u8 kind,.int .i64 ref,.int .i64 0],.int .u64 32768] W fun e w'=>(∃ z:Nat,e=.returned (.int .u64 z)∧(z:Int)≤18446744073709551615∧dV (es.map Prod.fst) kind ref 0 z=true)∧Below W.heap.size W w'):=aA (fun W hb=>kK kind ref 32768 root W (HG.out W (Exc.of_below (HB.out.trans (hb.mono HB.out.size)))) HT.out (by decide));have hw1:IntKind.i64.wrap 16=16:=by decide
     have hw2:IntKind.i64.wrap 15=15:=by decide
     have hw3:IntKind.u64.wrap 32768=32768:=by decide
     have HSZ:Hid (∀ W,Calls Tryd.prog 50 #[.int .i64 kind] W fun e w'=>e=.returned (.int .i64 2)∧W=w'):=aA (fun W=>by have h:=bY kind W;rw [hsz] at h;exact h)
     go_region_held3 (fun w'=>w'.cell? ⟨w.heap.size,0,none⟩=some sv∧w'.cell? ⟨w.heap.size,1,none⟩=some ev∧w'.cell? ⟨w.heap.size,2,none⟩=some (.int .i64 root)∧w'.cell? ⟨w.heap.size+1,0,none⟩=some (.int .u8 kind)∧w'.cell? ⟨w.heap.size+1,1,none⟩=some (.int .i64 ref)∧w'.cell? ⟨w.heap.size+1,2,none⟩=some (.int .i64 0)) (first|assumption|(with_reducible exact ⟨k0,k1,k2,k3,k4,k5⟩)|go_keep) (first|(go_at_call 50;(first|(with_reducible refine (HSZ.out W0).mono ?_)|(with_reducible refine (HSZ.out W0.drew).mono ?_));rintro e W5 ⟨rfl,rfl⟩)|(go_at_call 39;(first|(with_reducible refine (HN.out W0 (bH _ _)).mono ?_)|(with_reducible refine (HN.out W0.drew (bH _ _).drew).mono ?_));rintro e W6 ⟨⟨z,rfl,hz,hfz⟩,hb6⟩;have hx6:Below W0.heap.size W0 W6:=(by first|exact (bH _ W0).drew.trans hb6|exact hb6);clear hb6;have k0:=aC hx6 s0;have k1:=aC hx6 s1;have k2:=aC hx6 s2;have k3:=aC hx6 t0;have k4:=aC hx6 t1;have k5:=aC hx6 t2))
     all_goals
      have HFZ:=aA hfz;have HB1:=aA (HB.out.trans (hx6.mono HB.out.size));have HS1:=aA (HS.out.below hx6);clear hx6 hfz s0 s1 s2 t0 t1 t2 k0 k1 k2 k3 k4 k5;simp only [Exit.then];go_wp2;go_ret;exact ⟨z,i,rfl,hz,HFZ.out,Nat.le_refl _,HS1.out,Exc.of_below HB1.out⟩
   · have HN:Hid (∀ W,Below W0.heap.size W0 W→Calls Tryd.prog 39 #[.agg #[sv,ev,.int .i64 root],.agg #[.int .u8 kind,.int .i64 ref,.int .i64 0],.int .u64 2147483648] W fun e w'=>(∃ z:Nat,e=.returned (.int .u64 z)∧(z:Int)≤18446744073709551615∧dV (es.map Prod.fst) kind ref 0 z=true)∧Below W.heap.size W w'):=aA (fun W hb=>kK kind ref 2147483648 root W (HG.out W (Exc.of_below (HB.out.trans (hb.mono HB.out.size)))) HT.out (by decide));have hw1:IntKind.i64.wrap 32=32:=by decide
     have hw2:IntKind.i64.wrap 31=31:=by decide
     have hw3:IntKind.u64.wrap 2147483648=2147483648:=by decide
     have HSZ:Hid (∀ W,Calls Tryd.prog 50 #[.int .i64 kind] W fun e w'=>e=.returned (.int .i64 4)∧W=w'):=aA (fun W=>by have h:=bY kind W;rw [hsz] at h;exact h)
     go_region_held3 (fun w'=>w'.cell? ⟨w.heap.size,0,none⟩=some sv∧w'.cell? ⟨w.heap.size,1,none⟩=some ev∧w'.cell? ⟨w.heap.size,2,none⟩=some (.int .i64 root)∧w'.cell? ⟨w.heap.size+1,0,none⟩=some (.int .u8 kind)∧w'.cell? ⟨w.heap.size+1,1,none⟩=some (.int .i64 ref)∧w'.cell? ⟨w.heap.size+1,2,none⟩=some (.int .i64 0)) (first|assumption|(with_reducible exact ⟨k0,k1,k2,k3,k4,k5⟩)|go_keep) (first|(go_at_call 50;(first|(with_reducible refine (HSZ.out W0).mono ?_)|(with_reducible refine (HSZ.out W0.drew).mono ?_));rintro e W5 ⟨rfl,rfl⟩)|(go_at_call 39;(first|(with_reducible refine (HN.out W0 (bH _ _)).mono ?_)|(with_reducible refine (HN.out W0.drew (bH _ _).drew).mono ?_));rintro e W6 ⟨⟨z,rfl,hz,hfz⟩,hb6⟩;have hx6:Below W0.heap.size W0 W6:=(by first|exact (bH _ W0).drew.trans hb6|exact hb6);clear hb6;have k0:=aC hx6 s0;have k1:=aC hx6 s1;have k2:=aC hx6 s2;have k3:=aC hx6 t0;have k4:=aC hx6 t1;have k5:=aC hx6 t2))
     all_goals
      have HFZ:=aA hfz;have HB1:=aA (HB.out.trans (hx6.mono HB.out.size));have HS1:=aA (HS.out.below hx6);clear hx6 hfz s0 s1 s2 t0 t1 t2 k0 k1 k2 k3 k4 k5;simp only [Exit.then];go_wp2;go_ret;exact ⟨z,i,rfl,hz,HFZ.out,Nat.le_refl _,HS1.out,Exc.of_below HB1.out⟩
   · have HN:Hid (∀ W,Below W0.heap.size W0 W→Calls Tryd.prog 39 #[.agg #[sv,ev,.int .i64 root],.agg #[.int .u8 kind,.int .i64 ref,.int .i64 0],.int .u64 9223372036854775808] W fun e w'=>(∃ z:Nat,e=.returned (.int .u64 z)∧(z:Int)≤18446744073709551615∧dV (es.map Prod.fst) kind ref 0 z=true)∧Below W.heap.size W w'):=aA (fun W hb=>kK kind ref 9223372036854775808 root W (HG.out W (Exc.of_below (HB.out.trans (hb.mono HB.out.size)))) HT.out (by decide));have hw1:IntKind.i64.wrap 64=64:=by decide
     have hw2:IntKind.i64.wrap 63=63:=by decide
     have hw3:IntKind.u64.wrap 9223372036854775808=9223372036854775808:=by decide
     have HSZ:Hid (∀ W,Calls Tryd.prog 50 #[.int .i64 kind] W fun e w'=>e=.returned (.int .i64 8)∧W=w'):=aA (fun W=>by have h:=bY kind W;rw [hsz] at h;exact h)
     go_region_held3 (fun w'=>w'.cell? ⟨w.heap.size,0,none⟩=some sv∧w'.cell? ⟨w.heap.size,1,none⟩=some ev∧w'.cell? ⟨w.heap.size,2,none⟩=some (.int .i64 root)∧w'.cell? ⟨w.heap.size+1,0,none⟩=some (.int .u8 kind)∧w'.cell? ⟨w.heap.size+1,1,none⟩=some (.int .i64 ref)∧w'.cell? ⟨w.heap.size+1,2,none⟩=some (.int .i64 0)) (first|assumption|(with_reducible exact ⟨k0,k1,k2,k3,k4,k5⟩)|go_keep) (first|(go_at_call 50;(first|(with_reducible refine (HSZ.out W0).mono ?_)|(with_reducible refine (HSZ.out W0.drew).mono ?_));rintro e W5 ⟨rfl,rfl⟩)|(go_at_call 39;(first|(with_reducible refine (HN.out W0 (bH _ _)).mono ?_)|(with_reducible refine (HN.out W0.drew (bH _ _).drew).mono ?_));rintro e W6 ⟨⟨z,rfl,hz,hfz⟩,hb6⟩;have hx6:Below W0.heap.size W0 W6:=(by first|exact (bH _ W0).drew.trans hb6|exact hb6);clear hb6;have k0:=aC hx6 s0;have k1:=aC hx6 s1;have k2:=aC hx6 s2;have k3:=aC hx6 t0;have k4:=aC hx6 t1;have k5:=aC hx6 t2))
     all_goals
      have HFZ:=aA hfz;have HB1:=aA (HB.out.trans (hx6.mono HB.out.size));have HS1:=aA (HS.out.below hx6);clear hx6 hfz s0 s1 s2 t0 t1 t2 k0 k1 k2 k3 k4 k5;simp only [Exit.then];go_wp2;go_ret;exact ⟨z,i,rfl,hz,HFZ.out,Nat.le_refl _,HS1.out,Exc.of_below HB1.out⟩
 · go_enter Tryd.func68,Tryd.ntmps68;go_upto_region 1 with (fail);generalize ((w.alloc (.cells #[sv,ev,.int .i64 root] 31)).alloc (.cells #[.int .u8 kind,.int .i64 ref,.int .i64 0] 75)).alloc (.cells #[.string nm,.int .u8 fk,.int .i64 fr,.int .i64 fl,.int .u64 d] 77)=W0 at *;obtain ⟨_,s0,s1,s2,_⟩:=aS HQ1.out;obtain ⟨_,t0,t1,t2,_⟩:=aS HQ2.out;go_upto_region 9 with (fail);have hne0:w.heap.size≠g:=by have:=HGL.out;omega
   have hne1:w.heap.size+1≠g:=by have:=HGL.out;omega
   have HNX:Hid (∀ W,Below W0.heap.size W0 W→Calls Tryd.prog 67 #[.pointer (some ⟨g,0,none⟩)] W fun e w'=>∃ c i':Nat,e=.returned (.int .i64 c)∧c≤255∧i≤i'∧Src g a bs bc w' i'∧Exc g W.heap.size W w'):=aA (fun W hb=>kT g a bs bc i W (HS.out.below hb));have HN:Hid (∀ (c2:Nat) W,c2≤255→Exc g W0.heap.size W0 W→Calls Tryd.prog 39 #[.agg #[sv,ev,.int .i64 root],.agg #[.int .u8 kind,.int .i64 ref,.int .i64 0],.int .u64 c2] W fun e w'=>(∃ z:Nat,e=.returned (.int .u64 z)∧(z:Int)≤18446744073709551615∧dV (es.map Prod.fst) kind ref 0 z=true)∧Below W.heap.size W w'):=aA (fun c2 W h2 hb=>kK kind ref c2 root W (HG.out W (((Exc.of_below HB.out).trans (hb.mono HB.out.size)))) HT.out (by omega))
   go_region_held3 (fun w'=>w'.cell? ⟨w.heap.size,0,none⟩=some sv∧w'.cell? ⟨w.heap.size,1,none⟩=some ev∧w'.cell? ⟨w.heap.size,2,none⟩=some (.int .i64 root)∧w'.cell? ⟨w.heap.size+1,0,none⟩=some (.int .u8 kind)∧w'.cell? ⟨w.heap.size+1,1,none⟩=some (.int .i64 ref)∧w'.cell? ⟨w.heap.size+1,2,none⟩=some (.int .i64 0)) (first|assumption|(with_reducible exact ⟨j0,j1,j2,j3,j4,j5⟩)|(with_reducible exact ⟨k0,k1,k2,k3,k4,k5⟩)|go_keep) (first|(go_at_call 67;(first|(with_reducible refine (HNX.out W0 (bH _ _)).mono ?_)|(with_reducible refine (HNX.out W0.drew (bH _ _).drew).mono ?_));rintro e W5 ⟨c2,i2,rfl,hc2,hi2,hs5,hx5'⟩;have hx5:Exc g W0.heap.size W0 W5:=(by first|exact (Exc.refl g _ W0).drew.trans hx5'|exact hx5');clear hx5';have hcw:IntKind.u64.wrap (c2:Int)=c2:=IntWalk.u64_in _ (by omega);have j0:=(hx5.cell (p:=⟨w.heap.size,0,none⟩) (aD HQ1.out) hne0).trans s0;have j1:=(hx5.cell (p:=⟨w.heap.size,1,none⟩) (aD HQ1.out) hne0).trans s1;have j2:=(hx5.cell (p:=⟨w.heap.size,2,none⟩) (aD HQ1.out) hne0).trans s2;have j3:=(hx5.cell (p:=⟨w.heap.size+1,0,none⟩) (aD HQ2.out) hne1).trans t0;have j4:=(hx5.cell (p:=⟨w.heap.size+1,1,none⟩) (aD HQ2.out) hne1).trans t1;have j5:=(hx5.cell (p:=⟨w.heap.size+1,2,none⟩) (aD HQ2.out) hne1).trans t2)|(go_at_call 39;(first|(with_reducible refine (HN.out c2 W5 hc2 hx5).mono ?_)|(with_reducible refine (HN.out c2 W5.drew hc2 hx5.drew).mono ?_));rintro e W6 ⟨⟨z,rfl,hz,hfz⟩,hb6⟩;have hx6:Below W5.heap.size W5 W6:=(by first|exact (bH _ W5).drew.trans hb6|exact hb6);clear hb6;have k0:=aC hx6 j0;have k1:=aC hx6 j1;have k2:=aC hx6 j2;have k3:=aC hx6 j3;have k4:=aC hx6 j4;have k5:=aC hx6 j5))
   all_goals
    have HFZ:=aA hfz;have HB1:=aA (((Exc.of_below HB.out).thenB bD hx5).bel bD hx6);have HS1:=aA (hs5.below hx6);clear hx6 hx5 hs5 hfz s0 s1 s2 t0 t1 t2 k0 k1 k2 k3 k4 k5 j0 j1 j2 j3 j4 j5;simp only [Exit.then];go_wp2;go_ret;exact ⟨z,i2,rfl,hz,HFZ.out,hi2,HS1.out,HB1.out⟩
 · go_enter Tryd.func68,Tryd.ntmps68;go_upto_region 1 with (fail);generalize ((w.alloc (.cells #[sv,ev,.int .i64 root] 31)).alloc (.cells #[.int .u8 kind,.int .i64 ref,.int .i64 0] 75)).alloc (.cells #[.string nm,.int .u8 fk,.int .i64 fr,.int .i64 fl,.int .u64 d] 77)=W0 at *;obtain ⟨_,s0,s1,s2,_⟩:=aS HQ1.out;obtain ⟨_,t0,t1,t2,_⟩:=aS HQ2.out;go_upto_region 12 with (fail);have hgl:=HGL.out;have hne0:w.heap.size≠g:=by omega
   have hne1:w.heap.size+1≠g:=by omega
   have HN:Hid (∀ (z:Nat) W,(z:Int)≤18446744073709551615→Exc g W0.heap.size W0 W→Calls Tryd.prog 39 #[.agg #[sv,ev,.int .i64 root],.agg #[.int .u8 kind,.int .i64 ref,.int .i64 0],.int .u64 z] W fun e w'=>(∃ z:Nat,e=.returned (.int .u64 z)∧(z:Int)≤18446744073709551615∧dV (es.map Prod.fst) kind ref 0 z=true)∧Below W.heap.size W w'):=aA (fun z W h2 hb=>kK kind ref z root W (HG.out W (((Exc.of_below HB.out).trans (hb.mono HB.out.size)))) HT.out h2);have HE:=aA (Exc.refl g W0.heap.size W0);clear s0 s1 s2 t0 t1 t2;go_loopw [12,11] (fun x n wr=>aGg g a bs bc i W0 x n wr) (fun x _ _=>8-(intOf x).toNat)
   case atStart=>exact ⟨0,0,i,by decide,rfl,rfl,by decide,Nat.le_refl _,HS.out,HE.out⟩
   case round =>
    obtain ⟨j,z,i2,hj,rfl,rfl,hz,hi2,hs,hb⟩:=hrel;have HSW:=aA hs;have HBW:=aA hb;clear hs hb;by_cases hjl:j<8
    · have hji:(j:Int)<8:=by omega
      go_wp2_with fail;refine (kT g a bs bc i2 wr HSW.out).mono ?_;rintro e W5 ⟨c2,i3,rfl,hc2,hi3,hs5,hx5⟩;have HS5:=aA hs5;have HB5:=aA (HBW.out.thenB bD hx5);clear hs5 hx5;go_wp2;go_roundw
      case rel =>
       obtain ⟨z2,hz2,hm2⟩:=aFU (IntKind.u64.wrap (z * 256)) c2;exact ⟨j+1,z2,i3,by omega,by go_num,by rw [hz2],hm2,by omega,HS5.out,HB5.out⟩
      case measure=>simp [intOf];omega
    · obtain rfl:j=8:=by omega
      obtain ⟨_,s0,s1,s2,_⟩:=aS (aZ HQ1.out HBW.out (aD HQ1.out) hne0);obtain ⟨_,t0,t1,t2,_⟩:=aS (aZ HQ2.out HBW.out (aD HQ2.out) hne1);go_wp2_with fail;refine (HN.out z wr hz HBW.out).mono ?_;rintro e W6 ⟨⟨z2,rfl,hz2,hfz⟩,hb6⟩;have HFZ:=aA hfz;have HB6:=aA (((Exc.of_below HB.out).thenB bD HBW.out).bel bD hb6);have HS6:=aA (HSW.out.below hb6);clear hb6 hfz s0 s1 s2 t0 t1 t2;go_wp2;go_ret;exact ⟨z2,i2,rfl,hz2,HFZ.out,hi2,HS6.out,HB6.out⟩
def fF (ss:List (bK × Value)):List (cO × Value):=ss.map fun q=>(cR q.1,q.2)
theorem rJ (ss:List (bK × Value)):(fF ss).length=ss.length:=List.length_map _
theorem yG (ss:List (bK × Value)):(fF ss).map Prod.fst=(ss.map Prod.fst).map cR:=by unfold fF;rw [List.map_map,List.map_map];rfl
theorem xQ {p:dM}{ss:List (bK × Value)}(hss:ss.map Prod.fst=jM p p.structs.length):∀ q ∈ fF ss,∃ i,i<p.structs.length∧(p.structs.getD i []).length=q.1.fields.length∧q.1.name=jX i∧∀ f ∈ q.1.fields,∃ k,k<(p.structs.getD i []).length∧f=cF (uK p i k ((p.structs.getD i []).getD k nA)):=by
 intro q hq;obtain ⟨x,hx,rfl⟩:=rX.1 hq;have h1:x.1 ∈ jM p p.structs.length:=by rw [←hss];exact rX.2 ⟨x,hx,rfl⟩
 obtain ⟨i,hi,h2⟩:=rX.1 h1;refine ⟨i,List.mem_range.1 hi,?_,by rw [←h2];rfl,fun f hf=>?_⟩
 · show _=(x.1.fields.map cF).length;rw [←h2];show _=((lR p i _ _).map cF).length;rw [List.length_map,mX]
 · obtain ⟨y,hy,rfl⟩:=rX.1 (show f ∈ x.1.fields.map cF from hf);rw [←h2] at hy;obtain ⟨k,hk,rfl⟩:=rX.1 (show y ∈ (List.range _).map _ from hy);exact ⟨k,List.mem_range.1 hk,rfl⟩
theorem aE0 {p:dM}{i k:Nat}{f:PF}(hi:i<p.structs.length):1≤(cF (uK p i k f)).kind∧(cF (uK p i k f)).kind≤13∧0≤(cF (uK p i k f)).lists∧(cF (uK p i k f)).lists≤3∧((cF (uK p i k f)).kind=13→0≤(cF (uK p i k f)).ref∧(cF (uK p i k f)).ref<p.structs.length):=by
 have hk:=tV p i f;refine ⟨hk.1,hk.2,Int.natCast_nonneg _,?_,fun h=>⟨Int.natCast_nonneg _,?_⟩⟩
 · have:=Nat.mod_lt f.lists (show 0<4 by decide);show ((f.lists % 4:Nat):Int)≤3;omega
 · have:=rC hi (show dK p i f=13 from h);show ((gC p i f:Nat):Int)<_;omega
theorem aCn {p:dM}(hn:tE p){ss:List (bK × Value)}(hss:ss.map Prod.fst=jM p p.structs.length):qO (fF ss):=by
 intro q hq f hf;obtain ⟨i,hi,_,_,hall⟩:=xQ hss q hq;obtain ⟨k,hk,rfl⟩:=hall f hf;obtain ⟨h1,h2,h3,h4,_⟩:=aE0 (k:=k) (f:=(p.structs.getD i []).getD k nA) hi;refine ⟨by omega,by omega,by omega,?_⟩;show (if _ then gM _ _ _ else 0:Nat)≤_;split
 · have:=pQ (jN p (gC p i ((p.structs.getD i []).getD k nA))) (dK p i ((p.structs.getD i []).getD k nA)) _ (hn i hi k hk);omega
 · omega
theorem aDc {p:dM}{ss:List (bK × Value)}(hok:kN p)(hss:ss.map Prod.fst=jM p p.structs.length):1≤ss.length∧ss.length≤16∧ss.length=p.structs.length:=by
 have hl:ss.length=p.structs.length:=by
  have:=congrArg List.length hss
  rwa [List.length_map,mT] at this
 rw [hl];exact ⟨hok.1,hok.2.1,rfl⟩
end Go.Proofs.YtpbaaiilfkacnaaDoor
