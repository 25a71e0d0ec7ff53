/-
  The document's own reading of tables: a struct at a place. Conditions: those that each theorem names.
-/
import Derived.Test.YtpbaaiilfkacnaaDoorPkQ26
namespace Go.Proofs.YtpbaaiilfkacnaaDoor
open Go.ChangeShapes Go.WideShapes Go.ChangeAt Go.RowKit Go.Shelf
set_option maxRecDepth 100000
set_option maxHeartbeats 16000000
theorem mR {k l:Nat}(h:aT k l≠1):cK k l=false:=by
 unfold cK;by_cases h0:(l:Int)=0
 · rw [h0] at h;unfold aT at h;rw [if_neg (by decide),if_neg (by decide)] at h;by_cases h1:0<aP k
   · rw [bG h1] at h;exact absurd rfl h
   · rw [iB h1,Bool.and_false]
 · rw [iB h0,Bool.false_and]
variable {base B:Nat} {W W':World} {rk:Nat} {sv ev:Value} {root:Int} {bp:Option Addr} {bc:Nat} {zs:List Int} {ss:List (bK × Value)} {es:List (aX × Value)} {left l':Int}
theorem gF (h:DCtx base B W rk sv ev root bp bc zs ss es left)(at':Int)(ha : -1000000000≤at'∧at'≤1000000000) :
  Calls Tryd.prog 70 #[.pointer (some ⟨rk,0,none⟩),.int .i64 at'] W fun e w'=>e=.returned (.int .i64 (eR zs at'))∧RdSt w' rk sv ev root bp bc zs (aH zs-left) (jJ zs at')∧Exw rk rk W.heap.size W w':=by
 refine (aA9 W h.st h.rows.rowV at' (by omega)).mono ?_;rintro e w' ⟨rfl,hs,hx⟩;rw [Bool.false_or] at hs;exact ⟨rfl,hs,hx⟩
theorem bJ {res:Option (PV × Int)}{w w':World}{val:Value}(hr:res=none)(hx:Exw rk rk w.heap.size w w')(hf:rL val){rc:Int}(h0:0≤rc)(h1:rc≤1000000000000)(hs:RdSt w' rk sv ev root bp bc zs rc true):RdPost res w rk sv ev root bp bc zs (.returned val) w':=
 ⟨hx,.inr ⟨hr,⟨val,rfl,hf⟩,rc,h0,h1,hs⟩⟩
theorem oC (w:World)(h:DCtx base B w rk sv ev root bp bc zs ss es left)(k r l:Nat)(at':Int)(room:Int)(ht:oN ss.length (es.map Prod.fst) k r l)(hs:aT k l=2∨aT k l=3)(ha : -1000000000≤at'∧at'≤1000000000)(hbad:(jJ zs at' || !cV (aH zs) (eR zs at') 4)=true){res:Option (PV × Int)}(hres:res=none) :
  Calls Tryd.prog 91 #[.pointer (some ⟨rk,0,none⟩),.agg #[.int .u8 k,.int .i64 r,.int .i64 l],.int .i64 at',.int .i64 room] w (RdPost res w rk sv ev root bp bc zs):=by
 have hs1:aT k l≠1:=by omega
 obtain ⟨hb,hq1,hq2⟩:=bF w #[.int .u8 k,.int .i64 r,.int .i64 l] #[.int .u64 0,.slice none 0 0,.slice none 0 0,.bool false] 75 38;have HB:=aA hb;have HQ1:=aA hq1;have HQ2:=aA hq2;have H0:=aA (h.below hb);have HH0:=aA h;have HV:=aA h.rows.rowV;have HZB:=aA h.st.bytes.1;have HRK:Hid (rk<w.heap.size):=aA (aD h.st.blk);have HAT:=aA ha;have hk13:=ht.hi;have HNT:Hid (∀ W,Calls Tryd.prog 38 #[.agg #[.int .u8 k,.int .i64 r,.int .i64 l]] W fun e w'=>e=.returned (.bool false)∧Below W.heap.size W w'):=aA (fun W=>by have h5:=cD k (by omega) r l W;rw [mR hs1] at h5;exact h5)
 have HRES:=aA hres;have HBAD:=aA hbad;have HLL:Hid (0≤aH zs-left∧aH zs-left≤1000000000000):=aA (by have:=h.len;have:=h.hl;omega);obtain ⟨P,hP⟩:∃ P,RdPost res w rk sv ev root bp bc zs=P:=⟨_,rfl⟩;rw [hP];have HP:=aA hP.symm;have hty:=jG ht;clear hb hq1 hq2 h hP hbad hres hs1 hk13 ha ht;rcases hty with ⟨hl,hs3⟩|⟨_,_,_,hs3⟩|⟨hl,hk,hs3⟩|⟨_,_,hs3⟩
 · have hl0:((l:Int)==0)=false:=by simp;omega
   clear hs hs3 hl;go_enter Tryd.func91,Tryd.ntmps91;go_upto_region 1 with (fail);generalize (w.alloc (.cells #[.int .u8 k,.int .i64 r,.int .i64 l] 75)).alloc (.cells #[.int .u64 0,.slice none 0 0,.slice none 0 0,.bool false] 38)=W0 at *;obtain ⟨_,c0,c1,c2,c3,c4,c5⟩:=bB H0.out.st.blk;obtain ⟨_,s0,s1,s2,_⟩:=aS HQ1.out;go_wp2_with fail;refine (HNT.out _).mono ?_;rintro e W1 ⟨rfl,hb1⟩;have HB1:=aA (HB.out.trans (hb1.mono HB.out.size));have H1:=aA (H0.out.below hb1);have P1:=aA (aE HQ1.out hb1 (aD HQ1.out));have P2:=aA (aE HQ2.out hb1 (aD HQ2.out));clear hb1 c0 c1 c2 c3 c4 c5 s0 s1 s2;go_wp2_with fail;refine (gF H1.out at' HAT.out).mono ?_;rintro e W2 ⟨rfl,hs2,hx2⟩;have HX2:=aA (Exw.after HB1.out hx2);have S2:=aA hs2
   have P12:=aA (aL P1.out hx2 (aD P1.out) (by have:=HRK.out;omega) (by have:=HRK.out;omega));have P22:=aA (aL P2.out hx2 (aD P2.out) (by have:=HRK.out;omega) (by have:=HRK.out;omega));clear hs2 hx2;obtain ⟨_,s0,s1,s2,_⟩:=aS P12.out;go_wp2_with fail;refine (eL W2 S2.out HV.out _ 4 (.inr rfl)).mono ?_;rintro e W3 ⟨rfl,hs3,hx3⟩;rw [show (jJ zs at' || !cV (aH zs) (eR zs at') ((4:Nat):Int))=true from HBAD.out] at hs3;have HX3:=aA (HX2.out.then hx3);have S3:=aA hs3;have P23:=aA (aL P22.out hx3 (aD P22.out) (by have:=HRK.out;omega) (by have:=HRK.out;omega));clear hs3 hx3 s0 s1 s2;obtain ⟨_,c0,c1,c2,c3,c4,c5⟩:=bB S3.out.blk;obtain ⟨_,u0,u1,u2,u3⟩:=aF P23.out;have p0:=aB P23.out 0;have p1:=aB P23.out 1;have p2:=aB P23.out 2;have p3:=aB P23.out 3;go_wp2
   refine aI (fun Wf=>Wf.heap[w.heap.size+1]?=some (.cells #[.int .u64 0,.slice none 0 0,.slice none 0 0,.bool false] 38 (0,0))∧P (.returned (.agg #[.int .u64 0,.slice none 0 0,.slice none 0 0,.bool false])) Wf) ⟨?_,?_⟩ ?_
   · exact aO P23.out _ _ _ _
   · rw [HP.out];have hx4:=((((HX3.out).setCell (p:=⟨w.heap.size+1,0,none⟩) (.inr (.inr (show w.heap.size≤w.heap.size+1 by omega))) (.int .u64 0)).setCell (p:=⟨w.heap.size+1,1,none⟩) (.inr (.inr (show w.heap.size≤w.heap.size+1 by omega))) (.slice none 0 0)).setCell (p:=⟨w.heap.size+1,2,none⟩) (.inr (.inr (show w.heap.size≤w.heap.size+1 by omega))) (.slice none 0 0)).setCell (p:=⟨w.heap.size+1,3,none⟩) (.inr (.inr (show w.heap.size≤w.heap.size+1 by omega))) (.bool false);exact bJ HRES.out hx4 (dJ _ _ _ _ _ _ _ _) HLL.out.1 HLL.out.2 (HH0.out.st.keep HV.out hx4 ((aQ W3 (by have:=HRK.out;omega) _ _ _ _).trans S3.out.blk))
   · rintro Wf ⟨e1,e2⟩;obtain ⟨_,d0,d1,d2,d3⟩:=aF e1;exact dZ (v:=.agg #[.int .u64 0,.slice none 0 0,.slice none 0 0,.bool false]) (by simp [results,Tryd.results91,go_sem,d0,d1,d2,d3]) rfl e2
 · rw [hs3] at hs;omega
 · have hl0:((l:Int)==0)=true:=by simp;omega
   have hk0:((k:Int)==13)=false:=by simp;omega
   clear hs hs3 hl hk;go_enter Tryd.func91,Tryd.ntmps91;go_upto_region 1 with (fail);generalize (w.alloc (.cells #[.int .u8 k,.int .i64 r,.int .i64 l] 75)).alloc (.cells #[.int .u64 0,.slice none 0 0,.slice none 0 0,.bool false] 38)=W0 at *;obtain ⟨_,c0,c1,c2,c3,c4,c5⟩:=bB H0.out.st.blk;obtain ⟨_,s0,s1,s2,_⟩:=aS HQ1.out;go_wp2_with fail;refine (HNT.out _).mono ?_;rintro e W1 ⟨rfl,hb1⟩;have HB1:=aA (HB.out.trans (hb1.mono HB.out.size));have H1:=aA (H0.out.below hb1);have P1:=aA (aE HQ1.out hb1 (aD HQ1.out));have P2:=aA (aE HQ2.out hb1 (aD HQ2.out));clear hb1 c0 c1 c2 c3 c4 c5 s0 s1 s2;go_wp2_with fail;refine (gF H1.out at' HAT.out).mono ?_;rintro e W2 ⟨rfl,hs2,hx2⟩;have HX2:=aA (Exw.after HB1.out hx2);have S2:=aA hs2
   have P12:=aA (aL P1.out hx2 (aD P1.out) (by have:=HRK.out;omega) (by have:=HRK.out;omega));have P22:=aA (aL P2.out hx2 (aD P2.out) (by have:=HRK.out;omega) (by have:=HRK.out;omega));clear hs2 hx2;obtain ⟨_,s0,s1,s2,_⟩:=aS P12.out;go_wp2_with fail;refine (eL W2 S2.out HV.out _ 4 (.inr rfl)).mono ?_;rintro e W3 ⟨rfl,hs3,hx3⟩;rw [show (jJ zs at' || !cV (aH zs) (eR zs at') ((4:Nat):Int))=true from HBAD.out] at hs3;have HX3:=aA (HX2.out.then hx3);have S3:=aA hs3;have P23:=aA (aL P22.out hx3 (aD P22.out) (by have:=HRK.out;omega) (by have:=HRK.out;omega));clear hs3 hx3 s0 s1 s2;obtain ⟨_,c0,c1,c2,c3,c4,c5⟩:=bB S3.out.blk;obtain ⟨_,u0,u1,u2,u3⟩:=aF P23.out;have p0:=aB P23.out 0;have p1:=aB P23.out 1;have p2:=aB P23.out 2;have p3:=aB P23.out 3;go_wp2
   refine aI (fun Wf=>Wf.heap[w.heap.size+1]?=some (.cells #[.int .u64 0,.slice none 0 0,.slice none 0 0,.bool false] 38 (0,0))∧P (.returned (.agg #[.int .u64 0,.slice none 0 0,.slice none 0 0,.bool false])) Wf) ⟨?_,?_⟩ ?_
   · exact aO P23.out _ _ _ _
   · rw [HP.out];have hx4:=((((HX3.out).setCell (p:=⟨w.heap.size+1,0,none⟩) (.inr (.inr (show w.heap.size≤w.heap.size+1 by omega))) (.int .u64 0)).setCell (p:=⟨w.heap.size+1,1,none⟩) (.inr (.inr (show w.heap.size≤w.heap.size+1 by omega))) (.slice none 0 0)).setCell (p:=⟨w.heap.size+1,2,none⟩) (.inr (.inr (show w.heap.size≤w.heap.size+1 by omega))) (.slice none 0 0)).setCell (p:=⟨w.heap.size+1,3,none⟩) (.inr (.inr (show w.heap.size≤w.heap.size+1 by omega))) (.bool false);exact bJ HRES.out hx4 (dJ _ _ _ _ _ _ _ _) HLL.out.1 HLL.out.2 (HH0.out.st.keep HV.out hx4 ((aQ W3 (by have:=HRK.out;omega) _ _ _ _).trans S3.out.blk))
   · rintro Wf ⟨e1,e2⟩;obtain ⟨_,d0,d1,d2,d3⟩:=aF e1;exact dZ (v:=.agg #[.int .u64 0,.slice none 0 0,.slice none 0 0,.bool false]) (by simp [results,Tryd.results91,go_sem,d0,d1,d2,d3]) rfl e2
 · rw [hs3] at hs;omega
theorem uU (w:World){rc:Int}(h:RdSt w rk sv ev root bp bc zs rc true)(hv:lU sv∧lU ev)(h0:0≤rc)(h1:rc≤1000000000000)(at' k room:Int){res:Option (PV × Int)}(hres:res=none) :
  Calls Tryd.prog 69 #[.pointer (some ⟨rk,0,none⟩),.int .i64 at',.int .i64 k,.int .i64 room] w (RdPost res w rk sv ev root bp bc zs):=by
 have hb:=(bH w.heap.size w).alloc bD (.cells #[.int .u64 0,.slice none 0 0,.slice none 0 0,.bool false] 38);have HB:=aA hb;have HQ:=aA (cN w (.cells #[.int .u64 0,.slice none 0 0,.slice none 0 0,.bool false] 38));have H0:=aA (h.below hb);have HV:=aA hv;have HH0:=aA h;have HRES:=aA hres;have HRC:=aA (cJ h0 h1);have HRK:Hid (rk<w.heap.size):=aA (aD h.blk);have hbd:0≤dU zs at' 4∧dU zs at' 4<4294967296:=by
  unfold dU;split
  · exact dW zs _ h.bytes.1
  · omega
 have hsg:=sB hbd.1 hbd.2;have hsb:=sK hbd.1 hbd.2;have HN:=aA (fun W (hW:RdSt W rk sv ev root bp bc zs rc true)=>eL W hW hv at' 4 (.inr rfl));generalize kU (dU zs at' 4)=s at *;generalize dU zs at' 4=z at *;have hws:=cU s;obtain ⟨P,hP⟩:∃ P,RdPost res w rk sv ev root bp bc zs=P:=⟨_,rfl⟩;rw [hP];have HP:=aA hP.symm;clear hb h hP hres h0 h1 hv hbd hsb;go_enter Tryd.func69,Tryd.ntmps69;go_upto_region 1 with (fail);generalize w.alloc (.cells #[.int .u64 0,.slice none 0 0,.slice none 0 0,.bool false] 38)=W0 at *;go_wp2_with fail;refine (HN.out W0 H0.out).mono ?_;rintro e W1 ⟨rfl,hs1,hx1⟩;rw [Bool.true_or] at hs1;have HX1:=aA (Exw.after HB.out hx1);have S1:=aA hs1;have P1:=aA (aL HQ.out hx1 (aD HQ.out) (by have:=HRK.out;omega) (by have:=HRK.out;omega));obtain ⟨_,c0,c1,c2,c3,c4,c5⟩:=bB S1.out.blk
 have f3:=aB S1.out.blk 5;have HS2:=aA ((aN S1.out.blk 5 (.bool true)).trans rfl);have HXS:=aA (HX1.out.setCell (p:=⟨rk,5,none⟩) (.inl rfl) (.bool true));have P2:=aA (bA P1.out (p:=⟨rk,5,none⟩) (by have:=HRK.out;show rk≠_;omega) (.bool true));clear hs1 hx1;go_upto_region 4 with (fail);clear c0 c1 c2 c3 c4 c5 f3;generalize W1.setCell ⟨rk,5,none⟩ (.bool true)=W2 at *;obtain ⟨_,u0,u1,u2,u3⟩:=aF P2.out;have p0:=aB P2.out 0;have p1:=aB P2.out 1;have p2:=aB P2.out 2;have p3:=aB P2.out 3;go_wp2;refine aI (fun Wf=>Wf.heap[w.heap.size]?=some (.cells #[.int .u64 0,.slice none 0 0,.slice none 0 0,.bool false] 38 (0,0))∧P (.returned (.agg #[.int .u64 0,.slice none 0 0,.slice none 0 0,.bool false])) Wf) ⟨?_,?_⟩ ?_
 · exact aO P2.out _ _ _ _
 · rw [HP.out];have hx4:=((((HXS.out).setCell (p:=⟨w.heap.size,0,none⟩) (.inr (.inr (show w.heap.size≤w.heap.size by omega))) (.int .u64 0)).setCell (p:=⟨w.heap.size,1,none⟩) (.inr (.inr (show w.heap.size≤w.heap.size by omega))) (.slice none 0 0)).setCell (p:=⟨w.heap.size,2,none⟩) (.inr (.inr (show w.heap.size≤w.heap.size by omega))) (.slice none 0 0)).setCell (p:=⟨w.heap.size,3,none⟩) (.inr (.inr (show w.heap.size≤w.heap.size by omega))) (.bool false);exact bJ HRES.out hx4 (dJ _ _ _ _ _ _ _ _) HRC.out.1 HRC.out.2 (HH0.out.keep HV.out hx4 ((aQ W2 (by have:=HRK.out;omega) _ _ _ _).trans HS2.out))
 · rintro Wf ⟨e1,e2⟩;obtain ⟨_,d0,d1,d2,d3⟩:=aF e1;exact dZ (v:=.agg #[.int .u64 0,.slice none 0 0,.slice none 0 0,.bool false]) (by simp [results,Tryd.results69,go_sem,d0,d1,d2,d3]) rfl e2
theorem aCq:(Tryd.prog.info? 38).map (fun i=>(i.zero,i.size,i.bytes))=some (some (.agg #[.int .u64 0,.slice none 0 0,.slice none 0 0,.bool false]),4,64):=by kernel_rfl
theorem Exw.exc {R B:Nat}{w W:World}(h:Exw R R B w W):Exc R B w W:=⟨h.os,h.tape,h.output,h.size,fun k hk hr=>h.block k hk hr hr⟩
theorem RdPost.form {res:Option (PV × Int)}{w w':World}{rk:Nat}{sv ev:Value}{root:Int}{bp:Option Addr}{bc:Nat}{zs:List Int}{e:Ending}(h:RdPost res w rk sv ev root bp bc zs e w'):∃ x0 x1 x2 x3,e=.returned (.agg #[x0,x1,x2,x3])∧rL (.agg #[x0,x1,x2,x3])∧Exw rk rk w.heap.size w w' ∧
  ((∃ v l',res=some (v,l')∧(0≤l'∧l'≤aH zs)∧VH (cW w.heap.size) w' v (.agg #[x0,x1,x2,x3])∧RdSt w' rk sv ev root bp bc zs (aH zs-l') false)∨(res=none∧∃ rc,0≤rc∧rc≤1000000000000∧RdSt w' rk sv ev root bp bc zs rc true)):=by
 obtain ⟨hx,h1⟩:=h;rcases h1 with ⟨v,l',val,hr,hl,rfl,hv,hs⟩|⟨hr,⟨val,rfl,n,ba,bl,bc',ka,kl,kc,h,rfl⟩,hrc⟩
 · obtain ⟨ba,ka,bc',kc,rfl,_⟩:=IsV.form hv;exact ⟨_,_,_,_,rfl,dJ _ _ _ _ _ _ _ _,hx,.inl ⟨v,l',hr,hl,hv,hs⟩⟩
 · exact ⟨_,_,_,_,rfl,dJ _ _ _ _ _ _ _ _,hx,.inr ⟨hr,hrc⟩⟩
theorem pS {rk O Bk cap:Nat}{wr V6 V:World}{A:Option Addr}{l:List KV}{x0 x1 x2 x3:Value}{has:Bool}(hrk:rk<O)(hO:wr.heap[O]?=some (.cells #[.int .u64 0,.slice none 0 0,.slice A l.length cap,.bool has] 38 (0,0)))
  (hrow:wr.ownsRow (O+1) 38 4 (.slice A l.length cap) l.length (bU l)) (hx:Exw rk rk wr.heap.size wr V6) (h7:Below V6.heap.size V6 V) (hb:V.heap[Bk]?=some (.cells #[x0,x1,x2,x3] 38 (0,0))) (hf:rL (.agg #[x0,x1,x2,x3])) (hlen:l.length≤1000000) :
  ∃ (a4:Option Addr) (c4:Nat) (V':World),(Builtin.append_ #[36,36] 36 #[.slice A l.length cap,.slice (some ⟨Bk,0,none⟩) 1 1]).run Tryd.prog V=.ok (.slice a4 (l.length+1) c4) V' ∧
   V'.heap[O]?=some (.cells #[.int .u64 0,.slice none 0 0,.slice A l.length cap,.bool has] 38 (0,0)) ∧
   Exw rk rk O wr (V'.setCell ⟨O,2,none⟩ (.slice a4 (l.length+1) c4))∧(V'.setCell ⟨O,2,none⟩ (.slice a4 (l.length+1) c4)).heap[rk]?=V6.heap[rk]? ∧
   (V'.setCell ⟨O,2,none⟩ (.slice a4 (l.length+1) c4)).heap[O]?=some (.cells #[.int .u64 0,.slice none 0 0,.slice a4 (l.length+1) c4,.bool has] 38 (0,0)) ∧
   (∀ v:PV,(V'.setCell ⟨O,2,none⟩ (.slice a4 (l.length+1) c4)).ownsRow (O+1) 38 4 (.slice a4 (l.length+1) c4) (l.length+1) (bU (l++[⟨v,x0,x1,x2,x3⟩]))) ∧
   (∀ p u,(Value.slice A l.length cap).ownBlock≠some p.block→V.cell? p=some u→V'.cell? p=some u) ∧
   (∀ v:PV,KidsIn (lK (O+1) (.slice A l.length cap)) wr l→VH (cW wr.heap.size) V6 v (.agg #[x0,x1,x2,x3])→KidsIn (lK (O+1) (.slice a4 (l.length+1) c4)) (V'.setCell ⟨O,2,none⟩ (.slice a4 (l.length+1) c4)) (l++[⟨v,x0,x1,x2,x3⟩])):=by
 obtain ⟨i0,hi0,hz0,hz1,hz2⟩:=info_parts aCq;have hOlt:=aD hO;have hown:∀ k,(Value.slice A l.length cap).ownBlock=some k→O+1≤k∧k<wr.heap.size:=aV hrow;have hs6:=hx.size;have hs7:=h7.size;have hrow6:=bE h7 (hx.ownsRow hrow (fun e=>by have:=(hown _ e).1;omega) (fun e=>by have:=(hown _ e).1;omega));obtain ⟨n,ba,bl,bc,ka,kl,kc,h,he⟩:=hf;injection he with he;simp only [Array.mk.injEq,List.cons.injEq,and_true] at he;obtain ⟨e0,e1,e2,e3⟩:=he;obtain ⟨v4,V',hrun,hw,hg,_,hat⟩:=run_append_own_at (P:=Tryd.prog) V (O+1) 36 36 38 i0 _ 4 64 Tryd.underlying36 hi0 hz0 hz1 hz2 rfl (by decide) _ l.length _ hrow6 ⟨Bk,0,none⟩ 1 1 [x0,x1,x2,x3] rfl (World.news_of_block hb) (by
  intro u hu;simp only [List.mem_cons,List.not_mem_nil,or_false] at hu;rcases hu with rfl|rfl|rfl|rfl
  · rw [e0];rfl
  · rw [e1];rfl
  · rw [e2];rfl
  · rw [e3];rfl) (by unfold maxLen;omega) (by omega) (by omega)
 obtain ⟨a4,c4,rfl⟩:=aJ hw;have hblk:∀ k,k<V6.heap.size→(Value.slice A l.length cap).ownBlock≠some k→V'.heap[k]?=V6.heap[k]?:=fun k hk hne=>(hg.block k (by omega) (fun e=>hne e.symm)).trans (h7.block k hk);have hno:∀ k,k≤O→(Value.slice A l.length cap).ownBlock≠some k:=fun k hk e=>by have:=(hown k e).1;omega
 have hset:∀ k,k≠O→(V'.setCell ⟨O,2,none⟩ (.slice a4 (l.length+1) c4)).heap[k]?=V'.heap[k]?:=fun k hk=>oG _ _ _ _ (by show k≠O;exact hk);have hO':V'.heap[O]?=some (.cells #[.int .u64 0,.slice none 0 0,.slice A l.length cap,.bool has] 38 (0,0)):=(hblk O (by omega) (hno O bD)).trans ((hx.block O hOlt (by omega) (by omega)).trans hO);refine ⟨a4,c4,V',hrun,hO',⟨?_,?_,?_,?_,fun k hk h1 _=>?_⟩,?_,(aN hO' 2 _).trans rfl,fun v=>?_,fun p u hp hu=>?_,fun v hK hq=>?_⟩
 · exact hg.os.trans (h7.os.trans hx.os)
 · exact hg.tape.trans (h7.tape.trans hx.tape)
 · exact hg.output.trans (h7.output.trans hx.output)
 · have:=hg.size;rw [show (V'.setCell ⟨O,2,none⟩ (.slice a4 (l.length+1) c4)).heap.size=V'.heap.size by simp [World.setCell]];omega
 · exact (hset k (by omega)).trans ((hblk k (by omega) (hno k (by omega))).trans (hx.block k (by omega) h1 h1))
 · exact (hset rk (by omega)).trans (hblk rk (by omega) (hno rk (by omega)))
 · rw [fH];exact ownsRow_setCell_below (a:=⟨O,2,none⟩) hw (Nat.lt_succ_self O) _
 · exact (World.cell?_of_block (w:=V) (a:=p) (hg.block p.block (cP hu) (fun e=>hp e.symm))).trans hu
 · exact jE (g:=rk) (N:=V.heap.size) (q:=⟨v,x0,x1,x2,x3⟩) hK hx.exc (by omega) hOlt (fun k hk=>(hown k hk).2) hq h7 hg hat bD 2 _
structure kZ (room:Nat):Prop where
 run:∀ {base B:Nat} {W:World} {rk:Nat} {sv ev:Value} {root:Int} {bp:Option Addr} {bc:Nat} {zs:List Int} {ss:List (bK × Value)} {es:List (aX × Value)} {left:Int},DCtx base B W rk sv ev root bp bc zs ss es left→∀ (k r l:Nat) (at':Int),oN ss.length (es.map Prod.fst) k r l → -1000000000≤at'∧at'≤1000000000 →
  Calls Tryd.prog 91 #[.pointer (some ⟨rk,0,none⟩),.agg #[.int .u8 k,.int .i64 r,.int .i64 l],.int .i64 at',.int .i64 room] W (RdPost (bV (aG ss) (es.map Prod.fst) zs room k r l at' left) W rk sv ev root bp bc zs)
theorem kC {zs:List Int}{nx:Option jL}{k:Nat}{r lists to left m st:Int}{n:Nat}(h1:cV (aH zs) to 4=true)(hn:aY zs to.toNat 4=n)(hst:bN k lists=st)(hm:m=4+n * st) :
  bM zs nx k r lists to left=if dC zs to m left=true then (match nx with
   | none=>if n=0 then some (.mk 0 [] [] false,left-m) else none
   | some f=>match eB (fun j l=>f k r lists (to+4+j * st) l) (left-m) n with
    | none=>none
    | some (ks,l)=>some (.mk 0 [] ks false,l)) else none:=by
 unfold bM dC;rw [bG h1,hn,hst,←hm,lN];simp only [Bool.and_eq_true,decide_eq_true_eq];cases nx with
 | none=>simp only [Int.natCast_eq_zero]
 | some f=>rfl
def aBz (w:World)(E R O:Nat)(rk:Nat)(sv ev:Value)(root:Int)(bp:Option Addr)(bc:Nat)(zs:List Int)(tcells:Array Value)(g:Nat→Int→Option (PV × Int))(left1:Int)(n:Nat)(x:Value)(wr:World):Prop:=∃ (A:Option Addr) (cap:Nat) (l:List KV) (rc:Int) (bad:Bool),l.length≤n∧x=.int .i64 l.length ∧
 wr.heap[O]?=some (.cells #[.int .u64 0,.slice none 0 0,.slice A l.length cap,.bool false] 38 (0,0))∧wr.ownsRow (O+1) 38 4 (.slice A l.length cap) l.length (bU l)∧wr.heap[R]?=some (.cells #[.int .u64 0,.slice none 0 0,.slice none 0 0,.bool false] 38 (0,0))∧wr.heap[E]?=some (.cells tcells 75 (0,0)) ∧
 Exw rk rk w.heap.size w wr∧RdSt wr rk sv ev root bp bc zs rc bad ∧
 ((bad=false∧∃ l',0≤l'∧l'≤aH zs∧rc=aH zs-l'∧eB g left1 l.length=some (l.map KV.v,l')∧KidsIn (lK (O+1) (.slice A l.length cap)) wr l)∨(bad=true∧0≤rc∧rc≤1000000000000∧eB g left1 n=none))
variable {base B:Nat} {W W':World} {rk:Nat} {sv ev:Value} {root:Int} {bp:Option Addr} {bc:Nat} {zs:List Int} {ss:List (bK × Value)} {es:List (aX × Value)} {left l':Int}
theorem aBJ {zs:List Int}{at':Int}(hl:aH zs≤16384)(h:jJ zs at'=false):eR zs at'≤16384:=by unfold jJ at h;unfold eR;rw [Bool.or_eq_false_iff,Bool.not_eq_false',Bool.not_eq_false',decide_eq_true_eq] at h;rw [bG h.2];omega
structure sH (room:Nat):Prop where
 run:∀ {base B:Nat} {W:World} {rk:Nat} {sv ev:Value} {root:Int} {bp:Option Addr} {bc:Nat} {zs:List Int} {ss:List (bK × Value)} {es:List (aX × Value)} {left:Int},DCtx base B W rk sv ev root bp bc zs ss es left→∀ (r:Nat) (to:Int),r<ss.length → -1000000000≤to∧to≤1000000000 →
  Calls Tryd.prog 69 #[.pointer (some ⟨rk,0,none⟩),.int .i64 to,.int .i64 r,.int .i64 room] W (RdPost (cC (aG ss) zs (bL (aG ss) (es.map Prod.fst) zs room) r to left) W rk sv ev root bp bc zs)
theorem RdPost.put4 {res:Option (PV × Int)}{w w2 w3:World}{R:Nat}{x0 x1 x2 x3:Value}(h:RdPost res w2 rk sv ev root bp bc zs (.returned (.agg #[x0,x1,x2,x3])) w3)(hx:Exw rk rk w.heap.size w w2)(h1:w.heap.size≤R)(h2:R<w2.heap.size)(h0:RdSt w rk sv ev root bp bc zs l' false)(hv:lU sv∧lU ev)(y0 y1 y2 y3:Value) :
  RdPost res w rk sv ev root bp bc zs (.returned (.agg #[x0,x1,x2,x3])) (eS w3 R y0 y1 y2 y3):=by
 have hrk:=aD h0.blk;have hx3:Exw rk rk w.heap.size w w3:=hx.then h.1;have hx4:Exw rk rk w.heap.size w (eS w3 R y0 y1 y2 y3):=(((hx3.setCell (p:=⟨R,0,none⟩) (.inr (.inr h1)) y0).setCell (p:=⟨R,1,none⟩) (.inr (.inr h1)) y1).setCell (p:=⟨R,2,none⟩) (.inr (.inr h1)) y2).setCell (p:=⟨R,3,none⟩) (.inr (.inr h1)) y3;have hsz:(eS w3 R y0 y1 y2 y3).heap.size=w3.heap.size:=by unfold eS;simp [World.setCell]
 refine ⟨hx4,?_⟩;rcases h.2 with ⟨v,l,val,h3,h4,h5,h6,h7⟩|⟨h3,h4,rc,h5,h6,h7⟩
 · injection h5 with h5;subst h5;exact .inl ⟨v,l,_,h3,h4,rfl,nC h6 hx.size (by rw [hsz];exact Nat.le_refl _) (fun k _ hk=>aQ w3 (by omega) _ _ _ _),h0.keep hv hx4 ((aQ w3 (by omega) _ _ _ _).trans h7.blk)⟩
 · exact .inr ⟨h3,h4,rc,h5,h6,h0.keep hv hx4 ((aQ w3 (by omega) _ _ _ _).trans h7.blk)⟩
theorem wX (w:World)(h:DCtx base B w rk sv ev root bp bc zs ss es left)(k r l:Nat)(hk:k=13)(hl:l=0)(at':Int)(room:Nat)(hT:sH room)(ht:oN ss.length (es.map Prod.fst) k r l)(ha : -1000000000≤at'∧at'≤1000000000) :
  Calls Tryd.prog 91 #[.pointer (some ⟨rk,0,none⟩),.agg #[.int .u8 k,.int .i64 r,.int .i64 l],.int .i64 at',.int .i64 room] w (RdPost (cM zs at' fun to=>cC (aG ss) zs (bL (aG ss) (es.map Prod.fst) zs room) r to left) w rk sv ev root bp bc zs):=by
 have hs1:aT k l≠1:=by subst hk hl;decide
 have hl0:((l:Int)==0)=true:=by simp;omega
 have hk0:((k:Int)==13)=true:=by simp;omega
 obtain ⟨hb,hq1,hq2⟩:=bF w #[.int .u8 k,.int .i64 r,.int .i64 l] #[.int .u64 0,.slice none 0 0,.slice none 0 0,.bool false] 75 38;have HB:=aA hb;have HQ1:=aA hq1;have HQ2:=aA hq2;have H0:=aA (h.below hb);have HH0:=aA h;have HV:=aA h.rows.rowV;have HZB:=aA h.st.bytes.1;have HRK:Hid (rk<w.heap.size):=aA (aD h.st.blk);have HAT:=aA ha;have hk13:=ht.hi;have HNT:Hid (∀ W,Calls Tryd.prog 38 #[.agg #[.int .u8 k,.int .i64 r,.int .i64 l]] W fun e w'=>e=.returned (.bool false)∧Below W.heap.size W w'):=aA (fun W=>by have h5:=cD k (by omega) r l W;rw [mR hs1] at h5;exact h5)
 have HTC:Hid (∀ W2,Exw rk rk w.heap.size w W2→RdSt W2 rk sv ev root bp bc zs (aH zs-left) (jJ zs at')→Calls Tryd.prog 69 #[.pointer (some ⟨rk,0,none⟩),.int .i64 (eR zs at'),.int .i64 r,.int .i64 room] W2 (RdPost (cM zs at' fun to=>cC (aG ss) zs (bL (aG ss) (es.map Prod.fst) zs room) r to left) W2 rk sv ev root bp bc zs)):=aA (fun W2 hx hs=>by
  have hl2:=h.hl;have hl3:=h.len;cases hb:jJ zs at' with
  | true =>
   rw [hb] at hs;exact uU W2 hs h.rows.rowV (by omega) (by omega) _ _ _ (by unfold cM;rw [aAg hb])
  | false =>
   rw [hb] at hs;have h5:=hT.run (h.exw hx hs hl2) r (eR zs at') (ht.st hk) (by have h6:=aDS (zs:=zs) (at':=at') h.st.bytes.1 ha;have h7:=aBJ h.len hb;omega);unfold cM;rw [(aBv hb).1];exact h5)
 obtain ⟨P,hP⟩:∃ P,(RdPost (cM zs at' fun to=>cC (aG ss) zs (bL (aG ss) (es.map Prod.fst) zs room) r to left) w rk sv ev root bp bc zs)=P:=⟨_,rfl⟩;rw [hP];have HP:=aA hP.symm;clear hb hq1 hq2 h hP hs1 hk13 ha ht hT hk hl;go_enter Tryd.func91,Tryd.ntmps91;go_upto_region 1 with (fail);generalize (w.alloc (.cells #[.int .u8 k,.int .i64 r,.int .i64 l] 75)).alloc (.cells #[.int .u64 0,.slice none 0 0,.slice none 0 0,.bool false] 38)=W0 at *;obtain ⟨_,c0,c1,c2,c3,c4,c5⟩:=bB H0.out.st.blk;obtain ⟨_,s0,s1,s2,_⟩:=aS HQ1.out;go_wp2_with fail;refine (HNT.out _).mono ?_;rintro e W1 ⟨rfl,hb1⟩;have HB1:=aA (HB.out.trans (hb1.mono HB.out.size));have H1:=aA (H0.out.below hb1);have P1:=aA (aE HQ1.out hb1 (aD HQ1.out));have P2:=aA (aE HQ2.out hb1 (aD HQ2.out))
 clear hb1 c0 c1 c2 c3 c4 c5 s0 s1 s2;go_wp2_with fail;refine (gF H1.out at' HAT.out).mono ?_;rintro e W2 ⟨rfl,hs2,hx2⟩;have HX2:=aA (Exw.after HB1.out hx2);have S2:=aA hs2;have P12:=aA (aL P1.out hx2 (aD P1.out) (by have:=HRK.out;omega) (by have:=HRK.out;omega));have P22:=aA (aL P2.out hx2 (aD P2.out) (by have:=HRK.out;omega) (by have:=HRK.out;omega));clear hs2 hx2;obtain ⟨_,s0,s1,s2,_⟩:=aS P12.out;have HR2:Hid (w.heap.size+1<W2.heap.size):=aA (aD P22.out);go_wp2_with fail;refine (HTC.out W2 HX2.out S2.out).mono ?_;intro e W3 hpost;obtain ⟨x0,x1,x2,x3,rfl,hform,hx3,_⟩:=hpost.form;have HPO:=aA hpost;have P23:=aA (aL P22.out hx3 (aD P22.out) (by have:=HRK.out;omega) (by have:=HRK.out;omega));obtain ⟨y0,y1,y2,y3,y4,y5,y6,y7,hy⟩:=hform;injection hy with hy;simp only [Array.mk.injEq,List.cons.injEq,and_true] at hy;obtain ⟨rfl,rfl,rfl,rfl⟩:=hy;clear hpost hx3 s0 s1 s2
 obtain ⟨_,u0,u1,u2,u3⟩:=aF P23.out;have p0:=aB P23.out 0;have p1:=aB P23.out 1;have p2:=aB P23.out 2;have p3:=aB P23.out 3;go_wp2;refine aI (fun Wf=>Wf.heap[w.heap.size+1]?=some (.cells #[.int .u64 y0,.slice y1 y2 y3,.slice y4 y5 y6,.bool y7] 38 (0,0))∧P (.returned (.agg #[.int .u64 y0,.slice y1 y2 y3,.slice y4 y5 y6,.bool y7])) Wf) ⟨?_,?_⟩ ?_
 · exact aO P23.out _ _ _ _
 · rw [HP.out];exact HPO.out.put4 HX2.out (Nat.le_succ _) HR2.out HH0.out.st HV.out _ _ _ _
 · rintro Wf ⟨e1,e2⟩;obtain ⟨_,d0,d1,d2,d3⟩:=aF e1;exact dZ (v:=.agg #[.int .u64 y0,.slice y1 y2 y3,.slice y4 y5 y6,.bool y7]) (by simp [results,Tryd.results91,go_sem,d0,d1,d2,d3]) rfl e2
end Go.Proofs.YtpbaaiilfkacnaaDoor
