/-
  The law FlatreadTurned, over what its callees do: it returns true, and nothing that was there is written. Conditions: those that each theorem names.
-/
import Derived.Test.YtpbaaiilfkacnaaDoorPkQ22
import Derived.Lib.SlBuf
namespace Go.Proofs.YtpbaaiilfkacnaaDoor
open Go.ChangeShapes Go.WideShapes Go.ChangeAt Go.RowKit Go.Shelf
set_option maxRecDepth 100000
set_option maxHeartbeats 16000000
def aC9 (W3:World)(g n:Nat)(i:Value)(wr:World):Prop:=Below W3.heap.size W3 wr∧BO wr g n∧∃ k:Nat,k≤6∧i=.int .i64 k
theorem wL (a b:Int):0≤bits BinOp.xor .u8 a b∧bits BinOp.xor .u8 a b≤255:=by have h:bits BinOp.xor .u8 a b=IntKind.u8.wrap ((BitVec.ofInt 8 a ^^^ BitVec.ofInt 8 b).toNat):=rfl;rw [h];exact aFP _
theorem wV {a0 a1 b0:Option Addr}{n0 e0 n1 c1 nb cb:Nat}{pr:Int}{pt:Bool}(w:World){A1 A2 A3:Option Addr}{l1 c1' l2 c2 l3 c3:Nat}{Z1 Z2 Z3:List Int}(h1:IsRow .i64 w A1 l1 c1' Z1)(h2:IsRow .i64 w A2 l2 c2 Z2)(h3:IsRow .u8 w A3 l3 c3 Z3)
  (hA:∀ W,Below w.heap.size w W→Calls Tryd.prog 9 #[] W fun e w'=>e=.returned (.bool true)∧Below W.heap.size W w')
  (hM:∀ W,Below w.heap.size w W→Calls Tryd.prog 10 #[.agg #[.slice a0 n0 e0,.slice a1 n1 c1,.int .u8 pr,.bool pt]] W fun e W2=>Below W.heap.size W W2∧((∃ sa sl sc ea el ec rt,e=.returned (.tuple #[.agg #[.slice sa sl sc,.slice ea el ec,.int .i64 rt],.bool true])∧aFC b0 nb cb W2 sa sl sc ea el ec rt)∨e=.returned (.tuple #[.agg #[.slice none 0 0,.slice none 0 0,.int .i64 0],.bool false]))) :
  Calls Tryd.prog 3 #[.agg #[.slice a0 n0 e0,.slice a1 n1 c1,.int .u8 pr,.bool pt],.slice b0 nb cb,.slice A1 l1 c1',.slice A2 l2 c2,.slice A3 l3 c3] w fun e w'=>e=.returned (.bool true)∧Below w.heap.size w w':=by
 have hb1:=(bH w.heap.size w).alloc bD (.cells #[.slice a0 n0 e0,.slice a1 n1 c1,.int .u8 pr,.bool pt] 25);have HAW:=aA hA;have H1:=aA h1;have H2:=aA h2;have H3:=aA h3;clear h1 h2 h3;have HMD:=aA hM;have HB0:=aA hb1;have HQ1:=aA (cN w (.cells #[.slice a0 n0 e0,.slice a1 n1 c1,.int .u8 pr,.bool pt] 25));clear hA hM hb1;go_enter Tryd.func3,Tryd.ntmps3;go_upto_region 1 with (fail);generalize w.alloc (.cells #[.slice a0 n0 e0,.slice a1 n1 c1,.int .u8 pr,.bool pt] 25)=W0 at *;go_wp2_with fail;refine (HAW.out W0 HB0.out).mono ?_;rintro e W1 ⟨rfl,hb1⟩;have HB1:=aA (HB0.out.trans (hb1.mono HB0.out.size));have HQ11:=aA (aE HQ1.out hb1 (aD HQ1.out));clear hb1 HB0 HQ1;obtain ⟨_,y0',y1',y2',y3'⟩:=aF HQ11.out;go_wp2_with fail
 refine (HMD.out W1 HB1.out).mono ?_;rintro e W2 ⟨hb2,hpost⟩;have HB2:=aA (HB1.out.trans (hb2.mono HB1.out.size));clear hb2 y0' y1' y2' y3' HQ11 HB1 HMD HAW;rcases hpost with ⟨sa,sl,sc,ea,el,ec,rt,rfl,hl⟩|rfl
 · have HVAL0:Hid (nb≤2000→∀ W,Below W2.heap.size W2 W→Calls Tryd.prog 12 #[.agg #[.slice sa sl sc,.slice ea el ec,.int .i64 rt],.slice b0 nb cb] W fun e w1=>Below W.heap.size W w1∧∃ (val:Value) (n:Nat),e=.returned val∧4≤n∧n≤140000000000 ∧
    ∀ w2,Below w1.heap.size w1 w2→Calls Tryd.prog 11 #[.agg #[.slice sa sl sc,.slice ea el ec,.int .i64 rt],val] w2 fun e w'=>Below w2.heap.size w2 w'∧∃ g cap,e=.returned (.slice (some ⟨g,0,none⟩) n cap)∧w2.heap.size≤g∧BO w' g n∧n≤cap):=aA hl.val
   have HTOLD:Hid (∀ W g n cap,Below W2.heap.size W2 W→BO W g n→n≤16384→n≤cap→Calls Tryd.prog 13 #[.agg #[.slice sa sl sc,.slice ea el ec,.int .i64 rt],.slice (some ⟨g,0,none⟩) n cap] W fun e w'=>e=.returned (.bool true)∧Below W.heap.size W w'):=aA hl.told;clear hl;go_upto_region 4 with (fail);have hba:Below W2.heap.size W2 (W2.alloc (.cells #[.slice sa sl sc,.slice ea el ec,.int .i64 rt] 31)):=(bH _ _).alloc bD _;have HZ:=aA (cN W2 (.cells #[.slice sa sl sc,.slice ea el ec,.int .i64 rt] 31));have HB3:=aA (HB2.out.trans (hba.mono HB2.out.size));have HB23:=aA hba;clear hba HB2;generalize W2.alloc (.cells #[.slice sa sl sc,.slice ea el ec,.int .i64 rt] 31)=W3 at *;generalize W2.heap.size=Z at *;obtain ⟨_,z0,z1,z2,_⟩:=aS HZ.out;by_cases hbig:2000<nb
   · go_wp2;go_ret;exact ⟨rfl,HB3.out⟩
   have HVAL:=aA (HVAL0.out (by omega));have HZL:Hid (Z≤W3.heap.size):=aA (Nat.le_of_lt (aD HZ.out));clear HVAL0;go_upto_region 6 with (fail);refine gL ?_;refine tL z0 z1 z2 ?_;intro hS;refine aK 0 (.agg #[.slice sa sl sc,.slice ea el ec,.int .i64 rt]) ?_;simp only [td];refine aK 1 (.agg #[.slice sa sl sc,.slice ea el ec,.int .i64 rt]) ?_;simp only [td];refine aK 2 (.slice b0 nb cb) ?_;simp only [td];refine bS 3 fun K hK=>?_;go_simp;refine (HVAL.out W3.drew HB23.out.drew).mono ?_;rintro e W4 ⟨hb4,val,n,rfl,hn4,hnm,henc⟩;have hb4':Below W3.heap.size W3 W4:=(bH _ W3).drew.trans hb4;refine hK.out _ _ (kM hb4' ⟨z0,z1,z2⟩) (fun hS=>?_);have HENC:=aA (henc W4 (bH _ _));have HB4:=aA hb4';clear henc hK K hb4 hb4';refine bS 4 fun K hK=>?_;go_simp;refine HENC.out.mono ?_;rintro e W5 ⟨hb5,g,cap,rfl,hgb,hbo,hcg⟩;have hb5':=HB4.out.trans (hb5.mono HB4.out.size)
   refine hK.out _ _ (kM hb5' ⟨z0,z1,z2⟩) (fun hS=>?_);have HB35:=aA hb5';have HBO:=aA hbo;have HCG:=aA hcg;have HG:Hid (W3.heap.size≤g):=aA (eM HB4.out.size hgb);have HZK:Hid (∀ W,Below W3.heap.size W3 W→W.heap[Z]?=some (.cells #[.slice sa sl sc,.slice ea el ec,.int .i64 rt] 31 (0,0))):=aA (fun W hb=>aE HZ.out hb (aD HZ.out));have HTD:Hid (∀ W,Below W3.heap.size W3 W→BO W g n→n≤16384→Calls Tryd.prog 13 #[.agg #[.slice sa sl sc,.slice ea el ec,.int .i64 rt],.slice (some ⟨g,0,none⟩) n cap] W fun e w'=>e=.returned (.bool true)∧Below W.heap.size W w'):=aA (fun W hb ho h16=>HTOLD.out W g n cap (HB23.out.trans (hb.mono HZL.out)) ho h16 HCG.out);have hS:=cJ (aS (HZK.out _ hb5')).2.1 (cJ (aS (HZK.out _ hb5')).2.2.1 (aS (HZK.out _ hb5')).2.2.2.1);clear hb5 hb5' hgb hbo hK K HENC z0 z1 z2 HVAL HTOLD HB4 HB23 HZ
   refine aK 5 (.slice (some ⟨g,0,none⟩) n cap) ?_;simp only [td];refine gA (by kernel_rfl) ?_ _;refine fI ?_;try simp only [Exit.then]
   by_cases hmi:16384<n
   · have hmi':(16384:Int)<n:=by omega
     go_wp2;go_ret;exact ⟨rfl,HB3.out.trans (HB35.out.mono HB3.out.size)⟩
   have hmi':¬(16384:Int)<n:=by omega
   have H16:Hid (n≤16384):=aA (by omega);go_wp2_with fail;go_loopw [14] (fun i wr=>aC9 W3 g n i wr) (fun i _=>6-(intOf i).toNat)
   case atStart=>exact ⟨HB35.out,HBO.out,0,by decide,rfl⟩
   case round =>
    obtain ⟨hb,ho,k,hk6,rfl⟩:=hrel;have HBR:=aA hb;have HNR:=aA ho;have HBW:=aA (HB3.out.trans (hb.mono HB3.out.size));clear hb ho HBO HB35;by_cases hka:k<l1
    case neg =>
     have hka':decide ((k:Int)<l1)=false:=iB (by omega);have hka2:¬(k:Int)<l1:=by omega
     obtain ⟨_,z0,z1,z2,_⟩:=aS (HZK.out _ HBR.out);go_wp2_with fail;refine (HTD.out _ HBR.out HNR.out H16.out).mono ?_;rintro e WE ⟨rfl,hbE⟩;have HBE:=aA (HB3.out.trans ((HBR.out.trans (hbE.mono HBR.out.size)).mono HB3.out.size));clear hbE z0 z1 z2;go_wp2;go_ret;exact ⟨rfl,HBE.out⟩
    by_cases hk:k<6
    case neg =>
     have hka':(k:Int)<l1:=by omega
     have hk':decide ((k:Int)<6)=false:=iB (by omega);have hk2:¬(k:Int)<6:=by omega
     obtain ⟨_,z0,z1,z2,_⟩:=aS (HZK.out _ HBR.out);go_wp2_with fail;refine (HTD.out _ HBR.out HNR.out H16.out).mono ?_;rintro e WE ⟨rfl,hbE⟩;have HBE:=aA (HB3.out.trans ((HBR.out.trans (hbE.mono HBR.out.size)).mono HB3.out.size));clear hbE z0 z1 z2;go_wp2;go_ret;exact ⟨rfl,HBE.out⟩
    obtain ⟨b1,o1,rfl,hb1,hc1⟩:=H1.out.2.2.2.2 (by intro e;have h1:=H1.out.1;have h2:=H1.out.2.2.1;rw [e] at h2;simp at h2;omega);have x1:=(HBW.out.cell (p:=⟨b1,o1+k,none⟩) hb1).trans (hc1 k (by have h1:=H1.out.1;have h2:=H1.out.2.2.1;omega));generalize Z1.getD k 0=z1 at *;clear hc1;have hka':(k:Int)<l1:=by omega
    have hk':(k:Int)<6:=by omega
    have hn0:¬n=0:=by omega
    obtain ⟨q,hq,hqn⟩:∃ q:Nat,(IntKind.u64.wrap z1).tmod (n:Int)=q∧q<n:=by
     have hw:0≤IntKind.u64.wrap z1:=by simp only [IntKind.wrap,IntKind.bits,IntKind.signed];simp;omega
     have h1:=Int.emod_nonneg (IntKind.u64.wrap z1) (show (n:Int)≠0 by omega);have h2:=Int.emod_lt_of_pos (IntKind.u64.wrap z1) (show 0<(n:Int) by omega);exact ⟨(IntKind.u64.wrap z1 % (n:Int)).toNat,by rw [Int.tmod_eq_emod_of_nonneg hw];omega,by omega⟩
    have v1:IntKind.u64.wrap (n:Int)=n:=IntWalk.u64_in _ ⟨by omega,by omega⟩;have v2:=cU (q:Int);have v2u:=IntWalk.u64_in (q:Int) ⟨by omega,by omega⟩;have hqn':(q:Int)<n:=by omega
    have HQN:=aA hqn;have HKL:=aA (show k+1≤6 by omega);clear hqn;by_cases hkb:k<l2
    case pos =>
     obtain ⟨b2,o2,rfl,hb2,hc2⟩:=H2.out.2.2.2.2 (by intro e;have h1:=H2.out.1;have h2:=H2.out.2.2.1;rw [e] at h2;simp at h2;omega);have x2:=(HBW.out.cell (p:=⟨b2,o2+k,none⟩) hb2).trans (hc2 k (by have h1:=H2.out.1;have h2:=H2.out.2.2.1;omega));generalize Z2.getD k 0=z2 at *;clear hc2;have hkb':(k:Int)<l2:=by omega
     by_cases hz2:0≤z2
     case pos =>
      obtain ⟨p,hp,hpn⟩:∃ p:Nat,z2.tmod (n:Int)=p∧p<n:=by have h1:=Int.emod_nonneg z2 (show (n:Int)≠0 by omega);have h2:=Int.emod_lt_of_pos z2 (show 0<(n:Int) by omega);exact ⟨(z2 % (n:Int)).toNat,by rw [Int.tmod_eq_emod_of_nonneg hz2];omega,by omega⟩
      have w1:=cU (p:Int);have HPN:=aA hpn;clear hpn;obtain ⟨Q4,hQ4,QO,hQO,hQOn⟩:∃ Q4:Nat,(q:Int).tdiv 4=(Q4:Int)∧∃ QO:Nat,(Q4:Int) * 4=(QO:Int)∧QO<n:=⟨q / 4,by rw [Int.tdiv_eq_ediv_of_nonneg (by omega)];omega,q / 4 * 4,by omega,by have:=HQN.out;omega⟩;obtain ⟨P4,hP4,PO,hPO,hPOn⟩:∃ P4:Nat,(p:Int).tdiv 4=(P4:Int)∧∃ PO:Nat,(P4:Int) * 4=(PO:Int)∧PO<n:=⟨p / 4,by rw [Int.tdiv_eq_ediv_of_nonneg (by omega)];omega,p / 4 * 4,by omega,by have:=HPN.out;omega⟩;obtain ⟨HI,hHI,hHI1,hHI2,hHI3⟩:∃ HI:Nat,min ((PO:Int)+4) (n:Int)=(HI:Int)∧PO<HI∧HI≤PO+4∧HI≤n:=⟨min (PO+4) n,by omega,by omega,by omega,by omega⟩;have u1:=cU (Q4:Int);have u2:=cU (QO:Int);have u3:=cU (P4:Int);have u4:=cU (PO:Int);have u5:=cU ((PO:Int)+4);have hcap:=HCG.out;have hs1:(0:Int)≤(QO:Int)∧(QO:Int)≤(n:Int)∧QO≤n∧QO≠cap:=⟨by omega,by omega,by omega,by omega⟩
      have hs2:(0:Int)≤(PO:Int)∧(PO:Int)≤(HI:Int)∧(HI:Int)≤(cap:Int)∧PO≤HI∧HI≤cap∧PO≠cap:=⟨by omega,by omega,by omega,by omega,by omega,by omega⟩;obtain ⟨q1,q2,q3,q4⟩:=hs1;obtain ⟨p1,p2,p3,p4,p5,p6⟩:=hs2;go_upto_region 15 with (fail);refine gL ?_;refine wp_region_held_drew (S:=(fun w'=>True)) (by kernel_rfl) trivial ?_;intro hS;refine tk 0 (.slice (some ⟨g,0,none⟩) n cap) hS ?_ ?_
      · intro w' hSw;go_simp
      simp only [td];refine tk 1 (.int .i64 q) hS ?_ ?_
      · intro w' hSw;go_simp
      simp only [td];refine tk 2 (.int .i64 Q4) hS ?_ ?_
      · intro w' hSw;go_simp
      simp only [td];refine tk 3 (.int .i64 QO) hS ?_ ?_
      · intro w' hSw;go_simp
      simp only [td];refine tk 4 (.slice (some ⟨g,QO,none⟩) (n-QO) (cap-QO)) hS ?_ ?_
      · intro w' hSw;go_simp;intro e;exact absurd e.symm q4
      simp only [td];refine tk 6 (.slice (some ⟨g,0,none⟩) n cap) hS ?_ ?_
      · intro w' hSw;go_simp
      simp only [td];refine tk 7 (.int .i64 p) hS ?_ ?_
      · intro w' hSw;go_simp
      simp only [td];refine tk 8 (.int .i64 P4) hS ?_ ?_
      · intro w' hSw;go_simp
      simp only [td];refine tk 9 (.int .i64 PO) hS ?_ ?_
      · intro w' hSw;go_simp
      simp only [td];refine tk 10 (.int .i64 p) hS ?_ ?_
      · intro w' hSw;go_simp
      simp only [td];refine tk 11 (.int .i64 P4) hS ?_ ?_
      · intro w' hSw;go_simp
      simp only [td];refine tk 12 (.int .i64 PO) hS ?_ ?_
      · intro w' hSw;go_simp
      simp only [td];refine tk 13 (.int .i64 ((PO:Int)+4)) hS ?_ ?_
      · intro w' hSw;go_simp
      simp only [td];refine tk 14 (.slice (some ⟨g,0,none⟩) n cap) hS ?_ ?_
      · intro w' hSw;go_simp
      simp only [td];refine tk 15 (.int .i64 n) hS ?_ ?_
      · intro w' hSw;go_simp
      simp only [td];refine tk 16 (.int .i64 HI) hS ?_ ?_
      · intro w' hSw;go_simp
      simp only [td];refine tk 17 (.slice (some ⟨g,PO,none⟩) (HI-PO) (cap-PO)) hS ?_ ?_
      · intro w' hSw;go_simp;intro e;exact absurd e.symm p6
      simp only [td];refine bS 5 fun K hK=>?_;go_simp;refine hK.out _ _ trivial (fun hS=>?_);clear hK K;have HA:=aA ((bH wr.heap.size wr.drew).alloc bD (.cells #[] 5));have HGA:=aA (cN wr.drew (.cells #[] 5));have HNA:=aA (HNR.out.drew.below HA.out HNR.out.lt);obtain ⟨gP,mc,WB,hrunB,hboP,hgeP,hbB⟩:=HNA.out.taken PO (HI-PO) (by omega) (by omega) (by omega) (cap-PO) 22 HGA.out;have HBB:=aA hbB;have HNB:=aA (HNA.out.below hbB HNR.out.lt);obtain ⟨cc,WC,hrunC,hboC,hbC⟩:=HNB.out.copy hboP QO (cap-QO) mc 3 hQOn HG.out;have HNC:=aA hboC;have HBC:=aA (((HBR.out.drew.trans (HA.out.mono HBR.out.size)).trans (hbB.mono HBR.out.size)).trans hbC);clear hboC hbC hbB hboP hgeP;refine bS 18 fun K hK=>?_;refine eD _ (.tmp 82) (.tmp 94) 22 rfl _ _ _ _ rfl rfl hrunB ?_;refine hK.out _ _ trivial (fun hS=>?_);clear hK K hrunB;refine bS 19 fun K hK=>?_
      refine Lib.wp_copy_run _ (.tmp 81) (.tmp 95) 22 22 rfl _ _ rfl rfl hrunC ?_;refine hK.out _ _ trivial (fun hS=>?_);clear hK K hrunC;refine gA (by kernel_rfl) ?_ _;refine fI ?_;try simp only [Exit.then]
      simp only [Exit.inBlock,Exit.then];go_wp2;exact ⟨⟨HBC.out,HNC.out,k+1,HKL.out,by go_num⟩,by simp [intOf];omega⟩
     by_cases hkc:k<l3
     case neg =>
      have hkc':¬(k:Int)<l3:=by omega
      go_wp2;exact ⟨⟨HBR.out,HNR.out,k+1,HKL.out,by go_num⟩,by simp [intOf];omega⟩
     have hkc':(k:Int)<l3:=by omega
     obtain ⟨b3,o3,rfl,hb3,hc3⟩:=H3.out.2.2.2.2 (by intro e;have h1:=H3.out.1;have h2:=H3.out.2.2.1;rw [e] at h2;simp at h2;omega);have x3:=(HBW.out.cell (p:=⟨b3,o3+k,none⟩) hb3).trans (hc3 k (by have h1:=H3.out.1;have h2:=H3.out.2.2.1;omega));have hz3:0≤Z3.getD k 0∧Z3.getD k 0≤255:=by
      have hk3:k<Z3.length:=by have h1:=H3.out.1;have h2:=H3.out.2.2.1;omega
      rw [List.getD,iO hk3];exact bounds_u8 (H3.out.2.2.2.1 _ (jK hk3))
     generalize Z3.getD k 0=z3 at *;obtain ⟨e,he,he8⟩:∃ e:Nat,z3.tmod 8=(e:Int)∧e<8:=by have h1:=Int.emod_nonneg z3 (show (8:Int)≠0 by decide);have h2:=Int.emod_lt_of_pos z3 (show (0:Int)<8 by decide);exact ⟨(z3 % 8).toNat,by rw [Int.tmod_eq_emod_of_nonneg hz3.1];omega,by omega⟩
     have he0:(0:Int)≤(e:Int):=by omega
     have hew:IntKind.u8.wrap (e:Int)=(e:Int):=IntWalk.u8_in _ ⟨by omega,by omega⟩;clear hz3;clear hc3;obtain ⟨y,hy0,hy1,c0,f0⟩:=HNR.out.cell (j:=q) HQN.out;have hg3:b3≠g:=by have:=HG.out;have:=HB3.out.size;omega
     go_upto_region 17 with (fail);go_region
     have HB9:=aA ((HBR.out.setCell (p:=⟨g,q,none⟩) HG.out (.int .u8 (bits BinOp.xor .u8 y (2 ^ e % 256)))).drew);have HO9:=aA ((HNR.out.set (j:=q) (wL y (2 ^ e % 256)).1 (wL y (2 ^ e % 256)).2).drew);clear c0 f0 HBR HNR;generalize (wr.setCell ⟨g,q,none⟩ (.int .u8 (bits BinOp.xor .u8 y (2 ^ e % 256)))).drew=W9 at *;simp only [Exit.inBlock,Exit.then];go_wp2;exact ⟨⟨HB9.out,HO9.out,k+1,HKL.out,by go_num⟩,by simp [intOf];omega⟩
    have hkb':¬(k:Int)<l2:=by omega
    by_cases hkc:k<l3
    case neg =>
     have hkc':¬(k:Int)<l3:=by omega
     go_wp2;exact ⟨⟨HBR.out,HNR.out,k+1,HKL.out,by go_num⟩,by simp [intOf];omega⟩
    have hkc':(k:Int)<l3:=by omega
    obtain ⟨b3,o3,rfl,hb3,hc3⟩:=H3.out.2.2.2.2 (by intro e;have h1:=H3.out.1;have h2:=H3.out.2.2.1;rw [e] at h2;simp at h2;omega);have x3:=(HBW.out.cell (p:=⟨b3,o3+k,none⟩) hb3).trans (hc3 k (by have h1:=H3.out.1;have h2:=H3.out.2.2.1;omega));have hz3:0≤Z3.getD k 0∧Z3.getD k 0≤255:=by
     have hk3:k<Z3.length:=by have h1:=H3.out.1;have h2:=H3.out.2.2.1;omega
     rw [List.getD,iO hk3];exact bounds_u8 (H3.out.2.2.2.1 _ (jK hk3))
    generalize Z3.getD k 0=z3 at *;obtain ⟨e,he,he8⟩:∃ e:Nat,z3.tmod 8=(e:Int)∧e<8:=by have h1:=Int.emod_nonneg z3 (show (8:Int)≠0 by decide);have h2:=Int.emod_lt_of_pos z3 (show (0:Int)<8 by decide);exact ⟨(z3 % 8).toNat,by rw [Int.tmod_eq_emod_of_nonneg hz3.1];omega,by omega⟩
    have he0:(0:Int)≤(e:Int):=by omega
    have hew:IntKind.u8.wrap (e:Int)=(e:Int):=IntWalk.u8_in _ ⟨by omega,by omega⟩;clear hz3;clear hc3;obtain ⟨y,hy0,hy1,c0,f0⟩:=HNR.out.cell (j:=q) HQN.out;have hg3:b3≠g:=by have:=HG.out;have:=HB3.out.size;omega
    go_upto_region 17 with (fail);go_region
    have HB9:=aA ((HBR.out.setCell (p:=⟨g,q,none⟩) HG.out (.int .u8 (bits BinOp.xor .u8 y (2 ^ e % 256)))).drew);have HO9:=aA ((HNR.out.set (j:=q) (wL y (2 ^ e % 256)).1 (wL y (2 ^ e % 256)).2).drew);clear c0 f0 HBR HNR;generalize (wr.setCell ⟨g,q,none⟩ (.int .u8 (bits BinOp.xor .u8 y (2 ^ e % 256)))).drew=W9 at *;simp only [Exit.inBlock,Exit.then];go_wp2;exact ⟨⟨HB9.out,HO9.out,k+1,HKL.out,by go_num⟩,by simp [intOf];omega⟩
 · go_wp2;go_ret;exact ⟨rfl,HB2.out.alloc HB2.out.size _⟩
end Go.Proofs.YtpbaaiilfkacnaaDoor
