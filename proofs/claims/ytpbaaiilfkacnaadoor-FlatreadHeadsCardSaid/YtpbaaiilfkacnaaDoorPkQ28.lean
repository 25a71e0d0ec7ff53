/-
  The document's writer of tables: what it works with: a made schema, a value that lay there before. Conditions: those that each theorem names.
-/
import Derived.Test.YtpbaaiilfkacnaaDoorPkQ22
import Derived.Test.YtpbaaiilfkacnaaDoorPkQ24
namespace Go.Proofs.YtpbaaiilfkacnaaDoor
open Go.RowKit
set_option maxRecDepth 100000
set_option maxHeartbeats 16000000
section
open Go.ChangeShapes Go.WideShapes Go.ChangeAt Go.Shelf
theorem gT:(Tryd.prog.info? 5).map (fun i=>(i.zero,i.size,i.bytes))=some (some (.int .u8 0),1,1):=by kernel_rfl
def uX:Option Value→Nat
 | some (.slice _ n _)=>n
 | _=>0
def aGe (w:World)(base wk:Nat)(A:Option Addr)(sv ev:Value)(root:Int)(zs:List Int)(K:Nat)(wr:World):Prop:=∃ (j:Nat) (A':Option Addr) (cap':Nat),j≤K∧WrSt wr base wk A' cap' sv ev root (zs++aR j)∧Wx wk A A' w wr
theorem pB (zs:List Int)(j:Nat):zs++aR j++[0]=zs++aR (j+1):=by
 rw [List.append_assoc];congr 1
 unfold aR;rw [List.replicate_succ']
theorem jD (w:World){base wk:Nat}{A:Option Addr}{cap:Nat}{sv ev:Value}{root:Int}{zs:List Int}(h:WrSt w base wk A cap sv ev root zs)(m:Nat)(hm:m=2∨m=4∨m=8)(hl:zs.length≤70368744177664)(hB:base≤w.heap.size) :
  Calls Tryd.prog 63 #[.pointer (some ⟨wk,0,none⟩),.int .i64 m] w (dR (.tuple #[]) base wk A sv ev root (cQ m zs) w):=by
 obtain ⟨K,hK⟩:∃ K,(m-zs.length % m) % m=K:=⟨_,rfl⟩;have hpad:cQ m zs=zs++aR K:=by unfold cQ;rw [hK]
 have hK8:K<8∧(∀ j,j<K→¬(zs.length+j) % m=0)∧(zs.length+K) % m=0:=by
  refine ⟨?_,fun j hj=>?_,?_⟩
  · rcases hm with rfl|rfl|rfl<;>omega
  · rcases hm with rfl|rfl|rfl<;>omega
  · rcases hm with rfl|rfl|rfl<;>omega
 have hm0:¬m=0:=by omega
 have hmI:¬(m:Int)=0:=by omega
 have HK8:=aA hK8;obtain ⟨P,hP⟩:∃ P,dR (.tuple #[]) base wk A sv ev root (cQ m zs) w=P:=⟨_,rfl⟩;rw [hP];have HP:=aA hP.symm;have HPAD:=aA hpad;have HST:Hid (aGe w base wk A sv ev root zs K w):=aA ⟨0,A,cap,Nat.zero_le _,by rw [show zs++aR 0=zs from List.append_nil _];exact h,Wx.refl _ _ _⟩;have HB:=aA hB;have HL:=aA hl;clear hK hpad hK8 hm hP h hB hl;go_enter Tryd.func63,Tryd.ntmps63;go_wp2_with fail;go_loopw [] (fun wr=>aGe w base wk A sv ev root zs K wr) (fun wr=>zs.length+K-uX (wr.cell? ⟨wk,3,none⟩))
 case atStart=>exact HST.out
 case round =>
  obtain ⟨j,A',cap',hj,hs,hx⟩:=hrel;have HS:=aA hs;have HX:=aA hx;have hlen:(zs++aR j).length=zs.length+j:=by simp [aR]
  obtain ⟨_,c0,c1,c2,c3⟩:=aF hs.blk;have f3:=aB hs.blk 3;rw [hlen] at c3;have hcp:=hs.few;rw [hlen] at hcp;have HLEN:=aA hlen;clear hs hx c0 c1 c2 hlen;have hbig:zs.length+j≤70368744177680:=by have:=HL.out;have:=HK8.out.1;omega
  obtain ⟨n,hn⟩:∃ n,zs.length+j=n:=⟨_,rfl⟩;rw [hn] at c3 hcp hbig;have HN:=aA hn;by_cases hjK:j<K
  · obtain ⟨r,hr⟩:∃ r:Nat,n % m=r:=⟨_,rfl⟩;have hmod:(n:Int).tmod m=r:=by rw [Int.tmod_eq_emod_of_nonneg (by omega),←hr];rfl
    have hr0:((r:Int)==0)=false:=by have h1:=HK8.out.2.1 j hjK;rw [hn,hr] at h1;simp;omega
    have HJK:=aA hjK;obtain ⟨i0,hi0,hzz0,hzz1,hzz2⟩:=info_parts gT;have I1:=aA hi0;have I2:=aA hzz0;have I3:=aA hzz1;have I4:=aA hzz2;have HBN:=aA (cN wr (.cells #[.int .u8 0] 5));have HBA:=aA ((bH wr.heap.size wr).alloc bD (.cells #[.int .u8 0] 5));have HOWN:Hid (wr.ownsRow base 5 1 (.slice A' n cap') n (eI (zs++aR j))):=aA (by have h1:=HS.out.own;unfold kV at h1;rw [HLEN.out,hn] at h1;exact h1);have HUA:=aA (bE HBA.out HOWN.out);clear hr hn hi0 hzz0 hzz1 hzz2 hjK
    go_wp2_with (at_builtin;refine wpList_append_own_at _ rfl (.tmp 16) (.tmp 17) 22 rfl base 5 i0 _ 1 1 Tryd.underlying22 I1.out I2.out I3.out I4.out rfl (by decide) _ n (eI (zs++aR j)) rfl HUA.out _ 1 1 [.int .u8 0] rfl rfl (World.news_of_block HBN.out) (by intro u hu;rw [List.mem_singleton.1 hu];rfl) (by unfold maxLen;omega) (by omega) (by have:=HB.out;have:=HX.out.size;simp;omega) ?_;intro v4 W8 hown4 hg4 hx hat4;clear hx;have hap:=pZ (news:=[0]) (A:=A') (cap:=cap') (n:=n) HS.out HBA.out rfl hg4 (show (zs++aR j).length+1=n+1 by rw [HLEN.out,HN.out]) (by simpa [eI] using hown4) hat4 (by intro z hz;rw [List.mem_singleton.1 hz];decide);clear hown4 hg4 hat4;obtain ⟨A4,cap4,rfl,h8,hs4,hx4⟩:=hap;obtain ⟨_,d0,d1,d2,d3⟩:=aF h8;have e3:=aB h8 3;have S4:=aA hs4;have X4:=aA hx4;clear h8 hs4 hx4);go_roundw
    case rel =>
     exact ⟨j+1,A4,cap4,HJK.out,by rw [←pB];exact S4.out,HX.out.trans X4.out⟩
    case measure =>
     have h1:=(aF S4.out.blk).2.2.2.2;have h2:=(aF HS.out.blk).2.2.2.2;rw [h1,h2];simp only [uX];have h3:=HLEN.out;have h4:=HJK.out;have h5:(zs++aR j++[0]).length=zs.length+j+1:=by rw [List.length_append,h3];rfl
     omega
  · obtain rfl:j=K:=by omega
    have hmod:(n:Int).tmod m=0:=by have h1:=HK8.out.2.2;rw [hn] at h1;rw [Int.tmod_eq_emod_of_nonneg (by omega)];omega
    clear hn hjK;go_wp2;first|refine bodyPost_end (v:=.tuple #[]) (by simp [results,Tryd.results63,go_sem]) rfl ?_|refine dZ (v:=.tuple #[]) (by simp [results,Tryd.results63,go_sem]) rfl ?_
    rw [HP.out];exact ⟨rfl,A',cap',by rw [HPAD.out];exact HS.out,HX.out⟩
theorem jI (w:World){base wk:Nat}{A:Option Addr}{cap:Nat}{sv ev:Value}{root:Int}{zs:List Int}(h:WrSt w base wk A cap sv ev root zs)(s:Nat)(n:Int)(hs8:s≤8)(hl:zs.length≤70368744177664)(hB:base≤w.heap.size) :
  Calls Tryd.prog 64 #[.pointer (some ⟨wk,0,none⟩),.int .i64 s,.int .u64 n] w (dR (.int .i64 zs.length) base wk A sv ev root (hI s n zs) w):=by
 obtain ⟨P,hP⟩:∃ P,dR (.int .i64 zs.length) base wk A sv ev root (hI s n zs) w=P:=⟨_,rfl⟩;rw [hP];have HP:=aA hP.symm;have HC:=aA (fun W (hW:base≤W.heap.size)=>yM W.heap.size n s W bD hs8);obtain ⟨_,c0,c1,c2,c3⟩:=aF h.blk;have HS:=aA h;have HB:=aA hB;have HL:=aA hl;have hcp:=h.few;have hbig:zs.length≤140737488355328:=by omega
 clear hP h hB hl c0 c1 c2;go_enter Tryd.func64,Tryd.ntmps64;go_upto_region 2 with (fail);have s0:=c3;clear c3;refine gL ?_;refine eG 11 (fun _=>True) (fun w'=>w'.cell? ⟨wk,3,none⟩=some (.slice A zs.length cap)) (by kernel_rfl) ?_;have HB0:=aA ((bH w.heap.size w).drew);have HS0:=aA (HS.out.below HB0.out);have hsz0:w.drew.heap.size=w.heap.size:=rfl;have HSZ:=aA hsz0;clear hsz0;generalize w.drew=V0 at *;have hU:True:=trivial;have hV:=aC HB0.out s0;refine tt 0 (.pointer (some ⟨wk,0,none⟩)) hU hV ?_ ?_
 · intro w' hSw;have t0:=hSw.2;go_simp
 simp only [td];refine tt 1 (.pointer (some ⟨wk,0,none⟩)) hU hV ?_ ?_
 · intro w' hSw;have t0:=hSw.2;go_simp
 simp only [td];refine tt 2 (.pointer (some ⟨wk,0,none⟩)) hU hV ?_ ?_
 · intro w' hSw;have t0:=hSw.2;go_simp
 simp only [td];refine tt 3 (.pointer (some ⟨wk,3,none⟩)) hU hV ?_ ?_
 · intro w' hSw;have t0:=hSw.2;go_simp
 simp only [td];refine tt 4 (.slice A zs.length cap) hU hV ?_ ?_
 · intro w' hSw;have t0:=hSw.2;go_simp
 simp only [td];refine tt 5 (.int .u64 n) hU hV ?_ ?_
 · intro w' hSw;have t0:=hSw.2;go_simp
 simp only [td];refine tt 6 (.int .i64 s) hU hV ?_ ?_
 · intro w' hSw;have t0:=hSw.2;go_simp
 simp only [td];refine cA (i:=7) (by kernel_rfl) rfl (fun K hK=>?_);rw [bG (by kernel_rfl)];go_simp;refine (HC.out V0 (by rw [HSZ.out];exact HB.out)).mono ?_;rintro e V1 ⟨g1,rfl,ho1,hb1⟩;have hV1:=aC hb1 hV;have HO1:=aA ho1;have HB1:=aA (HB0.out.trans (hb1.mono (by rw [HSZ.out];exact Nat.le_refl _)));refine hK.out _ _ trivial hV1 ?_;clear hV hK K ho1 hb1;have hV:=hV1;clear hV1;obtain ⟨hl1,hgb,hgl,hc1,_,hcell1,_⟩:=HO1.out.facts;obtain ⟨i0,hi0,hzz0,hzz1,hzz2⟩:=info_parts gT;have hsrc:=SrcRow.toSrc (P:=Tryd.prog) (t:=22) (e:=5) Tryd.underlying22 (aCZ HO1.out)
 obtain ⟨v4,V2,hrun,hown4,hg4,hat4⟩:=iD (P:=Tryd.prog) (w:=V1) base 22 22 22 5 i0 (.int .u8 0) 1 Tryd.underlying22 hi0 hzz0 hzz1 rfl (.slice A zs.length cap) zs.length (eI zs) (bE HB1.out HS.out.own) _ s _ hsrc (by have:=HL.out;unfold maxLen;omega) (by rw [hzz2];have:=HL.out;omega) (eM HB.out HB1.out.size);rw [dI] at hg4 hat4;have hap:=tG (news:=dP (aR s) 0 n s) HS.out HB1.out hg4 (by rw [hl1];simpa [eI] using hown4) hat4 (aDW s n);obtain ⟨A4,cap4,he4,h8,hs4,hx4⟩:=hap;rw [hl1] at he4;subst he4;have S4:=aA hs4;have X4:=aA hx4;have hV2:=(aF h8).2.2.2.2;have m3f:=aB h8 3;clear hown4 hg4 hat4 h8 hs4 hx4 hsrc hcell1 hi0 hzz0 hzz1 hzz2 i0;refine cA (i:=8) (by kernel_rfl) rfl (fun K hK=>?_);rw [bG (by kernel_rfl)];refine eD _ (.tmp 17) (.tmp 20) 22 rfl _ _ _ _ rfl rfl hrun ?_;refine hK.out _ _ trivial hV2 ?_;clear hK K hrun;have hV:=hV2
 clear hV2;refine cA (i:=9) (by kernel_rfl) rfl (fun K hK=>?_);rw [bG (by kernel_rfl)];go_simp;refine hK.out _ _ trivial hV ?_;clear hK K;refine tt 10 (.pointer (some ⟨wk,3,none⟩)) hU hV ?_ ?_
 · intro w' hSw;have t0:=hSw.2;go_simp
 simp only [td];have m3:=hV;refine eW (by kernel_rfl) rfl (fun K hK=>?_);rw [bG (by kernel_rfl)];go_simp;refine hK.out _ _ trivial ?_;clear hK K hV m3 m3f;refine eX (by kernel_rfl) ?_ _;refine fI ?_;try simp only [Exit.then]
 go_wp2;rw [HP.out];exact ⟨rfl,A4,cap4,S4.out,X4.out⟩
theorem mA (w:World){base wk:Nat}{A:Option Addr}{cap:Nat}{sv ev:Value}{root:Int}{zs:List Int}(h:WrSt w base wk A cap sv ev root zs)(a s:Nat)(n:Int)(hs8:s≤8)(ha:a+s≤zs.length)(hl:zs.length≤70368744177664)(hB:base≤w.heap.size) :
  Calls Tryd.prog 65 #[.pointer (some ⟨wk,0,none⟩),.int .i64 a,.int .i64 s,.int .u64 n] w (dR (.tuple #[]) base wk A sv ev root (kL a s n zs) w):=by
 obtain ⟨P,hP⟩:∃ P,dR (.tuple #[]) base wk A sv ev root (kL a s n zs) w=P:=⟨_,rfl⟩;rw [hP];have HP:=aA hP.symm;have HC:=aA (yM w.heap.size n s w bD hs8);have HS:=aA h;have HA:=aA ha;have HL:=aA hl;have HB:=aA hB;clear hP h hB hl ha;go_enter Tryd.func65,Tryd.ntmps65;go_wp2_with fail;refine HC.out.mono ?_;rintro e W1 ⟨g1,rfl,ho1,hb1⟩;have HO1:=aA ho1;have HS1:=aA (HS.out.below hb1);have HX1:=aA (Wx.of_below (wk:=wk) A hb1);have hg1:=ho1.facts.2.1;clear ho1 hb1;go_wp2_with fail;go_loopw [9] (fun i wr=>∃ k:Nat,k≤s∧i=.int .i64 k∧OwnR wr w.heap.size 5 g1 s s (dP (aR s) 0 n s)∧WrSt wr base wk A cap sv ev root (dP zs a n k)∧Wx wk A A w wr) (fun i _=>s-(intOf i).toNat)
 case atStart=>exact ⟨0,Nat.zero_le _,rfl,HO1.out,HS1.out,HX1.out⟩
 case round =>
  obtain ⟨k,hk,rfl,ho,hs,hx⟩:=hrel;have HO:=aA ho;have HS2:=aA hs;have HX:=aA hx;clear ho hs hx;by_cases hks:k<s
  · have hki:(k:Int)<(s:Int):=by omega
    have hlen:=fT zs a n k;obtain ⟨g,hA,hgl,hcell,hfz⟩:=HS2.out.addr (by rw [hlen];have:=HA.out;omega);obtain ⟨hl1,hgb,_,hc1,_,hcell1,hfz1⟩:=HO.out.facts;have hby:=vP n k;have hd0:(dP (aR s) 0 n s).getD k 0=lF n k:=by rw [qE _ _ _ _ _ (by simp [aR]),bG (by omega),Nat.sub_zero]
    have y0:=hcell1 k (by omega);rw [hd0] at y0;have y1:=hcell (a+k) (by rw [hlen];have:=HA.out;omega);have y2:=hfz (a+k);obtain ⟨_,c0,c1,c2,c3⟩:=aF HS2.out.blk;rw [hlen,hA] at c3;have hcp:=HS2.out.few;rw [hlen] at hcp;have hge:g≠g1:=fun e=>by have h1:=HX.out.row;have h2:=HS.out.row g (by rw [hA];rfl);omega
    have hai:(a:Int)+k<zs.length:=by have:=HA.out;omega
    have hwk:=IntWalk.i64_in ((a:Int)+k) ⟨by omega,by have:=HL.out;omega⟩;have hcast:((a:Int)+(k:Int)).toNat=a+k:=by omega
    have HA2:=aA hA;have hst:=aFX (g:=g) (W7:=wr) (by rw [←hA];exact HS2.out) (bH _ _) (a+k) (lF n k) hby;have HST:=aA hst;have hon:=wQ (W:=wr) (g:=g) (j:=a+k) (u:=.int .u8 (lF n k)) HO.out (by omega);have HON:=aA hon;clear hcell hcell1 hfz hfz1 hlen hl1 hd0 hst hon c0 c1 c2 hA;go_upto_region 4 with (fail);go_region
    go_wp2;go_roundw
    case rel=>exact ⟨k+1,hks,by go_num,HON.out,by rw [HA2.out];exact HST.out.1.below (bH _ _).drew,HX.out.trans (by rw [HA2.out];exact HST.out.2.trans (Wx.of_below _ (bH _ _).drew))⟩
    case measure=>simp [intOf];omega
  · obtain rfl:k=s:=by omega
    have hki:¬(k:Int)<(k:Int):=by omega
    go_wp2;first|refine bodyPost_end (v:=.tuple #[]) (by simp [results,Tryd.results65,go_sem]) rfl ?_|refine dZ (v:=.tuple #[]) (by simp [results,Tryd.results65,go_sem]) rfl ?_
    rw [HP.out];exact ⟨rfl,A,cap,HS2.out,HX.out⟩
end
theorem aEU {ss:List cO}{es:List aX}{r k:Nat}{ref lists:Int}{q:PV}(h:cZ ss es r k ref lists q=true)(h4:aT k lists=4)(hh:q.has=false):q=dY 0:=by
 rw [fL,h4,Bool.and_eq_true] at h;obtain ⟨n,bs,ks,hs⟩:=q;have h1:=h.1;simp only [PV.has] at hh;subst hh;simp [nS,PV.num,PV.bytes,PV.kids,PV.has] at h1;obtain ⟨a,b,c⟩:=h1;have a':n=0:=of_decide_eq_true a;have b':bs=[]:=by simpa using b
 have c':ks=[]:=by simpa using c
 subst a' b' c';rfl
structure aGq (ss:List cO)(es:List aX)(r:Nat)(fs:List SFld)(ks:List PV):Prop where
 len:ks.length=fs.length
 fits:∀ i (hx:i<fs.length) (hk:i<ks.length),cZ ss es r fs[i].kind (fs[i].ref:Nat) (fs[i].lists:Nat) ks[i]=true
 has:∀ i (hx:i<fs.length) (hk:i<ks.length),nU fs[i].dflt ks[i]=false→fs[i].kind=13→fs[i].lists=0→ks[i].has=true
theorem zF {S:List bK}{es:List aX}{r i:Nat}{v:PV}(hi:i<S.length)(hD:∀ q ∈ S,fC es (cR q).fields)(hh:v.has=true)(hf:cZ (S.map cR) es (r+1) 13 i 0 v=true):aGq (S.map cR) es r S[i].fields v.kids:=by
 have hi':i<(S.map cR).length:=by rw [List.length_map];exact hi
 obtain ⟨h1,h2⟩:=aCG hi' hh hf;have e:(S.map cR)[i]=cR S[i]:=List.getElem_map ..;have ef:(cR S[i]).fields=S[i].fields.map cF:=rfl;have e1:(S.map cR)[i].fields=S[i].fields.map cF:=by rw [e,ef]
 have hfit:∀ j (hx:j<S[i].fields.length) (hk:j<v.kids.length),cZ (S.map cR) es r S[i].fields[j].kind (S[i].fields[j].ref:Nat) (S[i].fields[j].lists:Nat) v.kids[j]=true:=fun j hx hk=>by have h3:=h2 j (by rw [e1,List.length_map];exact hx) hk;simp only [List.getElem_map] at h3;have h4:cZ (S.map cR) es r ((S[i].fields.map cF)[j]'(by rw [List.length_map];exact hx)).kind ((S[i].fields.map cF)[j]'(by rw [List.length_map];exact hx)).ref ((S[i].fields.map cF)[j]'(by rw [List.length_map];exact hx)).lists v.kids[j]=true:=h3;simp only [List.getElem_map] at h4;exact h4
 refine ⟨by rw [h1,e1,List.length_map],hfit,fun j hx hk hd h13 h0=>?_⟩;cases hb:v.kids[j].has with
 | true=>rfl
 | false =>
  have h4:aT S[i].fields[j].kind (S[i].fields[j].lists:Nat)=4:=by rw [h13,h0];rfl
  have h5:=aEU (hfit j hx hk) h4 hb;have h6:=(hD _ (jK hi) (cF S[i].fields[j]) (by rw [ef];exact List.mem_map_of_mem (jK hx))).2.2 (by show ¬aT S[i].fields[j].kind (S[i].fields[j].lists:Nat)=1;rw [h4];decide);have h7:S[i].fields[j].dflt=0:=h6;rw [h7,h5] at hd;exact absurd hd (by decide)
theorem pO {ss:List cO}{es:List aX}{r k:Nat}{ref lists:Int}{v:PV}(h0:0<lists)(hf:cZ ss es r k ref lists v=true):v.kids=[]∨∃ q,r=q+1∧∀ x ∈ v.kids,cZ ss es q k ref (lists-1) x=true∧(k=13→lists-1=0→x.has=true):=by
 have h3:aT k lists=3:=by unfold aT;rw [bG h0]
 rw [fL,h3,Bool.and_eq_true] at hf;have h4:v.kids.all (rG ss es r k ref (lists-1))=true:=hf.2;rw [List.all_eq_true] at h4;cases hk:v.kids with
 | nil=>exact .inl rfl
 | cons a l =>
  right;have h5:=h4 a (by rw [hk];exact List.mem_cons_self ..);cases r with
  | zero=>simp [rG] at h5
  | succ q =>
   refine ⟨q,rfl,fun x hx=>?_⟩;have h6:=h4 x (by rw [hk];exact hx);simp only [rG,Nat.add_sub_cancel,Bool.and_eq_true,Bool.not_eq_true',Bool.and_eq_false_iff,decide_eq_false_iff_not] at h6;refine ⟨h6.2.2,fun h13 hl=>?_⟩;rcases h6.2.1 with h7|h7
   · exact absurd (by rw [h13,hl];rfl) h7
   · simpa using h7
theorem lW (m:Nat)(zs:List Int)(hm:0<m):(cQ m zs).length<zs.length+m:=by unfold cQ aR;rw [List.length_append,List.length_replicate];have:=Nat.mod_lt (m-zs.length % m) hm;omega
theorem tD {f:Nat→List Int→List Int}{zs:List Int}{c:Nat→Nat}:∀ n,(∀ i,i<n→∀ ys,(f i ys).length≤ys.length+c i)→(eK f zs n).length≤zs.length+((List.range n).map c).sum
 | 0,_=>by simp [eK]
 | n+1,h=>by have h1:=tD (f:=f) (zs:=zs) (c:=c) n (fun i hi=>h i (by omega));have h2:=h n (by omega) (eK f zs n);rw [List.range_succ,List.map_append,List.sum_append];show (f n (eK f zs n)).length≤_;simp only [List.map_cons,List.map_nil,List.sum_cons,List.sum_nil];omega
theorem lZ {f:Nat→List Int→List Int}(hf:∀ i zs,zs.length≤(f i zs).length)(zs:List Int)(j:Nat):∀ n,j≤n→(eK f zs j).length≤(eK f zs n).length
 | 0,h=>by
  obtain rfl:j=0:=by omega
  exact Nat.le_refl _
 | n+1,h=>by
  rcases Nat.lt_or_ge n j with h1|h1
  · obtain rfl:j=n+1:=by omega
    exact Nat.le_refl _
  · exact eM (lZ hf zs j n h1) (hf n _)
theorem tT (th:List Bool):∀ j,nR th j≤j
 | 0=>Nat.le_refl _
 | j+1=>by
  unfold nR;split
  · exact Nat.le_refl _
  · exact lD (tT th j)
theorem vX {v:PV}{m:Nat}(h:Wt v m):1≤m:=by cases h;omega
theorem qD (ms:List Nat):∀ n,n≤ms.length→(∀ i,i<n→1≤ms.getD i 0)→((List.range n).map fun i=>2016 * ms.getD i 0-1000).sum+1000 * n=2016 * (ms.take n).sum
 | 0,_,_=>by simp
 | n+1,h,h1=>by
  have ih:=qD ms n (by omega) (fun i hi=>h1 i (by omega));have hp:=h1 n (by omega);rw [List.range_succ,List.map_append,List.sum_append,List.take_add_one,List.sum_append];rw [iO (show n<ms.length by omega)];have hg:ms.getD n 0=ms[n]:=by rw [List.getD,iO (show n<ms.length by omega),Option.getD_some]
  rw [hg] at hp;simp only [List.map_cons,List.map_nil,List.sum_cons,List.sum_nil,Option.toList_some,hg];omega
theorem pG (ms:List Nat)(h1:∀ i,i<ms.length→1≤ms.getD i 0)(n:Nat)(hn:n=ms.length):((List.range n).map fun i=>2016 * ms.getD i 0-1000).sum+1000 * n=2016 * ms.sum:=by subst hn;have h:=qD ms ms.length bD h1;rw [List.take_length] at h;exact h
theorem aB9 (fs:List SFld)(th:List Bool)(zs:List Int):(oP fs th zs).length=(cQ 2 zs).length+4+2 * nR th fs.length:=by
 have h:∀ n ys,(eK (fun i=>hI 2 ((bP fs th 4).pl.getD i 0)) ys n).length=ys.length+2 * n:=by
  intro n ys;induction n with
  | zero=>rfl
  | succ n ih =>
   show (hI 2 _ (eK _ ys n)).length=_;rw [bC,ih];omega
 unfold oP;rw [h,bC,bC]
theorem aDF {S:List bK}{i:Nat}(hi:i<S.length):uL S (i:Int)=S[i]:=by unfold uL;rw [lN,List.getD,iO hi,Option.getD_some]
theorem aEQ {S:List bK}{es:List aX}(hS:∀ q ∈ S,q.fields.length≤16)(hD:∀ q ∈ S,fC es (cR q).fields):∀ (r k:Nat) (ref lists:Int) (v:PV) (a:Nat) (zs:List Int) (m:Nat),0≤lists→cZ (S.map cR) es r k ref lists v=true→(k=13→lists=0→v.has=true)→Wt v m→(oL S (fJ S r) k ref lists v a zs).length+1000≤zs.length+2016 * m:=by
 intro r;induction r with
 | zero =>
  intro k ref lists v a zs m hl0 hf hh hw;cases hw with
  | mk n bs ks h ms hl hs _ hm =>
  unfold oL;split
  · rw [bX];omega
  · split
    · rename_i h0
      have hk:ks=[]:=by
       rcases pO h0 hf with h1|⟨q,hq,_⟩
       · exact h1
       · cases hq
      subst hk;unfold gR;have h2:=lW 4 zs (by decide);simp only [PV.kids,List.length_nil,eK,List.length_append,bX,bC,aR,List.length_replicate,Nat.mul_zero];split
      · simp only [List.length_append,List.length_replicate];omega
      · omega
    · split
      · rename_i h1 h2 h3
        subst h3;have hl:lists=0:=by omega
        subst hl;have h4:=hh rfl rfl;rw [fL,show aT 13 0=4 from rfl] at hf;simp only [PV.has] at h4;subst h4;simp [PV.has,fA] at hf
      · unfold lH;have h2:=lW 4 zs (by decide);simp only [PV.bytes,bX,bC,List.length_append];split
        · simp only [List.length_cons,List.length_nil];omega
        · simp only [List.length_nil];omega
 | succ r ih =>
  intro k ref lists v a zs m hl0 hf hh hw;have hw0:=hw;cases hw with
  | mk n bs ks h ms hl hs _ hm =>
  unfold oL;split
  · rw [bX];omega
  · split
    · rename_i hnum h0
      unfold gR;have h2:=lW 4 zs (by decide);have hstep:(bN k (lists-1)).toNat≤8:=by
       unfold bN aP;split
       · split
         · decide
         · split
           · decide
           · split
             · decide
             · split<;>decide
       · decide
      have hpos:∀ i,i<ms.length→1≤ms.getD i 0:=fun i hi=>vX (hs i (by omega));have hsum:=pG ms hpos ks.length (by omega);have hels:=pO h0 hf;simp only [PV.kids] at hels ⊢;have hlen:∀ y0:List Int,(eK (fun i=>fJ S (r+1) k ref (lists-1) (ks.getD i (dY 0)) ((if (bN k (lists-1)).toNat=8∧((cQ 4 zs).length+4) % 8≠0 then cQ 4 zs++aR 4 else cQ 4 zs).length+4+i * (bN k (lists-1)).toNat)) y0 ks.length).length+1000 * ks.length≤y0.length+2016 * ms.sum:=by
       intro y0;refine eM (Nat.add_le_add_right (tD (c:=fun i=>2016 * ms.getD i 0-1000) ks.length (fun i hi ys=>?_)) _) (by omega);rcases hels with h1|⟨q,hq,h1⟩
       · subst h1;exact absurd hi (Nat.not_lt_zero _)
       · have hq':q=r:=by omega
         subst hq';have h3:ks.getD i (dY 0)=ks[i]:=by rw [List.getD,iO hi,Option.getD_some]
         rw [h3];obtain ⟨h4,h5⟩:=h1 ks[i] (jK hi);have h6:=ih k ref (lists-1) ks[i] ((if (bN k (lists-1)).toNat=8∧((cQ 4 zs).length+4) % 8≠0 then cQ 4 zs++aR 4 else cQ 4 zs).length+4+i * (bN k (lists-1)).toNat) ys _ (by omega) h4 h5 (hs i hi);have h7:=vX (hs i hi);show (oL S (fJ S q) k ref (lists-1) ks[i] _ ys).length≤_;omega
      have hl9:=hlen (kL a 4 (((if (bN k (lists-1)).toNat=8∧((cQ 4 zs).length+4) % 8≠0 then cQ 4 zs++aR 4 else cQ 4 zs).length:Int)-a) (hI 4 (ks.length:Nat) (if (bN k (lists-1)).toNat=8∧((cQ 4 zs).length+4) % 8≠0 then cQ 4 zs++aR 4 else cQ 4 zs))++aR ((bN k (lists-1)).toNat * ks.length));have h9:(bN k (lists-1)).toNat * ks.length≤8 * ks.length:=Nat.mul_le_mul_right _ hstep;rw [List.length_append,bX,bC] at hl9;have h10:(if (bN k (lists-1)).toNat=8∧((cQ 4 zs).length+4) % 8≠0 then cQ 4 zs++aR 4 else cQ 4 zs).length≤(cQ 4 zs).length+4:=by
       split
       · rw [List.length_append];simp [aR]
       · omega
      have h11:(aR ((bN k (lists-1)).toNat * ks.length)).length≤8 * ks.length:=by unfold aR;rw [List.length_replicate];exact h9
      omega
    · split
      · rename_i h1 h2 h3
        subst h3;have hl:lists=0:=by omega
        subst hl;have h4:=hh rfl rfl;have hri:0≤ref∧ref<(S.map cR).length:=by have h5:=hf;rw [fL,show aT 13 0=4 from rfl,h4,Bool.and_eq_true] at h5;have h6:fA (S.map cR) es (r+1) ref ks=true:=h5.2;unfold fA at h6;rw [Bool.and_eq_true] at h6;exact of_decide_eq_true h6.1
        obtain ⟨i,rfl⟩:∃ i:Nat,ref=i:=⟨ref.toNat,by omega⟩;have hi:i<S.length:=by have:=hri.2;rw [List.length_map] at this;omega
        have hk:=zF hi hD h4 hf;have hfs:=hS _ (jK hi);unfold lM;rw [aDF hi];generalize S[i].fields=fs at *;simp only [PV.kids] at hk ⊢;have hkl:=hk.len;have htf:=jS fs (eJ fs ks) 4 bD;have hla:=tT (eJ fs ks) fs.length;have hhl:=aB9 fs (eJ fs ks) zs;have hp2:=lW 2 zs (by decide);have hpa:=lW (bP fs (eJ fs ks) 4).al.toNat (oP fs (eJ fs ks) zs) (by omega);have hpb:=iK (bP fs (eJ fs ks) 4).al.toNat (oP fs (eJ fs ks) zs);have hpos:∀ i,i<ms.length→1≤ms.getD i 0:=fun i hi=>vX (hs i (by omega));have hsum:=pG ms hpos fs.length (by omega);refine eM (Nat.add_le_add_right (tD (c:=fun i=>2016 * ms.getD i 0-1000) fs.length (fun j hj ys=>?_)) _) ?_
        · show (yS ((eJ fs ks).getD j false) _ ys).length≤_;cases hth:(eJ fs ks).getD j false with
          | true =>
           show (fJ S (r+1) _ _ _ _ _ ys).length≤_;have hjk:j<ks.length:=by omega
           have e1:fs.getD j ⟨⟨#[]⟩,0,0,0,0⟩=fs[j]:=by rw [List.getD,iO hj,Option.getD_some]
           have e2:ks.getD j (dY 0)=ks[j]:=by rw [List.getD,iO hjk,Option.getD_some]
           have hd:nU fs[j].dflt ks[j]=false:=by unfold eJ at hth;rw [List.getD,List.getElem?_map,List.getElem?_range hj] at hth;simp only [Option.map_some,Option.getD_some,e1,e2,Bool.not_eq_true'] at hth;exact hth
           rw [e1,e2];have h6:=ih fs[j].kind (fs[j].ref:Nat) (fs[j].lists:Nat) ks[j] ((cQ (bP fs (eJ fs ks) 4).al.toNat (oP fs (eJ fs ks) zs)).length+((bP fs (eJ fs ks) 4).pl.getD j 0).toNat) ys _ (by omega) (hk.fits j hj hjk) (fun h13 h0=>hk.has j hj hjk hd h13 (by omega)) (hs j hjk);have h7:=vX (hs j hjk);show (oL S (fJ S r) _ _ _ _ _ ys).length≤_;omega
          | false=>exact Nat.le_add_right _ _
        · rw [List.length_append,bX,bC];simp only [aR,List.length_replicate];have h16:(fs.length * 4:Nat)≤64:=by omega
          have hsz:(bP fs (eJ fs ks) 4).size.toNat≤964:=by omega
          have hal:(bP fs (eJ fs ks) 4).al.toNat≤8:=by omega
          omega
      · unfold lH;have h2:=lW 4 zs (by decide);simp only [PV.bytes,bX,bC,List.length_append];split
        · simp only [List.length_cons,List.length_nil];omega
        · simp only [List.length_nil];omega
theorem aDU {S:List bK}{es:List aX}(hS:∀ q ∈ S,q.fields.length≤16)(hD:∀ q ∈ S,fC es (cR q).fields){r root:Nat}{v:PV}{m:Nat}(hf:cZ (S.map cR) es r 13 root 0 v=true)(hh:v.has=true)(hw:Wt v m):(tO S r root v).length≤4+2016 * m:=by have h:=aEQ hS hD r 13 root 0 v 0 (aR 4) m (by decide) hf (fun _ _=>hh) hw;unfold oL at h;rw [if_neg (by decide),if_neg (by decide),bG rfl] at h;have h2:(tO S r root v).length+1000≤4+2016 * m:=h;omega
section
open Go.ChangeShapes Go.WideShapes Go.ChangeAt Go.Shelf
def Loc (W:World)(wk:Nat)(A:Option Addr)(p:Nat)(o:Obj):Prop:=W.heap[p]?=some o∧p≠wk∧some p≠fV A
theorem iI {w:World}{g:Nat}{o:Obj}(h:w.heap[g]?=some o):g<w.heap.size:=by
 rcases Nat.lt_or_ge g w.heap.size with h1|h1
 · exact h1
 · rw [Array.getElem?_eq_none h1] at h;cases h
theorem Wx.notrow {wk p:Nat}{A A':Option Addr}{w w':World}(h:Wx wk A A' w w')(hp:p<w.heap.size)(hne:some p≠fV A):some p≠fV A':=by
 rcases h.row with e|⟨k,e,hk⟩
 · rw [e];exact hne
 · rw [e];intro e2;injection e2 with e2;omega
theorem Loc.wx {W W':World}{wk p:Nat}{A A':Option Addr}{o:Obj}(h:Loc W wk A p o)(hx:Wx wk A A' W W'):Loc W' wk A' p o:=
 ⟨(hx.block p (iI h.1) h.2.1 h.2.2).trans h.1,h.2.1,hx.notrow (iI h.1) h.2.2⟩
theorem Loc.bel {W W':World}{wk p:Nat}{A:Option Addr}{o:Obj}(h:Loc W wk A p o)(hb:Below W.heap.size W W'):Loc W' wk A p o:=⟨(hb.block p (iI h.1)).trans h.1,h.2.1,h.2.2⟩
theorem Loc.new {W W':World}{base wk p cap:Nat}{A:Option Addr}{sv ev:Value}{root:Int}{zs:List Int}{o:Obj}(h:WrSt W base wk A cap sv ev root zs)(hp:W.heap.size≤p)(hb:W'.heap[p]?=some o):Loc W' wk A p o:=
 ⟨hb,by have:=aD h.blk;omega,fun e=>by have:=(h.row p e.symm).2;omega⟩
structure ECtx (b:Nat)(w0 W:World)(wk:Nat)(A:Option Addr)(cap:Nat)(sv ev:Value)(root:Int)(zs:List Int)(ss:List (bK × Value))(es:List (aX × Value)):Prop where
 st:WrSt W w0.heap.size wk A cap sv ev root zs
 rows:SchRows b w0 ss es sv ev
 bel:Below w0.heap.size w0 W
 sch:jP ss (es.map Prod.fst)
 dfl:∀ q ∈ ss,fC (es.map Prod.fst) (cR q.1).fields
section
variable {b:Nat} {w0 W W':World} {wk:Nat} {A A':Option Addr} {cap cap':Nat} {sv ev:Value} {root:Int} {zs zs':List Int} {ss:List (bK × Value)} {es:List (aX × Value)}
theorem ECtx.step (h:ECtx b w0 W wk A cap sv ev root zs ss es)(hs:WrSt W' w0.heap.size wk A' cap' sv ev root zs')(hx:Wx wk A A' W W'):ECtx b w0 W' wk A' cap' sv ev root zs' ss es:=
 ⟨hs,h.rows,h.bel.trans (hx.below h.st.hb (fun k hk=>(h.st.row k hk).1) h.bel.size),h.sch,h.dfl⟩
theorem ECtx.below (h:ECtx b w0 W wk A cap sv ev root zs ss es)(hb:Below W.heap.size W W'):ECtx b w0 W' wk A cap sv ev root zs ss es:=h.step (h.st.below hb) (Wx.of_below A hb)
theorem ECtx.post (h:ECtx b w0 W wk A cap sv ev root zs ss es){r:Value}{e:Ending}(hp:dR r w0.heap.size wk A sv ev root zs' W e W'):∃ A' cap',e=.returned r∧ECtx b w0 W' wk A' cap' sv ev root zs' ss es∧Wx wk A A' W W':=by obtain ⟨h1,A',cap',h2,h3⟩:=hp;exact ⟨A',cap',h1,h.step h2 h3,h3⟩
theorem nV (ss:List (bK × Value)):aG ss=(ss.map Prod.fst).map cR:=by unfold aG fF;rw [List.map_map,List.map_map];rfl
end
def tH (r:Nat):Prop:=∀ (b:Nat) (w0 W:World) (wk:Nat) (A:Option Addr) (cap:Nat) (sv ev:Value) (root:Int) (zs:List Int) (ss:List (bK × Value)) (es:List (aX × Value)) (k ref lists:Nat) (v:PV) (val:Value) (a:Nat),
 ECtx b w0 W wk A cap sv ev root zs ss es→IsV w0 v val→1≤k→k≤13→lists≤3→cZ (aG ss) (es.map Prod.fst) r k ref lists v=true→(k=13→lists=0→v.has=true)→a+(gK k lists).toNat≤zs.length→(oL (ss.map Prod.fst) (fJ (ss.map Prod.fst) r) k ref lists v a zs).length≤70368744177664 →
 Calls Tryd.prog 66 #[.pointer (some ⟨wk,0,none⟩),.agg #[.int .u8 k,.int .i64 ref,.int .i64 lists],val,.int .i64 a] W (dR (.tuple #[]) w0.heap.size wk A sv ev root (oL (ss.map Prod.fst) (fJ (ss.map Prod.fst) r) k ref lists v a zs) W)
def qP (r:Nat):Prop:=∀ (b:Nat) (w0 W:World) (wk:Nat) (A:Option Addr) (cap:Nat) (sv ev:Value) (root:Int) (zs:List Int) (ss:List (bK × Value)) (es:List (aX × Value)) (k ref lists:Nat) (v:PV) (val:Value) (a:Nat),
 ECtx b w0 W wk A cap sv ev root zs ss es→IsV w0 v val→1≤k→k≤13→1≤lists→lists≤3→cZ (aG ss) (es.map Prod.fst) r k ref lists v=true→a+4≤zs.length→(gR (fJ (ss.map Prod.fst) r) k ref ((lists:Int)-1) v a zs).length≤70368744177664 →
 Calls Tryd.prog 88 #[.pointer (some ⟨wk,0,none⟩),.agg #[.int .u8 k,.int .i64 ref,.int .i64 lists],val,.int .i64 a] W (dR (.tuple #[]) w0.heap.size wk A sv ev root (gR (fJ (ss.map Prod.fst) r) k ref ((lists:Int)-1) v a zs) W)
def sM (r:Nat):Prop:=∀ (b:Nat) (w0 W:World) (wk:Nat) (A:Option Addr) (cap:Nat) (sv ev:Value) (root:Int) (zs:List Int) (ss:List (bK × Value)) (es:List (aX × Value)) (i:Nat) (v:PV) (val:Value) (a:Nat),
 ECtx b w0 W wk A cap sv ev root zs ss es→IsV w0 v val→cZ (aG ss) (es.map Prod.fst) r 13 i 0 v=true→v.has=true→a+4≤zs.length→(lM (ss.map Prod.fst) (fJ (ss.map Prod.fst) r) i v a zs).length≤70368744177664 →
 Calls Tryd.prog 40 #[.pointer (some ⟨wk,0,none⟩),.int .i64 i,val,.int .i64 a] W (dR (.tuple #[]) w0.heap.size wk A sv ev root (lM (ss.map Prod.fst) (fJ (ss.map Prod.fst) r) i v a zs) W)
end
end Go.Proofs.YtpbaaiilfkacnaaDoor
