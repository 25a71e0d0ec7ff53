/-
  The hand's value and Value: of every type of a made schema they make a value that fits. Conditions: those that each theorem names.
-/
import Derived.Test.YtpbaaedijfofnaaDoorPkV53
import Derived.Test.YtpbaaedijfofnaaDoorPkV1
import Derived.Test.YtpbaaedijfofnaaDoorPkV5
import Derived.Test.YtpbaaedijfofnaaDoorPkV19
import Derived.Test.YtpbaaedijfofnaaDoorPkV21
import Derived.Test.YtpbaaedijfofnaaDoorPkV22
import Derived.Test.YtpbaaedijfofnaaDoorPkV23
import Derived.Test.YtpbaaedijfofnaaDoorPkV24
import Derived.Test.YtpbaaedijfofnaaDoorPkV25
import Derived.Test.YtpbaaedijfofnaaDoorPkV26
import Derived.Test.YtpbaaedijfofnaaDoorPkV29
namespace Go.Proofs.YtpbaaedijfofnaaDoor
open Go.RowKit
theorem gone_is {ss:List CRec}{es:List SCho}{r k:Nat}{ref lists:Int}{q:PV}(h:fitsP ss es r k ref lists q=true)(h4:sortP k lists=4)(hh:q.has=false):q=numV 0:=by
 rw [fitsP_eq,h4,Bool.and_eq_true] at h
 obtain ⟨n,bs,ks,hs⟩:=q
 have h1:=h.1
 simp only [PV.has] at hh
 subst hh
 simp [bareP,PV.num,PV.bytes,PV.kids,PV.has] at h1
 obtain ⟨a,b,c⟩:=h1
 have a':n=0:=of_decide_eq_true a
 have b':bs=[]:=by simpa using b
 have c':ks=[]:=by simpa using c
 subst a' b' c'
 rfl
structure KidsE (ss:List CRec)(es:List SCho)(r:Nat)(fs:List SFld)(ks:List PV):Prop where
 len:ks.length=fs.length
 fits:∀ i (hx:i<fs.length) (hk:i<ks.length),fitsP ss es r fs[i].kind (fs[i].ref:Nat) (fs[i].lists:Nat) ks[i]=true
 has:∀ i (hx:i<fs.length) (hk:i<ks.length),isDefB fs[i].dflt ks[i]=false→fs[i].kind=13→fs[i].lists=0→ks[i].has=true
theorem kidsE_of {S:List SRec}{es:List SCho}{r i:Nat}{v:PV}(hi:i<S.length)(hD:∀ q ∈ S,DfltsOk es (cR q).fields)(hh:v.has=true)(hf:fitsP (S.map cR) es (r+1) 13 i 0 v=true):KidsE (S.map cR) es r S[i].fields v.kids:=by
 have hi':i<(S.map cR).length:=by rw [List.length_map];exact hi
 obtain ⟨h1,h2⟩:=fits_kids hi' hh hf
 have e:(S.map cR)[i]=cR S[i]:=List.getElem_map ..
 have ef:(cR S[i]).fields=S[i].fields.map cF:=rfl
 have e1:(S.map cR)[i].fields=S[i].fields.map cF:=by rw [e,ef]
 have hfit:∀ j (hx:j<S[i].fields.length) (hk:j<v.kids.length),fitsP (S.map cR) es r S[i].fields[j].kind (S[i].fields[j].ref:Nat) (S[i].fields[j].lists:Nat) v.kids[j]=true:=fun j hx hk=>by
  have h3:=h2 j (by rw [e1,List.length_map];exact hx) hk
  simp only [List.getElem_map] at h3
  have h4:fitsP (S.map cR) es r ((S[i].fields.map cF)[j]'(by rw [List.length_map];exact hx)).kind ((S[i].fields.map cF)[j]'(by rw [List.length_map];exact hx)).ref ((S[i].fields.map cF)[j]'(by rw [List.length_map];exact hx)).lists v.kids[j]=true:=h3
  simp only [List.getElem_map] at h4
  exact h4
 refine ⟨by rw [h1,e1,List.length_map],hfit,fun j hx hk hd h13 h0=>?_⟩
 cases hb:v.kids[j].has with
 | true=>rfl
 | false =>
  have h4:sortP S[i].fields[j].kind (S[i].fields[j].lists:Nat)=4:=by rw [h13,h0];rfl
  have h5:=gone_is (hfit j hx hk) h4 hb
  have h6:=(hD _ (List.getElem_mem hi) (cF S[i].fields[j]) (by rw [ef];exact List.mem_map_of_mem (List.getElem_mem hx))).2.2 (by show ¬sortP S[i].fields[j].kind (S[i].fields[j].lists:Nat)=1;rw [h4];decide)
  have h7:S[i].fields[j].dflt=0:=h6
  rw [h7,h5] at hd
  exact absurd hd (by decide)
theorem elsE_of {ss:List CRec}{es:List SCho}{r k:Nat}{ref lists:Int}{v:PV}(h0:0<lists)(hf:fitsP ss es r k ref lists v=true):v.kids=[]∨∃ q,r=q+1∧∀ x ∈ v.kids,fitsP ss es q k ref (lists-1) x=true∧(k=13→lists-1=0→x.has=true):=by
 have h3:sortP k lists=3:=by unfold sortP;rw [if_pos h0]
 rw [fitsP_eq,h3,Bool.and_eq_true] at hf
 have h4:v.kids.all (kidOk ss es r k ref (lists-1))=true:=hf.2
 rw [List.all_eq_true] at h4
 cases hk:v.kids with
 | nil=>exact .inl rfl
 | cons a l =>
  right
  have h5:=h4 a (by rw [hk];exact List.mem_cons_self ..)
  cases r with
  | zero=>simp [kidOk] at h5
  | succ q =>
   refine ⟨q,rfl,fun x hx=>?_⟩
   have h6:=h4 x (by rw [hk];exact hx)
   simp only [kidOk,Nat.add_sub_cancel,Bool.and_eq_true,Bool.not_eq_true',Bool.and_eq_false_iff,decide_eq_false_iff_not] at h6
   refine ⟨h6.2.2,fun h13 hl=>?_⟩
   rcases h6.2.1 with h7|h7
   · exact absurd (by rw [h13,hl];rfl) h7
   · simpa using h7
theorem padE_len (m:Nat)(zs:List Int)(hm:0<m):(padE m zs).length<zs.length+m:=by
 unfold padE zeros
 rw [List.length_append,List.length_replicate]
 have:=Nat.mod_lt (m-zs.length % m) hm
 omega
theorem seqE_len {f:Nat→List Int→List Int}{zs:List Int}{c:Nat→Nat}:∀ n,(∀ i,i<n→∀ ys,(f i ys).length≤ys.length+c i)→(seqE f zs n).length≤zs.length+((List.range n).map c).sum
 | 0,_=>by simp [seqE]
 | n+1,h=>by
  have h1:=seqE_len (f:=f) (zs:=zs) (c:=c) n (fun i hi=>h i (by omega))
  have h2:=h n (by omega) (seqE f zs n)
  rw [List.range_succ,List.map_append,List.sum_append]
  show (f n (seqE f zs n)).length≤_
  simp only [List.map_cons,List.map_nil,List.sum_cons,List.sum_nil]
  omega
theorem seqE_upto {f:Nat→List Int→List Int}(hf:∀ i zs,zs.length≤(f i zs).length)(zs:List Int)(j:Nat):∀ n,j≤n→(seqE f zs j).length≤(seqE f zs n).length
 | 0,h=>by
  obtain rfl:j=0:=by omega
  exact Nat.le_refl _
 | n+1,h=>by
  rcases Nat.lt_or_ge n j with h1|h1
  · obtain rfl:j=n+1:=by omega
    exact Nat.le_refl _
  · exact Nat.le_trans (seqE_upto hf zs j n h1) (hf n _)
theorem lastE_le (th:List Bool):∀ j,lastE th j≤j
 | 0=>Nat.le_refl _
 | j+1=>by
  unfold lastE
  split
  · exact Nat.le_refl _
  · exact Nat.le_succ_of_le (lastE_le th j)
theorem wt_pos {v:PV}{m:Nat}(h:Wt v m):1≤m:=by
 cases h
 omega
theorem sum_range_eq (ms:List Nat):∀ n,n≤ms.length→(∀ i,i<n→1≤ms.getD i 0)→((List.range n).map fun i=>2016 * ms.getD i 0-1000).sum+1000 * n=2016 * (ms.take n).sum
 | 0,_,_=>by simp
 | n+1,h,h1=>by
  have ih:=sum_range_eq ms n (by omega) (fun i hi=>h1 i (by omega))
  have hp:=h1 n (by omega)
  rw [List.range_succ,List.map_append,List.sum_append,List.take_add_one,List.sum_append]
  rw [List.getElem?_eq_getElem (show n<ms.length by omega)]
  have hg:ms.getD n 0=ms[n]:=by rw [List.getD,List.getElem?_eq_getElem (show n<ms.length by omega),Option.getD_some]
  rw [hg] at hp
  simp only [List.map_cons,List.map_nil,List.sum_cons,List.sum_nil,Option.toList_some,hg]
  omega
theorem sum_range_le (ms:List Nat)(h1:∀ i,i<ms.length→1≤ms.getD i 0)(n:Nat)(hn:n=ms.length):((List.range n).map fun i=>2016 * ms.getD i 0-1000).sum+1000 * n=2016 * ms.sum:=by
 subst hn
 have h:=sum_range_eq ms ms.length (Nat.le_refl _) h1
 rw [List.take_length] at h
 exact h
theorem headE_len (fs:List SFld)(th:List Bool)(zs:List Int):(headE fs th zs).length=(padE 2 zs).length+4+2 * lastE th fs.length:=by
 have h:∀ n ys,(seqE (fun i=>putE 2 ((tabAll fs th 4).pl.getD i 0)) ys n).length=ys.length+2 * n:=by
  intro n ys
  induction n with
  | zero=>rfl
  | succ n ih =>
   show (putE 2 _ (seqE _ ys n)).length=_
   rw [putE_length,ih]
   omega
 unfold headE
 rw [h,putE_length,putE_length]
theorem rec_at {S:List SRec}{i:Nat}(hi:i<S.length):recE S (i:Int)=S[i]:=by
 unfold recE
 rw [Int.toNat_natCast,List.getD,List.getElem?_eq_getElem hi,Option.getD_some]
theorem enc_len {S:List SRec}{es:List SCho}(hS:∀ q ∈ S,q.fields.length≤16)(hD:∀ q ∈ S,DfltsOk es (cR q).fields):∀ (r k:Nat) (ref lists:Int) (v:PV) (a:Nat) (zs:List Int) (m:Nat),0≤lists→fitsP (S.map cR) es r k ref lists v=true→(k=13→lists=0→v.has=true)→Wt v m→(valE S (encE S r) k ref lists v a zs).length+1000≤zs.length+2016 * m:=by
 intro r
 induction r with
 | zero =>
  intro k ref lists v a zs m hl0 hf hh hw
  cases hw with
  | mk n bs ks h ms hl hs _ hm =>
  unfold valE
  split
  · rw [setE_length];omega
  · split
    · rename_i h0
      have hk:ks=[]:=by
       rcases elsE_of h0 hf with h1|⟨q,hq,_⟩
       · exact h1
       · cases hq
      subst hk
      unfold listE
      have h2:=padE_len 4 zs (by decide)
      simp only [PV.kids,List.length_nil,seqE,List.length_append,setE_length,putE_length,zeros,List.length_replicate,Nat.mul_zero]
      split
      · simp only [List.length_append,List.length_replicate];omega
      · omega
    · split
      · rename_i h1 h2 h3
        subst h3
        have hl:lists=0:=by omega
        subst hl
        have h4:=hh rfl rfl
        rw [fitsP_eq,show sortP 13 0=4 from rfl] at hf
        simp only [PV.has] at h4
        subst h4
        simp [PV.has,structP] at hf
      · unfold bytesE
        have h2:=padE_len 4 zs (by decide)
        simp only [PV.bytes,setE_length,putE_length,List.length_append]
        split
        · simp only [List.length_cons,List.length_nil];omega
        · simp only [List.length_nil];omega
 | succ r ih =>
  intro k ref lists v a zs m hl0 hf hh hw
  have hw0:=hw
  cases hw with
  | mk n bs ks h ms hl hs _ hm =>
  unfold valE
  split
  · rw [setE_length];omega
  · split
    · rename_i hnum h0
      unfold listE
      have h2:=padE_len 4 zs (by decide)
      have hstep:(stepZ k (lists-1)).toNat≤8:=by
       unfold stepZ kSize
       split
       · split
         · decide
         · split
           · decide
           · split
             · decide
             · split<;>decide
       · decide
      have hpos:∀ i,i<ms.length→1≤ms.getD i 0:=fun i hi=>wt_pos (hs i (by omega))
      have hsum:=sum_range_le ms hpos ks.length (by omega)
      have hels:=elsE_of h0 hf
      simp only [PV.kids] at hels ⊢
      have hlen:∀ y0:List Int,(seqE (fun i=>encE S (r+1) k ref (lists-1) (ks.getD i (numV 0)) ((if (stepZ k (lists-1)).toNat=8∧((padE 4 zs).length+4) % 8≠0 then padE 4 zs++zeros 4 else padE 4 zs).length+4+i * (stepZ k (lists-1)).toNat)) y0 ks.length).length+1000 * ks.length≤y0.length+2016 * ms.sum:=by
       intro y0
       refine Nat.le_trans (Nat.add_le_add_right (seqE_len (c:=fun i=>2016 * ms.getD i 0-1000) ks.length (fun i hi ys=>?_)) _) (by omega)
       rcases hels with h1|⟨q,hq,h1⟩
       · subst h1;exact absurd hi (Nat.not_lt_zero _)
       · have hq':q=r:=by omega
         subst hq'
         have h3:ks.getD i (numV 0)=ks[i]:=by rw [List.getD,List.getElem?_eq_getElem hi,Option.getD_some]
         rw [h3]
         obtain ⟨h4,h5⟩:=h1 ks[i] (List.getElem_mem hi)
         have h6:=ih k ref (lists-1) ks[i] ((if (stepZ k (lists-1)).toNat=8∧((padE 4 zs).length+4) % 8≠0 then padE 4 zs++zeros 4 else padE 4 zs).length+4+i * (stepZ k (lists-1)).toNat) ys _ (by omega) h4 h5 (hs i hi)
         have h7:=wt_pos (hs i hi)
         show (valE S (encE S q) k ref (lists-1) ks[i] _ ys).length≤_
         omega
      have hl9:=hlen (setE a 4 (((if (stepZ k (lists-1)).toNat=8∧((padE 4 zs).length+4) % 8≠0 then padE 4 zs++zeros 4 else padE 4 zs).length:Int)-a) (putE 4 (ks.length:Nat) (if (stepZ k (lists-1)).toNat=8∧((padE 4 zs).length+4) % 8≠0 then padE 4 zs++zeros 4 else padE 4 zs))++zeros ((stepZ k (lists-1)).toNat * ks.length))
      have h9:(stepZ k (lists-1)).toNat * ks.length≤8 * ks.length:=Nat.mul_le_mul_right _ hstep
      rw [List.length_append,setE_length,putE_length] at hl9
      have h10:(if (stepZ k (lists-1)).toNat=8∧((padE 4 zs).length+4) % 8≠0 then padE 4 zs++zeros 4 else padE 4 zs).length≤(padE 4 zs).length+4:=by
       split
       · rw [List.length_append];simp [zeros]
       · omega
      have h11:(zeros ((stepZ k (lists-1)).toNat * ks.length)).length≤8 * ks.length:=by
       unfold zeros
       rw [List.length_replicate]
       exact h9
      omega
    · split
      · rename_i h1 h2 h3
        subst h3
        have hl:lists=0:=by omega
        subst hl
        have h4:=hh rfl rfl
        have hri:0≤ref∧ref<(S.map cR).length:=by
         have h5:=hf
         rw [fitsP_eq,show sortP 13 0=4 from rfl,h4,Bool.and_eq_true] at h5
         have h6:structP (S.map cR) es (r+1) ref ks=true:=h5.2
         unfold structP at h6
         rw [Bool.and_eq_true] at h6
         exact of_decide_eq_true h6.1
        obtain ⟨i,rfl⟩:∃ i:Nat,ref=i:=⟨ref.toNat,by omega⟩
        have hi:i<S.length:=by have:=hri.2;rw [List.length_map] at this;omega
        have hk:=kidsE_of hi hD h4 hf
        have hfs:=hS _ (List.getElem_mem hi)
        unfold tableE
        rw [rec_at hi]
        generalize S[i].fields=fs at *
        simp only [PV.kids] at hk ⊢
        have hkl:=hk.len
        have htf:=tabAll_facts fs (thereE fs ks) 4 (Nat.le_refl _)
        have hla:=lastE_le (thereE fs ks) fs.length
        have hhl:=headE_len fs (thereE fs ks) zs
        have hp2:=padE_len 2 zs (by decide)
        have hpa:=padE_len (tabAll fs (thereE fs ks) 4).al.toNat (headE fs (thereE fs ks) zs) (by omega)
        have hpb:=padE_le (tabAll fs (thereE fs ks) 4).al.toNat (headE fs (thereE fs ks) zs)
        have hpos:∀ i,i<ms.length→1≤ms.getD i 0:=fun i hi=>wt_pos (hs i (by omega))
        have hsum:=sum_range_le ms hpos fs.length (by omega)
        refine Nat.le_trans (Nat.add_le_add_right (seqE_len (c:=fun i=>2016 * ms.getD i 0-1000) fs.length (fun j hj ys=>?_)) _) ?_
        · show (kidE ((thereE fs ks).getD j false) _ ys).length≤_
          cases hth:(thereE fs ks).getD j false with
          | true =>
           show (encE S (r+1) _ _ _ _ _ ys).length≤_
           have hjk:j<ks.length:=by omega
           have e1:fs.getD j ⟨⟨#[]⟩,0,0,0,0⟩=fs[j]:=by rw [List.getD,List.getElem?_eq_getElem hj,Option.getD_some]
           have e2:ks.getD j (numV 0)=ks[j]:=by rw [List.getD,List.getElem?_eq_getElem hjk,Option.getD_some]
           have hd:isDefB fs[j].dflt ks[j]=false:=by
            unfold thereE at hth
            rw [List.getD,List.getElem?_map,List.getElem?_range hj] at hth
            simp only [Option.map_some,Option.getD_some,e1,e2,Bool.not_eq_true'] at hth
            exact hth
           rw [e1,e2]
           have h6:=ih fs[j].kind (fs[j].ref:Nat) (fs[j].lists:Nat) ks[j] ((padE (tabAll fs (thereE fs ks) 4).al.toNat (headE fs (thereE fs ks) zs)).length+((tabAll fs (thereE fs ks) 4).pl.getD j 0).toNat) ys _ (by omega) (hk.fits j hj hjk) (fun h13 h0=>hk.has j hj hjk hd h13 (by omega)) (hs j hjk)
           have h7:=wt_pos (hs j hjk)
           show (valE S (encE S r) _ _ _ _ _ ys).length≤_
           omega
          | false=>exact Nat.le_add_right _ _
        · rw [List.length_append,setE_length,putE_length]
          simp only [zeros,List.length_replicate]
          have h16:(fs.length * 4:Nat)≤64:=by omega
          have hsz:(tabAll fs (thereE fs ks) 4).size.toNat≤964:=by omega
          have hal:(tabAll fs (thereE fs ks) 4).al.toNat≤8:=by omega
          omega
      · unfold bytesE
        have h2:=padE_len 4 zs (by decide)
        simp only [PV.bytes,setE_length,putE_length,List.length_append]
        split
        · simp only [List.length_cons,List.length_nil];omega
        · simp only [List.length_nil];omega
theorem encZ_len {S:List SRec}{es:List SCho}(hS:∀ q ∈ S,q.fields.length≤16)(hD:∀ q ∈ S,DfltsOk es (cR q).fields){r root:Nat}{v:PV}{m:Nat}(hf:fitsP (S.map cR) es r 13 root 0 v=true)(hh:v.has=true)(hw:Wt v m):(encZ S r root v).length≤4+2016 * m:=by
 have h:=enc_len hS hD r 13 root 0 v 0 (zeros 4) m (by decide) hf (fun _ _=>hh) hw
 unfold valE at h
 rw [if_neg (by decide),if_neg (by decide),if_pos rfl] at h
 have h2:(encZ S r root v).length+1000≤4+2016 * m:=h
 omega
end Go.Proofs.YtpbaaedijfofnaaDoor
namespace Go.Proofs.YtpbaaedijfofnaaDoor
open Go.ChangeShapes Go.WideShapes Go.ChangeAt Go.RowKit Go.Shelf
theorem u8_infoW:(Tryd.prog.info? 5).map (fun i=>(i.zero,i.size,i.bytes))=some (some (.int .u8 0),1,1):=by kernel_rfl
def slLen:Option Value→Nat
 | some (.slice _ n _)=>n
 | _=>0
def WaAt (w:World)(base wk:Nat)(A:Option Addr)(sv ev:Value)(root:Int)(zs:List Int)(K:Nat)(wr:World):Prop:=∃ (j:Nat) (A':Option Addr) (cap':Nat),j≤K∧WrSt wr base wk A' cap' sv ev root (zs++zeros j)∧Wx wk A A' w wr
theorem zeros_snoc (zs:List Int)(j:Nat):zs++zeros j++[0]=zs++zeros (j+1):=by
 rw [List.append_assoc]
 congr 1
 unfold zeros
 rw [List.replicate_succ']
set_option maxRecDepth 100000 in
set_option maxHeartbeats 8000000 in
theorem walign_any (w:World){base wk:Nat}{A:Option Addr}{cap:Nat}{sv ev:Value}{root:Int}{zs:List Int}(h:WrSt w base wk A cap sv ev root zs)(m:Nat)(hm:m=2∨m=4∨m=8)(hl:zs.length≤70368744177664)(hB:base≤w.heap.size) :
  Calls Tryd.prog 74 #[.pointer (some ⟨wk,0,none⟩),.int .i64 m] w (WrPost (.tuple #[]) base wk A sv ev root (padE m zs) w):=by
 obtain ⟨K,hK⟩:∃ K,(m-zs.length % m) % m=K:=⟨_,rfl⟩
 have hpad:padE m zs=zs++zeros K:=by unfold padE;rw [hK]
 have hK8:K<8∧(∀ j,j<K→¬(zs.length+j) % m=0)∧(zs.length+K) % m=0:=by
  refine ⟨?_,fun j hj=>?_,?_⟩
  · rcases hm with rfl|rfl|rfl<;>omega
  · rcases hm with rfl|rfl|rfl<;>omega
  · rcases hm with rfl|rfl|rfl<;>omega
 have hm0:¬m=0:=by omega
 have hmI:¬(m:Int)=0:=by omega
 have HK8:=Lib.hid hK8
 obtain ⟨P,hP⟩:∃ P,WrPost (.tuple #[]) base wk A sv ev root (padE m zs) w=P:=⟨_,rfl⟩
 rw [hP]
 have HP:=Lib.hid hP.symm
 have HPAD:=Lib.hid hpad
 have HST:Hid (WaAt w base wk A sv ev root zs K w):=Lib.hid ⟨0,A,cap,Nat.zero_le _,by rw [show zs++zeros 0=zs from List.append_nil _];exact h,Wx.refl _ _ _⟩
 have HB:=Lib.hid hB
 have HL:=Lib.hid hl
 clear hK hpad hK8 hm hP h hB hl
 go_enter Tryd.func74,Tryd.ntmps74
 go_wp2_with fail
 go_loopw [] (fun wr=>WaAt w base wk A sv ev root zs K wr) (fun wr=>zs.length+K-slLen (wr.cell? ⟨wk,3,none⟩))
 case atStart=>exact HST.out
 case round =>
  obtain ⟨j,A',cap',hj,hs,hx⟩:=hrel
  have HS:=Lib.hid hs
  have HX:=Lib.hid hx
  have hlen:(zs++zeros j).length=zs.length+j:=by simp [zeros]
  obtain ⟨_,c0,c1,c2,c3⟩:=blk4p hs.blk
  have f3:=blk_frozen hs.blk 3
  rw [hlen] at c3
  have hcp:=hs.few
  rw [hlen] at hcp
  have HLEN:=Lib.hid hlen
  clear hs hx c0 c1 c2 hlen
  have hbig:zs.length+j≤70368744177680:=by have:=HL.out;have:=HK8.out.1;omega
  obtain ⟨n,hn⟩:∃ n,zs.length+j=n:=⟨_,rfl⟩
  rw [hn] at c3 hcp hbig
  have HN:=Lib.hid hn
  by_cases hjK:j<K
  · obtain ⟨r,hr⟩:∃ r:Nat,n % m=r:=⟨_,rfl⟩
    have hmod:(n:Int).tmod m=r:=by rw [Int.tmod_eq_emod_of_nonneg (by omega),←hr];rfl
    have hr0:((r:Int)==0)=false:=by
     have h1:=HK8.out.2.1 j hjK
     rw [hn,hr] at h1
     simp
     omega
    have HJK:=Lib.hid hjK
    obtain ⟨i0,hi0,hzz0,hzz1,hzz2⟩:=info_parts u8_infoW
    have I1:=Lib.hid hi0
    have I2:=Lib.hid hzz0
    have I3:=Lib.hid hzz1
    have I4:=Lib.hid hzz2
    have HBN:=Lib.hid (heap_alloc_new wr (.cells #[.int .u8 0] 5))
    have HBA:=Lib.hid ((Below.refl wr.heap.size wr).alloc (Nat.le_refl _) (.cells #[.int .u8 0] 5))
    have HOWN:Hid (wr.ownsRow base 5 1 (.slice A' n cap') n (u8s (zs++zeros j))):=Lib.hid (by have h1:=HS.out.own;unfold OwnV at h1;rw [HLEN.out,hn] at h1;exact h1)
    have HUA:=Lib.hid (row_keep HBA.out HOWN.out)
    clear hr hn hi0 hzz0 hzz1 hzz2 hjK
    go_wp2_with (at_builtin;refine wpList_append_own_at _ rfl (.tmp 16) (.tmp 17) 22 rfl base 5 i0 _ 1 1 Tryd.underlying22 I1.out I2.out I3.out I4.out rfl (by decide) _ n (u8s (zs++zeros j)) rfl HUA.out _ 1 1 [.int .u8 0] rfl rfl (World.news_of_block HBN.out) (by intro u hu;rw [List.mem_singleton.1 hu];rfl) (by unfold maxLen;omega) (by omega) (by have:=HB.out;have:=HX.out.size;simp;omega) ?_;intro v4 W8 hown4 hg4 hx hat4;clear hx;have hap:=wr_app2 (news:=[0]) (A:=A') (cap:=cap') (n:=n) HS.out HBA.out rfl hg4 (show (zs++zeros j).length+1=n+1 by rw [HLEN.out,HN.out]) (by simpa [u8s] using hown4) hat4 (by intro z hz;rw [List.mem_singleton.1 hz];decide);clear hown4 hg4 hat4;obtain ⟨A4,cap4,rfl,h8,hs4,hx4⟩:=hap;obtain ⟨_,d0,d1,d2,d3⟩:=blk4p h8;have e3:=blk_frozen h8 3;have S4:=Lib.hid hs4;have X4:=Lib.hid hx4;clear h8 hs4 hx4)
    go_roundw
    case rel =>
     exact ⟨j+1,A4,cap4,HJK.out,by rw [←zeros_snoc];exact S4.out,HX.out.trans X4.out⟩
    case measure =>
     have h1:=(blk4p S4.out.blk).2.2.2.2
     have h2:=(blk4p HS.out.blk).2.2.2.2
     rw [h1,h2]
     simp only [slLen]
     have h3:=HLEN.out
     have h4:=HJK.out
     have h5:(zs++zeros j++[0]).length=zs.length+j+1:=by rw [List.length_append,h3];rfl
     omega
  · obtain rfl:j=K:=by omega
    have hmod:(n:Int).tmod m=0:=by
     have h1:=HK8.out.2.2
     rw [hn] at h1
     rw [Int.tmod_eq_emod_of_nonneg (by omega)]
     omega
    clear hn hjK
    go_wp2
    first|refine bodyPost_end (v:=.tuple #[]) (by simp [results,Tryd.results74,go_sem]) rfl ?_|refine bodyPost_ret (v:=.tuple #[]) (by simp [results,Tryd.results74,go_sem]) rfl ?_
    rw [HP.out]
    exact ⟨rfl,A',cap',by rw [HPAD.out];exact HS.out,HX.out⟩
set_option maxRecDepth 100000 in
set_option maxHeartbeats 8000000 in
theorem wput_any (w:World){base wk:Nat}{A:Option Addr}{cap:Nat}{sv ev:Value}{root:Int}{zs:List Int}(h:WrSt w base wk A cap sv ev root zs)(s:Nat)(n:Int)(hs8:s≤8)(hl:zs.length≤70368744177664)(hB:base≤w.heap.size) :
  Calls Tryd.prog 75 #[.pointer (some ⟨wk,0,none⟩),.int .i64 s,.int .u64 n] w (WrPost (.int .i64 zs.length) base wk A sv ev root (putE s n zs) w):=by
 obtain ⟨P,hP⟩:∃ P,WrPost (.int .i64 zs.length) base wk A sv ev root (putE s n zs) w=P:=⟨_,rfl⟩
 rw [hP]
 have HP:=Lib.hid hP.symm
 have HC:=Lib.hid (fun W (hW:base≤W.heap.size)=>rput_any W.heap.size n s W (Nat.le_refl _) hs8)
 obtain ⟨_,c0,c1,c2,c3⟩:=blk4p h.blk
 have HS:=Lib.hid h
 have HB:=Lib.hid hB
 have HL:=Lib.hid hl
 have hcp:=h.few
 have hbig:zs.length≤140737488355328:=by omega
 clear hP h hB hl c0 c1 c2
 go_enter Tryd.func75,Tryd.ntmps75
 go_upto_region 2 with (fail)
 have s0:=c3
 clear c3
 refine wp_region_noPanic ?_
 refine till_start 11 (fun _=>True) (fun w'=>w'.cell? ⟨wk,3,none⟩=some (.slice A zs.length cap)) (by kernel_rfl) ?_
 have HB0:=Lib.hid ((Below.refl w.heap.size w).drew)
 have HS0:=Lib.hid (HS.out.below HB0.out)
 have hsz0:w.drew.heap.size=w.heap.size:=rfl
 have HSZ:=Lib.hid hsz0
 clear hsz0
 generalize w.drew=V0 at *
 have hU:True:=trivial
 have hV:=cell_stays HB0.out s0
 refine tt 0 (.pointer (some ⟨wk,0,none⟩)) hU hV ?_ ?_
 · intro w' hSw
   have t0:=hSw.2
   go_simp
 simp only [td]
 refine tt 1 (.pointer (some ⟨wk,0,none⟩)) hU hV ?_ ?_
 · intro w' hSw
   have t0:=hSw.2
   go_simp
 simp only [td]
 refine tt 2 (.pointer (some ⟨wk,0,none⟩)) hU hV ?_ ?_
 · intro w' hSw
   have t0:=hSw.2
   go_simp
 simp only [td]
 refine tt 3 (.pointer (some ⟨wk,3,none⟩)) hU hV ?_ ?_
 · intro w' hSw
   have t0:=hSw.2
   go_simp
 simp only [td]
 refine tt 4 (.slice A zs.length cap) hU hV ?_ ?_
 · intro w' hSw
   have t0:=hSw.2
   go_simp
 simp only [td]
 refine tt 5 (.int .u64 n) hU hV ?_ ?_
 · intro w' hSw
   have t0:=hSw.2
   go_simp
 simp only [td]
 refine tt 6 (.int .i64 s) hU hV ?_ ?_
 · intro w' hSw
   have t0:=hSw.2
   go_simp
 simp only [td]
 refine till_one (i:=7) (by kernel_rfl) rfl (fun K hK=>?_)
 rw [if_pos (by kernel_rfl)]
 go_simp
 refine (HC.out V0 (by rw [HSZ.out];exact HB.out)).mono ?_
 rintro e V1 ⟨g1,rfl,ho1,hb1⟩
 have hV1:=cell_stays hb1 hV
 have HO1:=Lib.hid ho1
 have HB1:=Lib.hid (HB0.out.trans (hb1.mono (by rw [HSZ.out];exact Nat.le_refl _)))
 refine hK.out _ _ trivial hV1 ?_
 clear hV hK K ho1 hb1
 have hV:=hV1
 clear hV1
 obtain ⟨hl1,hgb,hgl,hc1,_,hcell1,_⟩:=HO1.out.facts
 obtain ⟨i0,hi0,hzz0,hzz1,hzz2⟩:=info_parts u8_infoW
 have hsrc:=SrcRow.toSrc (P:=Tryd.prog) (t:=22) (e:=5) Tryd.underlying22 (srcrow_of HO1.out)
 obtain ⟨v4,V2,hrun,hown4,hg4,hat4⟩:=run_append_any (P:=Tryd.prog) (w:=V1) base 22 22 22 5 i0 (.int .u8 0) 1 Tryd.underlying22 hi0 hzz0 hzz1 rfl (.slice A zs.length cap) zs.length (u8s zs) (row_keep HB1.out HS.out.own) _ s _ hsrc (by have:=HL.out;unfold maxLen;omega) (by rw [hzz2];have:=HL.out;omega) (Nat.le_trans HB.out HB1.out.size)
 rw [ownBlock_rowOf] at hg4 hat4
 have hap:=wr_app (news:=laidOver (zeros s) 0 n s) HS.out HB1.out hg4 (by rw [hl1];simpa [u8s] using hown4) hat4 (laid_rng s n)
 obtain ⟨A4,cap4,he4,h8,hs4,hx4⟩:=hap
 rw [hl1] at he4
 subst he4
 have S4:=Lib.hid hs4
 have X4:=Lib.hid hx4
 have hV2:=(blk4p h8).2.2.2.2
 have m3f:=blk_frozen h8 3
 clear hown4 hg4 hat4 h8 hs4 hx4 hsrc hcell1 hi0 hzz0 hzz1 hzz2 i0
 refine till_one (i:=8) (by kernel_rfl) rfl (fun K hK=>?_)
 rw [if_pos (by kernel_rfl)]
 refine wp_append_run _ (.tmp 17) (.tmp 20) 22 rfl _ _ _ _ rfl rfl hrun ?_
 refine hK.out _ _ trivial hV2 ?_
 clear hK K hrun
 have hV:=hV2
 clear hV2
 refine till_one (i:=9) (by kernel_rfl) rfl (fun K hK=>?_)
 rw [if_pos (by kernel_rfl)]
 go_simp
 refine hK.out _ _ trivial hV ?_
 clear hK K
 refine tt 10 (.pointer (some ⟨wk,3,none⟩)) hU hV ?_ ?_
 · intro w' hSw
   have t0:=hSw.2
   go_simp
 simp only [td]
 have m3:=hV
 refine till_last (by kernel_rfl) rfl (fun K hK=>?_)
 rw [if_pos (by kernel_rfl)]
 go_simp
 refine hK.out _ _ trivial ?_
 clear hK K hV m3 m3f
 refine till_done (by kernel_rfl) ?_ _
 refine NoPanic.normal ?_
 try simp only [Exit.then]
 go_wp2
 rw [HP.out]
 exact ⟨rfl,A4,cap4,S4.out,X4.out⟩
set_option maxRecDepth 100000 in
set_option maxHeartbeats 8000000 in
theorem wset_any (w:World){base wk:Nat}{A:Option Addr}{cap:Nat}{sv ev:Value}{root:Int}{zs:List Int}(h:WrSt w base wk A cap sv ev root zs)(a s:Nat)(n:Int)(hs8:s≤8)(ha:a+s≤zs.length)(hl:zs.length≤70368744177664)(hB:base≤w.heap.size) :
  Calls Tryd.prog 76 #[.pointer (some ⟨wk,0,none⟩),.int .i64 a,.int .i64 s,.int .u64 n] w (WrPost (.tuple #[]) base wk A sv ev root (setE a s n zs) w):=by
 obtain ⟨P,hP⟩:∃ P,WrPost (.tuple #[]) base wk A sv ev root (setE a s n zs) w=P:=⟨_,rfl⟩
 rw [hP]
 have HP:=Lib.hid hP.symm
 have HC:=Lib.hid (rput_any w.heap.size n s w (Nat.le_refl _) hs8)
 have HS:=Lib.hid h
 have HA:=Lib.hid ha
 have HL:=Lib.hid hl
 have HB:=Lib.hid hB
 clear hP h hB hl ha
 go_enter Tryd.func76,Tryd.ntmps76
 go_wp2_with fail
 refine HC.out.mono ?_
 rintro e W1 ⟨g1,rfl,ho1,hb1⟩
 have HO1:=Lib.hid ho1
 have HS1:=Lib.hid (HS.out.below hb1)
 have HX1:=Lib.hid (Wx.of_below (wk:=wk) A hb1)
 have hg1:=ho1.facts.2.1
 clear ho1 hb1
 go_wp2_with fail
 go_loopw [9] (fun i wr=>∃ k:Nat,k≤s∧i=.int .i64 k∧OwnR wr w.heap.size 5 g1 s s (laidOver (zeros s) 0 n s)∧WrSt wr base wk A cap sv ev root (laidOver zs a n k)∧Wx wk A A w wr) (fun i _=>s-(intOf i).toNat)
 case atStart=>exact ⟨0,Nat.zero_le _,rfl,HO1.out,HS1.out,HX1.out⟩
 case round =>
  obtain ⟨k,hk,rfl,ho,hs,hx⟩:=hrel
  have HO:=Lib.hid ho
  have HS2:=Lib.hid hs
  have HX:=Lib.hid hx
  clear ho hs hx
  by_cases hks:k<s
  · have hki:(k:Int)<(s:Int):=by omega
    have hlen:=laidOver_length zs a n k
    obtain ⟨g,hA,hgl,hcell,hfz⟩:=HS2.out.addr (by rw [hlen];have:=HA.out;omega)
    obtain ⟨hl1,hgb,_,hc1,_,hcell1,hfz1⟩:=HO.out.facts
    have hby:=byteAt_bd n k
    have hd0:(laidOver (zeros s) 0 n s).getD k 0=byteAt n k:=by rw [laidOver_get _ _ _ _ _ (by simp [zeros]),if_pos (by omega),Nat.sub_zero]
    have y0:=hcell1 k (by omega)
    rw [hd0] at y0
    have y1:=hcell (a+k) (by rw [hlen];have:=HA.out;omega)
    have y2:=hfz (a+k)
    obtain ⟨_,c0,c1,c2,c3⟩:=blk4p HS2.out.blk
    rw [hlen,hA] at c3
    have hcp:=HS2.out.few
    rw [hlen] at hcp
    have hge:g≠g1:=fun e=>by
     have h1:=HX.out.row
     have h2:=HS.out.row g (by rw [hA];rfl)
     omega
    have hai:(a:Int)+k<zs.length:=by have:=HA.out;omega
    have hwk:=IntWalk.i64_in ((a:Int)+k) ⟨by omega,by have:=HL.out;omega⟩
    have hcast:((a:Int)+(k:Int)).toNat=a+k:=by omega
    have HA2:=Lib.hid hA
    have hst:=wr_set (g:=g) (W7:=wr) (by rw [←hA];exact HS2.out) (Below.refl _ _) (a+k) (byteAt n k) hby
    have HST:=Lib.hid hst
    have hon:=row_keep_set (W:=wr) (g:=g) (j:=a+k) (u:=.int .u8 (byteAt n k)) HO.out (by omega)
    have HON:=Lib.hid hon
    clear hcell hcell1 hfz hfz1 hlen hl1 hd0 hst hon c0 c1 c2 hA
    go_upto_region 4 with (fail)
    go_region
    go_wp2
    go_roundw
    case rel=>exact ⟨k+1,hks,by go_num,HON.out,by rw [HA2.out];exact HST.out.1.below (Below.refl _ _).drew,HX.out.trans (by rw [HA2.out];exact HST.out.2.trans (Wx.of_below _ (Below.refl _ _).drew))⟩
    case measure=>simp [intOf];omega
  · obtain rfl:k=s:=by omega
    have hki:¬(k:Int)<(k:Int):=by omega
    go_wp2
    first|refine bodyPost_end (v:=.tuple #[]) (by simp [results,Tryd.results76,go_sem]) rfl ?_|refine bodyPost_ret (v:=.tuple #[]) (by simp [results,Tryd.results76,go_sem]) rfl ?_
    rw [HP.out]
    exact ⟨rfl,A,cap,HS2.out,HX.out⟩
end Go.Proofs.YtpbaaedijfofnaaDoor
namespace Go.Proofs.YtpbaaedijfofnaaDoor
open Go.ChangeShapes Go.WideShapes Go.ChangeAt Go.RowKit Go.Shelf
theorem hval_step (left:Nat)(hl12:left≤12)(hnx:∀ q,left=q+1→ValAt q):ValAt left:=by
 intro k r l d fk fr fl nm sure b g i bc a bs ss es sv ev root w ht hm hs hg hd hdf
 cases l with
 | zero =>
  have h10:k≤10∨k=11∨k=12∨k=13:=by have:=ht.hi;omega
  rcases h10 with h|rfl|rfl|rfl
  · exact hval_num k r left ⟨ht.lo,h,ht.en⟩ hd (hdf rfl h) hs hg
  · exact hval_text r left hs hg
  · exact hval_data r left hs hg
  · exact hval_struct r left (ht.st rfl) hm hnx hl12 hs hg
 | succ lm =>
  have ht':TyM ss.length (es.map Prod.fst) k r lm:=⟨ht.lo,ht.hi,by have:=ht.li;omega,ht.en,ht.st⟩
  by_cases h0:lm=0
  · by_cases hk:k=13
    · exact hval_list3 k r (lm+1) lm left rfl ht.li ⟨h0,hk⟩ ht' hm hnx hl12 hs hg
    · exact hval_list2 k r (lm+1) lm left rfl ht.li ⟨h0,hk⟩ ht' hm hnx hl12 hs hg
  · exact hval_list1 k r (lm+1) lm left rfl ht.li h0 ht' hm hnx hl12 hs hg
theorem hval_any:∀ left,left≤12→ValAt left
 | 0,h=>hval_step 0 h (fun q hq=>by cases hq)
 | n+1,h=>hval_step (n+1) h (fun q hq=>by injection hq with hq;exact hq▸hval_any n (by omega))
end Go.Proofs.YtpbaaedijfofnaaDoor
