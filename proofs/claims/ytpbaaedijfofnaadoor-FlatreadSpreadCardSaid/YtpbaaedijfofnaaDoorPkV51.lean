/-
  The program's Read of the one form of a value, whatever stands behind it: what it hands back shows the value. Conditions: those that each theorem names.
-/
import Derived.Test.YtpbaaedijfofnaaDoorPkV29
import Derived.Test.YtpbaaedijfofnaaDoorPkV47
import Derived.Test.YtpbaaedijfofnaaDoorPkV50
namespace Go.Proofs.YtpbaaedijfofnaaDoor
open Go.RowKit
theorem kid_getD {ks:List PV}{i:Nat}(h:i<ks.length):ks.getD i (numV 0)=ks[i]:=by rw [List.getD,List.getElem?_eq_getElem h,Option.getD_some]
theorem back_list {S:List SRec}{es:List SCho}{nx:NextE}{r k:Nat}{ref lists:Int}{v:PV}{a:Nat}{zs Z:List Int}{left:Int}(hg:Grows nx)(hfr:FrameE nx)(hnx:∀ q,r=q+1→BackE S es nx q)(hf:fitsP (S.map cR) es r k ref lists v=true)(hnu:NumsOk v)(hin:a+(inlC k lists).toNat≤zs.length)
  (hag:Ag Z (valE S nx k ref lists v a zs) a (inlC k lists).toNat zs.length) (hlen:(valE S nx k ref lists v a zs).length≤Z.length) (hZ:Z.length≤65535) (hl:(((valE S nx k ref lists v a zs).length-zs.length:Nat):Int)≤left)
  (hnum:¬numTB k lists=true) (hli:0<lists) (hso:sortP k lists=3):∃ l',left-(((valE S nx k ref lists v a zs).length-zs.length:Nat):Int)≤l'∧l'≤left∧flatZ (S.map cR) es Z r k ref lists a left=some (v,l'):=by
 have ev:valE S nx k ref lists v a zs=listE nx k ref (lists-1) v a zs:=by unfold valE;rw [if_neg hnum,if_pos hli]
 rw [ev] at hag hlen hl ⊢
 rw [inl_four hnum] at hag hin
 have hin:a+4≤zs.length:=hin
 have hag:Ag Z (listE nx k ref (lists-1) v a zs) a 4 zs.length:=hag
 have hels:=elsE_of hli hf
 rw [fitsP_eq,hso,Bool.and_eq_true] at hf
 have hbare:=bareE_list hf.1
 obtain ⟨T,z4,h1,h2,h3,h4,h5⟩:=listE_of nx k ref (lists-1) v a zs hin
 obtain ⟨st,hst⟩:∃ st:Nat,stepZ k (lists-1)=st:=⟨_,(Int.toNat_of_nonneg (show 0≤stepZ k (lists-1) from (inl_nn k (lists-1)).1)).symm⟩
 have hinl:inlC k (lists-1)=st:=hst
 rw [hst,Int.toNat_natCast] at h2 h5
 obtain ⟨g,hgd⟩:∃ g,(fun i=>nx k ref (lists-1) (v.kids.getD i (numV 0)) (T+4+i * st))=g:=⟨_,rfl⟩
 rw [hgd] at h5
 have hgg:∀ i ys,ys.length≤(g i ys).length:=fun i ys=>by rw [←hgd];exact hg ..
 have h6:=seqE_le hgg z4 v.kids.length
 rw [←h5] at h6
 have hk:∀ j,j<v.kids.length→∀ ys:List Int,z4.length≤ys.length→∀ i,i<ys.length→¬(T+4+j * st≤i∧i<T+4+j * st+st)→(g j ys).getD i 0=ys.getD i 0:=fun j hj ys hy i hi hd=>by
  have hm:=mul_place (s:=st) hj
  rw [←hgd]
  exact hfr _ _ _ _ _ ys (by omega) (by rw [hinl,Int.toNat_natCast];omega) i hi (by rw [hinl,Int.toNat_natCast];exact hd)
 have hlow:∀ i,i<T+4→i<z4.length→(listE nx k ref (lists-1) v a zs).getD i 0=z4.getD i 0:=fun i hi hi4=>by
  rw [h5]
  exact seq_keep (p:=fun j=>T+4+j * st) (w:=fun _=>st) hgg hk 0 _ (Nat.zero_le _) (Nat.le_refl _) i hi4 (fun j _ _=>by omega)
 obtain ⟨e1,e2⟩:=h4 (by omega)
 rw [←leAt_ag (Z:=Z) (fun i h7 h8=>by rw [hag i (.inl ⟨h7,h8⟩),hlow i (by omega) (by omega)])] at e1
 rw [←leAt_ag (Z:=Z) (fun i h7 h8=>by rw [hag i (.inr ⟨by omega,by omega⟩),hlow i (by omega) (by omega)])] at e2
 have hm0:(v.kids.length:Int) * (st:Int)=((st * v.kids.length:Nat):Int):=by rw [Nat.mul_comm];exact (Int.natCast_mul _ _).symm
 rw [flatZ_eq]
 unfold valZ
 rw [if_neg (by rw [hso];decide),if_neg (by rw [hso];decide),if_pos hso]
 unfold pointZ
 rw [jump_of (by omega) e1 (by omega)]
 show ∃ l',_∧_∧listAtZ Z (nextZ (S.map cR) es Z r) k ref (lists-1) (T:Int) left=_
 unfold listAtZ
 rw [Int.toNat_natCast,e2,hst,hm0,if_pos (inZ_iff.2 (by unfold lenZ;omega)),if_pos ⟨inZ_iff.2 (by unfold lenZ;omega),by omega⟩]
 cases r with
 | zero =>
  have hnil:v.kids=[]:=by
   rcases hels with h|⟨q,hq,_⟩
   · exact h
   · omega
  have h0:v.kids.length=0:=by rw [hnil];rfl
  refine ⟨left-(4+((st * v.kids.length:Nat):Int)),by omega,by omega,?_⟩
  show (if (v.kids.length:Int)=0 then some (PV.mk 0 [] [] false,left-(4+((st * v.kids.length:Nat):Int))) else none)=_
  rw [if_pos (by omega)]
  rw [hnil] at hbare
  rw [hbare]
 | succ q =>
  have hb:=hnx q rfl
  obtain ⟨l',hl1,hl2,hl3⟩:=seq_back (g:=g) (p:=fun j=>T+4+j * st) (w:=fun _=>st) (y0:=z4) (Z:=Z) (n:=v.kids.length) (rd:=fun j l=>flatZ (S.map cR) es Z q k ref (lists-1) ((T:Int)+4+j * (st:Int)) l) (vs:=v.kids) rfl hgg hk
   (fun i hi1 hi2=>by rw [←h5] at hi2 ⊢;exact hag i (.inr ⟨by omega,hi2⟩))
   (fun j hj i hi1 hi2=>by
    have hm:=mul_place (s:=st) hj
    rw [←h5];exact hag i (.inr ⟨by omega,by omega⟩))
   (fun j hj=>by
    have hm:=mul_place (s:=st) hj
    show T+4+j * st+st≤z4.length
    omega)
   (fun j t hjt ht i hi1 hi2=>by
    have hm:=mul_place (s:=st) hjt
    rw [Nat.mul_comm st t] at hm
    omega)
   (by rw [←h5];exact hlen)
   (fun j hj ys hy hag' hlen' left' hleft=>by
    have hm:=mul_place (s:=st) hj
    have he:fitsP (S.map cR) es q k ref (lists-1) v.kids[j]=true∧(k=13→lists-1=0→v.kids[j].has=true):=by
     rcases hels with h|⟨q',hq',h⟩
     · rw [h] at hj;exact absurd hj (Nat.not_lt_zero _)
     · obtain rfl:q=q':=by omega
       exact h _ (List.getElem_mem hj)
    have e:g j ys=nx k ref (lists-1) v.kids[j] (T+4+j * st) ys:=by rw [←hgd];show nx k ref (lists-1) (v.kids.getD j (numV 0)) _ ys=_;rw [kid_getD hj]
    have hz:=hb k ref (lists-1) v.kids[j] (T+4+j * st) ys Z left' (by omega) he.1 he.2 (hnu.kid j hj) (by rw [hinl,Int.toNat_natCast];omega) (by
     rw [←e,hinl,Int.toNat_natCast];exact hag') (by rw [←e];exact hlen') hZ (by rw [←e];exact hleft)
    rw [←e] at hz
    have ea:((T+4+j * st:Nat):Int)=(T:Int)+4+j * (st:Int):=by rw [Int.natCast_add,Int.natCast_add,Int.natCast_mul];rfl
    rw [ea] at hz
    exact hz)
   (left-(4+((st * v.kids.length:Nat):Int))) v.kids.length (Nat.le_refl _) (by rw [←h5];omega)
  rw [←h5] at hl1
  refine ⟨l',by omega,by omega,?_⟩
  show (match seqD (fun j l=>flatZ (S.map cR) es Z q k ref (lists-1) ((T:Int)+4+j * (st:Int)) l) (left-(4+((st * v.kids.length:Nat):Int))) ((v.kids.length:Nat):Int).toNat with
        | none=>none
        | some (ks,l)=>some (PV.mk 0 [] ks false,l))=_
  rw [Int.toNat_natCast,hl3,List.take_length]
  show some (PV.mk 0 [] v.kids false,l')=_
  rw [hbare]
theorem recC_fs {S:List SRec}{i:Nat}(hi:i<S.length):(recC (S.map cR) (i:Int)).fields=S[i].fields.map cF:=by
 unfold recC
 rw [Int.toNat_natCast,List.getD,List.getElem?_map,List.getElem?_eq_getElem hi]
 rfl
theorem fld_getD {fs:List SFld}{i:Nat}(h:i<fs.length):fs.getD i noSF=fs[i]:=by rw [List.getD,List.getElem?_eq_getElem h,Option.getD_some]
theorem back_struct {S:List SRec}{es:List SCho}{nx:NextE}{r:Nat}{ref:Int}{v:PV}{a:Nat}{zs Z:List Int}{left:Int}(hD:∀ q ∈ S,DfltsOk es (cR q).fields)(hg:Grows nx)(hfr:FrameE nx)(hnx:∀ q,r=q+1→BackE S es nx q)(hf:fitsP (S.map cR) es r 13 ref 0 v=true)(hh:v.has=true)(hnu:NumsOk v)(hin:a+4≤zs.length)
  (hag:Ag Z (tableE S nx ref v a zs) a 4 zs.length) (hlen:(tableE S nx ref v a zs).length≤Z.length) (hZ:Z.length≤65535) (hl:(((tableE S nx ref v a zs).length-zs.length:Nat):Int)≤left) :
  ∃ l',left-(((tableE S nx ref v a zs).length-zs.length:Nat):Int)≤l'∧l'≤left∧flatZ (S.map cR) es Z r 13 ref 0 a left=some (v,l'):=by
 have hf':=hf
 rw [fitsP_eq,show sortP 13 0=4 from rfl,Bool.and_eq_true] at hf'
 have hbare:=bareE_struct hf'.1 hh
 have h2:(!v.has||structP (S.map cR) es r ref v.kids)=true:=hf'.2
 rw [hh] at h2
 have h3:structP (S.map cR) es r ref v.kids=true:=h2
 unfold structP at h3
 rw [Bool.and_eq_true,Bool.and_eq_true] at h3
 have hr:=of_decide_eq_true h3.1
 obtain ⟨q,rfl⟩:∃ q,r=q+1:=by
  cases r with
  | zero=>exact absurd h3.2.1 (by decide)
  | succ q=>exact ⟨q,rfl⟩
 clear h2 h3 hf'
 obtain ⟨i,rfl⟩:=Int.eq_ofNat_of_zero_le hr.1
 have hi:i<S.length:=by
  have:=hr.2
  rw [List.length_map] at this
  omega
 have hE:=kidsE_of hi hD hh hf
 have hb:=hnx q rfl
 obtain ⟨th,last,size,T,L0,z2,z4,g,hT,h5⟩:=tabL_of S nx (i:Int) v a zs
 rw [rec_at hi] at hT h5
 obtain ⟨fs,hfs⟩:∃ fs,S[i].fields=fs:=⟨_,rfl⟩
 rw [hfs] at hT h5 hE
 rw [h5] at hag hlen hl ⊢
 have hkl:=hE.len
 obtain ⟨tl,hTh,hTlast,hTsize,hTL0,hTT,hTz2,hTz4,hTf⟩:∃ tl:True,thereE fs v.kids=th∧lastE th fs.length=last∧(tabAll fs th 4).size=size∧(padE 2 zs).length=L0∧(padE (tabAll fs th 4).al.toNat (headE fs th zs)).length=T∧putE 4 ((T:Int)-(L0:Int)) (padE (tabAll fs th 4).al.toNat (headE fs th zs))=z2∧setE a 4 ((T:Int)-a) z2++zeros (T+size-(setE a 4 ((T:Int)-a) z2).length)=z4∧(fun i=>kidE (th.getD i false) (nx (fs.getD i noSF).kind (fs.getD i noSF).ref (fs.getD i noSF).lists (v.kids.getD i (numV 0)) (T+((tabAll fs th 4).pl.getD i 0).toNat)))=g:=⟨trivial,hT.hth,hT.hlast,hT.hsize,hT.hL0,hT.hT,hT.hz2,hT.hz4,hT.hf⟩
 clear hT tl
 have hp:=padE_le 2 zs
 have hhl:=headE_len fs th zs
 have hpl:=padE_le (tabAll fs th 4).al.toNat (headE fs th zs)
 have h2l:z2.length=T+4:=by rw [←hTz2,putE_length,hTT]
 have h4l:z4.length=T+4+(T+size-(T+4)):=by rw [←hTz4,List.length_append,setE_length,zeros,List.length_replicate,h2l]
 have hgg:∀ i ys,ys.length≤(g i ys).length:=fun i ys=>by
  rw [←hTf]
  show ys.length≤(kidE _ _ ys).length
  unfold kidE
  split
  · exact hg ..
  · exact Nat.le_refl _
 have h6:=seqE_le hgg z4 fs.length
 have hsz4:=(tabAll_facts fs th 4 (Nat.le_refl _)).2.1
 obtain ⟨hs1,hs2,hs3,hs4⟩:=headE_says fs th zs (by omega) (by omega)
 rw [hTlast,hTL0] at hhl hs2 hs4
 rw [hTL0,hTsize] at hs3
 -- places
 obtain ⟨W,hW⟩:∃ W:Nat→Nat,W=fun j=>if th.getD j false=true then (inlP (fs.getD j noSF)).toNat else 0:=⟨_,rfl⟩
 have hW1:∀ j,th.getD j false=true→(W j:Int)=inlP (fs.getD j noSF):=fun j hj=>by
  have:=inlP_bd (fs.getD j noSF)
  rw [hW]
  show (((if th.getD j false=true then (inlP (fs.getD j noSF)).toNat else 0):Nat):Int)=_
  rw [if_pos hj]
  omega
 have hW0:∀ j,th.getD j false=false→W j=0:=fun j hj=>by
  rw [hW]
  show (if th.getD j false=true then (inlP (fs.getD j noSF)).toNat else 0)=0
  rw [if_neg (by rw [hj];decide)]
 have hplace:∀ j,j<fs.length→T+((tabAll fs th 4).pl.getD j 0).toNat+W j≤z4.length∧(0<W j→T+4≤T+((tabAll fs th 4).pl.getD j 0).toNat):=fun j hj=>by
  have h7:=tab_place fs th j hj
  cases hbj:th.getD j false with
  | false =>
   have:=hW0 j hbj
   omega
  | true =>
   have h8:=h7.2.2 hbj
   have:=hW1 j hbj
   omega
 have hk:∀ j,j<fs.length→∀ ys:List Int,z4.length≤ys.length→∀ i,i<ys.length→¬(T+((tabAll fs th 4).pl.getD j 0).toNat≤i∧i<T+((tabAll fs th 4).pl.getD j 0).toNat+W j)→(g j ys).getD i 0=ys.getD i 0:=fun j hj ys hy i hi hd=>by
  rw [←hTf]
  show (kidE (th.getD j false) _ ys).getD i 0=_
  have hpj:=(hplace j hj).1
  cases hbj:th.getD j false with
  | false=>rfl
  | true =>
   have h8:=hW1 j hbj
   rw [←inl_same] at h8
   have e:(inlC (fs.getD j noSF).kind ((fs.getD j noSF).lists:Nat)).toNat=W j:=by rw [←h8,Int.toNat_natCast]
   exact hfr _ _ _ _ _ ys (Int.natCast_nonneg _) (by rw [e];omega) i hi (by rw [e];exact hd)
 have hlow:∀ i,i<T+4→(seqE g z4 fs.length).getD i 0=z4.getD i 0:=fun i hi =>
  seq_keep (p:=fun j=>T+((tabAll fs th 4).pl.getD j 0).toNat) (w:=W) hgg hk 0 _ (Nat.zero_le _) (Nat.le_refl _) i (by show i<z4.length;omega) (fun j _ hj hd=>by
   have:=(hplace j hj).2
   have hd:T+((tabAll fs th 4).pl.getD j 0).toNat≤i∧i<T+((tabAll fs th 4).pl.getD j 0).toNat+W j:=hd
   omega)
 have hz3:∀ i,i<T+4→z4.getD i 0=(setE a 4 ((T:Int)-a) z2).getD i 0:=fun i hi=>by rw [←hTz4,getD_appL (by rw [setE_length];omega)]
 have hz2:∀ i,a+4≤i→i<T+4→z4.getD i 0=z2.getD i 0:=fun i h7 hi=>by rw [hz3 i hi,set_keep (by omega) (by omega)]
 have hzh:∀ i,a+4≤i→i<L0+4+2 * last→z4.getD i 0=(headE fs th zs).getD i 0:=fun i h7 hi=>by rw [hz2 i h7 (by omega),←hTz2,put_keep (by omega),pad_keep (by omega)]
 have e1:leAt Z a 4=(T:Int)-a:=by
  rw [leAt_ag (z:=setE a 4 ((T:Int)-a) z2) (fun i h7 h8=>by rw [hag i (.inl ⟨h7,h8⟩),hlow i (by omega),hz3 i (by omega)]),show (T:Int)-a=((T-a:Nat):Int) by omega]
  exact set4_at _ _ _ (by omega) (by omega)
 have e2:leAt Z T 4=(T:Int)-L0:=by
  rw [leAt_ag (z:=z2) (fun i h7 h8=>by rw [hag i (.inr ⟨by omega,by omega⟩),hlow i (by omega),hz2 i (by omega) (by omega)]),←hTz2]
  have h9:=put4_at (padE (tabAll fs th 4).al.toNat (headE fs th zs)) (T-L0) (by omega)
  rw [hTT] at h9
  rw [show (T:Int)-L0=((T-L0:Nat):Int) by omega]
  exact h9
 have hhd:∀ p n,L0≤p→p+n≤L0+4+2 * last→leAt Z p n=leAt (headE fs th zs) p n:=fun p n h7 h8 =>
  leAt_ag (fun i h9 h10=>by rw [hag i (.inr ⟨by omega,by omega⟩),hlow i (by omega),hzh i (by omega) (by omega)])
 rw [←hhd _ _ (Nat.le_refl _) (by omega)] at hs2
 rw [←hhd _ _ (by omega) (by omega)] at hs3
 have htab:tabZ Z (T:Int)=some ⟨(size:Nat),(L0:Nat),4+2 * (last:Int)⟩:=by
  unfold tabZ
  rw [if_pos (inZ_iff.2 (by unfold lenZ;omega)),Int.toNat_natCast,e2]
  unfold sg32
  rw [if_pos (by omega),show (T:Int)-((T:Int)-L0)=(L0:Nat) by omega]
  unfold tabOf
  rw [if_pos (inZ_iff.2 (by unfold lenZ;omega)),Int.toNat_natCast,hs2,hs3,if_pos]
  exact ⟨⟨by omega,by omega,by omega⟩,inZ_iff.2 (by unfold lenZ;omega),inZ_iff.2 (by unfold lenZ;omega)⟩
 have hoff:∀ j,j<fs.length→offZ Z ⟨(size:Nat),(L0:Nat),4+2 * (last:Int)⟩ j=(tabAll fs th 4).pl.getD j 0:=fun j hj=>by
  unfold offZ
  show (if 4+2 * (j:Int)<4+2 * (last:Int) then leAt Z ((L0:Int).toNat+4+2 * j) 2 else 0)=_
  rw [Int.toNat_natCast]
  by_cases hjl:j<last
  · rw [if_pos (by omega),hhd _ _ (by omega) (by omega)]
    exact hs4 j hjl
  · rw [if_neg (by omega)]
    exact ((tabAll_pl fs th 4 (Nat.le_refl _)).2.1 j (lastE_no (by rw [hTlast];omega) hj)).symm
 rw [flatZ_eq]
 unfold valZ
 rw [if_neg (show ¬sortP 13 0=1 by decide),if_neg (show ¬sortP 13 0=2 by decide),if_neg (show ¬sortP 13 0=3 by decide),if_pos (show sortP 13 0=4 from rfl)]
 unfold pointZ
 rw [jump_of (by omega) e1 (by omega)]
 show ∃ l',_∧_∧structAtZ (S.map cR) Z (some (flatZ (S.map cR) es Z q)) (i:Int) (T:Int) left=_
 unfold structAtZ
 rw [htab]
 show ∃ l',_∧_∧(if left-(4+2 * (last:Int)+(size:Int))<0 then none else match seqD (fieldZ Z (flatZ (S.map cR) es Z q) (recC (S.map cR) (i:Int)).fields (T:Int) ⟨(size:Nat),(L0:Nat),4+2 * (last:Int)⟩) (left-(4+2 * (last:Int)+(size:Int))) (recC (S.map cR) (i:Int)).fields.length with
   | none=>none
   | some (ks,l)=>some (PV.mk 0 [] ks true,l))=_
 rw [if_neg (by omega),recC_fs hi,hfs,List.length_map]
 obtain ⟨l',hl1,hl2,hl3⟩:=seq_back (g:=g) (p:=fun j=>T+((tabAll fs th 4).pl.getD j 0).toNat) (w:=W) (y0:=z4) (Z:=Z) (n:=fs.length) (rd:=fieldZ Z (flatZ (S.map cR) es Z q) (fs.map cF) (T:Int) ⟨(size:Nat),(L0:Nat),4+2 * (last:Int)⟩) (vs:=v.kids) hkl hgg hk
  (fun i hi1 hi2=>hag i (.inr ⟨by omega,hi2⟩))
  (fun j hj i hi1 hi2=>by
   have hpj:=hplace j hj
   have hi2:i<T+((tabAll fs th 4).pl.getD j 0).toNat+W j:=hi2
   have hi1:T+((tabAll fs th 4).pl.getD j 0).toNat≤i:=hi1
   exact hag i (.inr ⟨by omega,by omega⟩))
  (fun j hj=>(hplace j hj).1)
  (fun j t hjt ht i hi1 hi2 hd=>by
   have hj0:=hplace j (by omega)
   have ht0:=hplace t ht
   have hi2:i<T+((tabAll fs th 4).pl.getD j 0).toNat+W j:=hi2
   have hi1:T+((tabAll fs th 4).pl.getD j 0).toNat≤i:=hi1
   have hd:T+((tabAll fs th 4).pl.getD t 0).toNat≤i∧i<T+((tabAll fs th 4).pl.getD t 0).toNat+W t:=hd
   cases hbj:th.getD j false with
   | false =>
    have:=hW0 j hbj
    omega
   | true =>
    cases hbt:th.getD t false with
    | false =>
     have:=hW0 t hbt
     omega
    | true =>
     have h7:=(tab_spans fs th).1.apart j t ⟨by omega,hbj⟩ ⟨ht,hbt⟩ (by omega)
     have h8:ksAt fs j=inlP (fs.getD j noSF):=rfl
     have h9:ksAt fs t=inlP (fs.getD t noSF):=rfl
     rw [h8,h9,←hW1 j hbj,←hW1 t hbt] at h7
     have h10:=(tab_place fs th j (by omega)).1
     have h11:=(tab_place fs th t ht).1
     omega)
  hlen
  (fun j hj ys hy hag' hlen' left' hleft=>by
   have hjf:j<fs.length:=by omega
   have hgj:g j ys=kidE (th.getD j false) (nx (fs.getD j noSF).kind (fs.getD j noSF).ref (fs.getD j noSF).lists (v.kids.getD j (numV 0)) (T+((tabAll fs th 4).pl.getD j 0).toNat)) ys:=by rw [←hTf]
   rw [fld_getD hjf,kid_getD hj] at hgj
   have htj:th.getD j false = !isDefB fs[j].dflt v.kids[j]:=by rw [←hTh];exact thereE_at hjf hj
   rw [field_eq hjf,hoff j hjf]
   cases hbj:th.getD j false with
   | false =>
    rw [hbj] at hgj htj
    have hgj:g j ys=ys:=hgj
    have hde:isDefB fs[j].dflt v.kids[j]=true:=by simpa using htj.symm
    rw [hgj,if_pos ((tabAll_pl fs th 4 (Nat.le_refl _)).2.1 j hbj),(isDefB_iff _ _).1 hde]
    exact ⟨left',by omega,Int.le_refl _,rfl⟩
   | true =>
    rw [hbj] at hgj htj
    have hde:isDefB fs[j].dflt v.kids[j]=false:=by simpa using htj.symm
    have h8:=hW1 j hbj
    have h9:=(tab_place fs th j hjf).2.2 hbj
    have hpj:=hplace j hjf
    rw [←h8] at h9
    rw [←inl_same,fld_getD hjf] at h8
    have e:(inlC fs[j].kind (fs[j].lists:Nat)).toNat=W j:=by rw [←h8,Int.toNat_natCast]
    have hgj:g j ys=nx fs[j].kind (fs[j].ref:Nat) (fs[j].lists:Nat) v.kids[j] (T+((tabAll fs th 4).pl.getD j 0).toNat) ys:=hgj
    rw [if_neg (by omega),←h8,if_neg (by rw [hTsize] at h9;show ¬((tabAll fs th 4).pl.getD j 0<4∨(size:Int)<(tabAll fs th 4).pl.getD j 0+(W j:Int));omega)]
    have hz:=hb fs[j].kind (fs[j].ref:Nat) (fs[j].lists:Nat) v.kids[j] (T+((tabAll fs th 4).pl.getD j 0).toNat) ys Z left' (Int.natCast_nonneg _) (hE.fits j hjf hj) (fun h13 h0=>hE.has j hjf hj hde h13 (by omega)) (hnu.kid j hj) (by rw [e];omega) (by
     rw [←hgj,e];exact hag') (by rw [←hgj];exact hlen') hZ (by rw [←hgj];exact hleft)
    rw [←hgj] at hz
    rw [show ((T+((tabAll fs th 4).pl.getD j 0).toNat:Nat):Int)=(T:Int)+(tabAll fs th 4).pl.getD j 0 by omega] at hz
    exact hz)
  (left-(4+2 * (last:Int)+(size:Int))) fs.length (Nat.le_refl _) (by omega)
 refine ⟨l',by omega,by omega,?_⟩
 rw [hl3,←hkl,List.take_length]
 show some (PV.mk 0 [] v.kids true,l')=_
 rw [hbare]
theorem enc_back {S:List SRec}{es:List SCho}(hD:∀ q ∈ S,DfltsOk es (cR q).fields)(he:∀ e ∈ es,e.names.length≤256):∀ r,BackE S es (valE S (encE S r)) r:=by
 intro r
 induction r with
 | zero =>
  intro k ref lists v a zs Z left h0 hf hh hnu hin hag hlen hZ hl
  rcases sort_cases h0 (fitsE_sort hf) with ⟨h1,h2,h3⟩|⟨h1,h2,h3,h4⟩|⟨h1,h2,h3⟩|⟨h1,h2,h3,h4⟩
  · exact back_num he hf hnu hin hag hlen h1 h2 h3
  · exact back_bytes hf hin hag hlen hZ hl h1 h2 h3 h4
  · exact back_list (encE_grows S 0) (encE_frame S 0) (fun q hq=>by omega) hf hnu hin hag hlen hZ hl h1 h2 h3
  · subst h2 h3
    have ev:valE S (encE S 0) 13 ref 0 v a zs=tableE S (encE S 0) ref v a zs:=by unfold valE;rw [if_neg h1,if_neg (by decide),if_pos rfl]
    rw [ev] at hag hlen hl ⊢
    exact back_struct hD (encE_grows S 0) (encE_frame S 0) (fun q hq=>by omega) hf (hh rfl rfl) hnu hin hag hlen hZ hl
 | succ r ih =>
  intro k ref lists v a zs Z left h0 hf hh hnu hin hag hlen hZ hl
  have hnx:∀ q,r+1=q+1→BackE S es (encE S (r+1)) q:=fun q hq=>by
   obtain rfl:r=q:=by omega
   exact ih
  rcases sort_cases h0 (fitsE_sort hf) with ⟨h1,h2,h3⟩|⟨h1,h2,h3,h4⟩|⟨h1,h2,h3⟩|⟨h1,h2,h3,h4⟩
  · exact back_num he hf hnu hin hag hlen h1 h2 h3
  · exact back_bytes hf hin hag hlen hZ hl h1 h2 h3 h4
  · exact back_list (encE_grows S _) (encE_frame S _) hnx hf hnu hin hag hlen hZ hl h1 h2 h3
  · subst h2 h3
    have ev:valE S (encE S (r+1)) 13 ref 0 v a zs=tableE S (encE S (r+1)) ref v a zs:=by unfold valE;rw [if_neg h1,if_neg (by decide),if_pos rfl]
    rw [ev] at hag hlen hl ⊢
    exact back_struct hD (encE_grows S _) (encE_frame S _) hnx hf (hh rfl rfl) hnu hin hag hlen hZ hl
theorem encZ_back {S:List SRec}{es:List SCho}(hD:∀ q ∈ S,DfltsOk es (cR q).fields)(he:∀ e ∈ es,e.names.length≤256){r root:Nat}{v:PV}(hf:fitsP (S.map cR) es r 13 root 0 v=true)(hh:v.has=true)(hnu:NumsOk v)(ys:List Int)(left:Int)
  (hlen:(encZ S r root v).length+ys.length≤65535) (hl:((encZ S r root v).length:Int)≤left):∃ l',left-((encZ S r root v).length:Int)≤l'∧l'≤left∧flatZ (S.map cR) es (encZ S r root v++ys) r 13 root 0 0 left=some (v,l'):=by
 have h4:=encZ_four S r root v
 have ev:valE S (encE S r) 13 root 0 v 0 (zeros 4)=encZ S r root v:=by unfold valE;rw [if_neg (by decide),if_neg (by decide),if_pos rfl];rfl
 have h:=enc_back hD he r 13 (root:Nat) 0 v 0 (zeros 4) (encZ S r root v++ys) left (Int.le_refl _) hf (fun _ _=>hh) hnu (by decide) (by
  rw [ev]
  intro i hi
  have hz:(zeros 4).length=4:=rfl
  have hw:(inlC 13 0).toNat=4:=rfl
  rw [hz,hw] at hi
  exact getD_appL (by omega)) (by rw [ev,List.length_append];omega) (by rw [List.length_append];omega) (by rw [ev];omega)
 rw [ev] at h
 obtain ⟨l',h1,h2,h3⟩:=h
 exact ⟨l',by omega,h2,h3⟩
end Go.Proofs.YtpbaaedijfofnaaDoor
namespace Go.Proofs.YtpbaaedijfofnaaDoor
open Go.ChangeShapes Go.WideShapes Go.ChangeAt Go.RowKit Go.Shelf
theorem made_few8 {p:Plan}{es:List (SCho × Value)}(hes:es.map Prod.fst=chosP p p.enums.length):∀ e ∈ es.map Prod.fst,e.names.length≤256:=by
 intro e he
 rw [hes] at he
 obtain ⟨i,_,h2⟩:=List.mem_map.1 he
 rw [←h2]
 show ((List.range (cntOf p i)).map valName).length≤256
 rw [List.length_map,List.length_range]
 unfold cntOf
 omega
def OwnPost (zs:List Int)(ss:List CRec)(root mt:Nat)(v:PV)(w:World)(e:Ending)(w':World):Prop:=
 Exc mt w.heap.size w w'∧((zs.length≤16384∧∃ T rv,e=.returned (.tuple #[.iface T rv,.int .i64 0])∧Shown ss 12 w' (.iface T rv) 13 root 0 v)∨(16384<zs.length∧e=.returned (.tuple #[.nilIface,.int .i64 20])))
theorem fread_own (w:World){base B:Nat}{ss:List (SRec × Value)}{es:List (SCho × Value)}{sv ev:Value}(root:Nat){bp:Option Addr}{bc mt:Nat}{zs ys:List Int}{ml:Int}{v:PV}(h:SchRows base w ss es sv ev)(hS:SchM ss (es.map Prod.fst))(hD:∀ q ∈ ss,DfltsOk (es.map Prod.fst) (cR q.1).fields)(hE:es.length≤1000000∧∀ q ∈ es,q.1.names.length≤1000000)(hE8:∀ e ∈ es.map Prod.fst,e.names.length≤256)(hr:root<ss.length)
  (hz:Bytes w bp zs) (hl:zs.length≤140737488355328) (hc:zs.length≤bc) (hm:w.heap[mt]?=some (.cells #[.int .i64 ml,.bool false] 114 (0,0))) (hml:49152≤ml∧ml≤9223372036854775807) (hB:B≤mt) (hA:Amb B w)
  (hzs:encZ (ss.map Prod.fst) 12 root v++ys=zs) (hf:fitsP (sRecs ss) (es.map Prod.fst) 12 13 root 0 v=true) (hh:v.has=true) (hn:NumsOk v) :
  Calls Tryd.prog 23 #[.agg #[sv,ev,.int .i64 root],.slice bp zs.length bc,.pointer (some ⟨mt,0,none⟩)] w (OwnPost zs (sRecs ss) root mt v w):=by
 refine (fread_all w root h hS hD hE hr hz hl hc hm ⟨by omega,hml.2⟩ hB hA).mono ?_
 rintro e w' ⟨hx,ml',mo,_,hp⟩
 refine ⟨hx,?_⟩
 by_cases hlong:16384<zs.length
 · right
   refine ⟨hlong,?_⟩
   rcases hp with ⟨_,_,_,h1,_⟩|⟨h1,_⟩|⟨_,h1,_⟩
   · omega
   · exact h1
   · omega
 · left
   have h2:zs.length≤16384:=by omega
   refine ⟨h2,?_⟩
   have hlen:(encZ (ss.map Prod.fst) 12 root v).length+ys.length=zs.length:=by rw [←hzs,List.length_append]
   have hf':fitsP ((ss.map Prod.fst).map cR) (es.map Prod.fst) 12 13 root 0 v=true:=by rw [←sRecs_map];exact hf
   obtain ⟨l',_,_,h3⟩:=encZ_back (S:=ss.map Prod.fst) (es:=es.map Prod.fst) (fun q hq=>by obtain ⟨p,hp,rfl⟩:=List.mem_map.1 hq;exact hD p hp) hE8 hf' hh hn ys (zs.length:Int) (by omega) (by omega)
   rw [hzs,←sRecs_map] at h3
   rcases hp with ⟨v',l2,x,_,h4,rfl,h5,_⟩|⟨_,h4⟩|⟨_,_,h4⟩
   · rw [h3] at h4
     injection h4 with h4
     injection h4 with h4 _
     subst h4
     obtain ⟨T,rv,rfl⟩:=h5.iface
     exact ⟨T,rv,rfl,h5⟩
   · rcases h4 with h4|h4
     · omega
     · rw [h3] at h4;cases h4
   · omega
end Go.Proofs.YtpbaaedijfofnaaDoor
