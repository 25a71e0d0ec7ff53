/-
  What the document's Encode hands back, as bytes: of a value that the hand makes. Conditions: those that each theorem names.
-/
import Derived.Test.YtpbaaedijfofnaaDoorPkV53
import Derived.Test.YtpbaaedijfofnaaDoorPkV37
import Derived.Test.YtpbaaedijfofnaaDoorPkV44
import Derived.Test.YtpbaaedijfofnaaDoorPkV47
import Derived.Test.YtpbaaedijfofnaaDoorPkV49
namespace Go.Proofs.YtpbaaedijfofnaaDoor
open Go.RowKit
inductive NumsOk:PV→Prop
 | mk (n:Nat) (bs:List Int) (ks:List PV) (h:Bool) (hn:n≤18446744073709551615) (hk:∀ i (hi:i<ks.length),NumsOk (ks[i]'hi)):NumsOk (.mk n bs ks h)
theorem isV_nums {w:World}{v:PV}{val:Value}(h:IsV w v val):NumsOk v:=by
 induction h with
 | mk n bs ks h ba ka bc kc kb ko c0 c1 c2 c3 hn hbb hbl hbm hkl hkm hka hc _ ih=>exact .mk n bs ks h hn ih
theorem NumsOk.num {v:PV}(h:NumsOk v):v.num≤18446744073709551615:=by
 cases h with
 | mk n bs ks h hn hk=>exact hn
theorem NumsOk.kid {v:PV}(h:NumsOk v)(i:Nat)(hi:i<v.kids.length):NumsOk (v.kids[i]'hi):=by
 cases h with
 | mk n bs ks h hn hk=>exact hk i hi
theorem pw1:2 ^ (8 * (1:Int).toNat)=256:=by decide
theorem pw2:2 ^ (8 * (2:Int).toNat)=65536:=by decide
theorem pw4:2 ^ (8 * (4:Int).toNat)=4294967296:=by decide
theorem pw8:2 ^ (8 * (8:Int).toNat)=18446744073709551616:=by decide
theorem num_back {es:List SCho}{k:Nat}{ref:Int}{n:Nat}(hnum:numTB k 0=true)(h:fitsT es k ref 0 n=true)(hn:n≤18446744073709551615)(he:∀ e ∈ es,e.names.length≤256) :
  (if kSign k=true then sgnOf ((n % 2 ^ (8 * (kSize k).toNat):Nat):Int) (kSize k) else ((n % 2 ^ (8 * (kSize k).toNat):Nat):Int)).toNat=n:=by
 have hs:0<kSize k:=by
  unfold numTB at hnum
  simp only [Bool.and_eq_true,decide_eq_true_eq] at hnum
  exact hnum.2
 have hk:k=1∨k=2∨k=3∨k=4∨k=5∨k=6∨k=7∨k=8∨k=9∨k=10:=by
  rcases Classical.em ((k:Int)<1∨10<(k:Int)) with h1|h1
  · rw [kSize_else _ h1] at hs;omega
  · omega
 unfold fitsT at h
 rw [if_neg (by rw [hnum];decide)] at h
 clear hs
 rcases hk with rfl|rfl|rfl|rfl|rfl|rfl|rfl|rfl|rfl|rfl
 · have e1:kSize ((1:Nat):Int)=1:=rfl
   have e2:kSign ((1:Nat):Int)=false:=rfl
   rw [e1,e2,pw1,if_neg Bool.false_ne_true]
   rw [if_pos rfl] at h
   have h:=of_decide_eq_true h
   omega
 · have e1:kSize ((2:Nat):Int)=1:=rfl
   have e2:kSign ((2:Nat):Int)=true:=rfl
   rw [e1,e2,pw1,if_pos rfl]
   rw [if_neg (show ¬2=1 by decide),if_neg (show ¬2=10 by decide),e1,e2,if_pos rfl] at h
   have h:=of_decide_eq_true h
   rw [sgnOf_1] at h ⊢
   split at h<;>split<;>omega
 · have e1:kSize ((3:Nat):Int)=2:=rfl
   have e2:kSign ((3:Nat):Int)=true:=rfl
   rw [e1,e2,pw2,if_pos rfl]
   rw [if_neg (show ¬3=1 by decide),if_neg (show ¬3=10 by decide),e1,e2,if_pos rfl] at h
   have h:=of_decide_eq_true h
   rw [sgnOf_2] at h ⊢
   split at h<;>split<;>omega
 · have e1:kSize ((4:Nat):Int)=4:=rfl
   have e2:kSign ((4:Nat):Int)=true:=rfl
   rw [e1,e2,pw4,if_pos rfl]
   rw [if_neg (show ¬4=1 by decide),if_neg (show ¬4=10 by decide),e1,e2,if_pos rfl] at h
   have h:=of_decide_eq_true h
   rw [sgnOf_4] at h ⊢
   split at h<;>split<;>omega
 · have e1:kSize ((5:Nat):Int)=8:=rfl
   have e2:kSign ((5:Nat):Int)=true:=rfl
   rw [e1,e2,pw8,if_pos rfl]
   rw [if_neg (show ¬5=1 by decide),if_neg (show ¬5=10 by decide),e1,e2,if_pos rfl] at h
   have h:=of_decide_eq_true h
   rw [sgnOf_else _ _ (by decide) (by decide) (by decide)]
   clear h
   omega
 · have e1:kSize ((6:Nat):Int)=1:=rfl
   have e2:kSign ((6:Nat):Int)=false:=rfl
   rw [e1,e2,pw1,if_neg Bool.false_ne_true]
   rw [if_neg (show ¬6=1 by decide),if_neg (show ¬6=10 by decide),e1,e2,if_neg Bool.false_ne_true,pw1] at h
   have h:=of_decide_eq_true h
   omega
 · have e1:kSize ((7:Nat):Int)=2:=rfl
   have e2:kSign ((7:Nat):Int)=false:=rfl
   rw [e1,e2,pw2,if_neg Bool.false_ne_true]
   rw [if_neg (show ¬7=1 by decide),if_neg (show ¬7=10 by decide),e1,e2,if_neg Bool.false_ne_true,pw2] at h
   have h:=of_decide_eq_true h
   omega
 · have e1:kSize ((8:Nat):Int)=4:=rfl
   have e2:kSign ((8:Nat):Int)=false:=rfl
   rw [e1,e2,pw4,if_neg Bool.false_ne_true]
   rw [if_neg (show ¬8=1 by decide),if_neg (show ¬8=10 by decide),e1,e2,if_neg Bool.false_ne_true,pw4] at h
   have h:=of_decide_eq_true h
   omega
 · have e1:kSize ((9:Nat):Int)=8:=rfl
   have e2:kSign ((9:Nat):Int)=false:=rfl
   rw [e1,e2,pw8,if_neg Bool.false_ne_true]
   rw [if_neg (show ¬9=1 by decide),if_neg (show ¬9=10 by decide),e1,e2,if_neg Bool.false_ne_true,pw8] at h
   have h:=of_decide_eq_true h
   omega
 · have e1:kSize ((10:Nat):Int)=1:=rfl
   have e2:kSign ((10:Nat):Int)=false:=rfl
   rw [e1,e2,pw1,if_neg Bool.false_ne_true]
   rw [if_neg (by decide),if_pos rfl,Bool.and_eq_true] at h
   have h1:=of_decide_eq_true h.1
   have h2:=of_decide_eq_true h.2
   have h3:ref.toNat<es.length:=by omega
   have h4:es.getD ref.toNat ⟨⟨#[]⟩,[]⟩=es[ref.toNat]:=by rw [List.getD,List.getElem?_eq_getElem h3,Option.getD_some]
   have h5:=he _ (List.getElem_mem h3)
   rw [h4] at h2
   omega
theorem bare_parts {o:Nat}{v:PV}(h:bareP o v=true):(o=1∨v.num=0)∧(o=2∨v.bytes=[])∧(o=3∨v.has=true∨v.kids=[])∧(o=4∨v.has=false):=by
 unfold bareP at h
 rw [Bool.and_eq_true,Bool.and_eq_true,Bool.and_eq_true,Bool.or_eq_true,Bool.or_eq_true,Bool.or_eq_true,Bool.or_eq_true,Bool.or_eq_true] at h
 obtain ⟨a,b,c,d⟩:=h
 refine ⟨a.imp of_decide_eq_true of_decide_eq_true,b.imp of_decide_eq_true (fun h=>List.eq_nil_of_length_eq_zero (of_decide_eq_true h)),?_,d.imp of_decide_eq_true (fun h=>by simpa using h)⟩
 rcases c with (c|c)|c
 · exact .inl (of_decide_eq_true c)
 · exact .inr (.inl c)
 · exact .inr (.inr (List.eq_nil_of_length_eq_zero (of_decide_eq_true c)))
theorem pv_is {n:Nat}{bs:List Int}{ks:List PV}{h:Bool}{v:PV}(h1:v.num=n)(h2:v.bytes=bs)(h3:v.kids=ks)(h4:v.has=h):PV.mk n bs ks h=v:=by
 obtain ⟨a,b,c,d⟩:=v
 subst h1 h2 h3 h4
 rfl
theorem bareE_num {v:PV}(h:bareP 1 v=true):numV v.num=v:=by
 obtain ⟨_,b,c,d⟩:=bare_parts h
 have d:=d.resolve_left (by decide)
 exact pv_is rfl (b.resolve_left (by decide)) ((c.resolve_left (by decide)).resolve_left (by rw [d];decide)) d
theorem bareE_bytes {v:PV}(h:bareP 2 v=true):PV.mk 0 v.bytes [] false=v:=by
 obtain ⟨a,_,c,d⟩:=bare_parts h
 have d:=d.resolve_left (by decide)
 exact pv_is (a.resolve_left (by decide)) rfl ((c.resolve_left (by decide)).resolve_left (by rw [d];decide)) d
theorem bareE_list {v:PV}(h:bareP 3 v=true):PV.mk 0 [] v.kids false=v:=by
 obtain ⟨a,b,_,d⟩:=bare_parts h
 exact pv_is (a.resolve_left (by decide)) (b.resolve_left (by decide)) rfl (d.resolve_left (by decide))
theorem bareE_struct {v:PV}(h:bareP 4 v=true)(hh:v.has=true):PV.mk 0 [] v.kids true=v:=by
 obtain ⟨a,b,_,_⟩:=bare_parts h
 exact pv_is (a.resolve_left (by decide)) (b.resolve_left (by decide)) rfl hh
theorem sort_cases {k:Nat}{lists:Int}(h0:0≤lists)(h:sortP k lists≠0):(numTB k lists=true∧lists=0∧sortP k lists=1)∨(¬numTB k lists=true∧lists=0∧(k=11∨k=12)∧sortP k lists=2)∨(¬numTB k lists=true∧0<lists∧sortP k lists=3)∨(¬numTB k lists=true∧lists=0∧k=13∧sortP k lists=4):=by
 by_cases h1:0<lists
 · right;right;left
   refine ⟨?_,h1,by unfold sortP;exact if_pos h1⟩
   simp [numTB]
   intro h2;omega
 · obtain rfl:lists=0:=by omega
   have hv:sortP k 0=if 0<kSize k then 1 else if k=11∨k=12 then 2 else if k=13 then 4 else 0:=by
    unfold sortP
    rw [if_neg (by decide),if_neg (by decide)]
   rw [hv] at h ⊢
   by_cases h2:0<kSize k
   · left
     exact ⟨by simp [numTB,h2],rfl,if_pos h2⟩
   · right
     rw [if_neg h2] at h ⊢
     have hn:¬numTB k 0=true:=by simp [numTB];omega
     by_cases h3:k=11∨k=12
     · left
       exact ⟨hn,rfl,h3,if_pos h3⟩
     · rw [if_neg h3] at h ⊢
       by_cases h4:k=13
       · right;right
         exact ⟨hn,rfl,h4,if_pos h4⟩
       · rw [if_neg h4] at h
         exact absurd rfl h
theorem fitsE_sort {ss:List CRec}{es:List SCho}{r k:Nat}{ref lists:Int}{v:PV}(h:fitsP ss es r k ref lists v=true):sortP k lists≠0:=by
 intro h0
 rw [fitsP_eq,h0,Bool.and_eq_true] at h
 have h2:false=true:=h.2
 cases h2
def Ag (Z full:List Int)(a w lo:Nat):Prop:=∀ i,(a≤i∧i<a+w)∨(lo≤i∧i<full.length)→Z.getD i 0=full.getD i 0
def BackE (S:List SRec)(es:List SCho)(nx:NextE)(r:Nat):Prop:=∀ (k:Nat) (ref lists:Int) (v:PV) (a:Nat) (zs Z:List Int) (left:Int),0≤lists→fitsP (S.map cR) es r k ref lists v=true→(k=13→lists=0→v.has=true)→NumsOk v→a+(inlC k lists).toNat≤zs.length →
 Ag Z (nx k ref lists v a zs) a (inlC k lists).toNat zs.length→(nx k ref lists v a zs).length≤Z.length→Z.length≤65535→(((nx k ref lists v a zs).length-zs.length:Nat):Int)≤left →
 ∃ l',left-(((nx k ref lists v a zs).length-zs.length:Nat):Int)≤l'∧l'≤left∧flatZ (S.map cR) es Z r k ref lists a left=some (v,l')
theorem jump_of {Z:List Int}{a T:Nat}(ha:a+4≤Z.length)(h:leAt Z a 4=(T:Int)-a)(hT:T≤Z.length):jumpZ Z a=some (T:Int):=by
 unfold jumpZ
 rw [if_pos (inZ_iff.2 (by unfold lenZ;omega)),Int.toNat_natCast,h,if_pos (by unfold lenZ;omega)]
 congr 1
 omega
theorem back_num {S:List SRec}{es:List SCho}{nx:NextE}{r k:Nat}{ref lists:Int}{v:PV}{a:Nat}{zs Z:List Int}{left:Int}(he:∀ e ∈ es,e.names.length≤256)(hf:fitsP (S.map cR) es r k ref lists v=true)(hnu:NumsOk v)(hin:a+(inlC k lists).toNat≤zs.length)
  (hag:Ag Z (valE S nx k ref lists v a zs) a (inlC k lists).toNat zs.length) (hlen:(valE S nx k ref lists v a zs).length≤Z.length)
  (hnum:numTB k lists=true) (hli:lists=0) (hso:sortP k lists=1):∃ l',left-(((valE S nx k ref lists v a zs).length-zs.length:Nat):Int)≤l'∧l'≤left∧flatZ (S.map cR) es Z r k ref lists a left=some (v,l'):=by
 have ev:valE S nx k ref lists v a zs=setE a (kSize k).toNat v.num zs:=by unfold valE;exact if_pos hnum
 rw [ev] at hag hlen ⊢
 rw [inl_num hnum] at hag hin
 rw [setE_length] at hlen ⊢
 rw [fitsP_eq,hso,Bool.and_eq_true] at hf
 have hft:fitsT es k ref lists v.num=true:=hf.2
 subst hli
 have hks:0<kSize k:=by
  have:=hnum
  unfold numTB at this
  simp only [Bool.and_eq_true,decide_eq_true_eq] at this
  exact this.2
 have e1:leAt Z a (kSize k).toNat=((v.num % 2 ^ (8 * (kSize k).toNat):Nat):Int):=by
  rw [leAt_ag (z:=setE a (kSize k).toNat v.num zs) (fun i h1 h2=>hag i (.inl ⟨h1,h2⟩))]
  exact leAt_laid zs a (kSize k).toNat v.num hin
 have e2:=num_back hnum hft hnu.num he
 refine ⟨left,by omega,Int.le_refl _,?_⟩
 rw [flatZ_eq]
 unfold valZ numZ
 rw [if_pos hso,if_pos (inZ_iff.2 (by unfold lenZ;omega)),Int.toNat_natCast,e1,e2,if_pos hft,bareE_num hf.1]
theorem back_bytes {S:List SRec}{es:List SCho}{nx:NextE}{r k:Nat}{ref lists:Int}{v:PV}{a:Nat}{zs Z:List Int}{left:Int}(hf:fitsP (S.map cR) es r k ref lists v=true)(hin:a+(inlC k lists).toNat≤zs.length)
  (hag:Ag Z (valE S nx k ref lists v a zs) a (inlC k lists).toNat zs.length) (hlen:(valE S nx k ref lists v a zs).length≤Z.length) (hZ:Z.length≤65535) (hl:(((valE S nx k ref lists v a zs).length-zs.length:Nat):Int)≤left)
  (hnum:¬numTB k lists=true) (hli:lists=0) (hk:k=11∨k=12) (hso:sortP k lists=2):∃ l',left-(((valE S nx k ref lists v a zs).length-zs.length:Nat):Int)≤l'∧l'≤left∧flatZ (S.map cR) es Z r k ref lists a left=some (v,l'):=by
 have ev:valE S nx k ref lists v a zs=bytesE k v a zs:=by unfold valE;rw [if_neg hnum,if_neg (by omega),if_neg (by omega)]
 rw [ev] at hag hlen hl ⊢
 rw [inl_four hnum] at hag hin
 have hin:a+4≤zs.length:=hin
 rw [fitsP_eq,hso,Bool.and_eq_true] at hf
 obtain ⟨P,hP⟩:∃ P,(padE 4 zs).length=P:=⟨_,rfl⟩
 have hp:=padE_le 4 zs
 obtain ⟨tl,htl⟩:∃ tl:List Int,(if k=11 then [0] else [])=tl:=⟨_,rfl⟩
 have hb:bytesE k v a zs=setE a 4 ((P:Int)-a) (putE 4 (v.bytes.length:Nat) (padE 4 zs))++v.bytes++tl:=by unfold bytesE;rw [hP,htl]
 have hl1:(setE a 4 ((P:Int)-a) (putE 4 (v.bytes.length:Nat) (padE 4 zs))).length=P+4:=by rw [setE_length,putE_length,hP]
 have hl2:(bytesE k v a zs).length=P+4+v.bytes.length+tl.length:=by rw [hb,List.length_append,List.length_append,hl1]
 have e1:leAt Z a 4=(P:Int)-a:=by
  rw [leAt_ag (z:=setE a 4 ((P:Int)-a) (putE 4 (v.bytes.length:Nat) (padE 4 zs))) (fun i h1 h2=>by rw [hag i (.inl ⟨h1,h2⟩),hb,getD_appL (by rw [List.length_append];omega),getD_appL (by omega)]),show (P:Int)-a=((P-a:Nat):Int) by omega]
  exact set4_at _ _ _ (by rw [putE_length];omega) (by omega)
 have e2:leAt Z P 4=(v.bytes.length:Nat):=by
  rw [leAt_ag (z:=putE 4 (v.bytes.length:Nat) (padE 4 zs)) (fun i h1 h2=>by rw [hag i (.inr ⟨by omega,by omega⟩),hb,getD_appL (by rw [List.length_append];omega),getD_appL (by omega),set_keep (by rw [putE_length];omega) (by omega)]),←hP]
  exact put4_at _ _ (by omega)
 have e3:partZ Z (P+4) v.bytes.length=v.bytes:=by
  apply List.ext_getElem?
  intro j
  rcases Nat.lt_or_ge j v.bytes.length with hj|hj
  · have h1:=hag (P+4+j) (.inr ⟨by omega,by omega⟩)
    rw [hb,getD_appL (by rw [List.length_append];omega),←hl1,getD_appR,hl1] at h1
    unfold partZ
    rw [List.getElem?_take,if_pos hj,List.getElem?_drop,List.getElem?_eq_getElem (show P+4+j<Z.length by omega),List.getElem?_eq_getElem hj]
    rw [List.getD,List.getD,List.getElem?_eq_getElem (show P+4+j<Z.length by omega),List.getElem?_eq_getElem hj,Option.getD_some,Option.getD_some] at h1
    rw [h1]
  · rw [List.getElem?_eq_none hj,List.getElem?_eq_none (by rw [partZ_length (by omega)];exact hj)]
 have e4:(tl.length:Int)=if k=11 then 1 else 0:=by
  rw [←htl]
  split<;>rfl
 refine ⟨left-(4+(v.bytes.length:Nat)+(if k=11 then 1 else 0)),by omega,by omega,?_⟩
 rw [flatZ_eq]
 unfold valZ
 rw [if_neg (by rw [hso];decide),if_pos hso]
 unfold pointZ
 rw [jump_of (by omega) e1 (by omega)]
 show bytesAtZ Z k (P:Int) left=_
 unfold bytesAtZ
 rw [if_pos (inZ_iff.2 (by unfold lenZ;omega)),Int.toNat_natCast,e2,Int.toNat_natCast,e3,if_pos,bareE_bytes hf.1]
 refine ⟨inZ_iff.2 (by unfold lenZ;omega),by omega,fun h11=>⟨?_,?_⟩⟩
 · subst h11
   have htl':tl=[0]:=htl.symm
   subst htl'
   have h1:=hag (P+4+v.bytes.length) (.inr ⟨by omega,by rw [hl2];show _<P+4+v.bytes.length+1;omega⟩)
   rw [h1,hb,show P+4+v.bytes.length=(setE a 4 ((P:Int)-a) (putE 4 (v.bytes.length:Nat) (padE 4 zs))++v.bytes).length+0 by rw [List.length_append];omega,getD_appR]
   rfl
 · subst h11
   have h2:(decide (11=12)||decide (u8At v.bytes 0<0))=true:=hf.2
   simpa using h2
end Go.Proofs.YtpbaaedijfofnaaDoor
namespace Go.Proofs.YtpbaaedijfofnaaDoor
open Go.ChangeShapes Go.WideShapes Go.ChangeAt Go.RowKit Go.Shelf
set_option maxRecDepth 100000 in
set_option maxHeartbeats 16000000 in
theorem fread_all (w:World){base B:Nat}{ss:List (SRec × Value)}{es:List (SCho × Value)}{sv ev:Value}(root:Nat){bp:Option Addr}{bc mt:Nat}{zs:List Int}{ml:Int}(h:SchRows base w ss es sv ev)(hS:SchM ss (es.map Prod.fst))(hD:∀ q ∈ ss,DfltsOk (es.map Prod.fst) (cR q.1).fields)(hE:es.length≤1000000∧∀ q ∈ es,q.1.names.length≤1000000)(hr:root<ss.length)
  (hz:Bytes w bp zs) (hl:zs.length≤140737488355328) (hc:zs.length≤bc) (hm:w.heap[mt]?=some (.cells #[.int .i64 ml,.bool false] 114 (0,0))) (hml:0≤ml∧ml≤9223372036854775807) (hB:B≤mt) (hA:Amb B w) :
  Calls Tryd.prog 23 #[.agg #[sv,ev,.int .i64 root],.slice bp zs.length bc,.pointer (some ⟨mt,0,none⟩)] w (ReadPost zs (sRecs ss) (es.map Prod.fst) root mt ml w):=by
 by_cases hlong:16384<zs.length
 · have HB:=Lib.hid ((Below.refl w.heap.size w).alloc (Nat.le_refl _) (.cells #[sv,ev,.int .i64 root] 30))
   have HM:=Lib.hid hm
   have HMW:Hid (mt<w.heap.size):=Lib.hid (blk_lt hm)
   have hli:(16384:Int)<zs.length:=by omega
   have HLO:=Lib.hid hlong
   clear h hS hD hE hz hc hm hml hB hA hr hlong
   obtain ⟨P,hP⟩:∃ P,ReadPost zs (sRecs ss) (es.map Prod.fst) root mt ml w=P:=⟨_,rfl⟩
   rw [hP]
   have HP:=Lib.hid hP.symm
   clear hP
   go_enter Tryd.func23,Tryd.ntmps23
   go_wp2
   rw [HP.out]
   exact ⟨Exc.of_below HB.out,ml,false,blk_below HM.out HB.out HMW.out,.inr (.inl ⟨rfl,.inl HLO.out⟩)⟩
 · exact fread_any w root h hS hD hE hr hz (by omega) hc hm hml hB hA
end Go.Proofs.YtpbaaedijfofnaaDoor
namespace Go.Proofs.YtpbaaedijfofnaaDoor
open Go.ChangeShapes Go.WideShapes Go.ChangeAt Go.RowKit Go.Shelf
theorem enc_all:∀ r,EncAt r
 | 0=>enc_step 0 (enc_list 0 (fun q h=>by cases h)) (enc_tab 0 (fun q h=>by cases h))
 | r+1=>enc_step (r+1) (enc_list (r+1) (fun q h=>by injection h with h;exact h▸enc_all r)) (enc_tab (r+1) (fun q h=>by injection h with h;exact h▸enc_all r))
theorem made_u8 (n:Nat):madeCells (Value.int .u8 0).cells (n * 1)=(u8s (zeros n)).toArray:=by
 apply Array.ext'
 rw [Nat.mul_one,made_zeros]
theorem make_u8 (n:Nat)(hn:n≤1000000)(W:World):(Instr.makeSlice 22 (.int .i64 (n:Int)) (.int .i64 (n:Int))).run Tryd.prog W=.ok (.slice (some ⟨W.heap.size,0,none⟩) n n) (W.alloc (.cells (u8s (zeros n)).toArray 5)):=by
 obtain ⟨i,hi,hz,hs,hb⟩:=info_parts u8_infoW
 have h:=run_make W 22 5 i (.int .u8 0) Tryd.underlying22 hi hz .i64 .i64 n n (by omega) (Int.le_refl _) (by rw [hb];omega) (by omega)
 rw [hs,Int.toNat_natCast,made_u8] at h
 exact h
theorem own_u8 {W:World}{g base:Nat}{zs:List Int}(h:W.heap[g]?=some (.cells (u8s zs).toArray 5 (0,0)))(hb:base≤g)(hl:zs.length≤1000000):OwnV W base 5 (some ⟨g,0,none⟩) zs.length zs:=by
 refine ⟨by simp [u8s],.inr ⟨g,zs.length,_,rfl,hb,h,Nat.le_refl _,by unfold maxLen;omega,by simp [u8s],?_⟩⟩
 simp only [Nat.mul_one]
 exact List.take_of_length_le (by simp [u8s])
def EncPost (zs:List Int)(w:World)(e:Ending)(w':World):Prop:=Below w.heap.size w w'∧(∀ z ∈ zs,0≤z∧z≤255)∧∃ A cap,e=.returned (.slice A zs.length cap)∧OwnV w' w.heap.size 5 A cap zs
set_option maxRecDepth 100000 in
set_option maxHeartbeats 8000000 in
theorem encode_any (w:World){b:Nat}{ss:List (SRec × Value)}{es:List (SCho × Value)}{sv ev:Value}(root:Nat)(h:SchRows b w ss es sv ev)(hS:SchM ss (es.map Prod.fst))(hD:∀ q ∈ ss,DfltsOk (es.map Prod.fst) (cR q.1).fields)(v:PV)(val:Value)(hv:IsV w v val)(hf:fitsP (sRecs ss) (es.map Prod.fst) 12 13 root 0 v=true)(hh:v.has=true)(hl:(encZ (ss.map Prod.fst) 12 root v).length≤70368744177664) :
  Calls Tryd.prog 21 #[.agg #[sv,ev,.int .i64 root],val] w (EncPost (encZ (ss.map Prod.fst) 12 root v) w):=by
 obtain ⟨ba,ka,bc,kc,rfl,_,_,_,_,_,_,_⟩:=hv.form
 obtain ⟨hb,hq1,hq2⟩:=two_start w #[sv,ev,.int .i64 root] #[.int .u64 v.num,.slice ba v.bytes.length bc,.slice ka v.kids.length kc,.bool v.has] 30 36
 have HB:=Lib.hid hb
 have HQ1:=Lib.hid hq1
 have HQ2:=Lib.hid hq2
 have HT:=Lib.hid (fun W wk A cap (hc:ECtx b w W wk A cap sv ev root (zeros 4) ss es)=>enc_tab 12 (fun q _=>enc_all q) b w W wk A cap sv ev root (zeros 4) ss es root v _ 0 hc hv hf hh (by decide) hl)
 have HR:=Lib.hid h
 have HS:=Lib.hid hS
 have HD:=Lib.hid hD
 obtain ⟨P,hP⟩:∃ P,EncPost (encZ (ss.map Prod.fst) 12 root v) w=P:=⟨_,rfl⟩
 rw [hP]
 have HP:=Lib.hid hP.symm
 have HMK:Hid (∀ W:World,(Instr.makeSlice 22 (.int .i64 4) (.int .i64 4)).run Tryd.prog W=.ok (.slice (some ⟨W.heap.size,0,none⟩) 4 4) (W.alloc (.cells (u8s (zeros 4)).toArray 5))):=Lib.hid (fun W=>make_u8 4 (by decide) W)
 clear hb hq1 hq2 h hS hD hv hf hh hl hP
 go_enter Tryd.func21,Tryd.ntmps21
 go_upto_region 1 with (fail)
 generalize (w.alloc (.cells #[sv,ev,.int .i64 root] 30)).alloc (.cells #[.int .u64 v.num,.slice ba v.bytes.length bc,.slice ka v.kids.length kc,.bool v.has] 36)=W0 at *
 obtain ⟨_,s0,s1,s2,_⟩:=blk3 HQ1.out
 refine wp_region_noPanic ?_
 refine wp_region_held_drew (S:=(fun w'=>w'.cell? ⟨w.heap.size,0,none⟩=some (sv)∧w'.cell? ⟨w.heap.size,1,none⟩=some (ev)∧w'.cell? ⟨w.heap.size,2,none⟩=some (.int .i64 root))) (by kernel_rfl) ⟨s0,s1,s2⟩ ?_
 intro hS
 refine tk 0 (.agg #[sv,ev,.int .i64 root]) hS ?_ ?_
 · rintro w' ⟨s0,s1,s2⟩
   go_simp
 simp only [td]
 refine wpAnyH_ready (rs:=[1]) (by kernel_rfl) (by decide) (AllReadyH.cons rfl (fun K hK=>?_) AllReadyH.nil)
 rw [if_pos (by kernel_rfl)]
 have hmk:=HMK.out W0.drew
 go_simp
 have hb0:Below W0.heap.size W0 (W0.alloc (.cells (u8s (zeros 4)).toArray 5)):=(Below.refl _ W0).alloc (Nat.le_refl _) _
 have hb0d:Below W0.heap.size W0 (W0.alloc (.cells (u8s (zeros 4)).toArray 5)).drew:=hb0.drew
 have HB0:=Lib.hid hb0
 have HN0:=Lib.hid (heap_alloc_new W0 (.cells (u8s (zeros 4)).toArray 5))
 refine hK.out _ _ ⟨cell_stays hb0d s0,cell_stays hb0d s1,cell_stays hb0d s2⟩ (fun hS=>?_)
 clear hmk hK K hb0d
 refine tk 2 (.agg #[sv,ev,.int .i64 root,.slice (some ⟨W0.heap.size,0,none⟩) 4 4]) hS ?_ ?_
 · rintro w' ⟨s0,s1,s2⟩
   go_simp
 simp only [td]
 refine wpAnyH_ready (rs:=[3]) (by kernel_rfl) (by decide) (AllReadyH.cons rfl (fun K hK=>?_) AllReadyH.nil)
 rw [if_pos (by kernel_rfl)]
 go_simp
 have hb1:Below (W0.alloc (.cells (u8s (zeros 4)).toArray 5)).heap.size (W0.alloc (.cells (u8s (zeros 4)).toArray 5)) ((W0.alloc (.cells (u8s (zeros 4)).toArray 5)).alloc (.cells #[sv,ev,.int .i64 root,.slice (some ⟨W0.heap.size,0,none⟩) 4 4] 118)):=(Below.refl _ _).alloc (Nat.le_refl _) _
 have hbA:=hb0.trans (hb1.mono hb0.size)
 have hbAd:=hbA.drew
 refine hK.out _ _ ⟨cell_stays hbAd s0,cell_stays hbAd s1,cell_stays hbAd s2⟩ (fun hS=>?_)
 have P1:=Lib.hid (blk_below HQ1.out hbAd (blk_lt HQ1.out))
 have P2:=Lib.hid (blk_below HQ2.out hbAd (blk_lt HQ2.out))
 have hbw:=HB.out.trans (hbAd.mono HB.out.size)
 have hwk:((W0.alloc (.cells (u8s (zeros 4)).toArray 5)).alloc (.cells #[sv,ev,.int .i64 root,.slice (some ⟨W0.heap.size,0,none⟩) 4 4] 118)).drew.heap[W0.heap.size+1]?=some (.cells #[sv,ev,.int .i64 root,.slice (some ⟨W0.heap.size,0,none⟩) 4 4] 118 (0,0)):=by
  have h5:=heap_alloc_new (W0.alloc (.cells (u8s (zeros 4)).toArray 5)) (.cells #[sv,ev,.int .i64 root,.slice (some ⟨W0.heap.size,0,none⟩) 4 4] 118)
  rw [World.size_alloc] at h5
  exact h5
 have hgk:((W0.alloc (.cells (u8s (zeros 4)).toArray 5)).alloc (.cells #[sv,ev,.int .i64 root,.slice (some ⟨W0.heap.size,0,none⟩) 4 4] 118)).drew.heap[W0.heap.size]?=some (.cells (u8s (zeros 4)).toArray 5 (0,0)):=blk_below HN0.out hb1.drew (blk_lt' HN0.out)
 have H2:Hid (ECtx b w ((W0.alloc (.cells (u8s (zeros 4)).toArray 5)).alloc (.cells #[sv,ev,.int .i64 root,.slice (some ⟨W0.heap.size,0,none⟩) 4 4] 118)).drew (W0.heap.size+1) (some ⟨W0.heap.size,0,none⟩) 4 sv ev root (zeros 4) ss es):=Lib.hid ⟨⟨hwk,own_u8 hgk HB.out.size (by decide),fun z hz=>by rw [zeros_mem hz];decide,Nat.le_succ_of_le HB.out.size⟩,HR.out,hbw,HS.out,HD.out⟩
 clear hb1 hb0 hbA hbAd hbw hK K hS hwk hgk s0 s1 s2
 generalize ((W0.alloc (.cells (u8s (zeros 4)).toArray 5)).alloc (.cells #[sv,ev,.int .i64 root,.slice (some ⟨W0.heap.size,0,none⟩) 4 4] 118)).drew=W2 at *
 have hS:=And.intro (blk3 P1.out).2.1 (And.intro (blk3 P1.out).2.2.1 (blk3 P1.out).2.2.2.1)
 refine tk 4 (.pointer (some ⟨W0.heap.size+1,0,none⟩)) hS ?_ ?_
 · rintro w' ⟨s0,s1,s2⟩
   go_simp
 simp only [td]
 refine wpAnyH_done (by kernel_rfl) ?_ _
 refine NoPanic.normal ?_
 try simp only [Exit.then]
 obtain ⟨_,s0,s1,s2,_⟩:=blk3 P1.out
 obtain ⟨_,u0,u1,u2,u3⟩:=blk4p P2.out
 clear HQ1 HQ2 HB
 go_wp2_with fail
 refine (HT.out W2 _ _ _ H2.out).mono ?_
 rintro e W3 hp
 obtain ⟨A3,c3,rfl,h3,hx3⟩:=H2.out.post hp
 obtain ⟨_,c0,c1,c2,c3'⟩:=blk4p h3.st.blk
 have H3:=Lib.hid h3
 clear hp h3 hx3 s0 s1 s2 u0 u1 u2 u3
 go_wp2
 rw [HP.out]
 exact ⟨H3.out.bel,H3.out.st.rng,A3,c3,rfl,H3.out.st.own⟩
end Go.Proofs.YtpbaaedijfofnaaDoor
namespace Go.Proofs.YtpbaaedijfofnaaDoor
open Go.ChangeShapes Go.WideShapes Go.ChangeAt Go.RowKit Go.Shelf
theorem bytes_ownv {W:World}{base cap:Nat}{A:Option Addr}{zs:List Int}(h:OwnV W base 5 A cap zs)(hz:∀ z ∈ zs,0≤z∧z≤255):Bytes W A zs∧zs.length≤cap:=by
 have hc:=row_cap (show W.ownsRow base 5 1 (.slice A zs.length cap) zs.length (u8s zs) from h)
 refine ⟨⟨fun i=>?_,fun hne=>?_⟩,hc⟩
 · rcases Nat.lt_or_ge i zs.length with h1|h1
   · rw [List.getD,List.getElem?_eq_getElem h1,Option.getD_some];exact hz _ (List.getElem_mem h1)
   · rw [List.getD,List.getElem?_eq_none h1];decide
 · have hl:0<zs.length:=List.length_pos_iff.2 hne
   obtain ⟨g,c,hv,_,_,hg,hcell⟩:=row_at h hl
   injection hv with hA _ _
   refine ⟨g,0,hA,hg,fun i hi=>?_⟩
   rw [Nat.zero_add,hcell i (by omega),show u8s zs=zs.map (.int .u8) from rfl,List.getElem?_map,List.getElem?_eq_getElem hi,List.getD,List.getElem?_eq_getElem hi]
   rfl
theorem hand_len {ss:List (SRec × Value)}{es:List SCho}{rt n:Nat}{v:PV}(hm:SchM ss es)(hD:∀ q ∈ ss,DfltsOk es (cR q.1).fields)(hf:fitsP ((crow ss).map Prod.fst) es 12 13 rt 0 v=true)(hh:v.has=true)(hw:Wt v (1700 * (n+1)))(hn:n≤30000):(encZ (ss.map Prod.fst) 12 rt v).length≤140000000000:=by
 have hf':fitsP ((ss.map Prod.fst).map cR) es 12 13 rt 0 v=true:=by rw [←sRecs_map];exact hf
 have h:=encZ_len (S:=ss.map Prod.fst) (es:=es) (fun q hq=>by obtain ⟨p,hp,rfl⟩:=List.mem_map.1 hq;exact (hm.2 p hp).1) (fun q hq=>by obtain ⟨p,hp,rfl⟩:=List.mem_map.1 hq;exact hD p hp) hf' hh hw
 refine Nat.le_trans h ?_
 clear h hf hf' hw hm hD hh
 omega
theorem hand_encode (w:World){b n bc root:Nat}{a:Option Addr}{bs:List Int}{ss:List (SRec × Value)}{es:List (SCho × Value)}{sv ev:Value}(h:SchRows b w ss es sv ev)(hm:SchM ss (es.map Prod.fst))(hD:∀ q ∈ ss,DfltsOk (es.map Prod.fst) (cR q.1).fields)(hr:root<ss.length)(hb:Bytes w a bs)(hn:bs.length=n)(hl:n≤30000)(hc:n≤bc) :
  Calls Tryd.prog 15 #[.agg #[sv,ev,.int .i64 root],.slice a n bc] w fun e w1=>Below w.heap.size w w1∧∃ (v:PV) (val:Value),e=.returned val∧IsV w1 v val∧v.has=true∧fitsP (sRecs ss) (es.map Prod.fst) 12 13 root 0 v=true∧(encZ (ss.map Prod.fst) 12 root v).length≤140000000000∧SmallV v ∧
   ∀ w2,Below w1.heap.size w1 w2→Calls Tryd.prog 21 #[.agg #[sv,ev,.int .i64 root],val] w2 (EncPost (encZ (ss.map Prod.fst) 12 root v) w2):=by
 refine (hvalue_wt w h hm hr hb hn (by omega) hc).mono ?_
 rintro e w1 ⟨⟨v,val,rfl,hv,_,hh,hf,hs,hw⟩,hbel⟩
 have hlen:=hand_len hm hD hf hh hw hl
 exact ⟨hbel,v,val,rfl,hv,hh,hf,hlen,hs,fun w2 hw2=>encode_any w2 root (h.below (hbel.trans (hw2.mono hbel.size))) hm hD v val (hv.later hw2) hf hh (by omega)⟩
end Go.Proofs.YtpbaaedijfofnaaDoor
