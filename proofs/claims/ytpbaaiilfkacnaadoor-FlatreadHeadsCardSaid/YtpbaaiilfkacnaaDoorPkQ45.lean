/-
  Package flatread: what a message's views show is what its bytes denote. Conditions: those that each theorem names.
-/
import Derived.Test.YtpbaaiilfkacnaaDoorPkQ31
import Derived.Test.YtpbaaiilfkacnaaDoorPkQ39
namespace Go.Proofs.YtpbaaiilfkacnaaDoor
open Go.ChangeShapes Go.WideShapes Go.ChangeAt Go.RowKit Go.Shelf
set_option maxRecDepth 100000
set_option maxHeartbeats 16000000
theorem aFz (w:World):Calls Tryd.prog 182 #[lJ] w fun e w'=>e=.returned (.int .i64 0)∧Below w.heap.size w w':=by unfold lJ;have HB:=aA ((bH w.heap.size w).alloc bD (.cells #[.pointer none,.int .u8 0,.int .i64 0,.int .i64 0,.int .i64 0,.int .i64 0,.int .i64 0] 245));obtain ⟨_,s0,s1,s2,s3,s4,s5,s6⟩:=eU (cN w (.cells #[.pointer none,.int .u8 0,.int .i64 0,.int .i64 0,.int .i64 0,.int .i64 0,.int .i64 0] 245));go_enter Tryd.func182,Tryd.ntmps182;go_wp2;go_ret;exact ⟨rfl,HB.out⟩
theorem vE (r:Value):Meth 2 142 r "Num" 175 r:=
 ⟨fun N W=>by kernel_rfl,enters_of Tryd.func175 (by kernel_rfl) rfl⟩
theorem rK (r:Value):Meth 2 142 r "Bytes" 173 r:=
 ⟨fun N W=>by kernel_rfl,enters_of Tryd.func173 (by kernel_rfl) rfl⟩
theorem tN (r:Value):Meth 2 142 r "List" 174 r:=
 ⟨fun N W=>by kernel_rfl,enters_of Tryd.func174 (by kernel_rfl) rfl⟩
theorem vG (r:Value):Meth 2 142 r "Sub" 176 r:=
 ⟨fun N W=>by kernel_rfl,enters_of Tryd.func176 (by kernel_rfl) rfl⟩
theorem aB4 (r:Value):Meth 1 245 r "Num" 184 r:=
 ⟨fun N W=>by kernel_rfl,enters_of Tryd.func184 (by kernel_rfl) rfl⟩
theorem zO (r:Value):Meth 1 245 r "Bytes" 181 r:=
 ⟨fun N W=>by kernel_rfl,enters_of Tryd.func181 (by kernel_rfl) rfl⟩
theorem aBq (r:Value):Meth 1 245 r "List" 183 r:=
 ⟨fun N W=>by kernel_rfl,enters_of Tryd.func183 (by kernel_rfl) rfl⟩
theorem aCU (r:Value):Meth 1 245 r "Sub" 185 r:=
 ⟨fun N W=>by kernel_rfl,enters_of Tryd.func185 (by kernel_rfl) rfl⟩
theorem vH (r:Value):Meth 1 245 r "Len" 182 r:=
 ⟨fun N W=>by kernel_rfl,enters_of Tryd.func182 (by kernel_rfl) rfl⟩
structure tX (room:Nat):Prop where
 list:∀ {base:Nat} {w:World} {m:Nat} {bp:Option Addr} {bc:Nat} {sv ev:Value} {zs:List Int} {ss:List (bK × Value)} {es:List aX} {fs:List (List dT × Value)} {ns:List Nat},MsgOf base w m bp bc sv ev zs ss es fs ns→jP ss es→(∀ q ∈ ss,fC es (cR q.1).fields) →
  ∀ (k r l:Nat) (to left l':Int) (q:PV),oN ss.length es k r (l+1)→0≤to∧to≤100000→bM zs (bL (aG ss) es zs room) k r l to left=some (q,l') →
  Shown (aG ss) room w (.iface 245 (kG m k r l (to+4) (aY zs to.toNat 4) (bN k l))) k r ((l+1:Nat):Int) q
 struct:∀ {base:Nat} {w:World} {m:Nat} {bp:Option Addr} {bc:Nat} {sv ev:Value} {zs:List Int} {ss:List (bK × Value)} {es:List aX} {fs:List (List dT × Value)} {ns:List Nat},MsgOf base w m bp bc sv ev zs ss es fs ns→jP ss es→(∀ q ∈ ss,fC es (cR q.1).fields) →
  ∀ (r:Nat) (t:mO) (to left l':Int) (q:PV),r<ss.length→gX zs to=some t→0≤to∧to≤100000→iM (aG ss) zs (bL (aG ss) es zs room) r to t left=some (q,l') →
  Shown (aG ss) room w (.iface 142 (jT m r t to)) 13 r 0 q
theorem oY {zs:List Int}{nx:Option jL}{k:Nat}{ref lists to left:Int}{q:PV × Int}(hz:∀ i,0≤zs.getD i 0∧zs.getD i 0≤255)(h:bM zs nx k ref lists to left=some q):eQ zs k lists to=true:=by
 cases hb:eQ zs k lists to with
 | true=>rfl
 | false=>rw [uY hz hb] at h;cases h
theorem uI {zs:List Int}{k:Nat}{to left:Int}{q:PV × Int}(hz:∀ i,0≤zs.getD i 0∧zs.getD i 0≤255)(h:dH zs k to left=some q):eF zs k to=true∧q.1=.mk 0 (dF zs (to.toNat+4) (aY zs to.toNat 4).toNat) [] false:=by
 cases hb:eF zs k to with
 | true =>
  rw [sY hz hb] at h;generalize (if k=11 then 1 else 0:Int)=c at h;split at h
  · injection h with h;subst h;exact ⟨rfl,rfl⟩
  · cases h
 | false=>rw [sN hz hb] at h;cases h
theorem vS (zs:List Int)(a n:Nat)(h:zs.length≤16384):(dF zs a n).length≤1000000:=by unfold dF;rw [List.length_take,List.length_drop];omega
theorem rR {zs:List Int}{k:Nat}{to:Int}(hz:∀ i,0≤zs.getD i 0∧zs.getD i 0≤255)(hok:eF zs k to=true):(dF zs (to.toNat+4) (aY zs to.toNat 4).toNat).length=(aY zs to.toNat 4).toNat:=iL (by have hbk:=hok;unfold eF at hbk;rw [Bool.and_eq_true,Bool.and_eq_true] at hbk;have h2:=aW.1 hbk.2.1;have h4:=aW.1 hbk.1;have h3:=dW zs to.toNat hz;unfold aH at h2;omega)
theorem gZ {zs:List Int}{at':Int}{g:Int→Option (PV × Int)}{q:PV × Int}(h:cM zs at' g=some q):∃ to,fM zs at'=some to∧g to=some q:=by
 unfold cM at h;cases hj:fM zs at' with
 | none=>rw [hj] at h;cases h
 | some to=>rw [hj] at h;exact ⟨to,rfl,h⟩
theorem aGr {room:Nat}(ih:tX room){base:Nat}{w:World}{m:Nat}{bp:Option Addr}{bc:Nat}{sv ev:Value}{zs:List Int}{ss:List (bK × Value)}{es:List aX}{fs:List (List dT × Value)}{ns:List Nat}(hM:MsgOf base w m bp bc sv ev zs ss es fs ns)(hS:jP ss es)(hD:∀ q ∈ ss,fC es (cR q.1).fields)(r p b c dd:Int)(j:Nat)(k rr l d:Nat)(at' left l':Int)(q:PV)(hty:oN ss.length es k rr l)
  (hk:∀ o:Nat,aT k l=o→∀ W,Below w.heap.size w W→Calls Tryd.prog 113 #[.agg #[.pointer (some ⟨m,0,none⟩),.int .i64 r,.int .i64 p,.int .i64 b,.int .i64 c,.int .i64 dd],.int .i64 j,.int .i64 o] W fun e w'=>e=.returned (dD k rr l at' d true)∧Below W.heap.size W w')
  (hv:bV (aG ss) es zs room k rr l at' left=some (q,l')) :
  AskOk (Shown (aG ss) room) true w (.iface 142 (.agg #[.pointer (some ⟨m,0,none⟩),.int .i64 r,.int .i64 p,.int .i64 b,.int .i64 c,.int .i64 dd])) j k rr l q:=by
 have hz:=hM.msg.bytes.1;have hlen:=hM.msg.len;rw [iE] at hv;unfold mC at hv;rcases jG hty with ⟨h0,hs⟩|⟨h0,hsz,_,hs⟩|⟨h0,_,hs⟩|⟨h0,hk13,hs⟩
 · rw [if_neg (by rw [hs];decide),if_neg (by rw [hs];decide),bG hs] at hv;obtain ⟨to,hj,hg⟩:=gZ hv;have hjb:=gV hz hj;have hok:=oY hz hg;obtain ⟨l0,rfl⟩:∃ l0,l=l0+1:=⟨l-1,by omega⟩;have e1:((l0+1:Nat):Int)-1=(l0:Int):=by omega
   rw [e1] at hg hok;refine ⟨by rw [hs];decide,fun h=>absurd (hs.symm.trans h) (by decide),fun h=>absurd (hs.symm.trans h) (by decide),fun _=>?_,fun h=>absurd (hs.symm.trans h) (by decide)⟩;refine ⟨_,_,174,_,rfl,tN _,fun W hW=>?_⟩;refine (aC3 W m r p b c dd j k d rr ((l0+1:Nat):Int) at' true (fun v w'=>v=kG m k rr l0 (to+4) (aY zs to.toNat 4) (bN k l0)∧Below W.heap.size W w') (fun W2 h2=>hk 3 hs W2 (hW.trans (h2.mono hW.size))) (fun W2 h2=>?_)).mono ?_
   · have h3:=uF W2 ((hM.msg.below hW).below h2) k rr ((l0+1:Nat):Int) at' d to hj (by rw [e1];exact hok) (by have:=hty.li;omega);rw [e1] at h3;exact h3.mono fun e w' ⟨he,hb⟩=>⟨⟨_,he,rfl,h2.trans (hb.mono h2.size)⟩,hb⟩
   · rintro e w' ⟨⟨v,he,rfl,hb⟩,hb2⟩;exact ⟨⟨_,he,ih.list ((hM.below hW).below hb) hS hD k rr l0 to left l' q hty (by unfold aH at hjb;omega) hg⟩,hb2⟩
 · subst h0;rw [bG hs] at hv;have hin:cV (aH zs) at' (aP k)=true:=by
    cases hi:cV (aH zs) at' (aP k) with
    | true=>rfl
    | false=>unfold oK at hv;rw [hi,if_neg (by decide)] at hv;cases hv
   rw [sI hsz hin] at hv;have hnb:=nO (at':=at') hz hsz;have hq:q=dY (dQ zs k at').toNat:=by
    split at hv
    · injection hv with hv;injection hv with hv _;exact hv.symm
    · cases hv
   have hqn:((q.num:Nat):Int)=dQ zs k at':=by rw [hq];show (((dQ zs k at').toNat:Nat):Int)=_;omega
   refine ⟨by rw [hs];decide,fun _=>⟨by rw [hq];rfl,by rw [hqn];exact hnb.2,?_⟩,fun h=>absurd (hs.symm.trans h) (by decide),fun h=>absurd (hs.symm.trans h) (by decide),fun h=>absurd (hs.symm.trans h) (by decide)⟩;refine ⟨_,_,175,_,rfl,vE _,fun W hW=>?_⟩;refine (aFa W m r p b c dd j k d rr 0 at' true (fun v _=>v=.int .u64 q.num) (fun W2 h2=>hk 1 hs W2 (hW.trans (h2.mono hW.size))) (fun W2 h2=>?_)).mono ?_
   · have h3:=lE W2 ((hM.msg.below hW).below h2) k rr 0 at' d true hsz;rw [bG rfl,←hqn] at h3;exact h3.mono fun e w' ⟨he,hb⟩=>⟨⟨_,he,rfl⟩,hb⟩
   · rintro e w' ⟨⟨v,he,rfl⟩,hb2⟩;exact ⟨he,hb2⟩
 · subst h0;rw [if_neg (by rw [hs];decide),bG hs] at hv;obtain ⟨to,hj,hg⟩:=gZ hv;obtain ⟨hok,hq⟩:=uI hz hg;change q=_ at hq;have hqb:q.bytes=dF zs (to.toNat+4) (aY zs to.toNat 4).toNat:=by rw [hq];rfl
   have hql:=rR hz hok;refine ⟨by rw [hs];decide,fun h=>absurd (hs.symm.trans h) (by decide),fun _=>⟨by rw [hqb];exact hq,by rw [hqb];exact vS _ _ _ hlen,?_⟩,fun h=>absurd (hs.symm.trans h) (by decide),fun h=>absurd (hs.symm.trans h) (by decide)⟩;refine ⟨_,_,173,_,rfl,rK _,fun W hW=>?_⟩;refine (aBN W m r p b c dd j k d rr 0 at' true (fun v w'=>∃ A c,v=.slice A (aY zs to.toNat 4).toNat c∧Bytes w' A (dF zs (to.toNat+4) (aY zs to.toNat 4).toNat)) (fun W2 h2=>hk 2 hs W2 (hW.trans (h2.mono hW.size))) (fun W2 h2=>sL W2 ((hM.msg.below hW).below h2) k rr 0 at' d to hj hok)).mono ?_;rintro e w' ⟨⟨v,he,A,c,rfl,hb⟩,hb2⟩;exact ⟨⟨A,c,by rw [hqb,hql];exact he,by rw [hqb];exact hb⟩,hb2⟩
 · subst h0;rw [if_neg (by rw [hs];decide),if_neg (by rw [hs];decide),if_neg (by rw [hs];decide),bG hs] at hv;obtain ⟨to,hj,hg⟩:=gZ hv;have hjb:=gV hz hj;cases ht:gX zs to with
   | none=>rw [lG ht] at hg;cases hg
   | some t =>
   rw [fG ht] at hg;refine ⟨by rw [hs];decide,fun h=>absurd (hs.symm.trans h) (by decide),fun h=>absurd (hs.symm.trans h) (by decide),fun h=>absurd (hs.symm.trans h) (by decide),fun _=>?_⟩;refine ⟨_,_,176,_,rfl,vG _,fun W hW=>?_⟩;refine (aEf W (hM.msg.below hW) r p b c dd j k d rr 0 at' to t hj ht (fun W2 h2=>hk 4 hs W2 (hW.trans (h2.mono hW.size)))).mono ?_;rintro e w' ⟨rfl,hb2⟩;refine ⟨.inl ⟨_,rfl,?_⟩,hb2⟩;obtain rfl:=hk13;exact ih.struct ((hM.below hW).below hb2) hS hD rr t to left l' q (hty.st rfl) ht (by unfold aH at hjb;omega) hg
theorem aGd {room:Nat}(ih:tX room){base:Nat}{w:World}{m:Nat}{bp:Option Addr}{bc:Nat}{sv ev:Value}{zs:List Int}{ss:List (bK × Value)}{es:List aX}{fs:List (List dT × Value)}{ns:List Nat}(hM:MsgOf base w m bp bc sv ev zs ss es fs ns)(hS:jP ss es)(hD:∀ q ∈ ss,fC es (cR q.1).fields)(lk:Nat)(lr ll la ln ls:Int)(j:Nat)(k rr l d:Nat)(at' left l':Int)(q:PV)(hty:oN ss.length es k rr l)
  (hk:∀ o:Nat,aT k l=o→∀ W,Below w.heap.size w W→Calls Tryd.prog 147 #[.agg #[.pointer (some ⟨m,0,none⟩),.int .u8 lk,.int .i64 lr,.int .i64 ll,.int .i64 la,.int .i64 ln,.int .i64 ls],.int .i64 j,.int .i64 o] W fun e w'=>e=.returned (dD k rr l at' d true)∧Below W.heap.size W w')
  (hv:bV (aG ss) es zs room k rr l at' left=some (q,l')) :
  AskOk (Shown (aG ss) room) false w (.iface 245 (.agg #[.pointer (some ⟨m,0,none⟩),.int .u8 lk,.int .i64 lr,.int .i64 ll,.int .i64 la,.int .i64 ln,.int .i64 ls])) j k rr l q:=by
 have hz:=hM.msg.bytes.1;have hlen:=hM.msg.len;rw [iE] at hv;unfold mC at hv;rcases jG hty with ⟨h0,hs⟩|⟨h0,hsz,_,hs⟩|⟨h0,_,hs⟩|⟨h0,hk13,hs⟩
 · rw [if_neg (by rw [hs];decide),if_neg (by rw [hs];decide),bG hs] at hv;obtain ⟨to,hj,hg⟩:=gZ hv;have hjb:=gV hz hj;have hok:=oY hz hg;obtain ⟨l0,rfl⟩:∃ l0,l=l0+1:=⟨l-1,by omega⟩;have e1:((l0+1:Nat):Int)-1=(l0:Int):=by omega
   rw [e1] at hg hok;refine ⟨by rw [hs];decide,fun h=>absurd (hs.symm.trans h) (by decide),fun h=>absurd (hs.symm.trans h) (by decide),fun _=>?_,fun h=>absurd (hs.symm.trans h) (by decide)⟩;refine ⟨_,_,183,_,rfl,aBq _,fun W hW=>?_⟩;refine (aFy W m lk lr ll la ln ls j k d rr ((l0+1:Nat):Int) at' true (fun v w'=>v=kG m k rr l0 (to+4) (aY zs to.toNat 4) (bN k l0)∧Below W.heap.size W w') (fun W2 h2=>hk 3 hs W2 (hW.trans (h2.mono hW.size))) (fun W2 h2=>?_)).mono ?_
   · have h3:=uF W2 ((hM.msg.below hW).below h2) k rr ((l0+1:Nat):Int) at' d to hj (by rw [e1];exact hok) (by have:=hty.li;omega);rw [e1] at h3;exact h3.mono fun e w' ⟨he,hb⟩=>⟨⟨_,he,rfl,h2.trans (hb.mono h2.size)⟩,hb⟩
   · rintro e w' ⟨⟨v,he,rfl,hb⟩,hb2⟩;exact ⟨⟨_,he,ih.list ((hM.below hW).below hb) hS hD k rr l0 to left l' q hty (by unfold aH at hjb;omega) hg⟩,hb2⟩
 · subst h0;rw [bG hs] at hv;have hin:cV (aH zs) at' (aP k)=true:=by
    cases hi:cV (aH zs) at' (aP k) with
    | true=>rfl
    | false=>unfold oK at hv;rw [hi,if_neg (by decide)] at hv;cases hv
   rw [sI hsz hin] at hv;have hnb:=nO (at':=at') hz hsz;have hq:q=dY (dQ zs k at').toNat:=by
    split at hv
    · injection hv with hv;injection hv with hv _;exact hv.symm
    · cases hv
   have hqn:((q.num:Nat):Int)=dQ zs k at':=by rw [hq];show (((dQ zs k at').toNat:Nat):Int)=_;omega
   refine ⟨by rw [hs];decide,fun _=>⟨by rw [hq];rfl,by rw [hqn];exact hnb.2,?_⟩,fun h=>absurd (hs.symm.trans h) (by decide),fun h=>absurd (hs.symm.trans h) (by decide),fun h=>absurd (hs.symm.trans h) (by decide)⟩;refine ⟨_,_,184,_,rfl,aB4 _,fun W hW=>?_⟩;refine (aF7 W m lk lr ll la ln ls j k d rr 0 at' true (fun v _=>v=.int .u64 q.num) (fun W2 h2=>hk 1 hs W2 (hW.trans (h2.mono hW.size))) (fun W2 h2=>?_)).mono ?_
   · have h3:=lE W2 ((hM.msg.below hW).below h2) k rr 0 at' d true hsz;rw [bG rfl,←hqn] at h3;exact h3.mono fun e w' ⟨he,hb⟩=>⟨⟨_,he,rfl⟩,hb⟩
   · rintro e w' ⟨⟨v,he,rfl⟩,hb2⟩;exact ⟨he,hb2⟩
 · subst h0;rw [if_neg (by rw [hs];decide),bG hs] at hv;obtain ⟨to,hj,hg⟩:=gZ hv;obtain ⟨hok,hq⟩:=uI hz hg;change q=_ at hq;have hqb:q.bytes=dF zs (to.toNat+4) (aY zs to.toNat 4).toNat:=by rw [hq];rfl
   have hql:=rR hz hok;refine ⟨by rw [hs];decide,fun h=>absurd (hs.symm.trans h) (by decide),fun _=>⟨by rw [hqb];exact hq,by rw [hqb];exact vS _ _ _ hlen,?_⟩,fun h=>absurd (hs.symm.trans h) (by decide),fun h=>absurd (hs.symm.trans h) (by decide)⟩;refine ⟨_,_,181,_,rfl,zO _,fun W hW=>?_⟩;refine (aEI W m lk lr ll la ln ls j k d rr 0 at' true (fun v w'=>∃ A c,v=.slice A (aY zs to.toNat 4).toNat c∧Bytes w' A (dF zs (to.toNat+4) (aY zs to.toNat 4).toNat)) (fun W2 h2=>hk 2 hs W2 (hW.trans (h2.mono hW.size))) (fun W2 h2=>sL W2 ((hM.msg.below hW).below h2) k rr 0 at' d to hj hok)).mono ?_;rintro e w' ⟨⟨v,he,A,c,rfl,hb⟩,hb2⟩;exact ⟨⟨A,c,by rw [hqb,hql];exact he,by rw [hqb];exact hb⟩,hb2⟩
 · subst h0;rw [if_neg (by rw [hs];decide),if_neg (by rw [hs];decide),if_neg (by rw [hs];decide),bG hs] at hv;obtain ⟨to,hj,hg⟩:=gZ hv;have hjb:=gV hz hj;cases ht:gX zs to with
   | none=>rw [lG ht] at hg;cases hg
   | some t =>
   rw [fG ht] at hg;refine ⟨by rw [hs];decide,fun h=>absurd (hs.symm.trans h) (by decide),fun h=>absurd (hs.symm.trans h) (by decide),fun h=>absurd (hs.symm.trans h) (by decide),fun _=>?_⟩;refine ⟨_,_,185,_,rfl,aCU _,fun W hW=>?_⟩;refine (aDO W (hM.msg.below hW) lk lr ll la ln ls j k d rr 0 at' to t hj ht (fun W2 h2=>hk 4 hs W2 (hW.trans (h2.mono hW.size)))).mono ?_;rintro e w' ⟨rfl,hb2⟩;refine ⟨.inl ⟨_,rfl,?_⟩,hb2⟩;obtain rfl:=hk13;exact ih.struct ((hM.below hW).below hb2) hS hD rr t to left l' q (hty.st rfl) ht (by unfold aH at hjb;omega) hg
theorem wR (ss:List cO)(room:Nat)(w:World)(k:Nat)(ref lists:Int)(hs:aT k lists=3):Shown ss room w (.iface 245 lJ) k ref lists gO:=by
 have hh:ListHead w (.iface 245 lJ) gO:=⟨⟨rfl,rfl,rfl⟩,by show (0:Nat)≤_;decide,.inr ⟨_,_,182,_,rfl,vH _,fun W hW=>aFz W⟩⟩;cases room with
 | zero=>exact ⟨hs,hh,rfl⟩
 | succ n=>exact .inl ⟨hs,hh,fun j hj=>absurd hj (Nat.not_lt_zero _)⟩
theorem aFV {room:Nat}{base:Nat}{w:World}{m:Nat}{bp:Option Addr}{bc:Nat}{sv ev:Value}{zs:List Int}{ss:List (bK × Value)}{es:List aX}{fs:List (List dT × Value)}{ns:List Nat}(hM:MsgOf base w m bp bc sv ev zs ss es fs ns)(r p b c dd:Int)(j:Nat)(k rr l d:Nat)(at':Int)(hty:oN ss.length es k rr l)
  (hd:aT k l≠1→d=0) (hdm:(d:Int)≤18446744073709551615)
  (hk:∀ o:Nat,aT k l=o→∀ W,Below w.heap.size w W→Calls Tryd.prog 113 #[.agg #[.pointer (some ⟨m,0,none⟩),.int .i64 r,.int .i64 p,.int .i64 b,.int .i64 c,.int .i64 dd],.int .i64 j,.int .i64 o] W fun e w'=>e=.returned (dD k rr l at' d false)∧Below W.heap.size W w') :
  AskOk (Shown (aG ss) room) true w (.iface 142 (.agg #[.pointer (some ⟨m,0,none⟩),.int .i64 r,.int .i64 p,.int .i64 b,.int .i64 c,.int .i64 dd])) j k rr l (dY d):=by
 rcases jG hty with ⟨h0,hs⟩|⟨h0,hsz,_,hs⟩|⟨h0,_,hs⟩|⟨h0,hk13,hs⟩
 · obtain rfl:=hd (by rw [hs];decide);refine ⟨by rw [hs];decide,fun h=>absurd (hs.symm.trans h) (by decide),fun h=>absurd (hs.symm.trans h) (by decide),fun _=>?_,fun h=>absurd (hs.symm.trans h) (by decide)⟩;refine ⟨_,_,174,_,rfl,tN _,fun W hW=>?_⟩;refine (aC3 W m r p b c dd j k 0 rr l at' false (fun v _=>v=lJ) (fun W2 h2=>hk 3 hs W2 (hW.trans (h2.mono hW.size))) (fun W2 h2=>(aAt W2 ((hM.msg.below hW).below h2) k rr l at' 0).mono fun e w' ⟨he,hb⟩=>⟨⟨_,he,rfl⟩,hb⟩)).mono ?_;rintro e w' ⟨⟨v,he,rfl⟩,hb2⟩;exact ⟨⟨_,he,wR _ _ _ _ _ _ hs⟩,hb2⟩
 · refine ⟨by rw [hs];decide,fun _=>⟨rfl,hdm,?_⟩,fun h=>absurd (hs.symm.trans h) (by decide),fun h=>absurd (hs.symm.trans h) (by decide),fun h=>absurd (hs.symm.trans h) (by decide)⟩;refine ⟨_,_,175,_,rfl,vE _,fun W hW=>?_⟩;refine (aFa W m r p b c dd j k d rr l at' false (fun v _=>v=.int .u64 d) (fun W2 h2=>hk 1 hs W2 (hW.trans (h2.mono hW.size))) (fun W2 h2=>?_)).mono ?_
   · have h3:=lE W2 ((hM.msg.below hW).below h2) k rr l at' d false hsz;rw [if_neg (by decide)] at h3;exact h3.mono fun e w' ⟨he,hb⟩=>⟨⟨_,he,rfl⟩,hb⟩
   · rintro e w' ⟨⟨v,he,rfl⟩,hb2⟩;exact ⟨he,hb2⟩
 · obtain rfl:=hd (by rw [hs];decide);refine ⟨by rw [hs];decide,fun h=>absurd (hs.symm.trans h) (by decide),fun _=>⟨rfl,by show (0:Nat)≤_;decide,?_⟩,fun h=>absurd (hs.symm.trans h) (by decide),fun h=>absurd (hs.symm.trans h) (by decide)⟩;refine ⟨_,_,173,_,rfl,rK _,fun W hW=>?_⟩;refine (aBN W m r p b c dd j k 0 rr l at' false (fun v _=>v=.slice none 0 0) (fun W2 h2=>hk 2 hs W2 (hW.trans (h2.mono hW.size))) (fun W2 h2=>(aBn W2 ((hM.msg.below hW).below h2) k rr l at' 0).mono fun e w' ⟨he,hb⟩=>⟨⟨_,he,rfl⟩,hb⟩)).mono ?_;rintro e w' ⟨⟨v,he,rfl⟩,hb2⟩;exact ⟨⟨none,0,he,kE _⟩,hb2⟩
 · obtain rfl:=hd (by rw [hs];decide);refine ⟨by rw [hs];decide,fun h=>absurd (hs.symm.trans h) (by decide),fun h=>absurd (hs.symm.trans h) (by decide),fun h=>absurd (hs.symm.trans h) (by decide),fun _=>?_⟩;refine ⟨_,_,176,_,rfl,vG _,fun W hW=>?_⟩;refine (aDi W (hM.msg.below hW) r p b c dd j k 0 rr l at' (fun W2 h2=>hk 4 hs W2 (hW.trans (h2.mono hW.size)))).mono ?_;rintro e w' ⟨rfl,hb2⟩;exact ⟨.inr ⟨rfl,rfl,rfl⟩,hb2⟩
theorem vT (room:Nat)(ih:∀ n,room=n+1→tX n):tX room where
 list:=by
  intro base w m bp bc sv ev zs ss es fs ns hM hS hD k r l to left l' q hty hto hg;have hz:=hM.msg.bytes.1;have hlen:=hM.msg.len;have hok:=oY hz hg;have hst:=iF k l;have hn4:=dW zs to.toNat hz;have hs:aT k ((l+1:Nat):Int)=3:=by
   rcases jG hty with ⟨_,h⟩|⟨h,_⟩|⟨h,_⟩|⟨h,_⟩
   · exact h
   all_goals omega
  have e1:((l+1:Nat):Int)-1=(l:Int):=by omega
  have hfew:aY zs to.toNat 4≤16384:=by unfold eQ at hok;rw [Bool.and_eq_true] at hok;have h2:=aW.1 hok.2;unfold aH at h2;have h5:aY zs to.toNat 4 * 1≤aY zs to.toNat 4 * bN k l:=Int.mul_le_mul_of_nonneg_left hst.1 hn4.1;omega
  have hlenk:∀ kk:List PV,q=.mk 0 [] kk false→kk.length=(aY zs to.toNat 4).toNat→ListHead w (.iface 245 (kG m k r l (to+4) (aY zs to.toNat 4) (bN k l))) q:=fun kk hq hkk=>by
   have hlk:((q.kids.length:Nat):Int)=aY zs to.toNat 4:=by rw [hq];show ((kk.length:Nat):Int)=_;omega
   refine ⟨by rw [hq];exact ⟨rfl,rfl,rfl⟩,by omega,.inr ⟨_,_,182,_,rfl,vH _,fun W hW=>?_⟩⟩;rw [hlk];exact aGc W m k r l (to+4) (aY zs to.toNat 4) (bN k l)
  rw [uN hok] at hg;split at hg
  case isFalse=>cases hg
  rename_i hle
  cases room with
  | zero =>
   change (if aY zs to.toNat 4=0 then some (PV.mk 0 [] [] false,left-(4+aY zs to.toNat 4 * bN k l)) else none)=some (q,l') at hg;split at hg
   case isFalse=>cases hg
   rename_i h0
   injection hg with hg;injection hg with hg _;exact ⟨hs,hlenk [] hg.symm (by rw [h0];rfl),by rw [←hg];rfl⟩
  | succ n =>
   have ihn:=ih n rfl;change (match eB (fun j l1=>bV (aG ss) es zs n k r l (to+4+j * bN k l) l1) (left-(4+aY zs to.toNat 4 * bN k l)) (aY zs to.toNat 4).toNat with|none=>none|some (ks,l)=>some (PV.mk 0 [] ks false,l))=some (q,l') at hg;cases hsq:eB (fun j l1=>bV (aG ss) es zs n k r l (to+4+j * bN k l) l1) (left-(4+aY zs to.toNat 4 * bN k l)) (aY zs to.toNat 4).toNat with
   | none=>rw [hsq] at hg;cases hg
   | some pr =>
   obtain ⟨ks,l1⟩:=pr;rw [hsq] at hg;injection hg with hg;injection hg with hg _;refine .inl ⟨hs,hlenk ks hg.symm (jH hsq),fun j hj=>?_⟩;rw [e1];subst hg;change j<ks.length at hj;obtain ⟨l2,l3,hjv⟩:=wA hsq j hj;have hj2:(j:Int)<aY zs to.toNat 4:=by have:=jH hsq;omega
   exact aGd ihn hM hS hD k r l (to+4) (aY zs to.toNat 4) (bN k l) j k r l 0 (to+4+j * bN k l) l2 l3 ks[j] ⟨hty.lo,hty.hi,by have:=hty.li;omega,hty.en,hty.st⟩ (fun o ho W hW=>oI W m k r l (to+4) (aY zs to.toNat 4) (bN k l) j o hj2 (by omega) hst (by omega) ho) hjv
 struct:=by
  intro base w m bp bc sv ev zs ss es fs ns hM hS hD r t to left l' q hr ht hto hg;have hz:=hM.msg.bytes.1;cases room with
  | zero=>cases hg
  | succ n =>
  have ihn:=ih n rfl;have htf:=vI hz ht;obtain ⟨hrf,hxs⟩:=aFk hM.structs hr;have hsm:=hS.2 _ (jK hr);have hxm:(kJ (aG ss) r).fields=ss[r].1.fields.map cF:=by rw [wU hr];rfl
  change (if left-(t.size+t.own)<0 then none else match eB (jO zs (bV (aG ss) es zs n) (kJ (aG ss) r).fields to t) (left-(t.size+t.own)) (kJ (aG ss) r).fields.length with|none=>none|some (ks,l)=>some (PV.mk 0 [] ks true,l))=some (q,l') at hg;split at hg
  · cases hg
  cases hsq:eB (jO zs (bV (aG ss) es zs n) (kJ (aG ss) r).fields to t) (left-(t.size+t.own)) (kJ (aG ss) r).fields.length with
  | none=>rw [hsq] at hg;cases hg
  | some pr =>
  obtain ⟨ks,l1⟩:=pr;rw [hsq] at hg;injection hg with hg;injection hg with hg _;subst hg;refine .inr ⟨by decide,⟨⟨_,_,rfl⟩,⟨rfl,rfl,rfl⟩,⟨by omega,by unfold aG;rw [List.length_map,rJ];omega⟩,jH hsq⟩,fun j hj hf=>?_⟩;change j<ks.length at hj;change j<(kJ (aG ss) r).fields.length at hf;change AskOk _ _ _ _ _ ((kJ (aG ss) r).fields[j]'hf).kind ((kJ (aG ss) r).fields[j]'hf).ref ((kJ (aG ss) r).fields[j]'hf).lists (ks[j]'hj);obtain ⟨l2,l3,hjv⟩:=wA hsq j hj;obtain ⟨x,hx⟩:∃ x,(kJ (aG ss) r).fields[j]'hf=x:=⟨_,rfl⟩;have hj2:j<ss[r].1.fields.length:=by rw [hxm,List.length_map] at hf;exact hf
  obtain ⟨k,rr,l,d,nm,hxe,hty,hdm,hdz⟩:∃ (k rr l d:Nat) (nm:ByteArray),x=⟨nm,k,rr,l,d⟩∧oN ss.length es k rr l∧(d:Int)≤18446744073709551615∧(aT k l≠1→d=0):=by
   have h1:=hsm.2 _ (jK hj2);have hxc:x=cF ss[r].1.fields[j]:=by rw [←hx];simp only [hxm,List.getElem_map]
   refine ⟨ss[r].1.fields[j].kind,ss[r].1.fields[j].ref,ss[r].1.fields[j].lists,ss[r].1.fields[j].dflt,ss[r].1.fields[j].name,hxc,h1.1,h1.2.1,?_⟩;have h2:=(hD _ (jK hr) x (by rw [hxc];exact rX.2 ⟨_,jK hj2,rfl⟩)).2.2;rw [hxc] at h2;exact h2
  have hkid:∀ o:Nat,aT x.kind x.lists=o→∀ W,Below w.heap.size w W→Calls Tryd.prog 113 #[jT m r t to,.int .i64 j,.int .i64 o] W fun e w'=>e=.returned (dD x.kind x.ref x.lists (to+eC zs t j) x.dflt (decide (eC zs t j≠0)))∧Below W.heap.size W w':=fun o ho W hW =>
   vW W (hM.msg.below hW) r hrf t to (by omega) j o (by rw [hxs];exact hf) (by have:=hsm.1;omega) htf.1 x (by rw [←hx];simp only [hxs]) ho
  rw [hx];have hxq:(kJ (aG ss) r).fields[j]?=some x:=by rw [iO hf,hx]
  unfold jO at hjv;rw [hxq] at hjv;clear hx hxq hxs;subst hxe;change (if eC zs t j=0 then some (dY d,l2) else if eC zs t j<4∨t.own<eC zs t j+gK k l then none else bV (aG ss) es zs n k rr l (to+eC zs t j) l2)=some (ks[j],l3) at hjv;split at hjv
  · rename_i h0
    injection hjv with hjv;injection hjv with hjv _;rw [←hjv];exact aFV hM r to t.own t.la t.size j k rr l d (to+eC zs t j) hty hdz hdm (fun o ho W hW=>by have h5:=hkid o ho W hW;rw [show decide (eC zs t j≠0)=false from by rw [h0];rfl] at h5;exact h5)
  · rename_i h0
    split at hjv
    · cases hjv
    exact aGr ihn hM hS hD r to t.own t.la t.size j k rr l d (to+eC zs t j) l2 l3 ks[j] hty (fun o ho W hW=>by have h5:=hkid o ho W hW;rw [show decide (eC zs t j≠0)=true from fO h0] at h5;exact h5) hjv
theorem uW:∀ room,tX room
 | 0=>vT 0 (fun n e=>by omega)
 | n+1=>vT (n+1) (fun q e=>by
  obtain rfl:n=q:=by omega
  exact uW n)
end Go.Proofs.YtpbaaiilfkacnaaDoor
