/-
  The package view's Tree: of whatever view shows a value it hands back that value, of new blocks alone. Conditions: those that each theorem names.
-/
import Derived.Test.YtpbaaiilfkacnaaDoorPkQ35
import Derived.Test.YtpbaaiilfkacnaaDoorPkQ38
import Derived.Test.YtpbaaiilfkacnaaDoorPkQ41
import Derived.Test.YtpbaaiilfkacnaaDoorPkQ42
import Derived.Test.YtpbaaiilfkacnaaDoorPkQ43
import Derived.Test.YtpbaaiilfkacnaaDoorPkQ45
import Derived.Test.YtpbaaiilfkacnaaDoorPkQ46
namespace Go.Proofs.YtpbaaiilfkacnaaDoor
open Go.ChangeShapes Go.WideShapes Go.ChangeAt Go.RowKit Go.Shelf
set_option maxRecDepth 100000
set_option maxHeartbeats 16000000
variable {base B:Nat} {W W':World} {rk:Nat} {sv ev:Value} {root:Int} {bp:Option Addr} {bc:Nat} {zs:List Int} {ss:List (bK × Value)} {es:List (aX × Value)} {left l':Int}
theorem aCr {ss:List cO}{es:List aX}{zs:List Int}{room k:Nat}{r l at' left:Int}(h:aT k l=1):bV ss es zs room k r l at' left=oK es zs k r at' left:=by rw [iE];unfold mC;rw [bG h]
theorem aAe {ss:List cO}{es:List aX}{zs:List Int}{room k:Nat}{r l at' left:Int}(h:aT k l=2):bV ss es zs room k r l at' left=cM zs at' fun to=>dH zs k to left:=by rw [iE];unfold mC;rw [if_neg (by omega),bG h]
theorem aA7 {ss:List cO}{es:List aX}{zs:List Int}{room k:Nat}{r l at' left:Int}(h:aT k l=3):bV ss es zs room k r l at' left=cM zs at' fun to=>bM zs (bL ss es zs room) k r (l-1) to left:=by rw [iE];unfold mC;rw [if_neg (by omega),if_neg (by omega),bG h]
theorem pV {ss:List cO}{es:List aX}{zs:List Int}{room k:Nat}{r l at' left:Int}(h:aT k l=4):bV ss es zs room k r l at' left=cM zs at' fun to=>cC ss zs (bL ss es zs room) r to left:=by rw [iE];unfold mC;rw [if_neg (by omega),if_neg (by omega),if_neg (by omega),bG h]
theorem tB {zs:List Int}{at':Int}{g:Int→Option (PV × Int)}(h:jJ zs at'=false):cM zs at' g=g (eR zs at'):=by unfold cM;rw [(aBv h).1]
theorem qS {zs:List Int}{at':Int}{g:Int→Option (PV × Int)}(h:jJ zs at'=true):cM zs at' g=none:=by unfold cM;rw [aAg h]
theorem sZ (room:Nat)(hr:room≤100)(hv:∀ q,room=q+1→kZ q):sH room:=
 ⟨fun {base B W rk sv ev root bp bc zs ss es left} h r to hrl hto=>by
  by_cases hok:xR zs room to left (to-kU (dU zs to 4)) (dU zs (to-kU (dU zs to 4)) 2) (dU zs (to-kU (dU zs to 4)+2) 2)
  · obtain ⟨q,hq⟩:∃ q,room=q+1:=⟨room-1,by have:=hok.2.1;omega⟩;exact aCY W h r hrl to room q hq (hv q hq) hto rfl rfl rfl hok hr
  · exact aDE W h r to room hto rfl rfl rfl hok hr⟩
theorem uB (room:Nat)(hr:room≤100)(ht:sH room)(hv:∀ q,room=q+1→kZ q):kZ room:=
 ⟨fun {base B W rk sv ev root bp bc zs ss es left} h k r l at' hty hat=>by
  have hl:=h.hl;rcases jG hty with ⟨hl0,hs⟩|⟨hl0,hk,hk10,hs⟩|⟨hl0,hk,hs⟩|⟨hl0,hk,hs⟩
  · rw [aA7 hs];cases hj:jJ zs at' with
    | true=>exact oC W h k r l at' room hty (.inr hs) hat (by rw [hj];rfl) (qS hj)
    | false =>
     rw [tB hj];cases hin:cV (aH zs) (eR zs at') 4 with
     | false=>exact oC W h k r l at' room hty (.inr hs) hat (by rw [hj,hin];rfl) (by unfold bM;exact if_neg (by rw [hin];decide))
     | true =>
      obtain ⟨lm,hlm⟩:∃ lm,l=lm+1:=⟨l-1,by omega⟩;have hb:=dW zs (eR zs at').toNat h.st.bytes.1;by_cases hn0:aY zs (eR zs at').toNat 4=0
      · cases hnum:cK k lm with
        | true=>exact yF W h k r l lm at' room hty hlm hnum hat hj hin hn0
        | false=>exact xX W h k r l lm at' room hty hlm hnum hat hj hin hn0
      · have hpos:0<aY zs (eR zs at').toNat 4:=by omega
        rcases Nat.eq_zero_or_pos room with h0|h0
        · cases hnum:cK k lm with
          | true=>exact yE W h k r l lm at' room hty hlm hnum hat hj hin hpos h0
          | false=>exact zW W h k r l lm at' room hty hlm hnum hat hj hin hpos h0
        · obtain ⟨q,hq⟩:∃ q,room=q+1:=⟨room-1,by omega⟩;cases hnum:cK k lm with
          | true=>exact zE W h k r l lm at' room q hq (hv q hq) hty hlm hnum hat hj hin hpos hr
          | false=>exact yV W h k r l lm at' room q hq (hv q hq) hty hlm hnum hat hj hin hpos hr
  · subst hl0;rw [aCr hs];cases hin:cV (aH zs) at' (aP k) with
    | true=>exact aC1 W h.st h.rows.rowV (fun V hx=>h.crows V hx) hl k r at' room hk hk10 hin
    | false=>exact aCg W h.st h.rows.rowV hl (es.map Prod.fst) k r at' room hk hk10 hin
  · rw [aAe hs];cases hj:jJ zs at' with
    | true=>exact oC W h k r l at' room hty (.inl hs) hat (by rw [hj];rfl) (qS hj)
    | false =>
     rw [tB hj];cases hin:cV (aH zs) (eR zs at') 4 with
     | false=>exact oC W h k r l at' room hty (.inl hs) hat (by rw [hj,hin];rfl) (by unfold dH;exact if_neg (by rw [hin];decide))
     | true=>exact aAb W h k r l at' room hty hs hat hj hin
  · rw [pV hs];exact wX W h k r l hk hl0 at' room ht hty hat⟩
theorem aEe:∀ room,room≤100→sH room∧kZ room
 | 0,h=>by have ht:=sZ 0 h (fun q e=>by omega);exact ⟨ht,uB 0 h ht (fun q e=>by omega)⟩
 | n+1,h=>by
  have hn:=(aEe n (by omega)).2;have hv:∀ q,n+1=q+1→kZ q:=fun q e=>by
   obtain rfl:n=q:=by omega
   exact hn
  have ht:=sZ (n+1) h hv;exact ⟨ht,uB (n+1) h ht hv⟩
def sS (zs:List Int)(ss:List cO)(es:List aX)(root mt:Nat)(ml:Int)(w:World)(e:Ending)(w':World):Prop:=
 Exc mt w.heap.size w w'∧∃ ml' mo,w'.heap[mt]?=some (.cells #[.int .i64 ml',.bool mo] 117 (0,0)) ∧
 ((∃ v l' x,zs.length≤16384∧bV ss es zs 12 13 root 0 0 zs.length=some (v,l')∧e=.returned (.tuple #[x,.int .i64 0])∧Shown ss 12 w' x 13 root 0 v∧mo=false∧ml'≤ml) ∨
  (e=.returned (.tuple #[.nilIface,.int .i64 20])∧(16384<zs.length∨bV ss es zs 12 13 root 0 0 zs.length=none)) ∨
  (e=.returned (.tuple #[.nilIface,.int .i64 3])∧zs.length≤16384∧ml<3 * (zs.length:Int)))
theorem zQ {ss:List cO}{es:List aX}{zs:List Int}{room r:Nat}{at' left:Int}{q:PV × Int}{to:Int}{t:mO}(h:bV ss es zs room 13 r 0 at' left=some q)(hj:fM zs at'=some to)(ht:gX zs to=some t):iM ss zs (bL ss es zs room) r to t left=some q:=by rw [iE] at h;unfold mC at h;rw [if_neg (by decide),if_neg (by decide),if_neg (by decide),bG (by decide)] at h;obtain ⟨to',hj',hg⟩:=gZ h;rw [hj] at hj';injection hj' with hj';subst hj';rw [fG ht] at hg;exact hg
theorem rA (w:World){base B:Nat}{ss:List (bK × Value)}{es:List (aX × Value)}{sv ev:Value}(root:Nat){bp:Option Addr}{bc mt:Nat}{zs:List Int}{ml:Int}(h:SchRows base w ss es sv ev)(hS:jP ss (es.map Prod.fst))(hD:∀ q ∈ ss,fC (es.map Prod.fst) (cR q.1).fields)(hE:es.length≤1000000∧∀ q ∈ es,q.1.names.length≤1000000)(hr:root<ss.length)
  (hz:Bytes w bp zs) (hl:zs.length≤1000000) (hc:zs.length≤bc) (hm:w.heap[mt]?=some (.cells #[.int .i64 ml,.bool false] 117 (0,0))) (hml:0≤ml∧ml≤9223372036854775807) (hB:B≤mt) (hA:Amb B w) :
  Calls Tryd.prog 36 #[.agg #[sv,ev,.int .i64 root],.slice bp zs.length bc,.pointer (some ⟨mt,0,none⟩)] w (sS zs (aG ss) (es.map Prod.fst) root mt ml w):=by
 have hb:=(bH w.heap.size w).alloc bD (.cells #[sv,ev,.int .i64 root] 31);have HB:=aA hb;have HQ:=aA (cN w (.cells #[sv,ev,.int .i64 root] 31));have HM:=aA hm;have HML:=aA hml;have HR:=aA hr;have HMW:Hid (mt<w.heap.size):=aA (aD hm);have HBA:=aA (cJ hB hA);have HSD:=aA (cJ hS hD);by_cases hlong:16384<zs.length
 · have hli:(16384:Int)<zs.length:=by omega
   have HLO:=aA hlong;clear hb h hS hD hE hz hc hm hml hB hA hr hlong;obtain ⟨P,hP⟩:∃ P,sS zs (aG ss) (es.map Prod.fst) root mt ml w=P:=⟨_,rfl⟩;rw [hP];have HP:=aA hP.symm;clear hP;go_enter Tryd.func36,Tryd.ntmps36;go_wp2;rw [HP.out];exact ⟨Exc.of_below HB.out,ml,false,aE HM.out HB.out HMW.out,.inr (.inl ⟨rfl,.inl HLO.out⟩)⟩
 have hl2:zs.length≤16384:=by omega
 have HNEW:Hid (∀ W,Below w.heap.size w W→Calls Tryd.prog 58 #[.agg #[sv,ev,.int .i64 root],.slice bp zs.length bc] W fun e w'=>(∃ m sv' ev' fs ns,e=.returned (.pointer (some ⟨m,0,none⟩))∧W.heap.size≤m∧MsgOf W.heap.size w' m bp bc sv' ev' zs ss (es.map Prod.fst) fs ns)∧Below W.heap.size W w'):=aA (fun W hW=>aDJ W root (h.below hW) hS hE (hz.below bD hW) hl2 hc);have hli:¬(16384:Int)<zs.length:=by omega
 have HL2:=aA hl2;obtain ⟨P,hP⟩:∃ P,sS zs (aG ss) (es.map Prod.fst) root mt ml w=P:=⟨_,rfl⟩;rw [hP];have HP:=aA hP.symm;clear hb h hS hD hE hz hc hm hml hB hA hr hlong hP;go_enter Tryd.func36,Tryd.ntmps36;go_upto_region 3 with (fail);generalize w.alloc (.cells #[sv,ev,.int .i64 root] 31)=W1 at *;obtain ⟨_,s0,s1,s2,_⟩:=aS HQ.out;go_wp2_with fail;refine (HNEW.out W1 HB.out).mono ?_;rintro e W2 ⟨⟨m,sv',ev',fs,ns,rfl,hm,hmsg⟩,hb2⟩;have HB2:=aA (HB.out.trans (hb2.mono HB.out.size));have HQ2:=aA (aE HQ.out hb2 (aD HQ.out));have HMS:=aA hmsg;clear hmsg hb2 s0 s1 s2;go_upto_region 4 with (fail);have hba:Below W2.heap.size W2 (W2.alloc (.cells #[.pointer (some ⟨m,0,none⟩),.pointer (some ⟨mt,0,none⟩),.bool false,.int .i64 zs.length] 138)):=(bH _ _).alloc bD _
 have HWN:=aA (cN W2 (.cells #[.pointer (some ⟨m,0,none⟩),.pointer (some ⟨mt,0,none⟩),.bool false,.int .i64 zs.length] 138));have HB3:=aA (HB2.out.trans (hba.mono HB2.out.size));have HQ3:=aA (aE HQ2.out hba (aD HQ2.out));have HMS3:=aA (HMS.out.below hba);have HKL:Hid (w.heap.size≤W2.heap.size):=aA HB2.out.size;clear hba;generalize W2.alloc (.cells #[.pointer (some ⟨m,0,none⟩),.pointer (some ⟨mt,0,none⟩),.bool false,.int .i64 zs.length] 138)=W3 at *;generalize W2.heap.size=wk at *;have HST3:Hid (WState W3 wk m mt false zs.length ml false):=aA ⟨HWN.out,aE HM.out HB3.out HMW.out⟩
 have HCT:=aA (show RCtx W1.heap.size W3 m bp bc sv' ev' zs ss (es.map Prod.fst) fs ns wk mt B zs.length ml from ⟨HMS3.out,HST3.out,by have:=HL2.out;omega,HML.out,⟨by have:=HBA.out.1;have:=HMW.out;have:=HB3.out.size;omega,by have:=HBA.out.1;have:=HMW.out;have:=HKL.out;omega,HBA.out.1⟩,HBA.out.2.below (HB3.out.mono (by have:=HBA.out.1;have:=HMW.out;omega)),HSD.out.1⟩);obtain ⟨_,s0,s1,s2,_⟩:=aS HQ3.out;go_wp2_with fail;refine (aFZ HCT.out root HR.out).mono ?_;rintro e W4 ⟨hx,hpost⟩;have HX:=aA hx;have HEX:Hid (Exc mt w.heap.size w W4):=aA ((Exc.of_below HB3.out).trans ⟨hx.os,hx.tape,hx.output,hx.size,fun k hk hr=>hx.block k (Nat.lt_of_lt_of_le hk HB3.out.size) (by have:=HKL.out;omega) hr⟩);clear hx s0 s1 s2;rcases hpost with ⟨v,l',ml',to,t,hres,hj,ht,rfl,hst,hle⟩|⟨⟨_,rr,a,b,c,d,⟨pp,rfl⟩,rfl⟩,o,l',ml',mo,hst,ho1,ho2⟩
 · have hjb:=gV HMS.out.msg.bytes.1 hj;have hgt:=zQ hres hj ht;have HSH:=aA (fun W (hW:Below W4.heap.size W4 W)=>(uW 12).struct ((HMS3.out.exw HST3.out HX.out).below hW) HSD.out.1 HSD.out.2 root t to _ _ _ HR.out ht (by have:=HL2.out;unfold aH at hjb;omega) hgt);have HS4:=aA hst;have HRES:=aA hres;have HLE:=aA hle;unfold jT at *;clear hjb hgt hres hj ht hst hle;go_upto_region 5 with (fail);have hba:Below W4.heap.size W4 (W4.alloc (.cells #[.pointer (some ⟨m,0,none⟩),.int .i64 root,.int .i64 to,.int .i64 t.own,.int .i64 t.la,.int .i64 t.size] 142)):=(bH _ _).alloc bD _;have HSN:=aA (cN W4 (.cells #[.pointer (some ⟨m,0,none⟩),.int .i64 root,.int .i64 to,.int .i64 t.own,.int .i64 t.la,.int .i64 t.size] 142));have HB5:=aA hba;have HS5:=aA (HS4.out.below hba);clear hba
   generalize W4.alloc (.cells #[.pointer (some ⟨m,0,none⟩),.int .i64 root,.int .i64 to,.int .i64 t.own,.int .i64 t.la,.int .i64 t.size] 142)=W5 at *;obtain ⟨_,c0,c1,c2,c3⟩:=kH HS5.out.walk;obtain ⟨_,y0,y1,y2,y3,y4,y5⟩:=bB HSN.out;go_wp2;rw [HP.out];exact ⟨HEX.out.trans (Exc.of_below (HB5.out.mono HEX.out.size)),ml',false,HS5.out.meter,.inl ⟨v,l',_,HL2.out,HRES.out,rfl,HSH.out W5 HB5.out,rfl,HLE.out⟩⟩
 · have HS4:=aA hst;have HO1:=aA ho1;have HO2:=aA ho2;clear hst ho1 ho2;go_upto_region 5 with (fail);have hba:Below W4.heap.size W4 (W4.alloc (.cells #[.pointer pp,.int .i64 rr,.int .i64 a,.int .i64 b,.int .i64 c,.int .i64 d] 142)):=(bH _ _).alloc bD _;have HB5:=aA hba;have HS5:=aA (HS4.out.below hba);clear hba;generalize W4.alloc (.cells #[.pointer pp,.int .i64 rr,.int .i64 a,.int .i64 b,.int .i64 c,.int .i64 d] 142)=W5 at *;obtain ⟨_,c0,c1,c2,c3⟩:=kH HS5.out.walk;cases o with
   | true =>
    go_wp2;rw [HP.out];exact ⟨HEX.out.trans (Exc.of_below (HB5.out.mono HEX.out.size)),ml',mo,HS5.out.meter,.inr (.inr ⟨rfl,HL2.out,HO2.out trivial⟩)⟩
   | false =>
    go_wp2;rw [HP.out];exact ⟨HEX.out.trans (Exc.of_below (HB5.out.mono HEX.out.size)),ml',mo,HS5.out.meter,.inr (.inl ⟨rfl,.inr (HO1.out trivial)⟩)⟩
def aFj (w:World)(B K n:Nat)(ks:List PV)(sv ev:Value)(root:Int)(x:Value)(wr:World):Prop:=∃ (j:Nat) (l:List KV),j≤n∧x=.int .i64 j∧l.length=n∧wr.ownsRow (B+1+1) 38 4 (.slice (some ⟨K,0,none⟩) n n) n (bU l)∧(∃ cur,wr.heap[K]?=some (.cells cur 38 (0,0))) ∧
 KidsIn (lK (B+1+1) (.slice (some ⟨K,0,none⟩) n n)) wr l∧(∀ i (h1:i<l.length) (h2:i<ks.length),i<j→l[i].v=ks[i])∧wr.heap[B+1]?=some (.cells #[.int .u64 0,.slice none 0 0,.slice none 0 0,.bool false] 38 (0,0)) ∧
 wr.heap[B]?=some (.cells #[sv,ev,.int .i64 root] 31 (0,0))∧Below B w wr
theorem wH {ss:List (cO × Value)}{room:Nat}{w:World}{v:Value}{k:Nat}{ref lists:Int}{q:PV}(hs:aT k lists=4)(h:Shown (ss.map Prod.fst) room w v k ref lists q):(∃ T r,v=.iface T r)∧(q.num=0∧q.bytes=[]∧q.has=true)∧∃ (i r:Nat) (hi:i<ss.length),ref=i∧room=r+1∧q.kids.length=ss[i].1.fields.length ∧
  ∀ j (hj:j<q.kids.length) (hf:j<ss[i].1.fields.length),AskOk (Shown (ss.map Prod.fst) r) true w v j ss[i].1.fields[j].kind ss[i].1.fields[j].ref ss[i].1.fields[j].lists (q.kids[j]'hj):=by
 cases room with
 | zero =>
  obtain ⟨h1,_⟩:=h;rw [hs] at h1;cases h1
 | succ r =>
  rcases h with ⟨h1,_⟩|⟨_,h1,h2⟩
  · rw [hs] at h1;cases h1
  · have hr:=h1.within;rw [List.length_map] at hr;obtain ⟨i,rfl⟩:=Int.eq_ofNat_of_zero_le hr.1;have hi:i<ss.length:=by omega
    have hge:tJ (ss.map Prod.fst) ((i:Nat):Int)=ss[i].1:=by unfold tJ;rw [lN,List.getD,List.getElem?_map,iO hi];rfl
    have hfew:=h1.few;rw [hge] at hfew h2;exact ⟨h1.there,h1.bare,i,r,hi,rfl,rfl,hfew,h2⟩
theorem nQ {ss:List (cO × Value)}{es:List (aX × Value)}(hF:qO ss)(hFew:∀ i (hi:i<ss.length),(ss[i]'hi).1.fields.length≤1000000)(room:Nat)(hr12:room≤12)(hnx:∀ r,room=r+1→tW ss es r):qR ss es room:=by
 intro w base sv ev root k0 rec lists0 x v h hs hsh;obtain ⟨sa,sc,ea,ec,rfl,rfl⟩:=h.forms;obtain ⟨⟨T,rv,rfl⟩,hx0,i,r,hi,rfl,hr,hlen,hask⟩:=wH hs hsh;obtain ⟨h0,h1,h2⟩:=bF w #[.slice sa ss.length sc,.slice ea es.length ec,.int .i64 root] #[.int .u64 0,.slice none 0 0,.slice none 0 0,.bool false] 31 38;have HCW:=aA h;have HB:=aA h0;have HC0:=aA (h.below h0);have Q1:=aA h1;have Q2:=aA h2;have HKA:=aA (hnx r hr);have HASK:=aA hask;have HLEN:=aA hlen;have HX0:=aA hx0;have HOK:=aA (hF _ (jK hi));have hrn:((room:Int)==0)=false:=by simp;omega
 have hrw:(room:Int)-1=(r:Int):=by omega
 have hrw2:IntKind.i64.wrap (r:Int)=r:=cU _;have HROWS:Hid (∀ W,Below w.heap.size w W→W.ownsRow base 77 5 ss[i].2 ss[i].1.fields.length (kR ss[i].1.fields)):=aA (fun W hb=>bE hb (h.fields _ (jK hi)));have hfl:ss[i].1.fields.length≤1000000:=hFew i hi;clear h0 h1 h2 h hsh hnx hx0 hs hask hF hr hlen;have e0:=aDC T rv;go_enter Tryd.func71,Tryd.ntmps71;go_upto_region 1 with (fail);generalize (w.alloc (.cells #[.slice sa ss.length sc,.slice ea es.length ec,.int .i64 root] 31)).alloc (.cells #[.int .u64 0,.slice none 0 0,.slice none 0 0,.bool false] 38)=W0 at *;obtain ⟨_,s0,s1,s2,_⟩:=aS Q1.out;go_wp2_with fail;refine (xN W0 root i HC0.out).mono ?_;rintro e W1 ⟨hb1,hpost⟩;have HB1:=aA (HB.out.trans (hb1.mono HB.out.size));have P1:=aA (aE Q1.out hb1 (aD Q1.out))
 have P2:=aA (aE Q2.out hb1 (aD Q2.out));clear hb1 s0 s1 s2 Q1 Q2 HB HC0;rcases hpost with ⟨hno,rfl⟩|⟨i',hi',hii,rfl⟩
 · exact absurd ⟨by omega,by omega⟩ hno
 obtain rfl:i=i':=by omega
 obtain ⟨fa,fc,hf⟩:=aJ (HROWS.out w (bH _ _));rw [hf] at HROWS ⊢;obtain ⟨n,hn⟩:∃ n,ss[i].1.fields.length=n:=⟨_,rfl⟩;generalize ss[i].1.fields=xs at *;obtain rfl:=hn;have hmk:=aBY xs.length hfl W1;clear hf hii;go_upto_region 5 with (fail);have hba:Below W1.heap.size W1 (W1.alloc (.cells (qA (List.replicate xs.length 0)).toArray 38)):=(bH _ _).alloc bD _;have HKB:=aA (cN W1 (.cells (qA (List.replicate xs.length 0)).toArray 38));have HKK:Hid (w.heap.size+1<W1.heap.size):=aA (aD P2.out);have HB2:=aA (HB1.out.trans (hba.mono HB1.out.size));have R1:=aA (aE P1.out hba (aD P1.out));have R2:=aA (aE P2.out hba (aD P2.out));clear hba hmk P1 P2 HB1;generalize W1.alloc (.cells (qA (List.replicate xs.length 0)).toArray 38)=W2 at *;generalize W1.heap.size=K at *
 have HST:Hid (aFj w w.heap.size K xs.length x.kids (.slice sa ss.length sc) (.slice ea es.length ec) root (.int .i64 ((0:Nat):Int)) W2):=aA ⟨0,List.replicate xs.length aBy,Nat.zero_le _,rfl,List.length_replicate,by
   have hsz:(qA (List.replicate xs.length 0)).toArray.size=xs.length * 4:=by rw [List.size_toArray,yK,List.length_replicate]
   have h:=jR (base:=w.heap.size+1+1) (n:=xs.length) (size:=4) HKB.out HKK.out (by unfold maxLen;omega) hsz;rw [aEJ] at h;exact h,⟨_,HKB.out⟩,fun q hq=>by rw [List.eq_of_mem_replicate hq];exact pA _ _,fun i _ _ h=>absurd h (Nat.not_lt_zero _),R2.out,R1.out,HB2.out⟩
 clear HKB R1 R2;go_wp2_with fail;go_loopw [37] (fun y wr=>aFj w w.heap.size K xs.length x.kids (.slice sa ss.length sc) (.slice ea es.length ec) root y wr) (fun y _=>xs.length-(intOf y).toNat)
 case atStart=>exact HST.out
 case round =>
  obtain ⟨j,l,hj,rfl,hll,hrow,hcur,hkin,hkv,hR,hSB,hbw⟩:=hrel;have HROW:=aA hrow;have HCUR:=aA hcur;have HKI:=aA hkin;have HKV:=aA hkv;have HR:=aA hR;have HSB:=aA hSB;have HBW:=aA hbw;have HLL:=aA hll;clear hrow hcur hkin hkv hR hSB hbw hll;by_cases hjl:j<xs.length
  · have hji:(j:Int)<(xs.length:Int):=by omega
    have hji0:(0:Int)≤(j:Int):=by omega
    have hjk:j<x.kids.length:=by have:=HLEN.out;omega
    obtain ⟨g,cc,hv,hcc,hgl,hcell⟩:=eP vU 5 (fun _=>rfl) (HROWS.out wr HBW.out) j hjl;obtain ⟨rfl,rfl⟩:=dG hv;have hask:=HASK.out j hjk hjl;obtain ⟨hk255,hl0,hl1,_⟩:=HOK.out _ (jK hjl);obtain ⟨q,hq⟩:∃ q,x.kids[j]=q:=⟨_,rfl⟩;obtain ⟨f,hf⟩:∃ f,xs[j]=f:=⟨_,rfl⟩;rw [hq,hf] at hask;rw [hf] at hcell hk255 hl0 hl1;have x0:wr.cell? ⟨g,j * 5,none⟩=some (.string f.name):=hcell 0 (by omega);have x1:wr.cell? ⟨g,j * 5+1,none⟩=some (.int .u8 f.kind):=hcell 1 (by omega);have x2:wr.cell? ⟨g,j * 5+2,none⟩=some (.int .i64 f.ref):=hcell 2 (by omega);have x3:wr.cell? ⟨g,j * 5+3,none⟩=some (.int .i64 f.lists):=hcell 3 (by omega);have x4:wr.cell? ⟨g,j * 5+4,none⟩=some (.int .u64 f.dflt):=hcell 4 (by omega);have HQ:=aA hq
    have HK:Hid (∀ W,Below wr.heap.size wr W→Calls Tryd.prog 93 #[.agg #[.slice sa ss.length sc,.slice ea es.length ec,.int .i64 root],.agg #[.int .u8 f.kind,.int .i64 f.ref,.int .i64 f.lists],.iface T rv,.int .i64 j,.int .i64 r] W (lP W q)):=aA (fun W hb=>HKA.out W base _ _ root f.kind f.ref f.lists q _ j (HCW.out.below (HBW.out.trans (hb.mono HBW.out.size))) hk255 hl0 hl1 (by omega) (hask.later (HBW.out.trans (hb.mono HBW.out.size))));have hzc:∀ u,u<4→∃ o,wr.cell? ⟨K,j * 4+u,none⟩=some o:=fun u hu=>by obtain ⟨g',c',hv',_,_,hc'⟩:=eP jW 4 (fun _=>rfl) (l:=l) (by rw [HLL.out];exact HROW.out) j (by rw [HLL.out];exact hjl);have hv'':=(dG hv').1;injection hv'' with hv'';injection hv'' with hv'' _ _;subst hv'';have h4:(jW (l[j]'(by rw [HLL.out];exact hjl))).length=4:=rfl;exact ⟨_,(hc' u hu).trans (iO (by rw [h4];exact hu))⟩
    have HZC:=aA hzc;clear hcell hv hq hf hask hk255 hl0 hl1 hzc;generalize f.name=xn at *;generalize f.kind=xk at *;generalize f.ref=xr at *;generalize f.lists=xl at *;generalize f.dflt=xd at *;go_upto_region 8 with (fail);have hba:Below wr.heap.size wr (wr.alloc (.cells #[.string xn,.int .u8 xk,.int .i64 xr,.int .i64 xl,.int .u64 xd] 77)):=(bH _ _).alloc bD _;have HFB:=aA (cN wr (.cells #[.string xn,.int .u8 xk,.int .i64 xr,.int .i64 xl,.int .u64 xd] 77));have HBA:=aA hba;have HSB5:=aA (aE HSB.out hba (aD HSB.out));clear x0 x1 x2 x3 x4 hba;generalize wr.alloc (.cells #[.string xn,.int .u8 xk,.int .i64 xr,.int .i64 xl,.int .u64 xd] 77)=W5 at *;obtain ⟨_,s0,s1,s2,_⟩:=aS HSB5.out;obtain ⟨_,y0,y1,y2,y3,y4,_⟩:=lL HFB.out;go_wp2_with fail;refine (HK.out W5 HBA.out).mono ?_;rintro e W6 ⟨⟨val6,rfl,hvh6⟩,hb6⟩
    obtain ⟨ba,ka,bcc,kcc,rfl,_⟩:=IsV.form hvh6;have hb56:Below wr.heap.size wr W6:=HBA.out.trans (hb6.mono HBA.out.size);obtain ⟨cur,hcur⟩:=HCUR.out;have hK6:=aE hcur hb56 (aD hcur);obtain ⟨o0,z0⟩:=HZC.out 0 (by decide);obtain ⟨o1,z1⟩:=HZC.out 1 (by decide);obtain ⟨o2,z2⟩:=HZC.out 2 (by decide);obtain ⟨o3,z3⟩:=HZC.out 3 (by decide);replace z0:=aC hb56 z0
    replace z1:=aC hb56 z1
    replace z2:=aC hb56 z2
    replace z3:=aC hb56 z3
    rw [Nat.add_zero] at z0;have f0:=aB hK6 (j * 4);have f1:=aB hK6 (j * 4+1);have f2:=aB hK6 (j * 4+2);have f3:=aB hK6 (j * 4+3);have hKlt:=aD hcur;have hWV:=HBA.out.size;have HVH6:=aA hvh6;have HB56:=aA hb56;have HK6:=aA hK6;have HKLT:=aA hKlt;have HWV:=aA hWV;clear s0 s1 s2 y0 y1 y2 y3 y4 HK hvh6 hb6 hb56 hK6 hcur hKlt hWV;go_wp2;go_roundw
    case rel =>
     have hkk:=HKK.out;have hKlt:=HKLT.out;have hWV:=HWV.out;have hs9:((((W6.setCell ⟨K,j * 4,none⟩ (.int .u64 q.num)).setCell ⟨K,j * 4+1,none⟩ (.slice ba q.bytes.length bcc)).setCell ⟨K,j * 4+2,none⟩ (.slice ka q.kids.length kcc)).setCell ⟨K,j * 4+3,none⟩ (.bool q.has)).heap.size=W6.heap.size:=by simp [World.setCell]
     have rheap:∀ k,k≠K→((((W6.setCell ⟨K,j * 4,none⟩ (.int .u64 q.num)).setCell ⟨K,j * 4+1,none⟩ (.slice ba q.bytes.length bcc)).setCell ⟨K,j * 4+2,none⟩ (.slice ka q.kids.length kcc)).setCell ⟨K,j * 4+3,none⟩ (.bool q.has)).heap[k]?=W6.heap[k]?:=fun k hk=>(oG _ _ _ _ (by show k≠K;exact hk)).trans ((oG _ _ _ _ (by show k≠K;exact hk)).trans ((oG _ _ _ _ (by show k≠K;exact hk)).trans (oG _ _ _ _ (by show k≠K;exact hk))));have hjl':j<l.length:=by rw [HLL.out];exact hjl
     refine ⟨j+1,l.set j ⟨q,.int .u64 q.num,.slice ba q.bytes.length bcc,.slice ka q.kids.length kcc,.bool q.has⟩,by omega,by go_num,by rw [List.length_set];exact HLL.out,?_,?_,?_,?_,(rheap _ (by omega)).trans (aE HR.out HB56.out (aD HR.out)),(rheap _ (by omega)).trans (aE HSB.out HB56.out (aD HSB.out)),?_⟩
     · have h:=sF (sF (sF (sF (bE HB56.out HROW.out) (j * 4) (.int .u64 q.num)) (j * 4+1) (.slice ba q.bytes.length bcc)) (j * 4+2) (.slice ka q.kids.length kcc)) (j * 4+3) (.bool q.has);rw [aBG l j ⟨q,.int .u64 q.num,.slice ba q.bytes.length bcc,.slice ka q.kids.length kcc,.bool q.has⟩ hjl'] at h;exact h
     · exact ⟨_,aN (aN (aN (aN HK6.out _ _) _ _) _ _) _ _⟩
     · intro p hp;rcases List.mem_or_eq_of_mem_set hp with h|h
       · refine (HKI.out p h).step (by rw [hs9];exact HB56.out.size) (fun k hk hs=>?_);have hne:k≠K:=fun e=>(dX.1 hs).2 (by rw [e];rfl);exact ⟨hs,(rheap k hne).trans (HB56.out.block k hk)⟩
       · subst h;refine VH.step HVH6.out (by rw [hs9];exact Nat.le_refl _) (fun k hk hs=>?_);have h1:W5.heap.size≤k:=by unfold cW at hs;simpa using hs
         exact ⟨dX.2 ⟨by omega,fun e=>by have e2:some K=some k:=e;injection e2 with e2;omega⟩,rheap k (by omega)⟩
     · intro i h1 h2 hi;rw [List.getElem_set];split
       · rename_i e
         subst e;exact HQ.out.symm
       · exact HKV.out i (by rw [List.length_set] at h1;exact h1) h2 (by omega)
     · exact ((((HBW.out.trans (HB56.out.mono HBW.out.size)).setCell (p:=⟨K,j * 4,none⟩) (show w.heap.size≤K by omega) _).setCell (p:=⟨K,j * 4+1,none⟩) (show w.heap.size≤K by omega) _).setCell (p:=⟨K,j * 4+2,none⟩) (show w.heap.size≤K by omega) _).setCell (p:=⟨K,j * 4+3,none⟩) (show w.heap.size≤K by omega) _
    case measure=>simp [intOf];omega
  · obtain rfl:j=xs.length:=by omega
    obtain ⟨_,u0,u1,u2,u3⟩:=aF HR.out;have p0:=aB HR.out 0;have p1:=aB HR.out 1;have p2:=aB HR.out 2;have p3:=aB HR.out 3;clear hjl;go_wp2;refine aI (fun Wf=>Wf.heap[w.heap.size+1]?=some (.cells #[.int .u64 0,.slice none 0 0,.slice (some ⟨K,0,none⟩) xs.length xs.length,.bool true] 38 (0,0))∧Below w.heap.size w Wf∧Wf.ownsRow (w.heap.size+1+1) 38 4 (.slice (some ⟨K,0,none⟩) xs.length xs.length) xs.length (bU l)∧KidsIn (lK (w.heap.size+1+1) (.slice (some ⟨K,0,none⟩) xs.length xs.length)) Wf l) ⟨?_,?_,?_,?_⟩ ?_
    · exact aO (w:=wr) HR.out _ _ _ _
    · exact fR HBW.out (Nat.le_succ _) _ _ _ _
    · exact fN HROW.out (by omega) _ _ _ _
    · exact HKI.out.step (by simp [World.setCell]) (fun k hk hS=>⟨hS,aQ wr (by have:=(dX.1 hS).1;omega) _ _ _ _⟩)
    · rintro Wf ⟨e1,e2,e3,e4⟩;obtain ⟨_,d0,d1,d2,d3⟩:=aF e1;have hxe:PV.mk 0 [] (l.map KV.v) true=x:=by
       have hm:l.map KV.v=x.kids:=by
        apply List.ext_getElem
        · rw [List.length_map,HLL.out,HLEN.out]
        · intro i h1 h2;rw [List.getElem_map];exact HKV.out i (by simpa using h1) h2 (by have:=HLEN.out;omega)
       rw [hm,aFm x,HX0.out.1,HX0.out.2.1,HX0.out.2.2];rfl
      have hvh:=jU (S':=cW w.heap.size) e3 e4 (fun k hS=>by have:=(dX.1 hS).1;unfold cW;simp;omega) (fun k hk=>by unfold cW;simp;omega) true;rw [hxe] at hvh;exact dZ (v:=.tuple #[.agg #[.int .u64 0,.slice none 0 0,.slice (some ⟨K,0,none⟩) xs.length xs.length,.bool true],.bool true]) (by simp [results,Tryd.results71,go_sem,d0,d1,d2,d3]) rfl ⟨⟨_,rfl,hvh⟩,e2⟩
theorem zI {ss:List (cO × Value)}{es:List (aX × Value)}(hF:qO ss)(hFew:∀ i (hi:i<ss.length),(ss[i]'hi).1.fields.length≤1000000):∀ room,room≤12→tW ss es room
 | 0,h=>yN 0 h (nQ hF hFew 0 h (fun r e=>by omega)) (vB 0 h (fun r e=>by omega))
 | n+1,h =>
  have hn:∀ r,n+1=r+1→tW ss es r:=fun r e=>by
   obtain rfl:n=r:=by omega
   exact zI hF hFew n (by omega)
  yN (n+1) h (nQ hF hFew (n+1) h hn) (vB (n+1) h hn)
theorem aAc {ss:List (cO × Value)}{es:List (aX × Value)}(hF:qO ss)(hFew:∀ i (hi:i<ss.length),(ss[i]'hi).1.fields.length≤1000000):qR ss es 12:=
 nQ hF hFew 12 bD (fun r e=>zI hF hFew r (by omega))
theorem aB8 (w:World){base:Nat}{ss:List (cO × Value)}{es:List (aX × Value)}{sv ev:Value}(root rec:Int)(h:CRows base w ss es sv ev)(hF:qO ss)(hFew:∀ i (hi:i<ss.length),(ss[i]'hi).1.fields.length≤1000000)(v:PV)(vv:Value)(hsh:Shown (ss.map Prod.fst) 12 w vv 13 rec 0 v) :
  Calls Tryd.prog 44 #[.agg #[sv,ev,.int .i64 root],.int .i64 rec,vv] w fun e w'=>(∃ val',e=.returned val'∧VH (cW w.heap.size) w' v val')∧Below w.heap.size w w':=by
 obtain ⟨h0,h1,h2⟩:=bF w #[sv,ev,.int .i64 root] #[.int .u64 0,.slice none 0 0,.slice none 0 0,.bool false] 31 38;have HCALL:=aA (aAc hF hFew _ base sv ev root 13 rec 0 v vv (h.below h0) rfl (hsh.later _ h0));have HB:=aA h0;have Q2:=aA h2;obtain ⟨_,s0,s1,s2,_⟩:=aS h1;clear h0 h1 h2 h hsh hF hFew;go_enter Tryd.func44,Tryd.ntmps44;go_upto_region 1 with (fail);generalize (w.alloc (.cells #[sv,ev,.int .i64 root] 31)).alloc (.cells #[.int .u64 0,.slice none 0 0,.slice none 0 0,.bool false] 38)=W0 at *;have HW0:Hid (w.heap.size+1<W0.heap.size):=aA (aD Q2.out);go_wp2_with fail;refine HCALL.out.mono ?_;rintro e W1 ⟨⟨val1,rfl,hvh⟩,hb1⟩;obtain ⟨ba,ka,bc,kc,rfl,_⟩:=IsV.form hvh;have HB1:=aA (HB.out.trans (hb1.mono HB.out.size));have P2:=aA (aE Q2.out hb1 (aD Q2.out));have HVH:=aA hvh
 clear hb1 hvh s0 s1 s2 HCALL HB Q2;go_upto_region 2 with (fail);have hba:Below W1.heap.size W1 (W1.alloc (.cells #[.int .u64 v.num,.slice ba v.bytes.length bc,.slice ka v.kids.length kc,.bool v.has] 38)):=(bH _ _).alloc bD _;have hn:=cN W1 (.cells #[.int .u64 v.num,.slice ba v.bytes.length bc,.slice ka v.kids.length kc,.bool v.has] 38);have HB2:=aA (HB1.out.trans (hba.mono HB1.out.size));have P3:=aA (aE P2.out hba (aD P2.out));have HVH2:=aA (HVH.out.below hba);clear hba;generalize W1.alloc (.cells #[.int .u64 v.num,.slice ba v.bytes.length bc,.slice ka v.kids.length kc,.bool v.has] 38)=W2 at *;obtain ⟨_,y0,y1,y2,y3⟩:=aF hn;obtain ⟨_,u0,u1,u2,u3⟩:=aF P3.out;have p0:=aB P3.out 0;have p1:=aB P3.out 1;have p2:=aB P3.out 2;have p3:=aB P3.out 3;clear hn;go_wp2
 refine aI (fun Wf=>Wf.heap[w.heap.size+1]?=some (.cells #[.int .u64 v.num,.slice ba v.bytes.length bc,.slice ka v.kids.length kc,.bool v.has] 38 (0,0))∧VH (cW w.heap.size) Wf v (.agg #[.int .u64 v.num,.slice ba v.bytes.length bc,.slice ka v.kids.length kc,.bool v.has])∧Below w.heap.size w Wf) ⟨?_,?_⟩ ?_
 · exact aO (w:=W2) P3.out _ _ _ _
 · exact mF HB2.out (by omega) HW0.out HVH2.out _ _ _ _
 · rintro Wf ⟨e1,e2,e3⟩;obtain ⟨_,d0,d1,d2,d3⟩:=aF e1;exact dZ (v:=.agg #[.int .u64 v.num,.slice ba v.bytes.length bc,.slice ka v.kids.length kc,.bool v.has]) (by simp [results,Tryd.results44,go_sem,d0,d1,d2,d3]) rfl ⟨⟨_,rfl,e2⟩,e3⟩
end Go.Proofs.YtpbaaiilfkacnaaDoor
