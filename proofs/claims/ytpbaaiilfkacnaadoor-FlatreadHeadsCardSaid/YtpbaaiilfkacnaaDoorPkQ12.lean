/-
  The hand's Made: of each plan the schema, or false. Conditions: those that each theorem names.
-/
import Derived.Test.YtpbaaiilfkacnaaDoorPkQ9
import Derived.Test.YtpbaaiilfkacnaaDoorPkQ10
namespace Go.Proofs.YtpbaaiilfkacnaaDoor
open Go.ChangeShapes Go.WideShapes Go.ChangeAt Go.RowKit Go.Shelf
set_option maxRecDepth 100000
set_option maxHeartbeats 16000000
theorem oX {w:World}{g off o a n:Nat}{zs:List Int}(h:Bytes w (some ⟨g,off,none⟩) zs)(ho:0<n→o=off+a)(hn:a+n≤zs.length):Bytes w (some ⟨g,o,none⟩) (dF zs a n):=by
 have hget:∀ i,(dF zs a n).getD i 0=if i<n then zs.getD (a+i) 0 else 0:=fun i=>by
  unfold dF;rw [List.getD,List.getElem?_take];split
  · rw [List.getElem?_drop,List.getD]
  · rfl
 have hlen:(dF zs a n).length=n:=by unfold dF;rw [List.length_take,List.length_drop];omega
 refine ⟨fun i=>?_,fun hne=>?_⟩
 · rw [hget i];split
   · exact h.1 _
   · omega
 · have hn0:0<n:=by rw [←hlen];exact List.length_pos_iff.2 hne
   have hzne:zs≠[]:=fun e=>by subst e;simp at hn;omega
   obtain ⟨b,off',e,hlt,hc⟩:=h.2 hzne;injection e with e;injection e with e1 e2 _;subst e1 e2;refine ⟨g,o,rfl,hlt,fun i hi=>?_⟩;rw [hlen] at hi;have h1:=hc (a+i) (by omega);rw [ho hn0,Nat.add_assoc,h1,hget i,bG hi]
theorem iL {zs:List Int}{a n:Nat}(h:a+n≤zs.length):(dF zs a n).length=n:=by unfold dF;rw [List.length_take,List.length_drop];omega
def eF (zs:List Int)(k:Nat)(at':Int):Bool:=
 cV (aH zs) at' 4&&(cV (aH zs) (at'+4) (aY zs at'.toNat 4)&&(!decide (k=11)||(cV (aH zs) (at'+4+aY zs at'.toNat 4) 1&&decide (zs.getD (at'.toNat+4+(aY zs at'.toNat 4).toNat) 0=0))))
def mQ (zs:List Int)(k:Nat)(at':Int)(e:Ending)(w':World):Prop:=
 (eF zs k at'=true∧∃ g o,e=.returned (.tuple #[.slice (some ⟨g,o,none⟩) (aY zs at'.toNat 4).toNat (aY zs at'.toNat 4).toNat,.bool true])∧Bytes w' (some ⟨g,o,none⟩) (dF zs (at'.toNat+4) (aY zs at'.toNat 4).toNat))∨(eF zs k at'=false∧e=.returned (.tuple #[.slice none 0 0,.bool false]))
theorem sW (w:World){base m:Nat}{bp:Option Addr}{bc:Nat}{sv ev:Value}{zs:List Int}{fs:List (List dT × Value)}{ns:List Nat}(h:IsMsg base w m bp bc sv ev zs fs ns)(k:Nat)(ref lists at':Int) :
  Calls Tryd.prog 145 #[.pointer (some ⟨m,0,none⟩),.int .i64 at',.agg #[.int .u8 k,.int .i64 ref,.int .i64 lists]] w fun e w'=>mQ zs k at' e w'∧Below w.heap.size w w':=by
 have hb:=(bH w.heap.size w).alloc bD (.cells #[.int .u8 k,.int .i64 ref,.int .i64 lists] 75);have HB:=aA hb;have HM:=aA (h.below hb);obtain ⟨_,x0,x1,x2,_⟩:=aS (cN w (.cells #[.int .u8 k,.int .i64 ref,.int .i64 lists] 75));have hlen:=h.len;have hcap:=h.cap;have hzb:=h.bytes.1;clear hb h;by_cases hin:cV (aH zs) at' 4=true
 case neg =>
  have HV:Hid (eF zs k at'=false):=aA (by unfold eF;rw [Bool.not_eq_true _ |>.mp hin];rfl);have HL:Hid (∀ W,Calls Tryd.prog 129 #[.slice bp zs.length bc,.int .i64 at',.int .i64 4] W fun e w'=>e=.returned (.tuple #[.int .u64 0,.bool false])∧W=w'):=aA (fun W=>nM bp bc zs at' 4 W hlen hin);clear hin hzb hcap;go_enter Tryd.func145,Tryd.ntmps145;go_upto_region 1 with (fail);generalize w.alloc (.cells #[.int .u8 k,.int .i64 ref,.int .i64 lists] 75)=W0 at *;obtain ⟨_,m0,m1,m2,_⟩:=aS HM.out.blk;go_wp2_with fail;refine (HL.out _).mono ?_;rintro e _ ⟨rfl,rfl⟩;go_wp2
  go_ret2
  exact ⟨.inr ⟨HV.out,rfl⟩,HB.out⟩
 have h1:=aW.1 hin;have hz:aH zs=(zs.length:Int):=rfl;rw [hz] at h1;have hne:zs≠[]:=fun e=>by subst e;simp at h1;omega
 obtain ⟨g,off,rfl,_,_⟩:=HM.out.bytes.2 hne;have hld:=dW zs at'.toNat hzb;have HLB:=aA (show ∀ W,Below (w.alloc (.cells #[.int .u8 k,.int .i64 ref,.int .i64 lists] 75)).heap.size (w.alloc (.cells #[.int .u8 k,.int .i64 ref,.int .i64 lists] 75)) W→Bytes W (some ⟨g,off,none⟩) zs from fun W hb=>HM.out.bytes.below bD hb);have HL:Hid (∀ W,Below (w.alloc (.cells #[.int .u8 k,.int .i64 ref,.int .i64 lists] 75)).heap.size (w.alloc (.cells #[.int .u8 k,.int .i64 ref,.int .i64 lists] 75)) W→Calls Tryd.prog 129 #[.slice (some ⟨g,off,none⟩) zs.length bc,.int .i64 at',.int .i64 4] W fun e w'=>e=.returned (.tuple #[.int .u64 (aY zs at'.toNat 4),.bool true])∧W=w'):=aA (fun W hb=>oJ _ bc zs at' 4 W (HLB.out W hb) hlen hin (by decide));have hw4:=cU (at'+4);obtain ⟨P,hP⟩:∃ P,mQ zs k at'=P:=⟨_,rfl⟩;rw [hP]
 have HP:=aA hP.symm;clear hP;unfold mQ eF at HP;rw [hin,Bool.true_and] at HP;have hzn:=fun (zz:Int) (hzz:zz=aY zs at'.toNat 4)=>hzz;obtain ⟨n,hn⟩:∃ n:Nat,aY zs at'.toNat 4=(n:Int):=Int.eq_ofNat_of_zero_le hld.1;rw [hn] at HP HL hld;rw [lN] at HP;clear hzn hn;have hcv:=cU (n:Int);by_cases hin2:cV (aH zs) (at'+4) n=true
 case neg =>
  have HV:Hid (P=fun e w'=>(False∧∃ g o,e=.returned (.tuple #[.slice (some ⟨g,o,none⟩) n n,.bool true])∧Bytes w' (some ⟨g,o,none⟩) (dF zs (at'.toNat+4) n))∨(True∧e=.returned (.tuple #[.slice none 0 0,.bool false]))):=aA (by
   rw [HP.out];funext e w'
   rw [Bool.not_eq_true _ |>.mp hin2];simp)
  have HPT:Hid (∀ W,Calls Tryd.prog 149 #[.slice (some ⟨g,off,none⟩) zs.length bc,.int .i64 (at'+4),.int .i64 n] W fun e w'=>e=.returned (.tuple #[.slice none 0 0,.bool false])∧W=w'):=aA (fun W=>aEP _ zs.length bc (at'+4) n W (by omega) (by have:=xI hin2;rw [hz] at this;exact this));clear hin hin2 hzb hcap HP;go_enter Tryd.func145,Tryd.ntmps145;go_upto_region 1 with (fail);generalize w.alloc (.cells #[.int .u8 k,.int .i64 ref,.int .i64 lists] 75)=W0 at *;obtain ⟨_,m0,m1,m2,_⟩:=aS HM.out.blk;go_wp2_with fail;refine (HL.out _ (bH _ _)).mono ?_;rintro e _ ⟨rfl,rfl⟩;go_wp2_with fail;refine (HPT.out _).mono ?_;rintro e _ ⟨rfl,rfl⟩;go_wp2
  go_ret2
  exact ⟨by rw [HV.out];exact .inr ⟨trivial,rfl⟩,HB.out⟩
 have h2:=aW.1 hin2;rw [hz] at h2;rw [hin2,Bool.true_and] at HP;have hatn:(at'+4).toNat=at'.toNat+4:=by omega
 have HPT:Hid (∀ W,Calls Tryd.prog 149 #[.slice (some ⟨g,off,none⟩) zs.length bc,.int .i64 (at'+4),.int .i64 n] W fun e w'=>aDh g off (at'.toNat+4) n e∧W=w'):=aA (fun W=>by have h:=aDI g off zs.length bc (at'+4) n W (by omega) hcap h2.1 h2.2.1 (by omega) h2.2.2;rw [hatn,lN] at h;exact h);have HPB:=aA (show ∀ W o,Below (w.alloc (.cells #[.int .u8 k,.int .i64 ref,.int .i64 lists] 75)).heap.size (w.alloc (.cells #[.int .u8 k,.int .i64 ref,.int .i64 lists] 75)) W→(0<n→o=off+(at'.toNat+4))→Bytes W (some ⟨g,o,none⟩) (dF zs (at'.toNat+4) n) from fun W o hb ho=>oX (HLB.out W hb) ho (by omega));by_cases hk:k=11
 case neg =>
  have HV:Hid (P=fun e w'=>(True∧∃ g o,e=.returned (.tuple #[.slice (some ⟨g,o,none⟩) n n,.bool true])∧Bytes w' (some ⟨g,o,none⟩) (dF zs (at'.toNat+4) n))∨(False∧e=.returned (.tuple #[.slice none 0 0,.bool false]))):=aA (by
   rw [HP.out];funext e w'
   rw [iB hk];simp)
  have t11:((k:Int)==11)=false:=by simp;omega
  clear hin hin2 hzb hcap HP hk;go_enter Tryd.func145,Tryd.ntmps145;go_upto_region 1 with (fail);generalize w.alloc (.cells #[.int .u8 k,.int .i64 ref,.int .i64 lists] 75)=W0 at *;obtain ⟨_,m0,m1,m2,_⟩:=aS HM.out.blk;go_wp2_with fail;refine (HL.out _ (bH _ _)).mono ?_;rintro e _ ⟨rfl,rfl⟩;go_wp2_with fail;refine (HPT.out _).mono ?_;rintro e _ ⟨⟨o,rfl,ho⟩,rfl⟩;have HPB2:=aA (HPB.out _ o (bH _ _) ho);clear ho;go_wp2
  go_ret2
  exact ⟨by rw [HV.out];exact .inl ⟨trivial,_,_,rfl,HPB2.out⟩,HB.out⟩
 subst hk;have hw5:=cU (at'+4+n);have hatn2:(at'+4+n).toNat=at'.toNat+4+n:=by omega
 have HL2:Hid (∀ W,Below (w.alloc (.cells #[.int .u8 ((11:Nat):Int),.int .i64 ref,.int .i64 lists] 75)).heap.size (w.alloc (.cells #[.int .u8 ((11:Nat):Int),.int .i64 ref,.int .i64 lists] 75)) W→Calls Tryd.prog 129 #[.slice (some ⟨g,off,none⟩) zs.length bc,.int .i64 (at'+4+n),.int .i64 1] W fun e w'=>e=.returned (.tuple #[.int .u64 (dU zs (at'+4+n) 1),.bool (cV (aH zs) (at'+4+n) 1)])∧W=w'):=aA (fun W hb=>pJ _ bc zs (at'+4+n) 1 W (HLB.out W hb) hlen (by decide));have hl1:cV (aH zs) (at'+4+n) 1=true→dU zs (at'+4+n) 1=zs.getD (at'.toNat+4+n) 0:=fun h=>by unfold dU;rw [show ((1:Nat):Int)=1 from rfl,bG h,hatn2,aC5]
 generalize dU zs (at'+4+n) 1=z at *;have HV:Hid (P=fun e w'=>((cV (aH zs) (at'+4+n) 1&&decide (z=0))=true∧∃ g o,e=.returned (.tuple #[.slice (some ⟨g,o,none⟩) n n,.bool true])∧Bytes w' (some ⟨g,o,none⟩) (dF zs (at'.toNat+4) n))∨((cV (aH zs) (at'+4+n) 1&&decide (z=0))=false∧e=.returned (.tuple #[.slice none 0 0,.bool false]))):=aA (by
  rw [HP.out];funext e w'
  by_cases h:cV (aH zs) (at'+4+n) 1=true
  · rw [hl1 h];simp
  · rw [Bool.not_eq_true _ |>.mp h];simp)
 have HBZ:Hid (∀ i,zs.getD i 0=zs.getD i 0):=aA (fun _=>rfl);clear hin hin2 hzb hcap HP hl1 HBZ;generalize cV (aH zs) (at'+4+n) 1=b at *;cases b with
 | false =>
  go_enter Tryd.func145,Tryd.ntmps145;go_upto_region 1 with (fail);generalize w.alloc (.cells #[.int .u8 ((11:Nat):Int),.int .i64 ref,.int .i64 lists] 75)=W0 at *;obtain ⟨_,m0,m1,m2,_⟩:=aS HM.out.blk;go_wp2_with fail;refine (HL.out _ (bH _ _)).mono ?_;rintro e _ ⟨rfl,rfl⟩;go_wp2_with fail;refine (HPT.out _).mono ?_;rintro e _ ⟨⟨o,rfl,ho⟩,rfl⟩;clear ho;go_wp2_with fail;refine (HL2.out _ (bH _ _)).mono ?_;rintro e _ ⟨rfl,rfl⟩;go_wp2
  go_ret2
  exact ⟨by rw [HV.out];exact .inr ⟨rfl,rfl⟩,HB.out⟩
 | true =>
  by_cases hz0:z=0
  · subst hz0;go_enter Tryd.func145,Tryd.ntmps145;go_upto_region 1 with (fail);generalize w.alloc (.cells #[.int .u8 ((11:Nat):Int),.int .i64 ref,.int .i64 lists] 75)=W0 at *;obtain ⟨_,m0,m1,m2,_⟩:=aS HM.out.blk;go_wp2_with fail;refine (HL.out _ (bH _ _)).mono ?_;rintro e _ ⟨rfl,rfl⟩;go_wp2_with fail;refine (HPT.out _).mono ?_;rintro e _ ⟨⟨o,rfl,ho⟩,rfl⟩;have HPB2:=aA (HPB.out _ o (bH _ _) ho);clear ho;go_wp2_with fail;refine (HL2.out _ (bH _ _)).mono ?_;rintro e _ ⟨rfl,rfl⟩;go_wp2
    go_ret2
    exact ⟨by rw [HV.out];exact .inl ⟨rfl,_,_,rfl,HPB2.out⟩,HB.out⟩
  · have t0:(z==0)=false:=by simpa using hz0
    have HV2:Hid ((true&&decide (z=0))=false):=aA (by simp [hz0]);clear hz0;go_enter Tryd.func145,Tryd.ntmps145;go_upto_region 1 with (fail);generalize w.alloc (.cells #[.int .u8 ((11:Nat):Int),.int .i64 ref,.int .i64 lists] 75)=W0 at *;obtain ⟨_,m0,m1,m2,_⟩:=aS HM.out.blk;go_wp2_with fail;refine (HL.out _ (bH _ _)).mono ?_;rintro e _ ⟨rfl,rfl⟩;go_wp2_with fail;refine (HPT.out _).mono ?_;rintro e _ ⟨⟨o,rfl,ho⟩,rfl⟩;clear ho;go_wp2_with fail;refine (HL2.out _ (bH _ _)).mono ?_;rintro e _ ⟨rfl,rfl⟩;go_wp2
    go_ret2
    exact ⟨by rw [HV.out];exact .inr ⟨HV2.out,rfl⟩,HB.out⟩
theorem yC {kd ls:Nat}(h:dE kd ls=true):1≤kd∧kd≤10:=by
 unfold dE at h;have h2:=(Bool.and_eq_true_iff.1 h).2;have h3:0<aP kd:=of_decide_eq_true h2;rcases Nat.lt_or_ge kd 1 with h4|h4
 · rw [jB _ (.inl (by omega))] at h3;omega
 · rcases Nat.lt_or_ge 10 kd with h5|h5
   · rw [jB _ (.inr (by omega))] at h3;omega
   · exact ⟨h4,h5⟩
theorem vD {p:dM}{f:PF}{i:Nat}(h:dK p i f=10):p.enums.length≠0∧gC p i f=f.ref % p.enums.length:=by
 by_cases h10:f.kind % 13+1=10
 · by_cases h0:p.enums.length=0
   · have:=(aF1 (i:=i) h10 h0).1;omega
   · exact ⟨h0,(aFr h10 h0).2⟩
 · by_cases h13:f.kind % 13+1=13
   · cases ht:p.tree with
     | true =>
      by_cases hl:i+1=p.structs.length
      · have:=(aFB h13 ht hl).1;omega
      · have:=(aFu h13 ht hl).1;omega
     | false =>
      have:=(aFJ (i:=i) h13 ht).1;omega
   · have:=(aFD (p:=p) (i:=i) h10 h13).1;omega
theorem tV (p:dM)(i:Nat)(f:PF):1≤dK p i f∧dK p i f≤13:=by
 have h:=Nat.mod_lt f.kind (show 0<13 by decide);unfold dK;split
 · omega
 · unfold oO;split<;>omega
theorem aE7 {p:dM}{n0:Nat}{es:List (aX × Value)}(hes:es.map Prod.fst=iP p n0){k:Nat}(hk:k<n0):∃ h:k<es.length,es[k].1=xK p k:=by
 have hl:es.length=n0:=by have:=congrArg List.length hes;rw [iH] at this;simpa using this
 refine ⟨by omega,?_⟩;have h1:(es.map Prod.fst)[k]?=(iP p n0)[k]?:=by rw [hes]
 rw [List.getElem?_map,iO (by omega)] at h1;unfold iP at h1;rw [List.getElem?_map,List.getElem?_range hk] at h1;exact Option.some.inj h1
theorem aE3 {p:dM}{f:PF}{i n0 base ls rt:Nat}{W:World}{ss:List (bK × Value)}{es:List (aX × Value)}{sv ev:Value}(hs:SchRows base W ss es sv ev)(hes:es.map Prod.fst=iP p n0)(hel:p.enums.length=n0)(hd:(f.dflt:Int)≤18446744073709551615)(h:dE (dK p i f) ls=true) :
  xG p (dK p i f) (gC p i f) ls f.dflt sv ev rt W:=by
 obtain ⟨h1,h10⟩:=yC h;by_cases hk:dK p i f=10
 · obtain ⟨h0,hr⟩:=vD hk;rw [hel] at h0 hr;obtain ⟨hlt,he⟩:=aE7 hes (show gC p i f<n0 by rw [hr];exact Nat.mod_lt _ (by omega));have hc:es[gC p i f].1.names.length=jN p (gC p i f):=by rw [he];simp [xK]
   intro W' hb;rw [hk,←hc];exact rP (gC p i f) ls f.dflt rt W' (hs.below hb) hlt (by rw [hc];unfold jN;omega) hd
 · intro W' _;exact rE (dK p i f) (gC p i f) ls f.dflt (jN p (gC p i f)) sv ev rt W' hd h1 (by omega)
def aES (w0:World)(p:dM)(l:List PF)(b i n c0 R:Nat)(a:Option Addr)(rn:Value)(c':Act)(w':World):Prop:=
 ∃ (k:Nat) (fv:Value),k≤n∧FrD b i a n c0 R k c'∧Below R w0 w'∧w'.heap[R]?=some (.cells #[rn,fv] 60 (0,0))∧w'.ownsRow (R+1) 77 5 fv k (eH (lR p i l k))
theorem aEm {Q:Exit→Act→World→Prop}{c:Act}{w wS w0:World}{p:dM}{a a0 a1:Option Addr}{b i n c0 n0 e0 n1 c1 R rt:Nat}{rn sv ev:Value}{ss:List (bK × Value)}{es:List (aX × Value)}{l:List PF}
  (hF:∀ k,k<n→∃ B off,aEt w a k (l.getD k nA) B off) (hn:n≤16) (hkp:MKeeps w b (.slice a0 n0 e0) (.slice a1 n1 c1) p.root p.tree wS) (hs:SchAt (b+2) wS ss es sv ev rt) (hes:es.map Prod.fst=iP p n0) (hel:p.enums.length=n0) (hsl:p.structs.length=n1)
  (hi:i<n1) (h16:n1≤16) (h8:n0≤8) (hbS:Below wS.heap.size wS w0) (hSR:wS.heap.size≤R) (hR:w0.heap[R]?=some (.cells #[rn,.slice none 0 0] 60 (0,0))) (hc:FrD b i a n c0 R 0 c)
  (hQ:∀ c' w' fv,FrD b i a n c0 R n c'→Below R w0 w'→w'.heap[R]?=some (.cells #[rn,fv] 60 (0,0))→w'.ownsRow (R+1) 77 5 fv n (eH (lR p i l n))→Q (.exit 6) c' w') :
  Code.wp Tryd.prog (Code.loop (qF 3)) Q c w0:=by
 refine wp_loop (aES w0 p l b i n c0 R a rn)
  (fun c' _=>n-(intOf (c'.tmps.getD 11 undef)).toNat) ⟨0,_,Nat.zero_le _,hc,bH _ _,hR,World.ownsRow_nil _ _ _ _⟩ ?_
 clear hc hR;rintro c wr ⟨k,fv,hk,hc,hb,hR,hrow⟩;have hbb:Below wS.heap.size wS wr:=hbS.trans (hb.mono hSR);have HSA:=aA (hs.below hbb);have HKP:=aA (hkp.below hbb (Nat.le_of_lt (aD hs.blk)));have HQ:=aA hQ;have HB:=aA hb;have HR:=aA hR;have HROW:=aA hrow;have HES:=aA hes;have HEL:=aA hel;have HSL:=aA hsl;have hbR:b+2<R:=Nat.lt_of_lt_of_le (aD hs.blk) hSR;have hRw:R<wr.heap.size:=aD hR;have hbeq:=hkp.hb;obtain ⟨u,rfl⟩:=vZ hc;by_cases hkl:k<n
 · obtain ⟨B,off,hpf⟩:=hF k hkl;have HFX:=aA (rfl:l.getD k nA=l.getD k nA);have HSN:=aA (aBp p i l k);generalize l.getD k nA=f at *;have HPF:=aA hpf;obtain ⟨rfl,hB,x0,x1,x2,x3,x4,l0,l1,l2,l3,l4⟩:=hpf;have y0:=(HKP.out.bel.cell (p:=⟨B,off+k * 5,none⟩) (by show B<b;omega)).trans x0;have y1:=(HKP.out.bel.cell (p:=⟨B,off+k * 5+1,none⟩) (by show B<b;omega)).trans x1;have hBb:B<b:=by omega
   have HBEQ:=aA hbeq;clear hc hQ hb hR hrow hes hel hsl hbb hs hkp hF x0 x1 x2 x3 x4 l2 l3 hbS hB hbeq;have m0:(f.kind:Int).tmod 13=((f.kind % 13:Nat):Int):=by rw [Int.tmod_eq_emod_of_nonneg (by omega)];omega
   have m1:(f.lists:Int).tmod 4=((f.lists % 4:Nat):Int):=by rw [Int.tmod_eq_emod_of_nonneg (by omega)];omega
   have hk13:f.kind % 13<13:=by omega
   have hl4:f.lists % 4<4:=by omega
   obtain ⟨kq,hkq⟩:∃ kq,f.kind % 13=kq:=⟨_,rfl⟩;obtain ⟨lq,hlq⟩:∃ lq,f.lists % 4=lq:=⟨_,rfl⟩;rw [hkq] at m0 hk13;rw [hlq] at m1 hl4;have HKQ:=aA hkq;have HLQ:=aA hlq;clear hkq hlq;have v0:=u8_in (kq:Int) (by omega) (by omega);have v1:=u8_in ((kq:Int)+1) (by omega) (by omega);have v2:=u8_in (lq:Int) (by omega) (by omega);have v3:=cU (lq:Int);have hki:(k:Int)<n:=by omega
   conv=>arg 2;whnf
   go_upto_region 23 with (fail);go_region_held3 (fun w'=>w'.cell? ⟨B,off+k * 5,none⟩=some (.int .u8 (f.kind:Nat))∧w'.cell? ⟨B,off+k * 5+1,none⟩=some (.int .u8 (f.lists:Nat))) (first|assumption|go_keep) (first|fail)
   all_goals
    simp only [Exit.then]
    apply_assumption
    have hbt:Below wr.heap.size wr (wr.alloc (.cells #[.int .u8 ((kq:Int)+1),.int .i64 0,.int .i64 lq] 75)).drew:=((bH _ _).alloc bD _).drew;have hty:nE (wr.alloc (.cells #[.int .u8 ((kq:Int)+1),.int .i64 0,.int .i64 lq] 75)).drew wr.heap.size (f.kind % 13+1) 0 (f.lists % 4):=by rw [HKQ.out,HLQ.out];exact cN wr _
    generalize (wr.alloc (.cells #[.int .u8 ((kq:Int)+1),.int .i64 0,.int .i64 lq] 75)).drew=W1 at *;have hs1:=HSA.out.below hbt;have hk1:=HKP.out.below hbt (by omega);obtain ⟨eva,evc,hevf⟩:=aJ hs1.rows.enums;have hesl:es.length=n0:=by have:=congrArg List.length HES.out;rw [iH] at this;simpa using this
    rw [hesl] at hevf;subst hevf;refine aDo (a0:=a0) (c1:=c1) ⟨rfl,rfl,rfl,rfl,rfl,rfl,rfl,rfl,rfl,rfl,rfl⟩ ⟨HPF.out,by rw [←HBEQ.out];exact hk1.bel,HBEQ.out,by omega,(aU hs1.blk 1).trans rfl,(aU hk1.box 1).trans rfl,(aU hk1.box 3).trans rfl,HEL.out,HSL.out,hi,h16,h8,hkl,hn⟩ hty ?_;intro c2 W2 G hf2 hTG hbel hty2 hfl;have hT:wr.heap.size<W1.heap.size:=aD hty;have HS1:=aA hs1;have hs2:SchAt (b+2) W2 ss es sv (.slice eva n0 evc) rt:=HSA.out.below (hbt.trans hbel);have hb2:Below wr.heap.size wr W2:=hbt.trans hbel;have hR2:=aE HR.out hb2 (by omega);have hrow2:=bE hb2 HROW.out;refine aEv (w:=w) (p:=p) (fv:=fv) (rn:=rn) (xs:=eH (lR p i l k)) hf2 HPF.out (by rw [←HBEQ.out];exact (HKP.out.below hb2 (by omega)).bel) hkl hn hty2 (by have:=(tV p i f).2;omega) hfl hTG hRw hbR (by omega) hs2.blk (fun h=>aE3 hs2.rows HES.out HEL.out l4 h) hR2 hrow2 (fun g hg=>(aV HROW.out g hg).2) ?_
    intro c3 W4 fv' h1 h2 h3 h4;have HF1:=aA h1;have HB4:=aA ((HB.out.trans (hb2.mono (Nat.le_of_lt hRw))).trans h2);have HR4:=aA h3;have HROW4:=aA h4;obtain ⟨u3,rfl⟩:=vZ h1;clear h1 h2 h3 h4 hR2 hrow2 hs2 hb2 hf2 hbel hty2 hfl hs1 hk1 hbt hty;simp only [Exit.inBlock,Exit.then]
    apply_assumption
    go_wp2;refine ⟨⟨k+1,fv',by omega,⟨rfl,rfl,rfl,rfl,rfl,rfl,rfl,rfl,rfl,rfl⟩,HB4.out,HR4.out,?_⟩,?_⟩
    · rw [HSN.out,rY];exact HROW4.out
    · show n-(intOf (.int .i64 ((k:Int)+1))).toNat<n-(intOf (.int .i64 (k:Int))).toNat;simp [intOf];omega
 · obtain rfl:k=n:=by omega
   clear hc hQ hb hR hrow hes hel hsl hbb hs hkp hF hbS hbeq;conv=>arg 2;whnf
   go_wp2;exact HQ.out _ _ _ ⟨rfl,rfl,rfl,rfl,rfl,rfl,rfl,rfl,rfl,rfl⟩ HB.out HR.out HROW.out
def wG (p:dM)(i:Nat):Prop:=∀ j,j<i→1≤(p.structs.getD j []).length∧(p.structs.getD j []).length≤16
def aEE (w:World)(p:dM)(es:List (aX × Value))(ev x0 x1:Value)(b n1 rt:Nat)(c':Act)(w':World):Prop:=
 ∃ (i:Nat) (ss:List (bK × Value)) (sv:Value),i≤n1∧FrC b i c'∧MKeeps w b x0 x1 p.root p.tree w'∧SchAt (b+2) w' ss es sv ev rt∧ss.map Prod.fst=jM p i∧wG p i
theorem aEK {Q:Exit→Act→World→Prop}{c:Act}{w w0:World}{p:dM}{a0 a1:Option Addr}{n0 e0 n1 c1 b rt:Nat}{es:List (aX × Value)}{ev:Value}(hp:IsPlan w p a0 n0 e0 a1 n1 c1)(h8:n0≤8)(h16:n1≤16)(hc:FrC b 0 c)
  (hk:MKeeps w b (.slice a0 n0 e0) (.slice a1 n1 c1) p.root p.tree w0) (hs:SchAt (b+2) w0 [] es (.slice none 0 0) ev rt) (hes:es.map Prod.fst=iP p n0)
  (hQ:∀ c' w' ss sv,FrC b n1 c'→MKeeps w b (.slice a0 n0 e0) (.slice a1 n1 c1) p.root p.tree w'→SchAt (b+2) w' ss es sv ev rt→ss.map Prod.fst=jM p n1→wG p n1→Q (.exit 4) c' w')
  (hB:∀ c' w' j,FrC b j c'→w'.heap[b+1]?=some (.cells #[.slice none 0 0,.slice none 0 0,.int .i64 0] 31 (0,0))→Below b w w'→j<n1→¬(1≤(p.structs.getD j []).length∧(p.structs.getD j []).length≤16)→Q .ret c' w') :
  Code.wp Tryd.prog (Code.loop (qF 2)) Q c w0:=by
 refine wp_loop (aEE w p es ev (.slice a0 n0 e0) (.slice a1 n1 c1) b n1 rt)
  (fun c' _=>n1-(intOf (c'.tmps.getD 8 undef)).toNat) ⟨0,[],_,Nat.zero_le _,hc,hk,hs,rfl,fun j hj=>absurd hj (Nat.not_lt_zero j)⟩ ?_
 clear hc hk hs;rintro c wr ⟨i,ss,sv,hi,hc,hk,hs,hss,hlen⟩;have HP:=aA hp;have HQ:=aA hQ;have HBAD:=aA hB;have HK:=aA hk;have HS:=aA hs;have HES:=aA hes;have HSS:=aA hss;have HLEN:=aA hlen;have hssl:ss.length≤16:=by have:=congrArg List.length hss;rw [mT] at this;simp at this;omega
 obtain ⟨u,rfl⟩:=wW hc;have y1:=(aU hk.box 1).trans rfl;have hbl:b+2<wr.heap.size:=aD hs.blk;clear hc hQ hB hk hs hp hes hss hlen;conv=>arg 2;whnf
 by_cases hlt:i<n1
 · obtain ⟨B,off,a,n,cc,rfl,hB0,hz,hn,hnc,hcm,hfl⟩:=HP.out.s_at i hlt;have hB:B<b:=by rw [HK.out.hb];exact hB0
   have hzr:=(HK.out.bel.cell (p:=⟨B,off+i,none⟩) hB).trans hz;have HFL:=aA hfl;have HN:=aA hn;clear hfl hz hB0;by_cases hb1:n<1
   · obtain ⟨_,_,_,_,s0,s1,s2⟩:=aS HK.out.res;clear hn;go_wp2;refine HBAD.out _ _ i ⟨rfl,rfl,rfl,rfl,rfl,rfl,rfl⟩ (kI HK.out.res _ _ _) (((HK.out.bel.setCell (p:=⟨b+1,0,none⟩) (by show b≤b+1;omega) _).setCell (p:=⟨b+1,1,none⟩) (by show b≤b+1;omega) _).setCell (p:=⟨b+1,2,none⟩) (by show b≤b+1;omega) _) hlt (by rw [HN.out];omega)
   · by_cases hb2:16<n
     · obtain ⟨_,_,_,_,s0,s1,s2⟩:=aS HK.out.res;clear hn;go_wp2;refine HBAD.out _ _ i ⟨rfl,rfl,rfl,rfl,rfl,rfl,rfl⟩ (kI HK.out.res _ _ _) (((HK.out.bel.setCell (p:=⟨b+1,0,none⟩) (by show b≤b+1;omega) _).setCell (p:=⟨b+1,1,none⟩) (by show b≤b+1;omega) _).setCell (p:=⟨b+1,2,none⟩) (by show b≤b+1;omega) _) hlt (by rw [HN.out];omega)
     · have kc:=aBu;have hsz:¬9223372036854775807<1+(strOfNums [97+(i:Int)]).size:=by rw [strOfNums_size];simp
       obtain ⟨hbw2,hB1,hB2⟩:=bF wr #[.int .u8 (97+(i:Int))] #[.string (jX i),.slice none 0 0] 5 60;have HB2:=aA hbw2;have HBB:=aA hB2;clear hbw2 hB1 hB2 hn;go_wp2_with fail;refine aEm (a0:=a0) (c1:=c1) (R:=wr.heap.size+1) (rn:=.string (jX i)) (l:=p.structs.getD i []) ?_ (by omega) HK.out HS.out HES.out HP.out.e_len HP.out.s_len hlt h16 h8 HB2.out (by omega) HBB.out ⟨rfl,rfl,rfl,rfl,rfl,rfl,rfl,rfl,rfl,rfl⟩ ?_
       · intro k hk;obtain ⟨b',off',f,hf,ha,hbf,x0,x1,x2,x3,x4,q0,q1,q2,q3,q4⟩:=HFL.out k hk;rw [hf];exact ⟨b',off',⟨ha,hbf,x0,x1,x2,x3,x4,q0,q1,q2,q3,q4⟩⟩
       intro c2 w2 fv hf hbel hR2 hrow2;obtain ⟨fva,fvc,rfl⟩:=aJ hrow2;have hb3:Below wr.heap.size wr w2:=HB2.out.trans (hbel.mono (by omega));have hs2:=HS.out.below hb3;have HS2:=aA hs2;have HK2:=aA (HK.out.below hb3 (by omega));have HROW:=aA hrow2;have HPR:Hid (aE1 p i=⟨jX i,lR p i (p.structs.getD i []) n⟩):=aA (by unfold aE1;rw [HN.out]);have HFN:Hid ((lR p i (p.structs.getD i []) n).length=n):=aA (mX _ _ _ _);have HLI:Hid (wG p (i+1)):=aA (fun j hj=>by
        rcases Nat.lt_or_ge j i with h|h
        · exact HLEN.out j h
        · obtain rfl:j=i:=by omega
          rw [HN.out];omega)
       generalize lR p i (p.structs.getD i []) n=FL at *;obtain ⟨_,z0,z1,z2,f0,f1,f2⟩:=aS hs2.blk;obtain ⟨hCl,d0,d1,_⟩:=mI hR2;obtain ⟨sva,svc,rfl⟩:=aJ hs2.rows.structs;obtain ⟨i0,hi0,hzz0,hzz1,hzz2⟩:=info_parts aCL;have I1:=aA hi0;have I2:=aA hzz0;have I3:=aA hzz1;have I4:=aA hzz2;have hbs:b+2<w2.heap.size:=aD hs2.blk;have HBN:=aA (cN w2 (.cells #[.string (jX i),.slice fva n fvc] 60));have HBA:=aA ((bH w2.heap.size w2).alloc bD (.cells #[.string (jX i),.slice fva n fvc] 60));obtain ⟨u2,rfl⟩:=vZ hf;clear hf hbel hR2 hrow2 hb3 hs2 hi0 hzz0 hzz1 hzz2 HS HK y1 kc hsz hzr;simp only [Exit.inBlock,Exit.then]
       apply_assumption
       go_wp2_with (at_builtin;refine wpList_append_own _ rfl (.tmp 235) (.tmp 237) 28 rfl (b+2+1) 60 i0 _ 2 40 Tryd.underlying28 I1.out I2.out I3.out I4.out rfl (by decide) _ ss.length (gD ss) rfl (bE HBA.out HS2.out.rows.structs) _ 1 1 [.string (jX i),.slice fva n fvc] rfl rfl (World.news_of_block HBN.out) (by intro u hu;simp at hu;rcases hu with rfl|rfl<;>rfl) (by unfold maxLen;omega) (by omega) (by simp;omega) ?_;intro v4 W8 hown4 hg4 hx;clear hx;obtain ⟨a4,m4,rfl⟩:=aJ hown4;have s5:=SchAt.strct (q:=(⟨jX i,FL⟩,.slice fva n fvc)) (HS2.out.below HBA.out) (by have h:=eE (bE HBA.out HROW.out) (show b+2+1≤wr.heap.size+1+1 by omega);show World.ownsRow _ _ _ _ _ FL.length (eH FL);rw [HFN.out];exact h) hg4 hown4;have s4:W8.heap[b+2]?=some (.cells #[.slice sva ss.length svc,ev,.int .i64 rt] 31 (0,0)):=(hg4.block (b+2) (by simp;omega) (fun e=>by have:=(aV HS2.out.rows.structs _ e.symm).1;omega)).trans (HS2.out.below HBA.out).blk;obtain ⟨_,p0,p1,p2,q0,q1,q2⟩:=aS s4;have S5:=aA s5;have S6:=aA (aBx HBA.out hbs hg4 (fun k hk=>by have:=(aV HS2.out.rows.structs k hk).1;omega) 0 (.slice a4 (ss.length+1) m4));clear s5 s4 hown4 hg4)
       refine ⟨⟨i+1,_,_,by omega,⟨rfl,rfl,rfl,rfl,rfl,rfl,rfl⟩,HK2.out.below S6.out bD,S5.out,by rw [List.map_append,HSS.out,aA8,HPR.out];rfl,HLI.out⟩,?_⟩;show n1-(intOf (.int .i64 ((i:Int)+1))).toNat<n1-(intOf (.int .i64 (i:Int))).toNat;simp [intOf];omega
 · obtain rfl:i=n1:=by omega
   clear hlt;go_wp2;exact HQ.out _ _ _ _ ⟨rfl,rfl,rfl,rfl,rfl,rfl,rfl⟩ HK.out HS.out HSS.out HLEN.out
def tF (p:dM)(w:World)(e:Ending)(w':World):Prop:=
 Below w.heap.size w w'∧((kN p∧∃ ss es sv ev,e=.returned (.tuple #[.agg #[sv,ev,.int .i64 (p.root % p.structs.length:Nat)],.bool true])∧ss.map Prod.fst=jM p p.structs.length∧es.map Prod.fst=iP p p.enums.length∧SchRows w.heap.size w' ss es sv ev) ∨
  (¬kN p∧e=.returned (.tuple #[.agg #[.slice none 0 0,.slice none 0 0,.int .i64 0],.bool false])))
theorem sD {p:dM}{w w':World}(h:¬kN p)(hb:Below w.heap.size w w'):tF p w (.returned (.tuple #[.agg #[.slice none 0 0,.slice none 0 0,.int .i64 0],.bool false])) w':=⟨hb,.inr ⟨h,rfl⟩⟩
theorem aEz {p:dM}(h1:1≤p.structs.length)(h2:p.structs.length≤16)(h3:p.enums.length≤8)(h:wG p p.structs.length):kN p:=by
 refine ⟨h1,h2,h3,fun l hl=>?_⟩;obtain ⟨j,hj,rfl⟩:=List.getElem_of_mem hl;have:=h j hj
 rwa [List.getD,iO hj] at this
theorem aDx {p:dM}{j:Nat}(hj:j<p.structs.length)(h:¬(1≤(p.structs.getD j []).length∧(p.structs.getD j []).length≤16)):¬kN p:=by
 intro ho;apply h
 rw [List.getD,iO hj];exact ho.2.2.2 _ (jK hj)
theorem aDm (p:dM)(w:World){a0 a1:Option Addr}{n0 e0 n1 c1:Nat}(hp:IsPlan w p a0 n0 e0 a1 n1 c1)(hg:¬(1≤n1∧n1≤16∧n0≤8)) :
  Calls Tryd.prog 10 #[.agg #[.slice a0 n0 e0,.slice a1 n1 c1,.int .u8 p.root,.bool p.tree]] w (tF p w):=by
 obtain ⟨hb,hz1,hz2⟩:=bF w #[.slice a0 n0 e0,.slice a1 n1 c1,.int .u8 p.root,.bool p.tree] #[.slice none 0 0,.slice none 0 0,.int .i64 0] 25 31;have HP:=aA hp;have HB:=aA hb;have HZ1:=aA hz1;have HZ2:=aA hz2;have hrt:=hp.rt;have hcaps:n0≤9223372036854775807∧n1≤9223372036854775807:=by have h1:=hp.e_cap;have h2:=hp.s_cap;unfold maxLen at h1 h2;omega
 obtain ⟨hn0,hn1⟩:=hcaps;have y0:=(aU hz1 0).trans rfl;have y1:=(aU hz1 1).trans rfl;have y2:=(aU hz1 2).trans rfl;obtain ⟨_,_,_,_,s0,s1,s2⟩:=aS hz2;clear hp hb hz1 hz2;have HNO:Hid (¬kN p):=aA (fun ho=>hg ⟨by rw [←HP.out.s_len];exact ho.1,by rw [←HP.out.s_len];exact ho.2.1,by rw [←HP.out.e_len];exact ho.2.2.1⟩);by_cases g1:n1<1
 · have t1:decide ((n1:Int)<1)=true:=fO (by omega);clear hg;go_enter Tryd.func10,Tryd.ntmps10;go_wp2;refine aI (fun Wf=>Wf.heap[w.heap.size+1]?=some (.cells #[.slice none 0 0,.slice none 0 0,.int .i64 0] 31 (0,0))∧Below w.heap.size w Wf) ⟨?_,?_⟩ ?_
   · first
      | exact HZ2.out
      | exact kI HZ2.out _ _ _
   · first
      | exact HB.out
      | exact ((HB.out.setCell (p:=⟨w.heap.size+1,0,none⟩) (Nat.le_succ _) _).setCell (p:=⟨w.heap.size+1,1,none⟩) (Nat.le_succ _) _).setCell (p:=⟨w.heap.size+1,2,none⟩) (Nat.le_succ _) _
   · rintro Wf ⟨e1,e2⟩;obtain ⟨_,d0,d1,d2,_⟩:=aS e1;exact dZ (v:=.tuple #[.agg #[.slice none 0 0,.slice none 0 0,.int .i64 0],.bool false]) (by simp [results,Tryd.results10,go_sem,d0,d1,d2]) rfl (sD (HNO.out) e2)
 · by_cases g2:16<n1
   · have t1:decide ((n1:Int)<1)=false:=iB (by omega);have t2:decide ((16:Int)<n1)=true:=fO (by omega);clear hg;go_enter Tryd.func10,Tryd.ntmps10;go_wp2;refine aI (fun Wf=>Wf.heap[w.heap.size+1]?=some (.cells #[.slice none 0 0,.slice none 0 0,.int .i64 0] 31 (0,0))∧Below w.heap.size w Wf) ⟨?_,?_⟩ ?_
     · first
       | exact HZ2.out
       | exact kI HZ2.out _ _ _
     · first
       | exact HB.out
       | exact ((HB.out.setCell (p:=⟨w.heap.size+1,0,none⟩) (Nat.le_succ _) _).setCell (p:=⟨w.heap.size+1,1,none⟩) (Nat.le_succ _) _).setCell (p:=⟨w.heap.size+1,2,none⟩) (Nat.le_succ _) _
     · rintro Wf ⟨e1,e2⟩;obtain ⟨_,d0,d1,d2,_⟩:=aS e1;exact dZ (v:=.tuple #[.agg #[.slice none 0 0,.slice none 0 0,.int .i64 0],.bool false]) (by simp [results,Tryd.results10,go_sem,d0,d1,d2]) rfl (sD (HNO.out) e2)
   · have g3:8<n0:=by omega
     have t1:decide ((n1:Int)<1)=false:=iB (by omega);have t2:decide ((16:Int)<n1)=false:=iB (by omega);have t3:decide ((8:Int)<n0)=true:=fO (by omega);clear hg;go_enter Tryd.func10,Tryd.ntmps10;go_wp2;refine aI (fun Wf=>Wf.heap[w.heap.size+1]?=some (.cells #[.slice none 0 0,.slice none 0 0,.int .i64 0] 31 (0,0))∧Below w.heap.size w Wf) ⟨?_,?_⟩ ?_
     · first
       | exact HZ2.out
       | exact kI HZ2.out _ _ _
     · first
       | exact HB.out
       | exact ((HB.out.setCell (p:=⟨w.heap.size+1,0,none⟩) (Nat.le_succ _) _).setCell (p:=⟨w.heap.size+1,1,none⟩) (Nat.le_succ _) _).setCell (p:=⟨w.heap.size+1,2,none⟩) (Nat.le_succ _) _
     · rintro Wf ⟨e1,e2⟩;obtain ⟨_,d0,d1,d2,_⟩:=aS e1;exact dZ (v:=.tuple #[.agg #[.slice none 0 0,.slice none 0 0,.int .i64 0],.bool false]) (by simp [results,Tryd.results10,go_sem,d0,d1,d2]) rfl (sD (HNO.out) e2)
end Go.Proofs.YtpbaaiilfkacnaaDoor
