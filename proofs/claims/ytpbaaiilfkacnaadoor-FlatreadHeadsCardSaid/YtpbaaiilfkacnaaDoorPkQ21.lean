/-
  The document's own reading of tables: a number's place. Conditions: those that each theorem names.
-/
import Derived.Test.YtpbaaiilfkacnaaDoorPkQ17
namespace Go.Proofs.YtpbaaiilfkacnaaDoor
open Go.ChangeShapes Go.WideShapes Go.ChangeAt Go.RowKit Go.Shelf
set_option maxRecDepth 100000
set_option maxHeartbeats 16000000
theorem WState.bytes {w:World}{wk m mt:Nat}{out mo:Bool}{left ml:Int}(h:WState w wk m mt out left ml mo){b off:Nat}{zs:List Int}(hb:Bytes w (some ⟨b,off,none⟩) zs)(hne:zs≠[]):b≠wk∧b≠mt:=by
 obtain ⟨b',off',e,_,hc⟩:=hb.2 hne;injection e with e;injection e with e1 e2 _;subst e1 e2;have h0:=hc 0 (List.length_pos_iff.2 hne);rw [Nat.add_zero] at h0;constructor
 · intro hbw;subst hbw;rw [aU h.walk off] at h0;have h4:off=0∨off=1∨off=2∨off=3∨4≤off:=by omega
   rcases h4 with rfl|rfl|rfl|rfl|h4
   · cases h0
   · cases h0
   · cases h0
   · simp at h0
   · rw [Array.getElem?_eq_none (by simpa using h4)] at h0;cases h0
 · intro hbw;subst hbw;rw [aU h.meter off] at h0;have h4:off=0∨off=1∨2≤off:=by omega
   rcases h4 with rfl|rfl|h4
   · simp at h0
   · cases h0
   · rw [Array.getElem?_eq_none (by simpa using h4)] at h0;cases h0
theorem oH {w W:World}{R S:Nat}{p:Option Addr}{zs:List Int}(h:Bytes w p zs)(hx:Exw R S w.heap.size w W)(hp:∀ b off,p=some ⟨b,off,none⟩→zs≠[]→b≠R∧b≠S):Bytes W p zs:=by refine ⟨h.1,fun hne=>?_⟩;obtain ⟨b,off,rfl,hlt,hc⟩:=h.2 hne;obtain ⟨h1,h2⟩:=hp b off rfl hne;exact ⟨b,off,rfl,Nat.lt_of_lt_of_le hlt hx.size,fun i hi=>bO hx (hc i hi) h1 h2⟩
theorem cY {W:World}{base P n sz:Nat}{e t:TypeId}{v:Value}{xs:List Value}{cs:Array Value}(h:W.ownsRow base e sz v n xs)(hP:W.heap[P]?=some (.cells cs t (0,0)))(hne:t≠e):v.ownBlock≠some P:=gH h hP hne
theorem MsgOf.exw {base:Nat}{w W:World}{m:Nat}{bp:Option Addr}{bc:Nat}{sv ev:Value}{zs:List Int}{ss:List (bK × Value)}{es:List aX}{fs:List (List dT × Value)}{ns:List Nat}(h:MsgOf base w m bp bc sv ev zs ss es fs ns){wk mt:Nat}{out mo:Bool}{left ml:Int}(hw:WState w wk m mt out left ml mo)(hx:Exw wk mt w.heap.size w W):MsgOf base W m bp bc sv ev zs ss es fs ns:=by
 have hm1:m≠wk:=fun e=>by have h1:=h.msg.blk;rw [e,hw.walk] at h1;injection h1 with h1;injection h1 with h1 _ _;have h3:=congrArg Array.size h1;simp at h3
 have hm2:m≠mt:=fun e=>by have h1:=h.msg.blk;rw [e,hw.meter] at h1;injection h1 with h1;injection h1 with h1 _ _;have h3:=congrArg Array.size h1;simp at h3
 refine ⟨⟨aL h.msg.blk hx (aD h.msg.blk) hm1 hm2,oH h.msg.bytes hx (fun b off e hne=>by have hb:=h.msg.bytes;rw [e] at hb;exact hw.bytes hb hne),h.msg.len,h.msg.cap,?_,fun q hq=>?_,?_⟩,h.structs,h.enums,h.few⟩
 · exact hx.ownsRow h.msg.structs (cY h.msg.structs hw.walk (by decide)) (cY h.msg.structs hw.meter (by decide))
 · exact hx.ownsRow (h.msg.fields q hq) (cY (h.msg.fields q hq) hw.walk (by decide)) (cY (h.msg.fields q hq) hw.meter (by decide))
 · exact hx.ownsRow h.msg.enums (cY h.msg.enums hw.walk (by decide)) (cY h.msg.enums hw.meter (by decide))
def Amb (B:Nat)(w:World):Prop:=∀ W,Below B w W→Tabs W
theorem Amb.below {B:Nat}{w W:World}(h:Amb B w)(hb:Below B w W):Amb B W:=fun V hV=>h V (hb.trans hV)
theorem Amb.exw {B wk mt:Nat}{w W:World}(h:Amb B w)(h0:B≤w.heap.size)(h1:B≤wk)(h2:B≤mt)(hx:Exw wk mt w.heap.size w W):Amb B W:=h.below ((hx.mono h0).below h1 h2)
theorem sN {zs:List Int}{k:Nat}{to left:Int}(hz:∀ i,0≤zs.getD i 0∧zs.getD i 0≤255)(h:eF zs k to=false):dH zs k to left=none:=by
 unfold dH;by_cases h1:cV (aH zs) to 4=true
 · rw [bG h1,if_neg ?_];rintro ⟨h2,h3,h4⟩;have hi:=aW.1 h1;have hn:=dW zs to.toNat hz;have h2':=aW.1 h2;unfold eF at h;rw [h1,Bool.true_and] at h;by_cases hk:k=11
   · rw [bG hk] at h2';rw [aW.2 (show 0≤to+4∧0≤aY zs to.toNat 4∧_ by omega),fO hk,aW.2 (show 0≤to+4+aY zs to.toNat 4∧(0:Int)≤1∧_ by omega),fO (h4 hk).1] at h;cases h
   · rw [if_neg hk] at h2';rw [aW.2 (show 0≤to+4∧0≤aY zs to.toNat 4∧_ by omega),iB hk] at h;cases h
 · rw [if_neg h1]
theorem sY {zs:List Int}{k:Nat}{to left:Int}(hz:∀ i,0≤zs.getD i 0∧zs.getD i 0≤255)(h:eF zs k to=true):dH zs k to left=if 0≤left-(4+aY zs to.toNat 4+(if k=11 then 1 else 0))∧(k=11→fU (dF zs (to.toNat+4) (aY zs to.toNat 4).toNat) 0<0) then some (.mk 0 (dF zs (to.toNat+4) (aY zs to.toNat 4).toNat) [] false,left-(4+aY zs to.toNat 4+(if k=11 then 1 else 0))) else none:=by
 unfold eF at h;rw [Bool.and_eq_true,Bool.and_eq_true] at h;obtain ⟨h1,h2,h3⟩:=h;have hi:=aW.1 h1;have hn:=dW zs to.toNat hz;have h2':=aW.1 h2;unfold dH;rw [bG h1];by_cases hk:k=11
 · rw [fO hk] at h3;simp only [Bool.not_true,Bool.false_or,Bool.and_eq_true,decide_eq_true_eq] at h3;have h3':=aW.1 h3.1;rw [bG hk];have h4:cV (aH zs) to (4+aY zs to.toNat 4+1)=true:=aW.2 (by omega);by_cases hc:0≤left-(4+aY zs to.toNat 4+1)∧(k=11→fU (dF zs (to.toNat+4) (aY zs to.toNat 4).toNat) 0<0)
   · rw [bG hc,bG ⟨h4,hc.1,fun h=>⟨h3.2,hc.2 h⟩⟩]
   · rw [if_neg hc,if_neg (fun h=>hc ⟨h.2.1,fun h5=>(h.2.2 h5).2⟩)]
 · rw [if_neg hk];have h4:cV (aH zs) to (4+aY zs to.toNat 4+0)=true:=aW.2 (by omega);by_cases hc:0≤left-(4+aY zs to.toNat 4+0)∧(k=11→fU (dF zs (to.toNat+4) (aY zs to.toNat 4).toNat) 0<0)
   · rw [bG hc,bG ⟨h4,hc.1,fun h=>absurd h hk⟩]
   · rw [if_neg hc,if_neg (fun h=>hc ⟨h.2.1,fun h5=>absurd h5 hk⟩)]
theorem bQ {left ml l' ml':Int}{mo:Bool}{res:Option (PV × Int)}{w w':World}{wk m mt:Nat}(hs:WState w' wk m mt false l' ml' mo)(hx:Exw wk mt w.heap.size w w')(h:res=none):gG res wk m mt left ml w (.returned (.bool false)) w':=
 ⟨hx,.inr ⟨rfl,false,l',ml',mo,hs,fun _=>h,(fun h=>by cases h)⟩⟩
theorem eZ {left ml l' ml':Int}{mo:Bool}{res:Option (PV × Int)}{w w':World}{wk m mt:Nat}(hs:WState w' wk m mt true l' ml' mo)(hx:Exw wk mt w.heap.size w w')(h:ml<3 * left):gG res wk m mt left ml w (.returned (.bool false)) w':=
 ⟨hx,.inr ⟨rfl,true,l',ml',mo,hs,(fun h=>by cases h),fun _=>h⟩⟩
theorem iU {v:PV}{left ml l' ml':Int}{res:Option (PV × Int)}{w w':World}{wk m mt:Nat}(hs:WState w' wk m mt false l' ml' false)(hx:Exw wk mt w.heap.size w w')(h:res=some (v,l'))(h0:0≤l')(h1:l'≤left)(h2:0≤ml')(h3:ml'≤ml)(h4:3 * left≤ml→3 * l'≤ml'):gG res wk m mt left ml w (.returned (.bool true)) w':=
 ⟨hx,.inl ⟨v,l',ml',h,⟨h0,h1⟩,rfl,hs,⟨h2,h3⟩,h4⟩⟩
structure RdSt (w:World)(rk:Nat)(sv ev:Value)(root:Int)(bp:Option Addr)(bc:Nat)(zs:List Int)(rc:Int)(bad:Bool):Prop where
 blk:w.heap[rk]?=some (.cells #[sv,ev,.int .i64 root,.slice bp zs.length bc,.int .i64 rc,.bool bad] 157 (0,0))
 bytes:Bytes w bp zs
 len:zs.length≤16384
 cap:zs.length≤bc
theorem RdSt.below {w W:World}{rk:Nat}{sv ev:Value}{root:Int}{bp:Option Addr}{bc:Nat}{zs:List Int}{rc:Int}{bad:Bool}(h:RdSt w rk sv ev root bp bc zs rc bad)(hb:Below w.heap.size w W):RdSt W rk sv ev root bp bc zs rc bad:=
 ⟨aE h.blk hb (aD h.blk),h.bytes.below bD hb,h.len,h.cap⟩
theorem RdSt.apart {w:World}{rk:Nat}{sv ev:Value}{root:Int}{bp:Option Addr}{bc:Nat}{zs:List Int}{rc:Int}{bad:Bool}(h:RdSt w rk sv ev root bp bc zs rc bad){b off:Nat}(hp:bp=some ⟨b,off,none⟩)(hne:zs≠[])(hr:∀ c,c=sv∨c=ev→∀ x,c≠.int .u8 x):b≠rk:=by
 have hb:=h.bytes;rw [hp] at hb;obtain ⟨b',off',e,_,hc⟩:=hb.2 hne;injection e with e;injection e with e1 e2 _;subst e1 e2;have h0:=hc 0 (List.length_pos_iff.2 hne);rw [Nat.add_zero] at h0;intro hbw;subst hbw;rw [aU h.blk off] at h0;have h4:off=0∨off=1∨off=2∨off=3∨off=4∨off=5∨6≤off:=by omega
 rcases h4 with rfl|rfl|rfl|rfl|rfl|rfl|h4
 · injection h0 with h0;exact hr _ (.inl rfl) _ h0
 · injection h0 with h0;exact hr _ (.inr rfl) _ h0
 · simp at h0
 · simp at h0
 · simp at h0
 · simp at h0
 · rw [Array.getElem?_eq_none (by simpa using h4)] at h0;cases h0
def lU (c:Value):Prop:=∃ a n k,c=.slice a n k
theorem RdSt.keep {w W:World}{rk:Nat}{sv ev:Value}{root:Int}{bp:Option Addr}{bc:Nat}{zs:List Int}{rc:Int}{bad:Bool}(h:RdSt w rk sv ev root bp bc zs rc bad)(hv:lU sv∧lU ev)(hx:Exw rk rk w.heap.size w W){rc':Int}{bad':Bool}(hb:W.heap[rk]?=some (.cells #[sv,ev,.int .i64 root,.slice bp zs.length bc,.int .i64 rc',.bool bad'] 157 (0,0))):RdSt W rk sv ev root bp bc zs rc' bad':=
 ⟨hb,oH h.bytes hx (fun b off e hne=>by
  have h1:=h.apart e hne (fun c hc x hx=>by
   obtain ⟨⟨a,n,k,h2⟩,⟨a',n',k',h3⟩⟩:=hv;rcases hc with rfl|rfl
   · rw [h2] at hx;cases hx
   · rw [h3] at hx;cases hx)
  exact ⟨h1,h1⟩),h.len,h.cap⟩
theorem lA (l a n:Int)(w:World)(hl0:0≤l)(hl:l≤9223372036854775807):Calls Tryd.prog 116 #[.int .i64 l,.int .i64 a,.int .i64 n] w fun e w'=>e=.returned (.bool (cV l a n))∧w=w':=by
 by_cases h:cV l a n=true
 · have h1:=aW.1 h;rw [h];exact xS l a n w hl h1.1 h1.2.1 h1.2.2
 · rw [Bool.not_eq_true _ |>.mp h];exact aA5 l a n w hl0 hl (by have h1:=xI h;exact h1)
theorem eL (w:World){rk:Nat}{sv ev:Value}{root:Int}{bp:Option Addr}{bc:Nat}{zs:List Int}{rc:Int}{bad:Bool}(h:RdSt w rk sv ev root bp bc zs rc bad)(hv:lU sv∧lU ev)(at':Int)(s:Nat)(hs:s=2∨s=4) :
  Calls Tryd.prog 89 #[.pointer (some ⟨rk,0,none⟩),.int .i64 at',.int .i64 s] w fun e w'=>e=.returned (.int .i64 (dU zs at' s))∧RdSt w' rk sv ev root bp bc zs rc (bad || !cV (aH zs) at' s)∧Exw rk rk w.heap.size w w':=by
 have hz:aH zs=(zs.length:Int):=rfl;have hlen:=h.len;have hcap:=h.cap;have HW:=aA (fun W=>lA (zs.length:Int) at' s W (by omega) (by omega));obtain ⟨_,c0,c1,c2,c3,c4,c5⟩:=bB h.blk;have f5:=aB h.blk 5;have HX:=aA ((Exw.refl rk rk w.heap.size w).setCell (p:=⟨rk,5,none⟩) (.inl rfl) (.bool true));have HS:=aA (h.keep hv HX.out ((aN h.blk 5 (.bool true)).trans rfl));have H0:=aA h;by_cases hin:cV (aH zs) at' s=true
 · have h1:=aW.1 hin;rw [hz] at h1;have hne:zs≠[]:=fun e=>by subst e;simp at h1;omega
   obtain ⟨b,off,rfl,_,hc⟩:=h.bytes.2 hne;obtain ⟨a,rfl⟩:∃ a:Nat,at'=a:=⟨at'.toNat,by omega⟩;have hzb:=h.bytes.1;have HN:Hid (∀ W,W=w→∀ n cap,n=s→Calls Tryd.prog 117 #[.slice (some ⟨b,off+a,none⟩) n cap] W fun e w'=>e=.returned (.int .u64 (aY zs a s))∧W=w'):=aA (fun W hW n cap hn=>by subst hW hn;exact yU b (off+a) n cap W (fun i=>zs.getD (a+i) 0) (by omega) (fun i hi=>by have h5:=hc (a+i) (by omega);rw [←Nat.add_assoc] at h5;exact h5) (fun i _=>hzb _));have e0:dU zs (a:Int) s=aY zs a s:=by unfold dU;rw [bG hin,lN]
   have hbd:=dW zs a hzb;have hbd2:=mU zs a hzb;have hbs:0≤aY zs a s∧aY zs a s<4294967296:=by rcases hs with rfl|rfl<;>omega
   have hor:(bad || !cV (aH zs) (a:Int) s)=bad:=by rw [hin];simp
   rw [e0,hor];have hcv:=cU (aY zs a s);have hw1:=cU ((a:Int)+s);rw [←hz,hin] at HW;rw [hz] at HW;have hs1:1≤s:=by omega
   have E1:((a:Int)+s).toNat-(a:Int).toNat=s:=by omega
   have E2:((a:Int)+s).toNat=a+s:=by omega
   have E3:a+s-a=s:=by omega
   generalize aY zs a s=z at *;clear hin e0 hor hbd hbd2 hc hzb h hs;go_enter Tryd.func89,Tryd.ntmps89;go_wp2_with fail;refine (HW.out _).mono ?_;rintro e _ ⟨rfl,rfl⟩;go_wp2_with fail;refine (HN.out _ rfl _ _ ?_).mono ?_
   · omega
   rintro e _ ⟨rfl,rfl⟩;go_wp2;go_ret;exact ⟨rfl,H0.out,Exw.refl _ _ _ _⟩
 · have e0:dU zs at' s=0:=if_neg hin;have hor:(bad || !cV (aH zs) at' s)=true:=by rw [Bool.not_eq_true _ |>.mp hin];simp
   rw [e0,hor];rw [←hz,Bool.not_eq_true _ |>.mp hin] at HW;rw [hz] at HW;clear hin e0 hor h hs;go_enter Tryd.func89,Tryd.ntmps89;go_wp2_with fail;refine (HW.out _).mono ?_;rintro e _ ⟨rfl,rfl⟩;go_wp2;go_ret;exact ⟨rfl,HS.out,HX.out⟩
theorem aA9 (w:World){rk:Nat}{sv ev:Value}{root:Int}{bp:Option Addr}{bc:Nat}{zs:List Int}{rc:Int}{bad:Bool}(h:RdSt w rk sv ev root bp bc zs rc bad)(hv:lU sv∧lU ev)(at':Int)(ha : -1000000000000≤at'∧at'≤1000000000000) :
  Calls Tryd.prog 70 #[.pointer (some ⟨rk,0,none⟩),.int .i64 at'] w fun e w'=>e=.returned (.int .i64 (if at'+dU zs at' 4≤aH zs then at'+dU zs at' 4 else 0))∧RdSt w' rk sv ev root bp bc zs rc (bad||(!cV (aH zs) at' 4 || !decide (at'+dU zs at' 4≤aH zs)))∧Exw rk rk w.heap.size w w':=by
 have hz:aH zs=(zs.length:Int):=rfl;have hlen:=h.len;have HN:=aA (eL w h hv at' 4 (.inr rfl));have hbd:0≤dU zs at' 4∧dU zs at' 4<4294967296:=by
  unfold dU;split
  · exact dW zs _ h.bytes.1
  · omega
 have HV:=aA hv;clear h hv;generalize cV (aH zs) at' (4:Nat)=ok at *;generalize dU zs at' 4=z at *;have hw1:=cU (at'+z);obtain ⟨P,hP⟩:∃ P,(fun (e:Ending) (w':World)=>e=.returned (.int .i64 (if at'+z≤aH zs then at'+z else 0))∧RdSt w' rk sv ev root bp bc zs rc (bad||(!ok || !decide (at'+z≤aH zs)))∧Exw rk rk w.heap.size w w')=P:=⟨_,rfl⟩;rw [hP];have HP:=aA hP.symm;clear hP;go_enter Tryd.func70,Tryd.ntmps70;go_wp2_with fail;refine HN.out.mono ?_;rintro e W1 ⟨rfl,hs,hx⟩;obtain ⟨_,c0,c1,c2,c3,c4,c5⟩:=bB hs.blk;have f5:=aB hs.blk 5;have HX1:=aA hx;have HX2:=aA ((Exw.refl rk rk W1.heap.size W1).setCell (p:=⟨rk,5,none⟩) (.inl rfl) (.bool true));have HS2:=aA (hs.keep HV.out HX2.out ((aN hs.blk 5 (.bool true)).trans rfl));have HS1:=aA hs;clear hs hx HN;by_cases hle:at'+z≤(zs.length:Int)
 · have hgt:¬((zs.length:Int)<at'+z):=by omega
   have HLE:Hid (at'+z≤aH zs):=aA hle;go_wp2;rw [HP.out];exact ⟨show Ending.returned (.int .i64 (at'+z))=_ by rw [bG HLE.out],by rw [fO HLE.out];simpa using HS1.out,HX1.out⟩
 · have hgt:(zs.length:Int)<at'+z:=by omega
   have HLE:Hid (aH zs<at'+z):=aA (Int.not_le.1 hle);go_wp2;rw [HP.out];exact ⟨show Ending.returned (.int .i64 0)=_ by rw [if_neg (Int.not_le.2 HLE.out)],by rw [iB (Int.not_le.2 HLE.out)];simpa using HS2.out,HX1.out.trans (HX2.out.mono HX1.out.size)⟩
theorem zS (w:World){rk:Nat}{sv ev:Value}{root:Int}{bp:Option Addr}{bc:Nat}{zs:List Int}{rc:Int}{bad:Bool}(h:RdSt w rk sv ev root bp bc zs rc bad)(hv:lU sv∧lU ev)(at' n:Int)(hr:0≤rc∧rc≤1000000000000) :
  Calls Tryd.prog 90 #[.pointer (some ⟨rk,0,none⟩),.int .i64 at',.int .i64 n] w fun e w'=>∃ bad' rc',e=.returned (.bool (!bad'))∧(if cV (aH zs) at' n=true then rc'=rc+n∧bad'=(bad || !decide (rc+n≤aH zs)) else bad'=true∧rc'=rc∧e=.returned (.bool false))∧RdSt w' rk sv ev root bp bc zs rc' bad'∧Exw rk rk w.heap.size w w':=by
 have hz:aH zs=(zs.length:Int):=rfl;have hlen:=h.len;have HW:=aA (fun W=>lA (zs.length:Int) at' n W (by omega) (by omega));obtain ⟨_,c0,c1,c2,c3,c4,c5⟩:=bB h.blk;have f5:=aB h.blk 5;have f4:=aB h.blk 4;have H0:=aA h;by_cases hin:cV (aH zs) at' n=true
 · have h1:=aW.1 hin;rw [hz] at h1;have hw1:=cU (rc+n);have HX:=aA ((Exw.refl rk rk w.heap.size w).setCell (p:=⟨rk,4,none⟩) (.inl rfl) (.int .i64 (rc+n)));have HS:=aA (h.keep (bad':=bad) hv HX.out ((aN h.blk 4 (.int .i64 (rc+n))).trans rfl));have HV:=aA hv;simp only [if_pos hin];rw [←hz,hin] at HW;rw [hz] at HW;obtain ⟨P,hP⟩:∃ P,(fun (e:Ending) (w':World)=>∃ bad' rc',e=.returned (.bool (!bad'))∧(rc'=rc+n∧bad'=(bad || !decide (rc+n≤aH zs)))∧RdSt w' rk sv ev root bp bc zs rc' bad'∧Exw rk rk w.heap.size w w')=P:=⟨_,rfl⟩;rw [hP];have HP:=aA hP.symm;obtain ⟨r2,hr2⟩:∃ r2,rc+n=r2:=⟨_,rfl⟩;rw [hr2] at hw1 HX HS HP;clear hP hin h hv;go_enter Tryd.func90,Tryd.ntmps90;go_wp2_with fail;refine (HW.out _).mono ?_;rintro e _ ⟨rfl,rfl⟩;go_upto_region 5 with (fail);clear c0 c1 c2 c3 c4 c5 f4 f5
   generalize w.setCell ⟨rk,4,none⟩ (.int .i64 r2)=W1 at *;obtain ⟨_,c0,c1,c2,c3,c4,c5⟩:=bB HS.out.blk;have f5:=aB HS.out.blk 5;obtain ⟨gt,hgt⟩:∃ gt,decide ((zs.length:Int)<r2)=gt:=⟨_,rfl⟩;have HGT:=aA hgt;have s0:=c4;have s1:=c3;clear c0 c1 c2 c3 c4 c5 f5;refine gL ?_;refine aGl s0 s1 ?_;intro hS;refine aK 0 (.pointer (some ⟨rk,0,none⟩)) ?_;simp only [td];refine aK 1 (.pointer (some ⟨rk,0,none⟩)) ?_;simp only [td];refine aK 2 (.pointer (some ⟨rk,4,none⟩)) ?_;simp only [td];refine aK 3 (.int .i64 r2) ?_;simp only [td];refine aK 4 (.pointer (some ⟨rk,0,none⟩)) ?_;simp only [td];refine aK 5 (.pointer (some ⟨rk,0,none⟩)) ?_;simp only [td];refine aK 6 (.pointer (some ⟨rk,3,none⟩)) ?_;simp only [td];refine aK 7 (.slice bp zs.length bc) ?_;simp only [td];refine aK 8 (.int .i64 zs.length) ?_;simp only [td];refine tk 9 (.bool gt) hS ?_ ?_
   · rintro w' ⟨s0,s1⟩;go_simp;try rw [hgt]
   simp only [td];refine gA (by kernel_rfl) ?_ _;refine fI ?_;try simp only [Exit.then]
   clear hS s0 s1;have HSD:=aA (HS.out.below (bH _ W1).drew);have HXD:=aA (HX.out.drew);generalize W1.drew=W2 at *;obtain ⟨_,c0,c1,c2,c3,c4,c5⟩:=bB HSD.out.blk;have f5:=aB HSD.out.blk 5;have HX2:=aA ((Exw.refl rk rk W2.heap.size W2).setCell (p:=⟨rk,5,none⟩) (.inl rfl) (.bool true));have HS2:=aA (HSD.out.keep HV.out HX2.out ((aN HSD.out.blk 5 (.bool true)).trans rfl));clear hgt;cases gt with
   | false =>
    have HLE:Hid (r2≤aH zs):=aA (by have h3:=of_decide_eq_false HGT.out;rw [hz];omega);cases bad with
    | false =>
     go_wp2;rw [HP.out];exact ⟨false,r2,rfl,⟨rfl,by rw [fO HLE.out];rfl⟩,HSD.out,HXD.out⟩
    | true =>
     go_wp2;rw [HP.out];exact ⟨true,r2,rfl,⟨rfl,rfl⟩,HSD.out,HXD.out⟩
   | true =>
    have HLE:Hid (aH zs<r2):=aA (by have h3:=of_decide_eq_true HGT.out;rw [hz];omega);go_wp2;rw [HP.out];exact ⟨true,r2,rfl,⟨rfl,by rw [iB (Int.not_le.2 HLE.out)];cases bad<;>rfl⟩,HS2.out,HXD.out.trans (HX2.out.mono HXD.out.size)⟩
 · have HX:=aA ((Exw.refl rk rk w.heap.size w).setCell (p:=⟨rk,5,none⟩) (.inl rfl) (.bool true));have HS:=aA (h.keep hv HX.out ((aN h.blk 5 (.bool true)).trans rfl));simp only [if_neg hin];rw [←hz,Bool.not_eq_true _ |>.mp hin] at HW;rw [hz] at HW;clear hin h hv;go_enter Tryd.func90,Tryd.ntmps90;go_wp2_with fail;refine (HW.out _).mono ?_;rintro e _ ⟨rfl,rfl⟩;go_wp2;go_ret;exact ⟨true,rc,rfl,⟨rfl,rfl,rfl⟩,HS.out,HX.out⟩
def rL (val:Value):Prop:=∃ (n:Int) (ba:Option Addr) (bl bc:Nat) (ka:Option Addr) (kl kc:Nat) (h:Bool),val=.agg #[.int .u64 n,.slice ba bl bc,.slice ka kl kc,.bool h]
theorem dJ (n:Int)(ba:Option Addr)(bl bc:Nat)(ka:Option Addr)(kl kc:Nat)(h:Bool):rL (.agg #[.int .u64 n,.slice ba bl bc,.slice ka kl kc,.bool h]):=⟨n,ba,bl,bc,ka,kl,kc,h,rfl⟩
def RdPost (res:Option (PV × Int))(w:World)(rk:Nat)(sv ev:Value)(root:Int)(bp:Option Addr)(bc:Nat)(zs:List Int)(e:Ending)(w':World):Prop:=
 Exw rk rk w.heap.size w w' ∧
 ((∃ v l' val,res=some (v,l')∧(0≤l'∧l'≤aH zs)∧e=.returned val∧VH (cW w.heap.size) w' v val∧RdSt w' rk sv ev root bp bc zs (aH zs-l') false) ∨
  (res=none∧(∃ val,e=.returned val∧rL val)∧∃ rc,0≤rc∧rc≤1000000000000∧RdSt w' rk sv ev root bp bc zs rc true))
theorem aCg (w:World){rk:Nat}{sv ev:Value}{root:Int}{bp:Option Addr}{bc:Nat}{zs:List Int}{left:Int}(h:RdSt w rk sv ev root bp bc zs (aH zs-left) false)(hv:lU sv∧lU ev)(hl:0≤left∧left≤aH zs)(es:List aX)(k r:Nat)(at' dp:Int)(hk:0<aP k)(hk255:k≤10)(hout:cV (aH zs) at' (aP k)=false) :
  Calls Tryd.prog 91 #[.pointer (some ⟨rk,0,none⟩),.agg #[.int .u8 k,.int .i64 r,.int .i64 0],.int .i64 at',.int .i64 dp] w (RdPost (oK es zs k r at' left) w rk sv ev root bp bc zs):=by
 obtain ⟨hb,hq1,hq2⟩:=bF w #[.int .u8 k,.int .i64 r,.int .i64 0] #[.int .u64 0,.slice none 0 0,.slice none 0 0,.bool false] 75 38;have HB:=aA hb;have HQ1:=aA hq1;have HQ2:=aA hq2;have H0:=aA (h.below hb);have HV:=aA hv;have HH0:=aA h;have HLE:Hid (zs.length≤16384):=aA h.len;have HRK:Hid (rk<w.heap.size):=aA (aD h.blk);have HRES:Hid (oK es zs k r at' left=none):=aA (by unfold oK;rw [hout,if_neg (by decide)]);have HNT:Hid (∀ W,Calls Tryd.prog 38 #[.agg #[.int .u8 k,.int .i64 r,.int .i64 0]] W fun e w'=>e=.returned (.bool true)∧Below W.heap.size W w'):=aA (fun W=>by have h5:=cD k (by omega) r 0 W;rw [show cK k 0=true from by unfold cK;rw [fO hk];rfl] at h5;exact h5)
 have HWI:=aA (fun W=>(by have h5:=lA (zs.length:Int) at' (aP k) W (by omega) (by have:=h.len;omega);rw [show cV (zs.length:Int) at' (aP k)=false from hout] at h5;exact h5:Calls Tryd.prog 116 #[.int .i64 (zs.length:Int),.int .i64 at',.int .i64 (aP k)] W fun e w'=>e=.returned (.bool false)∧W=w'));have HSZ:=aA (fun W=>bY k W);have HLL:Hid (0≤aH zs-left∧aH zs-left≤1000000000000):=aA (by have:=h.len;unfold aH at *;omega);have hw8:=cU (k:Int);obtain ⟨P,hP⟩:∃ P,RdPost (oK es zs k r at' left) w rk sv ev root bp bc zs=P:=⟨_,rfl⟩;rw [hP];have HP:=aA hP.symm;clear hb hq1 hq2 h hv hP hout hl;generalize aH zs-left=rc at *;generalize aP k=sz at *;go_enter Tryd.func91,Tryd.ntmps91;go_upto_region 1 with (fail)
 generalize (w.alloc (.cells #[.int .u8 k,.int .i64 r,.int .i64 0] 75)).alloc (.cells #[.int .u64 0,.slice none 0 0,.slice none 0 0,.bool false] 38)=W0 at *;obtain ⟨_,c0,c1,c2,c3,c4,c5⟩:=bB H0.out.blk;obtain ⟨_,s0,s1,s2,_⟩:=aS HQ1.out;go_wp2_with fail;refine (HNT.out _).mono ?_;rintro e W1 ⟨rfl,hb1⟩;have HB1:=aA (HB.out.trans (hb1.mono HB.out.size));have H1:=aA (H0.out.below hb1);have P1:=aA (aE HQ1.out hb1 (aD HQ1.out));have P2:=aA (aE HQ2.out hb1 (aD HQ2.out));clear hb1 c0 c1 c2 c3 c4 c5 s0 s1 s2;obtain ⟨_,c0,c1,c2,c3,c4,c5⟩:=bB H1.out.blk;have f5:=aB H1.out.blk 5;obtain ⟨_,s0,s1,s2,_⟩:=aS P1.out;go_wp2_with fail;refine (HSZ.out _).mono ?_;rintro e _ ⟨rfl,rfl⟩;go_wp2_with fail;refine (HWI.out _).mono ?_;rintro e _ ⟨rfl,rfl⟩;have HX2:=aA ((Exw.refl rk rk W1.heap.size W1).setCell (p:=⟨rk,5,none⟩) (.inl rfl) (.bool true))
 have HS2:=aA (H1.out.keep HV.out HX2.out ((aN H1.out.blk 5 (.bool true)).trans rfl));have P22:=aA (bA P2.out (p:=⟨rk,5,none⟩) (by have:=HRK.out;show rk≠_;omega) (.bool true));go_upto_region 7 with (fail);clear c0 c1 c2 c3 c4 c5 f5 s0 s1 s2;generalize W1.setCell ⟨rk,5,none⟩ (.bool true)=W2 at *;obtain ⟨_,u0,u1,u2,u3⟩:=aF P22.out;have p0:=aB P22.out 0;have p1:=aB P22.out 1;have p2:=aB P22.out 2;have p3:=aB P22.out 3;go_wp2;refine aI (fun Wf=>Wf.heap[w.heap.size+1]?=some (.cells #[.int .u64 0,.slice none 0 0,.slice none 0 0,.bool false] 38 (0,0))∧P (.returned (.agg #[.int .u64 0,.slice none 0 0,.slice none 0 0,.bool false])) Wf) ⟨?_,?_⟩ ?_
 · exact aO P22.out _ _ _ _
 · rw [HP.out,HRES.out];have hx:Exw rk rk w.heap.size w W2:=(Exw.of_below HB1.out).trans (HX2.out.mono HB1.out.size);have hx4:=(((hx.setCell (p:=⟨w.heap.size+1,0,none⟩) (.inr (.inr (Nat.le_succ _))) (.int .u64 0)).setCell (p:=⟨w.heap.size+1,1,none⟩) (.inr (.inr (Nat.le_succ _))) (.slice none 0 0)).setCell (p:=⟨w.heap.size+1,2,none⟩) (.inr (.inr (Nat.le_succ _))) (.slice none 0 0)).setCell (p:=⟨w.heap.size+1,3,none⟩) (.inr (.inr (Nat.le_succ _))) (.bool false);exact ⟨hx4,.inr ⟨rfl,⟨_,rfl,dJ _ _ _ _ _ _ _ _⟩,rc,HLL.out.1,HLL.out.2,HH0.out.keep HV.out hx4 ((aQ W2 (by have:=HRK.out;omega) _ _ _ _).trans HS2.out.blk)⟩⟩
 · rintro Wf ⟨e1,e2⟩;obtain ⟨_,d0,d1,d2,d3⟩:=aF e1;exact dZ (v:=.agg #[.int .u64 0,.slice none 0 0,.slice none 0 0,.bool false]) (by simp [results,Tryd.results91,go_sem,d0,d1,d2,d3]) rfl e2
end Go.Proofs.YtpbaaiilfkacnaaDoor
