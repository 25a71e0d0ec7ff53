/-
  The document's writer of tables: a table and all that comes of it. Conditions: those that each theorem names.
-/
import Derived.Test.YtpbaaiilfkacnaaDoorPkQ40
namespace Go.Proofs.YtpbaaiilfkacnaaDoor
open Go.ChangeShapes Go.WideShapes Go.ChangeAt Go.RowKit Go.Shelf
set_option maxRecDepth 100000
set_option maxHeartbeats 16000000
def WtA (W:World)(th:List Bool)(n:Nat)(vc rc:Array Value)(last x:Value)(wr:World):Prop:=∃ (j:Nat) (l:List Bool),j≤n∧x=.int .i64 j∧last=.int .i64 (nR th j:Nat)∧l.length=n∧(∀ i,i<j→l.getD i false=th.getD i false)∧Below W.heap.size W wr∧wr.heap[W.heap.size]?=some (.cells vc 38 (0,0))∧wr.heap[W.heap.size+1]?=some (.cells rc 60 (0,0))∧wr.heap[W.heap.size+1+1]?=some (.cells (cE l).toArray 4 (0,0))
def LocR (W:World)(wk:Nat)(A:Option Addr)(base:Nat)(e:TypeId)(size:Nat)(v:Value)(n:Nat)(xs:List Value):Prop:=W.ownsRow base e size v n xs∧v.ownBlock≠some wk∧∀ k,v.ownBlock=some k→some k≠fV A
section
variable {W W':World} {wk base sz n:Nat} {A A':Option Addr} {e:TypeId} {v:Value} {xs:List Value}
theorem LocR.wx (h:LocR W wk A base e sz v n xs)(hx:Wx wk A A' W W'):LocR W' wk A' base e sz v n xs:=
 ⟨hx.ownsRow h.1 h.2.1 h.2.2,h.2.1,fun k hk=>hx.notrow (aV h.1 k hk).2 (h.2.2 k hk)⟩
theorem LocR.bel (h:LocR W wk A base e sz v n xs)(hb:Below W.heap.size W W'):LocR W' wk A base e sz v n xs:=⟨bE hb h.1,h.2⟩
theorem LocR.new {b0 cap:Nat}{sv ev:Value}{root:Int}{zs:List Int}(h:WrSt W b0 wk A cap sv ev root zs)(ho:W'.ownsRow base e sz v n xs)(hb:W.heap.size≤base):LocR W' wk A base e sz v n xs:=
 ⟨ho,fun hk=>by have h1:=(aV ho wk hk).1;have:=aD h.blk;omega,fun k hk hr=>by have h1:=(aV ho k hk).1;have:=(h.row k hr.symm).2;omega⟩
end
def WtB (b:Nat)(w0 W:World)(wk:Nat)(A:Option Addr)(sv ev:Value)(root:Int)(f:Nat→List Int)(ss:List (bK × Value))(es:List (aX × Value))(vc rc tc:Array Value)(pb:Nat)(pv:Value)(pl:List Int)(m:Nat)(x:Value)(wr:World):Prop:=∃ (j:Nat) (A':Option Addr) (c':Nat),j≤m∧x=.int .i64 j∧ECtx b w0 wr wk A' c' sv ev root (f j) ss es∧Loc wr wk A' W.heap.size (.cells vc 38 (0,0))∧Loc wr wk A' (W.heap.size+1) (.cells rc 60 (0,0))∧Loc wr wk A' (W.heap.size+1+1) (.cells tc 4 (0,0))∧LocR wr wk A' pb 3 1 pv pl.length (eO pl)∧Wx wk A A' W wr
def WtC (b:Nat)(w0 W:World)(wk:Nat)(A:Option Addr)(sv ev:Value)(root:Int)(z3:List Int)(ss:List (bK × Value))(es:List (aX × Value))(vc rc tc:Array Value)(pb:Nat)(pv:Value)(pl:List Int)(K:Nat)(wr:World):Prop:=∃ x,WtB b w0 W wk A sv ev root (fun i=>z3++aR i) ss es vc rc tc pb pv pl K x wr
theorem xD (r:Nat)(hN:∀ q,r=q+1→tH q):sM r:=by
 intro b w0 W wk A cap sv ev root zs ss es i v val a h hv hf hh ha hl;obtain ⟨q,rfl⟩:∃ q,r=q+1:=by
  cases r with
  | zero=>rw [fL,show aT 13 0=4 from rfl,hh,Bool.and_eq_true] at hf;have h2:fA (aG ss) (es.map Prod.fst) 0 i v.kids=true:=hf.2;unfold fA at h2;simp at h2
  | succ q=>exact ⟨q,rfl⟩
 have hN:=hN q rfl;have hi:i<ss.length:=by rw [fL,show aT 13 0=4 from rfl,hh,Bool.and_eq_true] at hf;have h2:fA (aG ss) (es.map Prod.fst) (q+1) i v.kids=true:=hf.2;unfold fA at h2;rw [Bool.and_eq_true] at h2;have h3:=(of_decide_eq_true h2.1).2;rw [nV,List.length_map,List.length_map] at h3;omega
 rw [nV] at hf;have hkE:=zF (S:=ss.map Prod.fst) (show i<(ss.map Prod.fst).length by rw [List.length_map];exact hi) (fun p hp=>by obtain ⟨p',hp',rfl⟩:=rX.1 hp;exact h.dfl p' hp') hh hf;rw [List.getElem_map] at hkE;have hrec:(uL (ss.map Prod.fst) (i:Int))=ss[i].1:=by rw [aDF (show i<(ss.map Prod.fst).length by rw [List.length_map];exact hi),List.getElem_map]
 have hsm:=h.sch.2 _ (jK hi);have hfr:=h.rows.fields _ (jK hi);obtain ⟨sg,scc,hsv,hsc1,hsgl,hscell⟩:=eP hZ 2 (fun _=>rfl) h.rows.structs i hi;subst hsv;have hr0:w0.cell? ⟨sg,i * 2,none⟩=some (.string ss[i].1.name):=hscell 0 (by omega);have hr1:w0.cell? ⟨sg,i * 2+1,none⟩=some ss[i].2:=hscell 1 (by omega);obtain ⟨fa,fc,hfv⟩:=aJ hfr;rw [hfv] at hr1 hfr;unfold lM at hl ⊢;simp only [hrec] at hl ⊢;obtain ⟨ba,ka,bc,kc,rfl,hn,hby,hbl,hbm,hkl,hkm,hkids⟩:=hv.form;obtain ⟨fs,hfs⟩:∃ fs,ss[i].1.fields=fs:=⟨_,rfl⟩;rw [hfs] at hkE hsm hr1 hfr hl ⊢;obtain ⟨rn,hrn⟩:∃ rn,ss[i].1.name=rn:=⟨_,rfl⟩;rw [hrn] at hr0;obtain ⟨th,hth⟩:∃ th,eJ fs v.kids=th:=⟨_,rfl⟩;have hthl:th.length=fs.length:=by rw [←hth];exact aBb ..
 have hkn:=hkE.len;have hthat:∀ j (hj:j<fs.length) (hk:j<v.kids.length),th.getD j false = !nU fs[j].dflt v.kids[j]:=fun j hj hk=>by rw [←hth];exact aB3 hj hk
 rw [hth] at hl ⊢;obtain ⟨n,hnf⟩:∃ n,fs.length=n:=⟨_,rfl⟩;have htf:=jS fs th 4 bD;have hal:=uQ fs th 4 bD;have hpla:=fun j hj=>aB2 fs th j hj;obtain ⟨last,hlast⟩:∃ last,nR th fs.length=last:=⟨_,rfl⟩;have hlle:last≤n:=by rw [←hlast,←hnf];exact tT ..
 -- the lists that the writer lays,one behind the other
 obtain ⟨z0,hz0⟩:∃ z0,cQ 2 zs=z0:=⟨_,rfl⟩;obtain ⟨g,hg⟩:∃ g:Nat→List Int→List Int,(fun i=>hI 2 ((bP fs th 4).pl.getD i 0))=g:=⟨_,rfl⟩;obtain ⟨y0,hy0⟩:∃ y0,hI 2 (bP fs th 4).size (hI 2 (4+2 * (last:Int)) z0)=y0:=⟨_,rfl⟩;have hhead:oP fs th zs=eK g y0 last:=by unfold oP;rw [hlast,hg,hz0,hy0]
 rw [hhead] at hl ⊢;obtain ⟨st,hst⟩:∃ st,bP fs th 4=st:=⟨_,rfl⟩;rw [hst] at htf hal hpla hg hy0 hl ⊢;obtain ⟨al,hal'⟩:∃ al:Nat,st.al=al:=⟨st.al.toNat,by omega⟩;obtain ⟨size,hsize⟩:∃ size:Nat,st.size=size:=⟨st.size.toNat,by omega⟩;rw [hal',lN,hsize,lN] at hl ⊢;rw [hsize] at htf hpla hy0;rw [hal'] at htf hal;obtain ⟨z1,hz1⟩:∃ z1,cQ al (eK g y0 last)=z1:=⟨_,rfl⟩;rw [hz0,hz1] at hl ⊢;obtain ⟨z2,hz2⟩:∃ z2,hI 4 ((z1.length:Int)-(z0.length:Int)) z1=z2:=⟨_,rfl⟩;rw [hz2] at hl ⊢;obtain ⟨z3,hz3⟩:∃ z3,kL a 4 ((z1.length:Int)-a) z2=z3:=⟨_,rfl⟩;rw [hz3] at hl ⊢;obtain ⟨f,hfd⟩:∃ f:Nat→List Int→List Int,(fun i=>yS (th.getD i false) (fJ (ss.map Prod.fst) (q+1) (fs.getD i ⟨⟨#[]⟩,0,0,0,0⟩).kind (fs.getD i ⟨⟨#[]⟩,0,0,0,0⟩).ref (fs.getD i ⟨⟨#[]⟩,0,0,0,0⟩).lists (v.kids.getD i (dY 0)) (z1.length+(st.pl.getD i 0).toNat)))=f:=⟨_,rfl⟩;rw [hfd] at hl ⊢
 -- how long they are
 have hzl0:zs.length≤z0.length:=by rw [←hz0];exact iK ..
 have hyl:y0.length=z0.length+4:=by rw [←hy0,bC,bC]
 have hgl:∀ j,(eK g y0 j).length=z0.length+4+2 * j:=fun j=>by
  induction j with
  | zero=>exact hyl
  | succ j ih=>show (g j (eK g y0 j)).length=_;rw [←hg];show (hI 2 _ (eK _ y0 j)).length=_;rw [bC,hg,ih];omega
 have hz1l:(eK g y0 last).length≤z1.length:=by rw [←hz1];exact iK ..
 have hz3l:z3.length=z1.length+4:=by rw [←hz3,bX,←hz2,bC]
 have hz2l:z2.length=z1.length+4:=by rw [←hz2,bC]
 have hfg:∀ i ys,ys.length≤(f i ys).length:=fun i ys=>by
  rw [←hfd];show ys.length≤(yS _ _ ys).length;unfold yS;split
  · exact hH _ _ _ _ _ _ _ _
  · exact Nat.le_refl _
 have hfin:z1.length+size≤(eK f (z3++aR (z1.length+size-z3.length)) n).length:=by refine eM ?_ (gU hfg _ _);rw [List.length_append,hz3l];unfold aR;rw [List.length_replicate];omega
 rw [hnf] at hl hthl hkn htf ⊢;have hn16:n≤16:=by rw [←hnf];exact hsm.1
 have hsz:4≤size∧size≤964:=by have h2:=htf.2.1;have h3:=htf.2.2.1;omega
 have hup:=fun j hj=>lZ hfg (z3++aR (z1.length+size-z3.length)) j n hj;rw [hnf] at hfr;have HROWF:=aA (fun j (hjf:j<fs.length)=>eP eV 5 (fun _=>rfl) (l:=fs) (by rw [hnf];exact hfr) j hjf)
 -- the kids
 have HKID:Hid (∀ j (hj:j<n) (hjf:j<fs.length),∃ (kb ko:Nat) (u0 u1 u2 u3:Value),ka=some ⟨kb,ko,none⟩∧w0.cell? ⟨kb,ko+j * 4,none⟩=some u0∧w0.cell? ⟨kb,ko+j * 4+1,none⟩=some u1∧w0.cell? ⟨kb,ko+j * 4+2,none⟩=some u2∧w0.cell? ⟨kb,ko+j * 4+3,none⟩=some u3 ∧
   (∀ W',Below w0.heap.size w0 W'→Calls Tryd.prog 35 #[.agg #[.string fs[j].name,.int .u8 fs[j].kind,.int .i64 fs[j].ref,.int .i64 fs[j].lists,.int .u64 fs[j].dflt],.agg #[u0,u1,u2,u3]] W' fun e w'=>e=.returned (.bool (!th.getD j false))∧Below W'.heap.size W' w') ∧
   (th.getD j false=true→∀ W' A' c' ys,ECtx b w0 W' wk A' c' (.slice (some ⟨sg,0,none⟩) ss.length scc) ev root ys ss es→z1.length+size≤ys.length→(f j ys).length≤70368744177664→Calls Tryd.prog 66 #[.pointer (some ⟨wk,0,none⟩),.agg #[.int .u8 fs[j].kind,.int .i64 fs[j].ref,.int .i64 fs[j].lists],.agg #[u0,u1,u2,u3],.int .i64 ((z1.length+(st.pl.getD j 0).toNat:Nat):Int)] W' (dR (.tuple #[]) w0.heap.size wk A' (.slice (some ⟨sg,0,none⟩) ss.length scc) ev root (f j ys) W'))):=aA (fun j hj hjf=>by
  have hjk:j<v.kids.length:=by omega
  obtain ⟨kb,ko,u0,u1,u2,u3,e1,c0,c1,c2,c3,hiv⟩:=hkids j hjk;have hfm:=jK (l:=fs) hjf;have htm:=hsm.2 _ hfm;refine ⟨kb,ko,u0,u1,u2,u3,e1,c0,c1,c2,c3,fun W' hW=>?_,fun hb W' A' c' ys hctx hpl hlen=>?_⟩
  · refine (aCB W' fs[j].name fs[j].kind fs[j].ref fs[j].lists fs[j].dflt (by have:=htm.2.1;omega) v.kids[j] _ (hiv.later hW)).mono ?_;rintro e w' ⟨⟨rb,rfl,hrb⟩,hbl⟩;refine ⟨?_,hbl⟩;have h5:=aAX fs[j].dflt v.kids[j];rw [hthat j hjf hjk,Bool.not_not];congr 2
    cases rb<;>cases hx:nU fs[j].dflt v.kids[j]<;>simp_all
  · have e3:f j ys=oL (ss.map Prod.fst) (fJ (ss.map Prod.fst) q) fs[j].kind (fs[j].ref:Nat) (fs[j].lists:Nat) v.kids[j] (z1.length+(st.pl.getD j 0).toNat) ys:=by
     rw [←hfd];show yS (th.getD j false) _ ys=_;rw [hb];show fJ (ss.map Prod.fst) (q+1) _ _ _ _ _ ys=_;rw [List.getD,iO hjf,Option.getD_some,List.getD,iO hjk,Option.getD_some];rfl
    rw [e3] at hlen ⊢;have hft:=hkE.fits j hjf hjk;rw [←nV] at hft;have hpj:=(hpla j hjf).2.2 hb;have e4:fs.getD j aDn=fs[j]:=by rw [List.getD,iO hjf,Option.getD_some]
    rw [e4,←zJ] at hpj;have h0:=(hpla j hjf).1;have hib:=sG fs[j];rw [←zJ] at hib;exact hN b w0 W' wk A' c' _ ev root ys ss es fs[j].kind fs[j].ref fs[j].lists v.kids[j] _ _ hctx hiv htm.1.lo htm.1.hi htm.1.li hft (fun h13 hl0=>hkE.has j hjf hjk (by have h6:=hthat j hjf hjk;rw [hb] at h6;simpa using h6.symm) h13 hl0) (by omega) hlen)
 have HTAB:=aA (fun (W':World) (tv:Value) (hbw:Below w0.heap.size w0 W') (ht:W'.ownsRow w0.heap.size 4 1 tv th.length (cE th))=>xT W' rn fs _ b (by rw [←hnf] at hfr;exact bE hbw hfr) (by omega) (fun x hx=>by have h5:=(hsm.2 x hx).1.hi;omega) th tv w0.heap.size ht (by rw [hthl,hnf]));rw [hnf] at HTAB;have hb0:=h.bel.size;have hr0W:=aC h.bel hr0;have hr1W:=aC h.bel hr1;obtain ⟨_,c0,c1,c2,c3⟩:=aF h.st.blk;have HST:=aA hst;have HFS:=aA hnf;have HSM:=aA hsm;have HTH:=aA hthl;have HTHAT:=aA hlast;have HH:=aA h;have HKC:=aA (show n≤kc by omega);have HLLE:=aA hlle;have HN16:=aA hn16;have HSZ:=aA hsz;have HAL:=aA hal;have HPLA:=aA hpla;have HZ0:=aA hz0;have HY0:=aA hy0;have HG:=aA hg;have HGL:=aA hgl;have HZ1:=aA hz1;have HZ2:=aA hz2;have HZ3:=aA hz3;have HL0:=aA hzl0;have HL1:=aA hz1l;have HL3:=aA hz3l;have HL2:=aA hz2l;have HFIN:=aA (cJ hfin hl);have HUP:=aA hup
 have HFG:=aA (fun j=>gU hfg (z3++aR (z1.length+size-z3.length)) j);have HA:=aA ha;have HFD:=aA hfd;have HPL:=aA htf.1;have HSE:=aA (cJ hal' hsize);have hiI:(i:Int)<(ss.length:Int):=by omega
 obtain ⟨P,hP⟩:∃ P,dR (.tuple #[]) w0.heap.size wk A (.slice (some ⟨sg,0,none⟩) ss.length scc) ev root (eK f (z3++aR (z1.length+size-z3.length)) n) W=P:=⟨_,rfl⟩;rw [hkn,hP];have HP:=aA hP.symm;have hmk:=aAI n (by omega);have hscI:ss.length≤scc:=hsc1;rw [hnf] at hr1W;have hsgW:sg<W.heap.size:=World.block_lt_of_cell? _ _ hr0W;clear hP h hv hf hh ha hl hN hkE hrec hsm hfr hsgl hscell hr0 hr1 hfv hn hby hbl hbm hkl hkm hkids hfs hrn hth hthl hthat htf hal hpla hlast hz0 hg hy0 hhead hst hal' hsize hz1 hz2 hz3 hfd hzl0 hyl hgl hz1l hz3l hz2l hfg hfin hup hb0 hlle hn16 hsz;go_enter Tryd.func40,Tryd.ntmps40;go_upto_region 3 with (fail)
 obtain ⟨hb3,hq1,hq2,hq3⟩:=hJ W #[.int .u64 v.num,.slice ba v.bytes.length bc,.slice ka n kc,.bool v.has] #[.string rn,.slice fa n fc] (cE (List.replicate n false)).toArray 38 60 4;have HST1:Hid (WtA W th n #[.int .u64 v.num,.slice ba v.bytes.length bc,.slice ka n kc,.bool v.has] #[.string rn,.slice fa n fc] (.int .i64 ((0:Nat):Int)) (.int .i64 ((0:Nat):Int)) (((W.alloc (.cells #[.int .u64 v.num,.slice ba v.bytes.length bc,.slice ka n kc,.bool v.has] 38)).alloc (.cells #[.string rn,.slice fa n fc] 60)).alloc (.cells (cE (List.replicate n false)).toArray 4))):=aA ⟨0,List.replicate n false,Nat.zero_le _,rfl,rfl,List.length_replicate,fun i hi=>absurd hi (Nat.not_lt_zero _),hb3,hq1,hq2,hq3⟩
 generalize ((W.alloc (.cells #[.int .u64 v.num,.slice ba v.bytes.length bc,.slice ka n kc,.bool v.has] 38)).alloc (.cells #[.string rn,.slice fa n fc] 60)).alloc (.cells (cE (List.replicate n false)).toArray 4)=W1 at *;clear hb3 hq1 hq2 hq3 c0 c1 c2 c3 hr0W hr1W hmk hiI hscI;go_wp2_with fail;go_loopw [10,11] (fun la x wr=>WtA W th n #[.int .u64 v.num,.slice ba v.bytes.length bc,.slice ka n kc,.bool v.has] #[.string rn,.slice fa n fc] la x wr) (fun _ x _=>n-(intOf x).toNat)
 case atStart=>exact HST1.out
 case round =>
  obtain ⟨j,l,hj,rfl,rfl,hll,hag,hbel,hV,hR,hT⟩:=hrel;have HV:=aA hV;have HR:=aA hR;have HT:=aA hT;have HB:=aA hbel;have HAG:=aA hag;have HLL:=aA hll;obtain ⟨_,v0,v1,v2,v3⟩:=aF hV;obtain ⟨_,r0,r1,_⟩:=mI hR;clear hag hbel hV hR hT hll;by_cases hjn:j<n
  · have hji:(j:Int)<(n:Int):=by omega
    have hjf:j<fs.length:=by have:=HFS.out;omega
    obtain ⟨kb,ko,u0,u1,u2,u3,hka,k0,k1,k2,k3,hdef,_⟩:=HKID.out j hjn hjf;have HDEF:=aA hdef;have HW0:=aA (HH.out.bel.trans (HB.out.mono HH.out.bel.size));have d0:=aC HW0.out k0;have d1:=aC HW0.out k1;have d2:=aC HW0.out k2;have d3:=aC HW0.out k3;obtain ⟨fg,fcc,hfe,hfc,hfgl,hfcell⟩:=HROWF.out j hjf;obtain ⟨hfa,rfl⟩:=dG hfe;have HFA:=aA hfa;have e0:=aC HW0.out (hfcell 0 (by omega));have e1:=aC HW0.out (hfcell 1 (by omega));have e2:=aC HW0.out (hfcell 2 (by omega));have e3:=aC HW0.out (hfcell 3 (by omega));have e4:=aC HW0.out (hfcell 4 (by omega));obtain ⟨x,hx⟩:∃ x,fs[j]=x:=⟨_,rfl⟩;rw [hx] at HDEF;simp only [hx] at e0 e1 e2 e3 e4;change _=some (Value.string x.name) at e0;change _=some (Value.int .u8 x.kind) at e1;change _=some (Value.int .i64 x.ref) at e2;change _=some (Value.int .i64 x.lists) at e3;change _=some (Value.int .u64 x.dflt) at e4;rw [Nat.add_zero] at e0;have hkc:n≤kc:=HKC.out
    have hfcI:n≤fc:=by have:=HFS.out;omega
    have htc:=mL HT.out j (by rw [HLL.out];exact hjn);have htf:=aB HT.out j;have HJN:=aA hjn;rw [hfa] at r1;clear k0 k1 k2 k3 hdef hfe hfc hfgl hfcell hx hfa htc;subst hka;obtain ⟨tb,htb⟩:∃ tb,th.getD j false=tb:=⟨_,rfl⟩;rw [htb] at HDEF;have HTB:=aA htb;clear htb;go_upto_region 7 with (fail);refine gL ?_
    refine eG 15 (fun _=>True) (fun w'=>w'.cell? ⟨W.heap.size+1,1,none⟩=some (.slice (some ⟨fg,0,none⟩) n fc)∧w'.cell? ⟨fg,j * 5,none⟩=some (.string x.name)∧w'.cell? ⟨fg,j * 5+1,none⟩=some (.int .u8 x.kind)∧w'.cell? ⟨fg,j * 5+2,none⟩=some (.int .i64 x.ref)∧w'.cell? ⟨fg,j * 5+3,none⟩=some (.int .i64 x.lists)∧w'.cell? ⟨fg,j * 5+4,none⟩=some (.int .u64 x.dflt)∧w'.cell? ⟨W.heap.size,2,none⟩=some (.slice (some ⟨kb,ko,none⟩) n kc)∧w'.cell? ⟨kb,ko+j * 4,none⟩=some (u0)∧w'.cell? ⟨kb,ko+j * 4+1,none⟩=some (u1)∧w'.cell? ⟨kb,ko+j * 4+2,none⟩=some (u2)∧w'.cell? ⟨kb,ko+j * 4+3,none⟩=some (u3)) (by kernel_rfl) ?_;have HBD:=aA ((bH wr.heap.size wr).drew);have hV:=cJ (aC HBD.out r1) (cJ (aC HBD.out e0) (cJ (aC HBD.out e1) (cJ (aC HBD.out e2) (cJ (aC HBD.out e3) (cJ (aC HBD.out e4) (cJ (aC HBD.out v2) (cJ (aC HBD.out d0) (cJ (aC HBD.out d1) (cJ (aC HBD.out d2) (aC HBD.out d3))))))))))
    have HSD:Hid (wr.drew.heap.size=wr.heap.size):=aA rfl;generalize wr.drew=V0 at *;have hU:True:=trivial;refine tt 0 (.slice (some ⟨W.heap.size+1+1,0,none⟩) n n) hU hV ?_ ?_
    · intro w' hSw;obtain ⟨_,⟨t0,t1,t2,t3,t4,t5,t6,t7,t8,t9,t10⟩⟩:=hSw;go_simp
    simp only [td];refine tt 1 (.int .i64 j) hU hV ?_ ?_
    · intro w' hSw;obtain ⟨_,⟨t0,t1,t2,t3,t4,t5,t6,t7,t8,t9,t10⟩⟩:=hSw;go_simp
    simp only [td];refine tt 2 (.pointer (some ⟨W.heap.size+1,1,none⟩)) hU hV ?_ ?_
    · intro w' hSw;obtain ⟨_,⟨t0,t1,t2,t3,t4,t5,t6,t7,t8,t9,t10⟩⟩:=hSw;go_simp
    simp only [td];refine tt 3 (.slice (some ⟨fg,0,none⟩) n fc) hU hV ?_ ?_
    · intro w' hSw;obtain ⟨_,⟨t0,t1,t2,t3,t4,t5,t6,t7,t8,t9,t10⟩⟩:=hSw;go_simp
    simp only [td];refine tt 4 (.int .i64 j) hU hV ?_ ?_
    · intro w' hSw;obtain ⟨_,⟨t0,t1,t2,t3,t4,t5,t6,t7,t8,t9,t10⟩⟩:=hSw;go_simp
    simp only [td];refine tt 5 (.pointer (some ⟨fg,j * 5,none⟩)) hU hV ?_ ?_
    · intro w' hSw;obtain ⟨_,⟨t0,t1,t2,t3,t4,t5,t6,t7,t8,t9,t10⟩⟩:=hSw;go_simp
    simp only [td];refine tt 6 (.agg #[.string x.name,.int .u8 x.kind,.int .i64 x.ref,.int .i64 x.lists,.int .u64 x.dflt]) hU hV ?_ ?_
    · intro w' hSw;obtain ⟨_,⟨t0,t1,t2,t3,t4,t5,t6,t7,t8,t9,t10⟩⟩:=hSw;go_simp
    simp only [td];refine tt 7 (.pointer (some ⟨W.heap.size,2,none⟩)) hU hV ?_ ?_
    · intro w' hSw;obtain ⟨_,⟨t0,t1,t2,t3,t4,t5,t6,t7,t8,t9,t10⟩⟩:=hSw;go_simp
    simp only [td];refine tt 8 (.slice (some ⟨kb,ko,none⟩) n kc) hU hV ?_ ?_
    · intro w' hSw;obtain ⟨_,⟨t0,t1,t2,t3,t4,t5,t6,t7,t8,t9,t10⟩⟩:=hSw;go_simp
    simp only [td];refine tt 9 (.int .i64 j) hU hV ?_ ?_
    · intro w' hSw;obtain ⟨_,⟨t0,t1,t2,t3,t4,t5,t6,t7,t8,t9,t10⟩⟩:=hSw;go_simp
    simp only [td];refine tt 10 (.pointer (some ⟨kb,ko+j * 4,none⟩)) hU hV ?_ ?_
    · intro w' hSw;obtain ⟨_,⟨t0,t1,t2,t3,t4,t5,t6,t7,t8,t9,t10⟩⟩:=hSw;go_simp
    simp only [td];refine tt 11 (.agg #[u0,u1,u2,u3]) hU hV ?_ ?_
    · intro w' hSw;obtain ⟨_,⟨t0,t1,t2,t3,t4,t5,t6,t7,t8,t9,t10⟩⟩:=hSw;go_simp
    simp only [td];refine cA (i:=12) (by kernel_rfl) rfl (fun K hK=>?_);rw [bG (by kernel_rfl)];go_simp;refine (HDEF.out V0 (HW0.out.trans (HBD.out.mono HW0.out.size))).mono ?_;rintro e V1 ⟨rfl,hb1⟩;have HB1:=aA (HBD.out.trans (hb1.mono HBD.out.size));have hV1:=cJ (aC HB1.out r1) (cJ (aC HB1.out e0) (cJ (aC HB1.out e1) (cJ (aC HB1.out e2) (cJ (aC HB1.out e3) (cJ (aC HB1.out e4) (cJ (aC HB1.out v2) (cJ (aC HB1.out d0) (cJ (aC HB1.out d1) (cJ (aC HB1.out d2) (aC HB1.out d3))))))))));refine hK.out _ _ trivial hV1 ?_;clear hK K hV hb1;have hV:=hV1;clear hV1;refine tt 13 (.bool tb) hU hV ?_ ?_
    · intro w' hSw;obtain ⟨_,⟨t0,t1,t2,t3,t4,t5,t6,t7,t8,t9,t10⟩⟩:=hSw;go_simp
    simp only [td];refine tt 14 (.pointer (some ⟨W.heap.size+1+1,j,none⟩)) hU hV ?_ ?_
    · intro w' hSw;obtain ⟨_,⟨t0,t1,t2,t3,t4,t5,t6,t7,t8,t9,t10⟩⟩:=hSw;go_simp
    simp only [td];have hT1:=aE HT.out HB1.out (iI HT.out);have m0:=mL hT1 j (by rw [HLL.out];exact HJN.out);have m0f:=aB hT1 j;have HT1:=aA (aCC hT1 j tb);clear hT1;refine eW (by kernel_rfl) rfl (fun K hK=>?_);rw [bG (by kernel_rfl)];go_simp;refine hK.out _ _ trivial ?_;clear hK K hV m0 m0f;refine eX (by kernel_rfl) ?_ _;refine fI ?_;try simp only [Exit.then]
    clear v0 v1 v2 v3 r0 r1 d0 d1 d2 d3 e0 e1 e2 e3 e4 htf;have hTW:(V1.setCell ⟨W.heap.size+1+1,j,none⟩ (.bool tb)).cell? ⟨W.heap.size+1+1,j,none⟩=some (.bool tb):=by have h5:=mL HT1.out j (by rw [List.length_set,HLL.out];exact HJN.out);rw [List.getD,List.getElem?_set_self (by rw [HLL.out];exact HJN.out),Option.getD_some] at h5;exact h5
    have HBN:=aA ((HB.out.trans (HB1.out.mono HB.out.size)).setCell (p:=⟨W.heap.size+1+1,j,none⟩) (by show W.heap.size≤W.heap.size+1+1;omega) (.bool tb));have HVN:=aA (bA (aE HV.out HB1.out (iI HV.out)) (p:=⟨W.heap.size+1+1,j,none⟩) (by show W.heap.size+1+1≠W.heap.size;omega) (.bool tb));have HRN:=aA (bA (aE HR.out HB1.out (iI HR.out)) (p:=⟨W.heap.size+1+1,j,none⟩) (by show W.heap.size+1+1≠W.heap.size+1;omega) (.bool tb));generalize V1.setCell ⟨W.heap.size+1+1,j,none⟩ (.bool tb)=W5 at *;have HAGN:Hid (∀ i,i<j+1→(l.set j tb).getD i false=th.getD i false):=aA (fun i hi=>by
     rcases Nat.lt_or_ge i j with h5|h5
     · rw [List.getD,List.getElem?_set_ne (by omega)];exact HAG.out i h5
     · obtain rfl:i=j:=by omega
       rw [List.getD,List.getElem?_set_self (by rw [HLL.out];exact HJN.out),Option.getD_some,HTB.out])
    have hj16:(j:Int)<1000:=by have:=HN16.out;have:=HJN.out;omega
    cases tb with
    | true =>
     go_wp2;go_roundw
     case rel=>exact ⟨j+1,l.set j true,HJN.out,by go_num,by rw [zG,HTB.out,bG rfl];go_num,by rw [List.length_set,HLL.out],HAGN.out,HBN.out,HVN.out,HRN.out,HT1.out⟩
     case measure=>simp [intOf];omega
    | false =>
     go_wp2;go_roundw
     case rel=>exact ⟨j+1,l.set j false,HJN.out,by go_num,by rw [zG,HTB.out,if_neg (by decide)],by rw [List.length_set,HLL.out],HAGN.out,HBN.out,HVN.out,HRN.out,HT1.out⟩
     case measure=>simp [intOf];omega
  · obtain rfl:n=j:=by omega
    have hji:¬(n:Int)<(n:Int):=by omega
    have hlth:l=th:=List.ext_getElem (by rw [HLL.out,HTH.out]) (fun i h1 h2=>by have h5:=HAG.out i (by rw [HLL.out] at h1;exact h1);rw [List.getD,iO h1,List.getD,iO h2] at h5;exact h5);rw [hlth] at HT;have hla:nR th n=last:=by rw [←HFS.out];exact HTHAT.out
    rw [hla];have HW0:=aA (HH.out.bel.trans (HB.out.mono HH.out.bel.size));have HT2:=aA (HTAB.out wr (.slice (some ⟨W.heap.size+1+1,0,none⟩) n n) HW0.out (aCi HT.out (by have:=HH.out.bel.size;omega) HTH.out (by have:=HN16.out;omega)));clear hlth hla hjn v0 v1 v2 v3 HAG HLL;go_wp2_with fail;refine HT2.out.mono ?_;rintro e W2 ⟨pv,rfl,hpo,hb2⟩;rw [HST.out] at hpo ⊢;rw [HSE.out.1,HSE.out.2];have MV2:=aA ((Loc.new HH.out.st bD HV.out).bel hb2);have MR2:=aA ((Loc.new HH.out.st (Nat.le_succ _) HR.out).bel hb2);have MT2:=aA ((Loc.new HH.out.st (lD (Nat.le_succ _)) HT.out).bel hb2);have MP2:=aA (LocR.new HH.out.st hpo HB.out.size);have hbb:=HB.out.trans (hb2.mono HB.out.size);have H2:=aA (HH.out.below hbb);have HX2:=aA (Wx.of_below (wk:=wk) A hbb);obtain ⟨pb,hpb⟩:∃ pb,wr.heap.size=pb:=⟨_,rfl⟩;rw [hpb] at MP2;clear hpo hb2 hbb hpb HV HR HT HB HW0 HT2 r0 r1 HTAB;go_wp2_with fail
    refine (jD W2 H2.out.st 2 (.inl rfl) (by have:=HFIN.out;have:=HL1.out;have:=HGL.out last;have:=HL0.out;omega) H2.out.bel.size).mono ?_;rintro e W3 hp;obtain ⟨A3,c3,rfl,h3,hx3⟩:=H2.out.post hp;rw [HZ0.out] at h3;have H3:=aA h3;have HX3:=aA (HX2.out.trans hx3);have MV3:=aA (MV2.out.wx hx3);have MR3:=aA (MR2.out.wx hx3);have MT3:=aA (MT2.out.wx hx3);have MP3:=aA (MP2.out.wx hx3);clear hp h3 hx3 H2 HX2 MV2 MR2 MT2 MP2;have hla16:(last:Int)≤16:=by have:=HLLE.out;have:=HN16.out;omega
    have hw1:=cU (2 * (last:Int));have hw2:=cU (4+2 * (last:Int));have hw3:=IntWalk.u64_in (4+2 * (last:Int)) ⟨by omega,by omega⟩;have hw4:=IntWalk.u64_in (size:Int) ⟨by omega,by have:=HSZ.out;omega⟩;go_wp2_with fail;refine (jI W3 H3.out.st 2 (4+2 * (last:Int)) (by decide) (by have:=HFIN.out;have:=HL1.out;have:=HGL.out last;have:=HL0.out;omega) H3.out.bel.size).mono ?_;rintro e W4 hp;obtain ⟨A4,c4,rfl,h4,hx4⟩:=H3.out.post hp;have H4:=aA h4;have HX4:=aA (HX3.out.trans hx4);have MV4:=aA (MV3.out.wx hx4);have MR4:=aA (MR3.out.wx hx4);have MT4:=aA (MT3.out.wx hx4);have MP4:=aA (MP3.out.wx hx4);clear hp h4 hx4 H3 HX3 MV3 MR3 MT3 MP3;go_wp2_with fail;refine (jI W4 H4.out.st 2 (size:Int) (by decide) (by rw [bC];have:=HFIN.out;have:=HL1.out;have:=HGL.out last;omega) H4.out.bel.size).mono ?_;rintro e W5 hp;obtain ⟨A5,c5,rfl,h5,hx5⟩:=H4.out.post hp;rw [HY0.out] at h5;have H5:=aA h5
    have HX5:=aA (HX4.out.trans hx5);have MV5:=aA (MV4.out.wx hx5);have MR5:=aA (MR4.out.wx hx5);have MT5:=aA (MT4.out.wx hx5);have MP5:=aA (MP4.out.wx hx5);clear hp h5 hx5 H4 HX4 MV4 MR4 MT4 MP4;clear hw1 hw2 hw3 hw4;have HST2:Hid (WtB b w0 W wk A (.slice (some ⟨sg,0,none⟩) ss.length scc) ev root (fun i=>eK g y0 i) ss es #[.int .u64 v.num,.slice ba v.bytes.length bc,.slice ka n kc,.bool v.has] #[.string rn,.slice fa n fc] (cE th).toArray pb pv st.pl last (.int .i64 ((0:Nat):Int)) W5):=aA ⟨0,A5,c5,Nat.zero_le _,rfl,H5.out,MV5.out,MR5.out,MT5.out,MP5.out,HX5.out⟩;clear H5 MV5 MR5 MT5 MP5 HX5;go_wp2_with fail
    go_loopw [16] (fun x wr=>WtB b w0 W wk A (.slice (some ⟨sg,0,none⟩) ss.length scc) ev root (fun i=>eK g y0 i) ss es #[.int .u64 v.num,.slice ba v.bytes.length bc,.slice ka n kc,.bool v.has] #[.string rn,.slice fa n fc] (cE th).toArray pb pv st.pl last x wr) (fun x _=>last-(intOf x).toNat)
    case atStart=>exact HST2.out
    case round =>
     obtain ⟨j,A6,c6,hj,rfl,h6,mv6,mr6,mt6,mp6,hx6⟩:=hrel;change ECtx b w0 wr wk A6 c6 _ ev root (eK g y0 j) ss es at h6;have H6:=aA h6;have HX6:=aA hx6;have MV6:=aA mv6;have MR6:=aA mr6;have MT6:=aA mt6;have MP6:=aA mp6;clear h6 hx6 mv6 mr6 mt6 mp6;by_cases hjn:j<last
     · have hji:(j:Int)<(last:Int):=by omega
       have hjp:j<st.pl.length:=by rw [HPL.out];have:=HLLE.out;omega
       have HJN:=aA hjn;obtain ⟨pg,pc,hpv,hpc,hpb',hpgl,hpcell⟩:=uZ MP6.out.1 j hjp rfl;have e0:=hpcell j hjp;have hpla:=HPLA.out j (by have:=HFS.out;have:=HLLE.out;omega);obtain ⟨pj,hpj⟩:∃ pj,st.pl.getD j 0=pj:=⟨_,rfl⟩;rw [hpj] at e0 hpla;have HPJ:=aA hpj;have hwu:=IntWalk.u64_in pj ⟨hpla.1,by have:=hpla.2.1;have:=HSZ.out;omega⟩;have hpI:(j:Int)<(st.pl.length:Int):=by omega
       clear hpcell hpla hpj hpb' hpgl;subst hpv;go_wp2_with fail;refine (jI wr H6.out.st 2 pj (by decide) (by rw [HGL.out];have:=HFIN.out;have:=HL1.out;have:=HGL.out last;have:=HJN.out;omega) H6.out.bel.size).mono ?_;rintro e W7 hp;obtain ⟨A7,c7,rfl,h7,hx7⟩:=H6.out.post hp;have H7:Hid (ECtx b w0 W7 wk A7 c7 (.slice (some ⟨sg,0,none⟩) ss.length scc) ev root (eK g y0 (j+1)) ss es):=aA (by
        show ECtx b w0 W7 wk A7 c7 _ ev root (g j (eK g y0 j)) ss es;have h8:hI 2 pj (eK g y0 j)=g j (eK g y0 j):=by rw [←HPJ.out,←HG.out]
        rw [←h8];exact h7)
       have HX7:=aA (HX6.out.trans hx7);have MV7:=aA (MV6.out.wx hx7);have MR7:=aA (MR6.out.wx hx7);have MT7:=aA (MT6.out.wx hx7);have MP7:=aA (MP6.out.wx hx7);clear hp h7 hx7;have hj16:(j:Int)≤16:=by have:=HLLE.out;have:=HN16.out;omega
       go_wp2;go_roundw
       case rel=>exact ⟨j+1,A7,c7,HJN.out,by go_num,H7.out,MV7.out,MR7.out,MT7.out,MP7.out,HX7.out⟩
       case measure=>simp [intOf];omega
     · obtain rfl:last=j:=by omega
       have hji:¬(last:Int)<(last:Int):=by omega
       clear hjn;go_wp2_with fail;refine (jD wr H6.out.st al (by have:=HAL.out;omega) (by have:=HFIN.out;have:=HL1.out;omega) H6.out.bel.size).mono ?_;rintro e W7 hp;obtain ⟨A7,c7,rfl,h7,hx7⟩:=H6.out.post hp;rw [HZ1.out] at h7;have H7:=aA h7;have HX7:=aA (HX6.out.trans hx7);have MV7:=aA (MV6.out.wx hx7);have MR7:=aA (MR6.out.wx hx7);have MT7:=aA (MT6.out.wx hx7);have MP7:=aA (MP6.out.wx hx7);clear hp h7 hx7 H6 HX6 MV6 MR6 MT6 MP6;obtain ⟨_,_,_,_,c3⟩:=aF H7.out.st.blk;have hcp:=H7.out.st.few;have hb1:z0.length≤z1.length∧z1.length≤70368744177664:=by have:=HFIN.out;have:=HL1.out;have:=HGL.out last;omega
       have hb2:a+4≤z1.length:=by have:=HA.out;have:=HL0.out;omega
       have hw1:=cU ((z1.length:Int)-(z0.length:Int));have hw2:=IntWalk.u64_in ((z1.length:Int)-(z0.length:Int)) ⟨by omega,by omega⟩;have hw3:=cU ((z1.length:Int)-(a:Int));have hw4:=IntWalk.u64_in ((z1.length:Int)-(a:Int)) ⟨by omega,by omega⟩;have HB12:=aA (cJ hb1 hb2);go_wp2_with fail;refine (jI W7 H7.out.st 4 ((z1.length:Int)-(z0.length:Int)) (by decide) hb1.2 H7.out.bel.size).mono ?_;rintro e W8 hp;obtain ⟨A8,c8,rfl,h8,hx8⟩:=H7.out.post hp;rw [HZ2.out] at h8;have H8:=aA h8;have HX8:=aA (HX7.out.trans hx8);have MV8:=aA (MV7.out.wx hx8);have MR8:=aA (MR7.out.wx hx8);have MT8:=aA (MT7.out.wx hx8);have MP8:=aA (MP7.out.wx hx8);clear hp h8 hx8 H7 HX7 MV7 MR7 MT7 MP7;clear c3 hcp;go_wp2_with fail;refine (mA W8 H8.out.st a 4 ((z1.length:Int)-(a:Int)) (by decide) (by rw [HL2.out];omega) (by rw [HL2.out];have:=HFIN.out;have:=HSZ.out;omega) H8.out.bel.size).mono ?_;rintro e W9 hp
       obtain ⟨A9,c9,rfl,h9,hx9⟩:=H8.out.post hp;rw [HZ3.out] at h9;have H9:=aA h9;have HX9:=aA (HX8.out.trans hx9);have MV9:=aA (MV8.out.wx hx9);have MR9:=aA (MR8.out.wx hx9);have MT9:=aA (MT8.out.wx hx9);have MP9:=aA (MP8.out.wx hx9);clear hp h9 hx9 H8 HX8 MV8 MR8 MT8 MP8;clear hw1 hw2 hw3 hw4 hb1 hb2;obtain ⟨KZ,hK⟩:∃ KZ,z1.length+size-z3.length=KZ:=⟨_,rfl⟩;have HKL:Hid (z3.length+KZ=z1.length+size):=aA (by have:=HL3.out;have:=HSZ.out;omega);rw [hK] at HFIN HUP HFG HP;clear hK;have HST3:Hid (WtC b w0 W wk A (.slice (some ⟨sg,0,none⟩) ss.length scc) ev root z3 ss es #[.int .u64 v.num,.slice ba v.bytes.length bc,.slice ka n kc,.bool v.has] #[.string rn,.slice fa n fc] (cE th).toArray pb pv st.pl KZ W9):=aA ⟨_,0,A9,c9,Nat.zero_le _,rfl,by show ECtx b w0 W9 wk A9 c9 _ ev root (z3++aR 0) ss es;rw [show z3++aR 0=z3 from List.append_nil _];exact H9.out,MV9.out,MR9.out,MT9.out,MP9.out,HX9.out⟩
       clear H9 MV9 MR9 MT9 MP9 HX9;go_wp2_with fail;go_loopw [] (fun wr=>WtC b w0 W wk A (.slice (some ⟨sg,0,none⟩) ss.length scc) ev root z3 ss es #[.int .u64 v.num,.slice ba v.bytes.length bc,.slice ka n kc,.bool v.has] #[.string rn,.slice fa n fc] (cE th).toArray pb pv st.pl KZ wr) (fun wr=>z3.length+KZ-uX (wr.cell? ⟨wk,3,none⟩))
       case atStart=>exact HST3.out
       case round =>
        obtain ⟨_,j,A10,c10,hj,rfl,h10,mv10,mr10,mt10,mp10,hx10⟩:=hrel;change ECtx b w0 wr wk A10 c10 _ ev root (z3++aR j) ss es at h10;have H10:=aA h10;have HX10:=aA hx10;have MV10:=aA mv10;have MR10:=aA mr10;have MT10:=aA mt10;have MP10:=aA mp10;have hlen:(z3++aR j).length=z3.length+j:=by simp [aR]
        obtain ⟨_,_,_,_,c3⟩:=aF h10.st.blk;rw [hlen] at c3;have hcp:=h10.st.few;rw [hlen] at hcp;have HLEN:=aA hlen;clear h10 hx10 mv10 mr10 mt10 mp10 hlen;have hbT:z1.length+size≤70368744177664:=by have:=HFIN.out;omega
        have hkl:=HKL.out;have hwT:=cU ((z1.length:Int)+(size:Int));obtain ⟨m,hm⟩:∃ m,z3.length+j=m:=⟨_,rfl⟩;rw [hm] at c3 hcp;have HM:=aA hm;by_cases hjK:j<KZ
        · have hji:(m:Int)<(z1.length:Int)+(size:Int):=by omega
          have hbig:m≤70368744177680:=by omega
          have HJK:=aA hjK;obtain ⟨i0,hi0,hzz0,hzz1,hzz2⟩:=info_parts gT;have I1:=aA hi0;have I2:=aA hzz0;have I3:=aA hzz1;have I4:=aA hzz2;have HBN:=aA (cN wr (.cells #[.int .u8 0] 5));have HBA:=aA ((bH wr.heap.size wr).alloc bD (.cells #[.int .u8 0] 5));have hown:=H10.out.st.own;unfold kV at hown;rw [HLEN.out,hm] at hown;have HUA:=aA (bE HBA.out hown);have HBB:=aA H10.out.bel.size;clear hm hi0 hzz0 hzz1 hzz2 hjK hown hkl hbT
          go_wp2_with (at_builtin;refine wpList_append_own_at _ rfl (.tmp 123) (.tmp 124) 22 rfl w0.heap.size 5 i0 _ 1 1 Tryd.underlying22 I1.out I2.out I3.out I4.out rfl (by decide) _ m (eI (z3++aR j)) rfl HUA.out _ 1 1 [.int .u8 0] rfl rfl (World.news_of_block HBN.out) (by intro u hu;rw [List.mem_singleton.1 hu];rfl) (by unfold maxLen;omega) (by omega) (by have:=HBB.out;simp;omega) ?_;intro v4 W8 hown4 hg4 hx hat4;clear hx;have hap:=pZ (news:=[0]) (A:=A10) (cap:=c10) (n:=m) H10.out.st HBA.out rfl hg4 (show (z3++aR j).length+1=m+1 by rw [HLEN.out,HM.out]) (by simpa [eI] using hown4) hat4 (by intro z hz;rw [List.mem_singleton.1 hz];decide);clear hown4 hg4 hat4;obtain ⟨A7,cap7,rfl,h8,hs7,hx7⟩:=hap;obtain ⟨_,d0,d1,d2,d3⟩:=aF h8;have e3:=aB h8 3;have S7:=aA hs7;have X7:=aA hx7;clear h8 hs7 hx7);go_roundw
          case rel =>
           exact ⟨_,j+1,A7,cap7,HJK.out,rfl,by show ECtx b w0 _ wk A7 cap7 _ ev root (z3++aR (j+1)) ss es;rw [←pB];exact H10.out.step S7.out X7.out,MV10.out.wx X7.out,MR10.out.wx X7.out,MT10.out.wx X7.out,MP10.out.wx X7.out,HX10.out.trans X7.out⟩
          case measure =>
           have h1:=(aF S7.out.blk).2.2.2.2;have h2:=(aF H10.out.st.blk).2.2.2.2;rw [h1,h2];simp only [uX];have h3:=HLEN.out;have h4:=HJK.out;have h5:(z3++aR j++[0]).length=z3.length+j+1:=by rw [List.length_append,h3];rfl
           omega
        · obtain rfl:KZ=j:=by omega
          have hji:¬(m:Int)<(z1.length:Int)+(size:Int):=by omega
          clear hm hjK;have HST4:Hid (WtB b w0 W wk A (.slice (some ⟨sg,0,none⟩) ss.length scc) ev root (fun i=>eK f (z3++aR KZ) i) ss es #[.int .u64 v.num,.slice ba v.bytes.length bc,.slice ka n kc,.bool v.has] #[.string rn,.slice fa n fc] (cE th).toArray pb pv st.pl n (.int .i64 ((0:Nat):Int)) wr):=aA ⟨0,A10,c10,Nat.zero_le _,rfl,H10.out,MV10.out,MR10.out,MT10.out,MP10.out,HX10.out⟩;clear H10 MV10 MR10 MT10 MP10 HX10 HLEN;go_wp2_with fail;clear c3 hcp hwT hji hbT hkl;go_loopw [18] (fun x wr=>WtB b w0 W wk A (.slice (some ⟨sg,0,none⟩) ss.length scc) ev root (fun i=>eK f (z3++aR KZ) i) ss es #[.int .u64 v.num,.slice ba v.bytes.length bc,.slice ka n kc,.bool v.has] #[.string rn,.slice fa n fc] (cE th).toArray pb pv st.pl n x wr) (fun x _=>n-(intOf x).toNat)
          case atStart=>exact HST4.out
          case round =>
           obtain ⟨j,A11,c11,hj,rfl,h11,mv11,mr11,mt11,mp11,hx11⟩:=hrel;change ECtx b w0 wr wk A11 c11 _ ev root (eK f (z3++aR KZ) j) ss es at h11;have H11:=aA h11;have HX11:=aA hx11;have MV11:=aA mv11;have MR11:=aA mr11;have MT11:=aA mt11;have MP11:=aA mp11;obtain ⟨_,v0,v1,v2,v3⟩:=aF mv11.1;obtain ⟨_,r0,r1,_⟩:=mI mr11.1;clear h11 hx11 mv11 mr11 mt11 mp11;by_cases hjn:j<n
           · have hji:(j:Int)<(n:Int):=by omega
             have hjf:j<fs.length:=by have:=HFS.out;omega
             have HJN:=aA hjn;obtain ⟨kb,ko,u0,u1,u2,u3,hka,k0,k1,k2,k3,_,hcall⟩:=HKID.out j hjn hjf;have D0:=aA (cJ k0 (cJ k1 (cJ k2 k3)));obtain ⟨fg,fcc,hfe,hfc,hfgl,hfcell⟩:=HROWF.out j hjf;obtain ⟨hfa,rfl⟩:=dG hfe;obtain ⟨x,hx⟩:∃ x,fs[j]=x:=⟨_,rfl⟩;rw [hx] at hcall;have e0:=hfcell 0 (by omega);have e1:=hfcell 1 (by omega);have e2:=hfcell 2 (by omega);have e3:=hfcell 3 (by omega);simp only [hx] at e0 e1 e2 e3;change _=some (Value.string x.name) at e0;change _=some (Value.int .u8 x.kind) at e1;change _=some (Value.int .i64 x.ref) at e2;change _=some (Value.int .i64 x.lists) at e3;have DF:=aA (cJ e0 (cJ e1 (cJ e2 e3)));have hkc:n≤kc:=HKC.out;have hfcI:n≤fc:=by have:=HFS.out;omega
             have htc:=mL MT11.out.1 j (by rw [HTH.out];exact hjn);rw [hfa] at r1;have hjp:j<st.pl.length:=by rw [HPL.out];exact hjn
             obtain ⟨pg,pc,hpv,hpc,hpb',hpgl,hpcell⟩:=uZ MP11.out.1 j hjp rfl;have p0:=hpcell j hjp;have HPG:Hid (pg≠wk∧some pg≠fV A11):=aA (by have h5:=MP11.out.2;rw [hpv] at h5;exact ⟨fun e=>h5.1 (by rw [e];rfl),h5.2 pg rfl⟩);have hpla:=HPLA.out j hjf;have HFGJ:=aA (HFG.out j);obtain ⟨pj,hpj⟩:∃ pj,st.pl.getD j 0=pj:=⟨_,rfl⟩;rw [hpj] at p0 hpla hcall;have HPB:=aA hpla;have hwp:=IntWalk.i64_in ((z1.length:Int)+pj) ⟨by have:=hpla.1;omega,by have:=hpla.2.1;have:=HSZ.out;have:=HFIN.out;omega⟩;have hpI:(j:Int)<(st.pl.length:Int):=by omega
             have d0:=aC H11.out.bel k0;have d1:=aC H11.out.bel k1;have d2:=aC H11.out.bel k2;have d3:=aC H11.out.bel k3;have f1:=aC H11.out.bel e1;have f2:=aC H11.out.bel e2;have f3:=aC H11.out.bel e3;clear k0 k1 k2 k3 hfe hfc hfgl hfcell hx hfa e0 e1 e2 e3 hpcell hpla hpj hpb' hpgl;subst hka;subst hpv;obtain ⟨tb,htb⟩:∃ tb,th.getD j false=tb:=⟨_,rfl⟩;rw [htb] at hcall htc;have HCALL:=aA hcall;have HTB:=aA htb;have hj16:(j:Int)<1000:=by have:=HN16.out;omega
             clear hcall htb;cases tb with
             | true =>
              go_upto_region 27 with (fail);have s0:=r1;have s1:=f1;have s2:=f2;have s3:=f3;have s4:=v2;have s5:=d0;have s6:=d1;have s7:=d2;have s8:=d3;have s9:=p0;clear r0 r1 f1 f2 f3 v0 v1 v2 v3 d0 d1 d2 d3 p0 htc;refine gL ?_;refine aFn s0 s1 s2 s3 s4 s5 s6 s7 s8 s9 ?_;intro hS;refine aK 0 (.pointer (some ⟨wk,0,none⟩)) ?_;simp only [td];refine aK 1 (.pointer (some ⟨W.heap.size+1,1,none⟩)) ?_;simp only [td];refine aK 2 (.slice (some ⟨fg,0,none⟩) n fc) ?_;simp only [td];refine aK 3 (.int .i64 j) ?_;simp only [td];refine aK 4 (.pointer (some ⟨fg,j * 5,none⟩)) ?_;simp only [td];refine aK 5 (.pointer (some ⟨fg,j * 5+1,none⟩)) ?_;simp only [td];refine aK 6 (.agg #[.int .u8 x.kind,.int .i64 x.ref,.int .i64 x.lists]) ?_;simp only [td];refine aK 7 (.pointer (some ⟨W.heap.size,2,none⟩)) ?_;simp only [td];refine aK 8 (.slice (some ⟨kb,ko,none⟩) n kc) ?_;simp only [td]
              refine aK 9 (.int .i64 j) ?_;simp only [td];refine aK 10 (.pointer (some ⟨kb,ko+j * 4,none⟩)) ?_;simp only [td];refine aK 11 (.agg #[u0,u1,u2,u3]) ?_;simp only [td];refine aK 12 (.int .i64 z1.length) ?_;simp only [td];refine aK 13 (.slice (some ⟨pg,0,none⟩) st.pl.length pc) ?_;simp only [td];refine aK 14 (.int .i64 j) ?_;simp only [td];refine aK 15 (.pointer (some ⟨pg,j,none⟩)) ?_;simp only [td];refine aK 16 (.int .i64 pj) ?_;simp only [td];refine aK 17 (.int .i64 ((z1.length:Int)+pj)) ?_;simp only [td];refine bS 18 fun K hK=>?_;go_simp;have HCA:=HCALL.out rfl wr.drew A11 c11 (eK f (z3++aR KZ) j) (H11.out.below (bH _ _).drew) (by have h5:=HFG.out j;rw [List.length_append,show (aR KZ).length=KZ from by simp [aR]] at h5;have:=HKL.out;omega) (eM (HUP.out (j+1) HJN.out) HFIN.out.2);rw [show ((z1.length+pj.toNat:Nat):Int)=(z1.length:Int)+pj from by have:=HPB.out.1;omega] at HCA
              refine HCA.mono ?_;rintro e W12 hp;obtain ⟨A12,c12,rfl,h12,hx12⟩:=(H11.out.below (bH _ _).drew).post hp;have hxx:=(Wx.of_below (wk:=wk) A11 (bH wr.heap.size wr).drew).trans hx12;have H12:=aA h12;have HX12:=aA (HX11.out.trans hxx);have MV12:=aA (MV11.out.wx hxx);have MR12:=aA (MR11.out.wx hxx);have MT12:=aA (MT11.out.wx hxx);have MP12:=aA (MP11.out.wx hxx);refine hK.out _ _ ⟨hxx.cell s0 MR11.out.2.1 MR11.out.2.2,aC h12.bel DF.out.2.1,aC h12.bel DF.out.2.2.1,aC h12.bel DF.out.2.2.2,(aF MV12.out.1).2.2.2.1,aC h12.bel D0.out.1,aC h12.bel D0.out.2.1,aC h12.bel D0.out.2.2.1,aC h12.bel D0.out.2.2.2,hxx.cell s9 HPG.out.1 HPG.out.2⟩ (fun hS=>?_);clear hxx hp h12 hx12 hS s0 s1 s2 s3 s4 s5 s6 s7 s8 s9;refine gA (by kernel_rfl) ?_ _;refine fI ?_;try simp only [Exit.then]
              go_wp2;go_roundw
              case rel=>exact ⟨j+1,A12,c12,HJN.out,by go_num,H12.out,MV12.out,MR12.out,MT12.out,MP12.out,HX12.out⟩
              case measure=>simp [intOf];omega
             | false =>
              have hskip:∀ ys,f j ys=ys:=fun ys=>by rw [←HFD.out];show yS (th.getD j false) _ ys=ys;rw [HTB.out];rfl
              have HSKIP:=aA hskip;clear d0 d1 d2 d3 f1 f2 f3 p0 hskip;go_wp2;go_roundw
              case rel=>exact ⟨j+1,A11,c11,HJN.out,by go_num,by show ECtx b w0 wr wk A11 c11 _ ev root (f j (eK f (z3++aR KZ) j)) ss es;rw [HSKIP.out];exact H11.out,MV11.out,MR11.out,MT11.out,MP11.out,HX11.out⟩
              case measure=>simp [intOf];omega
           · obtain rfl:n=j:=by omega
             have hji:¬(n:Int)<(n:Int):=by omega
             go_wp2;first|refine bodyPost_end (v:=.tuple #[]) (by simp [results,Tryd.results40,go_sem]) rfl ?_|refine dZ (v:=.tuple #[]) (by simp [results,Tryd.results40,go_sem]) rfl ?_
             rw [HP.out];exact ⟨rfl,A11,c11,H11.out.st,HX11.out⟩
end Go.Proofs.YtpbaaiilfkacnaaDoor
