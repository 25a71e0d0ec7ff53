/-
  Package flatread: a new message of a schema. Conditions: those that each theorem names.
-/
import Derived.Test.YtpbaaiilfkacnaaDoorPkQ34
namespace Go.Proofs.YtpbaaiilfkacnaaDoor
open Go.ChangeShapes Go.WideShapes Go.ChangeAt Go.RowKit Go.Shelf
set_option maxRecDepth 100000
set_option maxHeartbeats 16000000
def aF6 (K:Nat)(W3:World)(xs:List SFld)(x:Value)(W:World):Prop:=∃ i:Nat,i≤xs.length∧x=.int .i64 i∧Exc K W3.heap.size W3 W∧W.heap[K]?=some (.cells (uR (((xs.map cF).take i).map mf5++List.replicate (xs.length-i) mK)).toArray 180 (0,0))
def aF9 (D:Nat)(W1:World)(ss:List (bK × Value))(bsl:Value)(x:Value)(W:World):Prop:=∃ (j:Nat) (A:Option Addr) (cap:Nat) (fs:List (List dT × Value)),j≤ss.length∧x=.int .i64 j∧Exc D W1.heap.size W1 W∧W.heap[D]?=some (.cells #[bsl,.slice A j cap,.slice none 0 0] 176 (0,0)) ∧
 W.ownsRow W1.heap.size 177 1 (.slice A j cap) j (iY fs)∧fs.map Prod.fst=(ss.take j).map (fun q=>(cR q.1).fields)∧∀ q ∈ fs,W.ownsRow W1.heap.size 180 5 q.2 q.1.length (iR q.1)
def aGh (D:Nat)(W1:World)(es:List (aX × Value))(bsl sv:Value)(x:Value)(W:World):Prop:=∃ (j:Nat) (A:Option Addr) (cap:Nat),j≤es.length∧x=.int .i64 j∧Exc D W1.heap.size W1 W∧W.heap[D]?=some (.cells #[bsl,sv,.slice A j cap] 176 (0,0)) ∧
 W.ownsRow W1.heap.size 3 1 (.slice A j cap) j (jY ((es.take j).map fun c=>c.1.names.length))
theorem aAs {W:World}{b1 b2 s1 s2 n1 n2:Nat}{e1 e2:TypeId}{v1 v2:Value}{x1 x2:List Value}(h1:W.ownsRow b1 e1 s1 v1 n1 x1)(h2:W.ownsRow b2 e2 s2 v2 n2 x2)(hne:e1≠e2)(k:Nat)(hk:v1.ownBlock=some k):v2.ownBlock≠some k:=by
 obtain ⟨_,h1'⟩:=h1;rcases h1' with ⟨h3,_⟩|⟨g,cap,cur,rfl,_,hg,_⟩
 · rw [h3] at hk;cases hk
 · have e:g=k:=by injection hk
   subst e;exact cY h2 hg hne
theorem aCp (fl:List SFld)(i:Nat)(hi:i<fl.length)(f:SFld)(hf:fl[i]=f):(((fl.map cF).take i).map mf5++List.replicate (fl.length-i) mK).set i ⟨.int .u8 f.kind,.int .i64 f.ref,.int .i64 f.lists,.int .i64 (gW ⟨f.name,f.kind,f.ref,f.lists,f.dflt⟩),.int .u64 f.dflt⟩=((fl.map cF).take (i+1)).map mf5++List.replicate (fl.length-(i+1)) mK:=by
 have h:=aDB (fl.map cF) i (by rw [List.length_map];exact hi);simp only [List.length_map,List.getElem_map,hf] at h;rw [←h];congr 1
 show _=F5.mk _ _ _ (.int .i64 (gK f.kind (f.lists:Nat))) _;rw [←vN f];rfl
theorem aCu {w w':World}{b1 b2 s1 s2 n1 n2:Nat}{e1 e2:TypeId}{v1 v2:Value}{x1 x2:List Value}(h1:w.ownsRow b1 e1 s1 v1 n1 x1)(hg:w.grownBy w' v1.ownBlock)(h2:w.ownsRow b2 e2 s2 v2 n2 x2)(hne:e1≠e2):w'.ownsRow b2 e2 s2 v2 n2 x2:=by
 cases hk:v1.ownBlock with
 | none=>exact ((Exc.refl w.heap.size w.heap.size w).grown hg bD (fun k h=>by rw [hk] at h;cases h)).ownsRow h2 (fun e=>by have:=(aV h2 _ e).2;omega)
 | some k=>exact ((Exc.refl k w.heap.size w).grown hg bD (fun k' h=>.inr (by rw [hk] at h;injection h with h;exact h.symm))).ownsRow h2 (aAs h1 h2 hne k hk)
theorem aEl:(Tryd.prog.info? 177).map (fun i=>(i.zero,i.size,i.bytes))=some (some (.slice none 0 0),1,24):=by kernel_rfl
theorem aCy:(Tryd.prog.info? 3).map (fun i=>(i.zero,i.size,i.bytes))=some (some (.int .i64 0),1,8):=by kernel_rfl
theorem aDJ (w:World){base:Nat}{ss:List (bK × Value)}{es:List (aX × Value)}{sv ev:Value}(root:Int){bp:Option Addr}{bc:Nat}{zs:List Int}(h:SchRows base w ss es sv ev)(hS:jP ss (es.map Prod.fst))(hE:es.length≤1000000∧∀ q ∈ es,q.1.names.length≤1000000)(hz:Bytes w bp zs)(hl:zs.length≤16384)(hc:zs.length≤bc) :
  Calls Tryd.prog 58 #[.agg #[sv,ev,.int .i64 root],.slice bp zs.length bc] w fun e w'=>(∃ m sv' ev' fs ns,e=.returned (.pointer (some ⟨m,0,none⟩))∧w.heap.size≤m∧MsgOf w.heap.size w' m bp bc sv' ev' zs ss (es.map Prod.fst) fs ns)∧Below w.heap.size w w':=by
 obtain ⟨sa,sc,hsv⟩:=aJ h.structs;obtain ⟨ea,ec,hev⟩:=aJ h.enums;subst hsv hev;obtain ⟨hb,hq1,hq2⟩:=bF w #[.slice sa ss.length sc,.slice ea es.length ec,.int .i64 root] #[.slice bp zs.length bc,.slice none 0 0,.slice none 0 0] 31 176;have HB:=aA hb;have HQ1:=aA hq1;have HQ2:=aA hq2;have HH:=aA h;have HSM:=aA hS;have HEE:=aA hE;have HZ:=aA hz;have HLC:=aA (cJ hl hc);have HSZ:Hid (((w.alloc (.cells #[.slice sa ss.length sc,.slice ea es.length ec,.int .i64 root] 31)).alloc (.cells #[.slice bp zs.length bc,.slice none 0 0,.slice none 0 0] 176)).heap.size=w.heap.size+2):=aA (by simp);clear hb hq1 hq2 h hS hE hz hl hc;go_enter Tryd.func58,Tryd.ntmps58;go_upto_region 2 with (fail)
 generalize (w.alloc (.cells #[.slice sa ss.length sc,.slice ea es.length ec,.int .i64 root] 31)).alloc (.cells #[.slice bp zs.length bc,.slice none 0 0,.slice none 0 0] 176)=W1 at *;have HSR:Hid (∀ W,Exc (w.heap.size+1) W1.heap.size W1 W→SchRows base W ss es (.slice sa ss.length sc) (.slice ea es.length ec)):=aA (fun W hx=>by
  have hh:=HH.out.below HB.out;have hn:∀ {e:TypeId} {s:Nat} {v:Value} {n:Nat} {xs:List Value},w.ownsRow base e s v n xs→v.ownBlock≠some (w.heap.size+1):=fun h1 h2=>by have h3:=(aV h1 _ h2).2;omega
  exact ⟨hx.ownsRow hh.structs (hn HH.out.structs),hx.ownsRow hh.enums (hn HH.out.enums),fun q hq=>hx.ownsRow (hh.fields q hq) (hn (HH.out.fields q hq)),fun q hq=>hx.ownsRow (hh.names q hq) (hn (HH.out.names q hq))⟩)
 have HS1:Hid (∀ W,Exc (w.heap.size+1) W1.heap.size W1 W→W.heap[w.heap.size]?=some (.cells #[.slice sa ss.length sc,.slice ea es.length ec,.int .i64 root] 31 (0,0))):=aA (fun W hx=>aZ HQ1.out hx (aD HQ1.out) (by omega));obtain ⟨D,hD⟩:∃ D,w.heap.size+1=D:=⟨_,rfl⟩;rw [hD] at HQ2 HSR HS1 ⊢;have HD:=aA hD;have HST:Hid (aF9 D W1 ss (.slice bp zs.length bc) (.int .i64 ((0:Nat):Int)) W1):=aA ⟨0,none,0,[],Nat.zero_le _,rfl,Exc.refl _ _ _,HQ2.out,World.ownsRow_nil _ _ _ _,rfl,fun q hq=>by cases hq⟩;obtain ⟨_,s0,s1,s2,_⟩:=aS HQ1.out;have HDL:Hid (D<W1.heap.size):=aA (aD HQ2.out);clear hD;go_wp2_with fail;clear s0 s1 s2;go_loopw [19] (fun y wr=>aF9 D W1 ss (.slice bp zs.length bc) y wr) (fun y _=>ss.length-(intOf y).toNat)
 case atStart=>exact HST.out
 case round =>
  obtain ⟨j,A,cap,fs,hj,rfl,hex,hrow,hown,hfs,hfl⟩:=hrel;have HEX:=aA hex;have HRW:=aA hrow;have HOWN:=aA hown;have HFS:=aA hfs;have HFL:=aA hfl;clear hex hrow hown hfs hfl;obtain ⟨WO,rfl⟩:∃ WO,WO=wr:=⟨_,rfl⟩;by_cases hjl:j<ss.length
  · have hji:(j:Int)<ss.length:=by omega
    have hji0:(0:Int)≤(j:Int):=by omega
    obtain ⟨g,cc,hv,hcc,hgl,hcell⟩:=eP hZ 2 (fun _=>rfl) (HSR.out WO HEX.out).structs j hjl;obtain ⟨rfl,rfl⟩:=dG hv;obtain ⟨q,hq⟩:∃ q,ss[j]=q:=⟨_,rfl⟩;have HX:=aA hq;rw [hq] at hcell;have hqm:q ∈ ss:=by rw [←hq];exact jK hjl
    obtain ⟨fa,fc,hf⟩:=aJ ((HSR.out WO HEX.out).fields q hqm);have x0:WO.cell? ⟨g,j * 2,none⟩=some (.string q.1.name):=hcell 0 (by omega);have x1:WO.cell? ⟨g,j * 2+1,none⟩=some (q.2):=hcell 1 (by omega);rw [hf] at x1;have hfew:q.1.fields.length≤1000000:=by have:=(HSM.out.2 q hqm).1;omega
    have HFW:=aA hfew;have HQM:=aA (cJ hqm hf);clear hcell hv hq hqm;go_upto_region 5 with (fail);have hba:Below WO.heap.size WO (WO.alloc (.cells #[.string q.1.name,.slice fa q.1.fields.length fc] 60)):=(bH _ _).alloc bD _;have HN2:=aA (cN WO (.cells #[.string q.1.name,.slice fa q.1.fields.length fc] 60));have HB2:=aA hba;clear x0 x1 hba;generalize WO.alloc (.cells #[.string q.1.name,.slice fa q.1.fields.length fc] 60)=W2 at *;obtain ⟨_,y0,y1,_⟩:=mI HN2.out;have hmk:=aCW q.1.fields.length hfew W2;go_upto_region 6 with (fail);have hba:Below W2.heap.size W2 (W2.alloc (.cells (uR (List.replicate q.1.fields.length mK)).toArray 180)):=(bH _ _).alloc bD _;have HKB:=aA (cN W2 (.cells (uR (List.replicate q.1.fields.length mK)).toArray 180));have HB3:=aA hba
    have HN3:=aA (aE HN2.out hba (aD HN2.out));clear hba hmk y0 y1;generalize W2.alloc (.cells (uR (List.replicate q.1.fields.length mK)).toArray 180)=W3 at *;have HKE:Hid (WO.heap.size<W2.heap.size):=aA (aD HN2.out);have HBW:Hid (∀ W,Below W2.heap.size W2 W→Below WO.heap.size WO W):=aA (fun W hb=>HB2.out.trans (hb.mono HB2.out.size));obtain ⟨_,y0,y1,_⟩:=mI HN3.out;have HST3:Hid (aF6 W2.heap.size W3 q.1.fields (.int .i64 ((0:Nat):Int)) W3):=aA ⟨0,Nat.zero_le _,rfl,Exc.refl _ _ _,HKB.out⟩;go_wp2_with fail;clear y0 y1;go_loopw [30] (fun y wr=>aF6 W2.heap.size W3 q.1.fields y wr) (fun y _=>q.1.fields.length-(intOf y).toNat)
    case atStart=>exact HST3.out
    case round =>
     obtain ⟨i,hi,rfl,hx3,hk3⟩:=hrel;have HX3:=aA hx3;have HK3:=aA hk3;have HB4:=aA (HB3.out.trans ((hx3.mono HB3.out.size).below bD));clear hx3 hk3;by_cases hil:i<q.1.fields.length
     · have hii:(i:Int)<q.1.fields.length:=by omega
       have hii0:(0:Int)≤(i:Int):=by omega
       have hfr:=(HSR.out wr (HEX.out.bel bD (HBW.out wr HB4.out))).fields q HQM.out.1;rw [HQM.out.2] at hfr;obtain ⟨g2,cc2,hv2,hcc2,hgl2,hcell⟩:=eP eV 5 (fun _=>rfl) hfr i hil;obtain ⟨rfl,rfl⟩:=dG hv2;obtain ⟨f,hf⟩:∃ f,q.1.fields[i]=f:=⟨_,rfl⟩;have HFI:=aA hf;have HTF:=aA ((HSM.out.2 q HQM.out.1).2 f (by rw [←hf];exact jK hil));rw [hf] at hcell;have x0:wr.cell? ⟨g2,i * 5,none⟩=some (.string f.name):=hcell 0 (by omega);have x1:wr.cell? ⟨g2,i * 5+1,none⟩=some (.int .u8 f.kind):=hcell 1 (by omega);have x2:wr.cell? ⟨g2,i * 5+2,none⟩=some (.int .i64 f.ref):=hcell 2 (by omega);have x3:wr.cell? ⟨g2,i * 5+3,none⟩=some (.int .i64 f.lists):=hcell 3 (by omega);have x4:wr.cell? ⟨g2,i * 5+4,none⟩=some (.int .u64 f.dflt):=hcell 4 (by omega);clear hcell hv2 hfr hf;go_upto_region 9 with (fail)
       have hba:Below wr.heap.size wr (wr.alloc (.cells #[.string f.name,.int .u8 f.kind,.int .i64 f.ref,.int .i64 f.lists,.int .u64 f.dflt] 77)):=(bH _ _).alloc bD _;have HN5:=aA (cN wr (.cells #[.string f.name,.int .u8 f.kind,.int .i64 f.ref,.int .i64 f.lists,.int .u64 f.dflt] 77));have HB5:=aA hba;have HK5:=aA (aE HK3.out hba (aD HK3.out));clear x0 x1 x2 x3 x4 hba;generalize wr.alloc (.cells #[.string f.name,.int .u8 f.kind,.int .i64 f.ref,.int .i64 f.lists,.int .u64 f.dflt] 77)=W5 at *;obtain ⟨_,s0,s1,s2,s3,s4,_⟩:=lL HN5.out;have HKL:Hid (W2.heap.size<wr.heap.size):=aA (aD HK3.out);have HPL:Hid (wr.heap.size<W5.heap.size):=aA (aD HN5.out);refine gL ?_;refine aEa s0 s1 s2 s3 s4 ?_;intro hS;refine aK 0 (.slice (some ⟨W2.heap.size,0,none⟩) q.1.fields.length q.1.fields.length) ?_;simp only [td];refine aK 1 (.int .i64 i) ?_
       simp only [td];refine aK 2 (.pointer (some ⟨wr.heap.size,1,none⟩)) ?_;simp only [td];refine aK 3 (.agg #[.int .u8 f.kind,.int .i64 f.ref,.int .i64 f.lists]) ?_;simp only [td];refine aK 4 (.agg #[.string f.name,.int .u8 f.kind,.int .i64 f.ref,.int .i64 f.lists,.int .u64 f.dflt]) ?_;simp only [td];refine aK 6 (.pointer (some ⟨wr.heap.size,4,none⟩)) ?_;simp only [td];refine aK 7 (.int .u64 f.dflt) ?_;simp only [td];refine bS 5 fun K hK=>?_;go_simp;refine (yA f.name f.kind f.ref f.lists f.dflt W5.drew).mono ?_;rintro e Wh1 ⟨rfl,hb1⟩;have hx1:Below W5.heap.size W5 Wh1:=(bH _ W5).drew.trans hb1;refine hK.out _ _ (aA1 hx1 ⟨s0,s1,s2,s3,s4⟩) (fun hS=>?_);refine aK 8 (.agg #[.int .u8 f.kind,.int .i64 f.ref,.int .i64 f.lists,.int .i64 (gW ⟨f.name,f.kind,f.ref,f.lists,f.dflt⟩),.int .u64 f.dflt]) ?_;simp only [td];refine aK 9 (.pointer (some ⟨W2.heap.size,i * 5,none⟩)) ?_;simp only [td]
       have hk6:=aE HK5.out hx1 (aD HK5.out);have hll:i<((q.1.fields.map cF).take i).length+(q.1.fields.length-i):=by rw [List.length_take,List.length_map];omega
       have hthere:Wh1.there W2.heap.size (i * 5) 5:=fun k hk=>by refine ⟨?_,aB hk6 _⟩;rw [aU hk6,List.getElem?_toArray,iO (by rw [xB,List.length_append,List.length_map,List.length_replicate,List.length_take,List.length_map];omega)];rfl
       refine bS 10 fun K hK=>?_;refine wp_store_mid 180 (.tmp 44) (.tmp 43) rfl W2.heap.size (i * 5) #[.int .u8 f.kind,.int .i64 f.ref,.int .i64 f.lists,.int .i64 (gW ⟨f.name,f.kind,f.ref,f.lists,f.dflt⟩),.int .u64 f.dflt] rfl rfl hthere (by kernel_rfl) (pW.2 (by intro x hx;simp at hx;rcases hx with rfl|rfl|rfl|rfl|rfl<;>rfl)) ?_;change K _ (((((Wh1.setCell ⟨W2.heap.size,i * 5,none⟩ (.int .u8 f.kind)).setCell ⟨W2.heap.size,i * 5+1,none⟩ (.int .i64 f.ref)).setCell ⟨W2.heap.size,i * 5+2,none⟩ (.int .i64 f.lists)).setCell ⟨W2.heap.size,i * 5+3,none⟩ (.int .i64 (gW ⟨f.name,f.kind,f.ref,f.lists,f.dflt⟩))).setCell ⟨W2.heap.size,i * 5+4,none⟩ (.int .u64 f.dflt))
       have hks:∀ (o:Nat) (cc:Value),W5.cell? ⟨wr.heap.size,o,none⟩=some cc→(((((Wh1.setCell ⟨W2.heap.size,i * 5,none⟩ (.int .u8 f.kind)).setCell ⟨W2.heap.size,i * 5+1,none⟩ (.int .i64 f.ref)).setCell ⟨W2.heap.size,i * 5+2,none⟩ (.int .i64 f.lists)).setCell ⟨W2.heap.size,i * 5+3,none⟩ (.int .i64 (gW ⟨f.name,f.kind,f.ref,f.lists,f.dflt⟩))).setCell ⟨W2.heap.size,i * 5+4,none⟩ (.int .u64 f.dflt)).cell? ⟨wr.heap.size,o,none⟩=some cc:=fun o cc hcc=>by have hne:∀ (w:World) (i:Nat) (x:Value),(w.setCell ⟨W2.heap.size,i,none⟩ x).cell? ⟨wr.heap.size,o,none⟩=w.cell? ⟨wr.heap.size,o,none⟩:=fun w i x=>World.cell?_of_block (oG _ _ _ _ (by have:=HKL.out;show wr.heap.size≠W2.heap.size;omega));rw [hne,hne,hne,hne,hne];exact aC hx1 hcc
       refine hK.out _ _ ⟨hks _ _ s0,hks _ _ s1,hks _ _ s2,hks _ _ s3,hks _ _ s4⟩ (fun hS=>?_);refine gA (by kernel_rfl) ?_ _;refine fI ?_;try simp only [Exit.then]
       have HFIN:=aA (aFS (j:=i) hk6 (by rw [List.length_append,List.length_map,List.length_replicate,List.length_take,List.length_map];omega) ⟨.int .u8 f.kind,.int .i64 f.ref,.int .i64 f.lists,.int .i64 (gW ⟨f.name,f.kind,f.ref,f.lists,f.dflt⟩),.int .u64 f.dflt⟩)
       have HEXP:=aA (show Exc W2.heap.size W3.heap.size wr (((((Wh1.setCell ⟨W2.heap.size,i * 5,none⟩ (.int .u8 f.kind)).setCell ⟨W2.heap.size,i * 5+1,none⟩ (.int .i64 f.ref)).setCell ⟨W2.heap.size,i * 5+2,none⟩ (.int .i64 f.lists)).setCell ⟨W2.heap.size,i * 5+3,none⟩ (.int .i64 (gW ⟨f.name,f.kind,f.ref,f.lists,f.dflt⟩))).setCell ⟨W2.heap.size,i * 5+4,none⟩ (.int .u64 f.dflt)) from ((((((Exc.of_below (R:=W2.heap.size) ((HB5.out.trans (hx1.mono HB5.out.size)).mono HX3.out.size)).setCell (p:=⟨W2.heap.size,i * 5,none⟩) (.inl rfl) _).setCell (p:=⟨W2.heap.size,i * 5+1,none⟩) (.inl rfl) _).setCell (p:=⟨W2.heap.size,i * 5+2,none⟩) (.inl rfl) _).setCell (p:=⟨W2.heap.size,i * 5+3,none⟩) (.inl rfl) _).setCell (p:=⟨W2.heap.size,i * 5+4,none⟩) (.inl rfl) _));clear hS hks hthere hk6 hll hx1 hb1 s0 s1 s2 s3 s4
       generalize (((((Wh1.setCell ⟨W2.heap.size,i * 5,none⟩ (.int .u8 f.kind)).setCell ⟨W2.heap.size,i * 5+1,none⟩ (.int .i64 f.ref)).setCell ⟨W2.heap.size,i * 5+2,none⟩ (.int .i64 f.lists)).setCell ⟨W2.heap.size,i * 5+3,none⟩ (.int .i64 (gW ⟨f.name,f.kind,f.ref,f.lists,f.dflt⟩))).setCell ⟨W2.heap.size,i * 5+4,none⟩ (.int .u64 f.dflt))=W9 at *;go_wp2;go_roundw
       case rel =>
        refine ⟨i+1,by omega,by go_num,?_,?_⟩
        · exact HX3.out.trans HEXP.out
        · have h5:=HFIN.out;rw [aCp q.1.fields i hil f HFI.out] at h5;exact h5
       case measure=>simp [intOf];omega
     · obtain rfl:i=q.1.fields.length:=by omega
       clear hi hil;have HKR:Hid (wr.ownsRow W1.heap.size 180 5 (.slice (some ⟨W2.heap.size,0,none⟩) q.1.fields.length q.1.fields.length) q.1.fields.length (iR (cR q.1).fields)):=aA (by
        have h5:=HK3.out;rw [Nat.sub_self,List.take_of_length_le (by rw [List.length_map];exact Nat.le_refl _),List.replicate_zero,List.append_nil,aDs] at h5;have hsz:(iR (q.1.fields.map cF)).toArray.size=q.1.fields.length * 5:=by rw [List.size_toArray,←aDs,xB,List.length_map,List.length_map]
        have h6:=jR (base:=W1.heap.size) (n:=q.1.fields.length) (size:=5) h5 (by have:=HEX.out.size;have:=HKE.out;omega) (by unfold maxLen;have:=HFW.out;omega) hsz;exact h6)
       have HWR:=aA (HBW.out wr HB4.out);have HRR:=aA (bE HWR.out HOWN.out);have HRD:=aA (aE HRW.out HWR.out (aD HRW.out));have HBN:=aA (cN wr (.cells #[.slice (some ⟨W2.heap.size,0,none⟩) q.1.fields.length q.1.fields.length] 177));have HBA:=aA ((bH wr.heap.size wr).alloc bD (.cells #[.slice (some ⟨W2.heap.size,0,none⟩) q.1.fields.length q.1.fields.length] 177));have HEW:=aA ((HEX.out.bel bD HWR.out).bel bD HBA.out);have hjj:j≤1000000:=by have:=HSM.out.1;omega
       have hws:=HEW.out.size;obtain ⟨_,d0,d1,d2,_⟩:=aS HRD.out;obtain ⟨i0,hi0,hzz0,hzz1,hzz2⟩:=info_parts aEl;have I1:=aA hi0;have I2:=aA hzz0;have I3:=aA hzz1;have I4:=aA hzz2;clear hi0 hzz0 hzz1 hzz2
       go_wp2_with (at_builtin;refine wpList_append_own_at _ rfl (.tmp 50) (.tmp 52) 174 rfl W1.heap.size 177 i0 _ 1 24 Tryd.underlying174 I1.out I2.out I3.out I4.out rfl (by decide) _ j (iY fs) rfl (bE HBA.out HRR.out) _ 1 1 [.slice (some ⟨W2.heap.size,0,none⟩) q.1.fields.length q.1.fields.length] rfl rfl (World.news_of_block HBN.out) (by intro u hu;simp at hu;subst hu;rfl) (by unfold maxLen;omega) (by omega) (by simpa using hws) ?_;intro v4 W8 hown4 hg4 hx hat4;clear hx hat4;obtain ⟨a4,m4,rfl⟩:=aJ hown4;have hd8:=(hg4.block D (aD (aE HRD.out HBA.out (aD HRD.out))) (fun e=>by have h1:=(aV HOWN.out D e.symm).1;have:=HDL.out;omega)).trans (aE HRD.out HBA.out (aD HRD.out));obtain ⟨_,d0,d1,d2,_⟩:=aS hd8;have e1:=aB hd8 1;have HG4:=aA hg4;have HO4:=aA hown4;have HD8:=aA hd8;clear hg4 hown4 hd8)
       have HKP:Hid (∀ (v:Value) (n:Nat) (ys:List Value) (u:Value),wr.ownsRow W1.heap.size 180 5 v n ys→(W8.setCell ⟨D,1,none⟩ u).ownsRow W1.heap.size 180 5 v n ys):=aA (fun v n ys u h=>ownsRow_setCell_below (a:=⟨D,1,none⟩) (aCu (bE HBA.out HRR.out) HG4.out (bE HBA.out h) (by decide)) HDL.out u);go_roundw
       case rel =>
        refine ⟨j+1,a4,m4,fs++[((cR q.1).fields,.slice (some ⟨W2.heap.size,0,none⟩) q.1.fields.length q.1.fields.length)],by omega,by go_num,?_,?_,?_,?_,?_⟩
        · exact (HEW.out.grown HG4.out hws (fun k hk=>.inl (aV HOWN.out k hk).1)).setCell (p:=⟨D,1,none⟩) (.inl rfl) _
        · exact (aN HD8.out 1 _).trans rfl
        · have h7:=ownsRow_setCell_below (a:=⟨D,1,none⟩) HO4.out HDL.out (.slice a4 (j+1) m4);have e7:iY (fs++[((cR q.1).fields,Value.slice (some ⟨W2.heap.size,0,none⟩) q.1.fields.length q.1.fields.length)])=iY fs++[.slice (some ⟨W2.heap.size,0,none⟩) q.1.fields.length q.1.fields.length]:=by simp [iY,sX]
          rw [e7];exact h7
        · rw [List.map_append,HFS.out,List.take_succ_eq_append_getElem hjl,HX.out,List.map_append];rfl
        · intro p hp;rcases List.mem_append.1 hp with hp|hp
          · exact HKP.out _ _ _ _ (bE HWR.out (HFL.out p hp))
          · obtain rfl:=List.mem_singleton.1 hp;have h8:=HKP.out _ _ _ (.slice a4 (j+1) m4) HKR.out;show World.ownsRow _ _ _ _ _ (cR q.1).fields.length _;rw [show (cR q.1).fields.length=q.1.fields.length from List.length_map _];exact h8
       case measure=>simp [intOf];omega
  · obtain rfl:j=ss.length:=by omega
    clear hj hjl;have HRS:=aA (HS1.out WO HEX.out);obtain ⟨_,s0,s1,s2,_⟩:=aS HRS.out;have HST5:Hid (aGh D WO es (.slice bp zs.length bc) (.slice A ss.length cap) (.int .i64 ((0:Nat):Int)) WO):=aA ⟨0,none,0,Nat.zero_le _,rfl,Exc.refl _ _ _,HRW.out,World.ownsRow_nil _ _ _ _⟩;go_wp2_with fail;clear s0 s1 s2;go_loopw [60] (fun y wr=>aGh D WO es (.slice bp zs.length bc) (.slice A ss.length cap) y wr) (fun y _=>es.length-(intOf y).toNat)
    case atStart=>exact HST5.out
    case round =>
     obtain ⟨i,A2,cap2,hi,rfl,hx5,hr5,ho5⟩:=hrel;have HX5:=aA hx5;have HR5:=aA hr5;have HO5:=aA ho5;have HDO:Hid (D<WO.heap.size):=aA (by have:=HEX.out.size;have:=HDL.out;omega);clear hx5 hr5 ho5;by_cases hil:i<es.length
     · have hii:(i:Int)<es.length:=by omega
       have hii0:(0:Int)≤(i:Int):=by omega
       have HSW:=aA (HSR.out wr (HEX.out.thenB bD HX5.out));obtain ⟨g2,cc2,hv2,hcc2,hgl2,hcell⟩:=eP kD 2 (fun _=>rfl) HSW.out.enums i hil;obtain ⟨rfl,rfl⟩:=dG hv2;obtain ⟨c,hc⟩:∃ c,es[i]=c:=⟨_,rfl⟩;have HCI:=aA hc;have hcm:c ∈ es:=by rw [←hc];exact jK hil
       rw [hc] at hcell;obtain ⟨na,nc,hn⟩:=aJ (HSW.out.names c hcm);have x0:wr.cell? ⟨g2,i * 2,none⟩=some (.string c.1.name):=hcell 0 (by omega);have x1:wr.cell? ⟨g2,i * 2+1,none⟩=some (c.2):=hcell 1 (by omega);rw [hn] at x1;have HNB:Hid (c.1.names.length≤1000000):=aA (HEE.out.2 c hcm);obtain ⟨n,hnn⟩:∃ n,c.1.names.length=n:=⟨_,rfl⟩;have HNN:=aA hnn;rw [hnn] at x1 HNB;clear hcell hv2 hn hc hnn;go_upto_region 16 with (fail);have hba:Below wr.heap.size wr (wr.alloc (.cells #[.string c.1.name,.slice na n nc] 86)):=(bH _ _).alloc bD _;have HN6:=aA (cN wr (.cells #[.string c.1.name,.slice na n nc] 86));have HB6:=aA hba;clear x0 x1 hba;generalize wr.alloc (.cells #[.string c.1.name,.slice na n nc] 86)=W6 at *;have HC6:Hid (W6.cell? ⟨wr.heap.size,1,none⟩=some (.slice na n nc)):=aA (mI HN6.out).2.2.1
       have HCL:Hid (wr.heap.size<W6.heap.size):=aA (aD HN6.out);have HD6:=aA (aE HR5.out HB6.out (aD HR5.out));have HV6:Hid (W6.cell? ⟨D,2,none⟩=some (.slice A2 i cap2)):=aA (aS HD6.out).2.2.2.1;have hci:i≤1000000:=by have:=HEE.out.1;omega
       obtain ⟨i0,hi0,hzz0,hzz1,hzz2⟩:=info_parts aCy;have TAIL:=aA (show ∀ V Bk,Below W6.heap.size W6 V→V.heap[Bk]?=some (.cells #[.int .i64 n] 3 (0,0))→∃ (a4:Option Addr) (c4:Nat) (V':World),(Builtin.append_ #[26,26] 26 #[.slice A2 i cap2,.slice (some ⟨Bk,0,none⟩) 1 1]).run Tryd.prog V=.ok (.slice a4 (i+1) c4) V'∧Exc D WO.heap.size WO V'∧V'.heap[D]?=some (.cells #[.slice bp zs.length bc,.slice A ss.length cap,.slice A2 i cap2] 176 (0,0))∧V'.ownsRow WO.heap.size 3 1 (.slice a4 (i+1) c4) (i+1) (jY ((es.take (i+1)).map fun c=>c.1.names.length))∧V'.cell? ⟨wr.heap.size,1,none⟩=some (.slice na n nc) from fun V Bk hb hnw=>by
        have hbw:Below wr.heap.size wr V:=HB6.out.trans (hb.mono HB6.out.size);have hew:=HX5.out.bel bD hbw;obtain ⟨v4,V',hrun,hown,hgrow,_⟩:=run_append_own (P:=Tryd.prog) V WO.heap.size 26 26 3 i0 _ 1 8 Tryd.underlying26 hi0 hzz0 hzz1 hzz2 rfl (by decide) _ i _ (bE hbw HO5.out) ⟨Bk,0,none⟩ 1 1 (pH n) rfl (World.news_of_block hnw) (by intro u hu;simp [pH] at hu;subst hu;rfl) (by unfold maxLen;omega) (by omega) hew.size;obtain ⟨a4,c4,rfl⟩:=aJ hown;have hew2:=hew.grown hgrow hew.size (fun k hk=>.inl (aV HO5.out k hk).1);refine ⟨a4,c4,V',hrun,hew2,?_,?_,?_⟩
        · have h1:=aE HD6.out hb (aD HD6.out);exact (hgrow.block D (aD h1) (fun e=>by have h2:=(aV HO5.out D e.symm).1;have:=HDO.out;omega)).trans h1
        · have e:jY ((es.take (i+1)).map fun c=>c.1.names.length)=jY ((es.take i).map fun c=>c.1.names.length)++pH n:=by
           rw [List.take_succ_eq_append_getElem hil,HCI.out,List.map_append,←HNN.out];simp [jY]
          rw [e];exact hown
        · have h1:=aC hb HC6.out;exact (World.cell?_of_block (w:=V) (a:=⟨wr.heap.size,1,none⟩) (hgrow.block wr.heap.size (cP h1) (fun e=>by have h2:=(aV HO5.out _ e.symm).2;omega))).trans h1)
       have HCN:Hid (D≠wr.heap.size):=aA (by have h1:=aD HR5.out;omega);clear hi0 hzz0 hzz1 hzz2;refine gL ?_;refine eG 12 (fun w'=>w'.cell? ⟨wr.heap.size,1,none⟩=some (.slice na n nc)) (fun w'=>w'.cell? ⟨D,2,none⟩=some (.slice A2 i cap2)) (by kernel_rfl) ?_;have HB0:=aA ((bH W6.heap.size W6).drew);generalize W6.drew=V0 at *;have hU:=aC HB0.out HC6.out;have hV:=aC HB0.out HV6.out;refine tt 0 (.pointer (some ⟨D,0,none⟩)) hU hV ?_ ?_
       · intro w' hSw;obtain ⟨s0,t0⟩:=hSw;go_simp
       simp only [td];refine tt 1 (.pointer (some ⟨D,0,none⟩)) hU hV ?_ ?_
       · intro w' hSw;obtain ⟨s0,t0⟩:=hSw;go_simp
       simp only [td];refine tt 2 (.pointer (some ⟨D,0,none⟩)) hU hV ?_ ?_
       · intro w' hSw;obtain ⟨s0,t0⟩:=hSw;go_simp
       simp only [td];refine tt 3 (.pointer (some ⟨D,2,none⟩)) hU hV ?_ ?_
       · intro w' hSw;obtain ⟨s0,t0⟩:=hSw;go_simp
       simp only [td];refine tt 4 (.slice A2 i cap2) hU hV ?_ ?_
       · intro w' hSw;obtain ⟨s0,t0⟩:=hSw;go_simp
       simp only [td];refine tt 5 (.pointer (some ⟨wr.heap.size,1,none⟩)) hU hV ?_ ?_
       · intro w' hSw;obtain ⟨s0,t0⟩:=hSw;go_simp
       simp only [td];refine tt 6 (.slice na n nc) hU hV ?_ ?_
       · intro w' hSw;obtain ⟨s0,t0⟩:=hSw;go_simp
       simp only [td];refine tt 7 (.int .i64 n) hU hV ?_ ?_
       · intro w' hSw;obtain ⟨s0,t0⟩:=hSw;go_simp
       simp only [td];refine cA (i:=8) (by kernel_rfl) rfl (fun K hK=>?_);rw [bG (by kernel_rfl)];go_simp;have hs:Below V0.heap.size V0 (V0.alloc (.cells #[.int .i64 n] 3)):=(bH _ _).alloc bD _;have HB2:=aA (HB0.out.trans (hs.mono HB0.out.size));have HN:=aA (cN V0 (.cells #[.int .i64 n] 3));refine hK.out _ _ (aC HB2.out HC6.out) (aC HB2.out HV6.out) ?_;clear hs hU hV;generalize V0.alloc (.cells #[.int .i64 n] 3)=V2 at *;generalize V0.heap.size=Bk at *;have hU:=aC HB2.out HC6.out;have hV:=aC HB2.out HV6.out;obtain ⟨a4,c4,V3,hrun,hex3,hrw3,hown3,hcl3⟩:=TAIL.out V2 Bk HB2.out HN.out;have HEX3:=aA hex3;have HRW3:=aA hrw3;have HOWN3:=aA hown3;obtain ⟨_,m0,m1,m2,_⟩:=aS hrw3;have mf:=aB hrw3 2;have hU4:∀ u,(V3.setCell ⟨D,2,none⟩ u).cell? ⟨wr.heap.size,1,none⟩=some (.slice na n nc):=fun u=>(aAj HCN.out).trans hcl3;clear hU hV hex3 hrw3 hown3 m0 m1
       refine cA (i:=9) (by kernel_rfl) rfl (fun K hK=>?_);rw [bG (by kernel_rfl)];refine eD _ (.tmp 68) (.tmp 72) 26 rfl _ _ _ _ rfl rfl hrun ?_;refine hK.out _ _ hcl3 m2 ?_;clear hrun;have hU:=hcl3;have hV:=m2;refine cA (i:=10) (by kernel_rfl) rfl (fun K hK=>?_);rw [bG (by kernel_rfl)];go_simp;refine hK.out _ _ hcl3 m2 ?_;refine cA (i:=11) (by kernel_rfl) rfl (fun K hK=>?_);rw [bG (by kernel_rfl)];go_simp;refine hK.out _ _ hcl3 m2 ?_;refine eW (by kernel_rfl) rfl (fun K hK=>?_);rw [bG (by kernel_rfl)];go_simp;refine hK.out _ _ (hU4 _) ?_;refine eX (by kernel_rfl) ?_ _;refine fI ?_;try simp only [Exit.inBlock,Exit.then]
       go_wp2;go_roundw
       case rel =>
        refine ⟨i+1,a4,c4,by omega,by go_num,HEX3.out.setCell (p:=⟨D,2,none⟩) (.inl rfl) _,?_,?_⟩
        · exact (aN HRW3.out 2 (.slice a4 (i+1) c4)).trans rfl
        · exact ownsRow_setCell_below (a:=⟨D,2,none⟩) HOWN3.out (by have:=HDO.out;exact this) (.slice a4 (i+1) c4)
       case measure=>simp [intOf];omega
     · obtain rfl:i=es.length:=by omega
       clear hi hil;have hlt:¬(es.length:Int)<es.length:=Int.lt_irrefl _;go_wp2;go_ret;have hbel:Below w.heap.size w wr:=HB.out.trans ((((HEX.out.thenB bD HX5.out).mono HB.out.size)).below (by have:=HD.out;omega));have hbs:w.heap.size≤W1.heap.size:=HB.out.size;have hbs2:w.heap.size≤WO.heap.size:=eM hbs HEX.out.size;have hnD:∀ {e:TypeId} {s:Nat} {v:Value} {n:Nat} {ys:List Value},WO.ownsRow W1.heap.size e s v n ys→v.ownBlock≠some D:=fun h1 h2=>by have h3:=(aV h1 _ h2).1;have:=HDL.out;omega
       have hfln:fs.length=ss.length:=by have h9:=congrArg List.length HFS.out;simpa using h9
       refine ⟨⟨D,rfl,by have:=HD.out;omega,_,_,fs,es.map (fun c=>c.1.names.length),⟨⟨HR5.out,HZ.out.below bD hbel,HLC.out.1,HLC.out.2,?_,?_,?_⟩,?_,?_,?_⟩⟩,hbel⟩
       · rw [hfln];exact eE (HX5.out.ownsRow HOWN.out (hnD HOWN.out)) hbs
       · intro p hp;exact eE (HX5.out.ownsRow (HFL.out p hp) (hnD (HFL.out p hp))) hbs
       · have h9:=eE HO5.out hbs2;rw [List.take_length] at h9;rw [List.length_map];exact h9
       · have h9:=HFS.out;rw [List.take_length] at h9;exact h9
       · rw [List.map_map];rfl
       · intro n hn;obtain ⟨c,hc,rfl⟩:=rX.1 hn;exact HEE.out.2 c hc
end Go.Proofs.YtpbaaiilfkacnaaDoor
