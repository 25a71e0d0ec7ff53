/-
  Package flatread: is a struct right. Conditions: those that each theorem names.
-/
import Derived.Test.YtcfjjocmiheiaaaDoorPkD52
import Derived.Test.YtcfjjocmiheiaaaDoorPkD23
namespace Go.Proofs.YtcfjjocmiheiaaaDoor
open Go.ChangeShapes Go.WideShapes Go.ChangeAt Go.RowKit Go.Shelf
def SrAt (base:Nat)(w:World)(m:Nat)(bp:Option Addr)(bc:Nat)(sv ev:Value)(zs:List Int)(ss:List (SRec × Value))(es:List SCho)(fs:List (List CFld × Value))(ns:List Nat)(wk mt B:Nat)(F:Nat→Int→Option (PV × Int))(left left2 ml:Int)(n:Nat)(xc:Array Value)(y:Value)(wr:World):Prop:=
 ∃ (j:Nat) (vs:List PV) (l1 ml1:Int),j≤n∧y=.int .i64 j∧seqD F left2 j=some (vs,l1)∧(0≤l1∧l1≤left)∧(0≤ml1∧ml1≤ml)∧(3 * left≤ml→3 * l1≤ml1)∧RCtx base wr m bp bc sv ev zs ss es fs ns wk mt B l1 ml1∧Exw wk mt w.heap.size w wr∧wr.heap[w.heap.size]?=some (.cells xc 120 (0,0))
theorem recC_at {ss:List (SRec × Value)}{r:Nat}(h:r<ss.length):(recC (sRecs ss) r).fields=(cR ss[r].1).fields:=by
 unfold recC sRecs
 rw [Int.toNat_natCast,List.getD,crow_fst,List.getElem?_map,List.getElem?_map,List.getElem?_eq_getElem h]
 rfl
theorem fs_at {ss:List (SRec × Value)}{fs:List (List CFld × Value)}(hfs:fs.map Prod.fst=(ss.map fun q=>(cR q.1).fields)){r:Nat}(h:r<ss.length):∃ hr:r<fs.length,(fs[r]'hr).1=(recC (sRecs ss) r).fields:=by
 have hl:=congrArg List.length hfs
 rw [List.length_map,List.length_map] at hl
 have hr:r<fs.length:=by omega
 refine ⟨hr,?_⟩
 rw [recC_at h]
 have h1:=congrArg (fun l=>l[r]?) hfs
 simp only [List.getElem?_map,List.getElem?_eq_getElem hr,List.getElem?_eq_getElem h] at h1
 simpa using h1
set_option maxRecDepth 100000 in
set_option maxHeartbeats 16000000 in
theorem fstructRight (room:Nat)(hroom:room≤12)(hnx:∀ q,room=q+1→KidRAt q):StructRAt room:=by
 constructor
 intro base w m bp bc sv ev zs ss es fs ns wk mt B left ml h r t p hr ht hp
 have hzb:=h.msg.msg.bytes.1
 have htf:=tab_facts hzb ht
 have hb:=(Below.refl w.heap.size w).alloc (Nat.le_refl _) (.cells #[.pointer (some ⟨m,0,none⟩),.int .i64 r,.int .i64 p,.int .i64 t.own,.int .i64 t.la,.int .i64 t.size] 120)
 have HB:=Lib.hid hb
 have HC:=Lib.hid (h.below hb)
 have HX:=Lib.hid (heap_alloc_new w (.cells #[.pointer (some ⟨m,0,none⟩),.int .i64 r,.int .i64 p,.int .i64 t.own,.int .i64 t.la,.int .i64 t.size] 120))
 have HKW:Hid (wk<w.heap.size∧mt<w.heap.size):=Lib.hid ⟨blk_lt h.st.walk,blk_lt h.st.meter⟩
 have HWS:Hid (w.heap.size<(w.alloc (.cells #[.pointer (some ⟨m,0,none⟩),.int .i64 r,.int .i64 p,.int .i64 t.own,.int .i64 t.la,.int .i64 t.size] 120)).heap.size):=Lib.hid (blk_lt HX.out)
 obtain ⟨hrf,hxs⟩:=fs_at h.msg.structs hr
 have hsm:=h.sch.2 _ (List.getElem_mem hr)
 obtain ⟨xs,hxx⟩:∃ xs,(recC (sRecs ss) r).fields=xs:=⟨_,rfl⟩
 have hxm:xs=ss[r].1.fields.map cF:=by rw [←hxx,recC_at hr];rfl
 have hn16:xs.length≤16:=by rw [hxm,List.length_map];exact hsm.1
 have HTY:Hid (∀ j (hj:j<xs.length),∃ (k rr l d:Nat) (nm:ByteArray),xs[j]=⟨nm,k,rr,l,d⟩∧TyM ss.length es k rr l):=Lib.hid (fun j hj=>by
  have hj2:j<ss[r].1.fields.length:=by rw [hxm,List.length_map] at hj;exact hj
  have h1:=hsm.2 _ (List.getElem_mem hj2)
  refine ⟨ss[r].1.fields[j].kind,ss[r].1.fields[j].ref,ss[r].1.fields[j].lists,ss[r].1.fields[j].dflt,ss[r].1.fields[j].name,?_,h1.1⟩
  simp only [hxm,List.getElem_map]
  rfl)
 obtain ⟨P,hP⟩:∃ P,RPost (structT (sRecs ss) zs (nextZ (sRecs ss) es zs room) r p t left) wk m mt left ml w=P:=⟨_,rfl⟩
 rw [hP]
 have HP0:=Lib.hid hP.symm
 rw [hxx] at hxs
 have hfrow:=h.msg.msg.fields _ (List.getElem_mem hrf)
 obtain ⟨fa,fc,hf⟩:=ownsRow_form hfrow
 have HFF:=Lib.hid hf
 have HXS:=Lib.hid hxs
 have HRF:=Lib.hid hrf
 have HFA:=Lib.hid (ffields_any _ (h.below hb).msg.msg r)
 have HXX:=Lib.hid hxx
 have HHL:=Lib.hid h.hl
 have HML:=Lib.hid h.hml
 have HTF:=Lib.hid htf
 have HPB:=Lib.hid hp
 unfold strV
 clear hP hb h hsm hxm hxx hfrow hf hr hp
 have hown:4≤t.own∧t.own<65536:=⟨htf.2.2.2.1,htf.2.2.2.2.1⟩
 have hsz:4≤t.size∧t.size<65536:=⟨htf.2.1,htf.2.2.1⟩
 clear htf
 rcases Nat.eq_zero_or_pos room with hr0|hr0
 · subst hr0
   have HEND:Hid (∀ W,Below w.heap.size w W→WState W wk m mt false left ml false→P (.returned (.bool false)) W):=Lib.hid (fun W hB hs=>by rw [HP0.out];exact rpost_none hs (Exw.of_below hB) rfl)
   go_enter Tryd.func73,Tryd.ntmps73
   go_upto_region 1 with (fail)
   generalize w.alloc (.cells #[.pointer (some ⟨m,0,none⟩),.int .i64 r,.int .i64 p,.int .i64 t.own,.int .i64 t.la,.int .i64 t.size] 120)=W0 at *
   obtain ⟨_,s1,s2,s3,s4,s5,s6⟩:=blk6 HX.out
   go_wp2_with fail
   refine HFA.out.mono ?_
   rintro e _ ⟨hpost,rfl⟩
   obtain ⟨v,rfl⟩:∃ v,e=.returned v:=by
    rcases hpost with ⟨_,he⟩|⟨_,_,_,he⟩
    · exact ⟨_,he⟩
    · exact ⟨_,he⟩
   clear hpost
   go_wp2
   exact HEND.out _ HB.out HC.out.st
 obtain ⟨q,hq⟩:∃ q,room=q+1:=⟨room-1,by omega⟩
 have HNX:=Lib.hid (hnx q hq)
 have HP:Hid (P=RPost (if left-(t.size+t.own)<0 then none else match seqD (fieldZ zs (flatZ (sRecs ss) es zs q) xs p t) (left-(t.size+t.own)) xs.length with|none=>none|some (ks,l)=>some (.mk 0 [] ks true,l)) wk m mt left ml w):=Lib.hid (by rw [HP0.out,←HXX.out,hq];rfl)
 clear hnx HP0 hr0
 obtain ⟨F,hF⟩:∃ F,fieldZ zs (flatZ (sRecs ss) es zs q) xs p t=F:=⟨_,rfl⟩
 rw [hF] at HP
 have HF:=Lib.hid hF
 clear hF
 obtain ⟨S,hS⟩:∃ S,t.size+t.own=S:=⟨_,rfl⟩
 rw [hS] at HP
 have hS8:8≤S∧S<131072:=by omega
 have hws:IntKind.i64.wrap (t.size+t.own)=S:=by rw [hS];exact IntWalk.i64_in S ⟨by omega,by omega⟩
 clear hS
 have hrm:((room:Int)==0)=false:=by simp;omega
 have hrq:(room:Int)-1=(q:Int):=by omega
 have hrq2:IntKind.i64.wrap (q:Int)=(q:Int):=IntWalk.i64_in _ ⟨by omega,by omega⟩
 clear hq
 have hwn:=IntWalk.i64_in (1+(xs.length:Int)) ⟨by omega,by omega⟩
 go_enter Tryd.func73,Tryd.ntmps73
 go_upto_region 1 with (fail)
 generalize w.alloc (.cells #[.pointer (some ⟨m,0,none⟩),.int .i64 r,.int .i64 p,.int .i64 t.own,.int .i64 t.la,.int .i64 t.size] 120)=W0 at *
 obtain ⟨_,s1,s2,s3,s4,s5,s6⟩:=blk6 HX.out
 go_wp2_with fail
 refine HFA.out.mono ?_
 rintro e _ ⟨hpost,rfl⟩
 rcases hpost with ⟨hno,rfl⟩|⟨i',hi',hii,rfl⟩
 · exact absurd ⟨by omega,by have:=HRF.out;omega⟩ hno
 obtain rfl:r=i':=by omega
 rw [HFF.out,HXS.out]
 clear hii
 have HRE:=Lib.hid (freach_any W0 HC.out.st S (by have:=HHL.out;omega))
 obtain ⟨l2,hl2⟩:∃ l2,left-S=l2:=⟨_,rfl⟩
 rw [hl2] at HRE HP
 have HL2:=Lib.hid hl2
 clear hl2
 go_wp2_with fail
 refine HRE.out.mono ?_
 rintro e W3 ⟨rfl,hw3,hx3⟩
 have HX3:=Lib.hid ((Exw.of_below (R:=wk) (S:=mt) HB.out).trans (hx3.mono HB.out.size))
 have HW3:=Lib.hid hw3
 have HK3:=Lib.hid (blk_exw HX.out hx3 (blk_lt HX.out) (by have:=HKW.out;omega) (by have:=HKW.out;omega))
 have HXX3:=Lib.hid hx3
 clear hw3 hx3 s1 s2 s3 s4 s5 s6 HRE
 obtain ⟨_,s1,s2,s3,s4,s5,s6⟩:=blk6 HK3.out
 by_cases hl3:0≤l2
 case neg =>
  rw [decide_eq_false hl3]
  have HEND:Hid (P (.returned (.bool false)) W3):=Lib.hid (by rw [HP.out];exact rpost_none HW3.out HX3.out (by rw [if_pos (by omega)]))
  go_wp2
  exact HEND.out
 rw [decide_eq_true hl3]
 have HP2:Hid (P=RPost (match seqD F l2 xs.length with|none=>none|some (ks,l)=>some (.mk 0 [] ks true,l)) wk m mt left ml w):=Lib.hid (by rw [HP.out,if_neg (by omega)])
 clear HP
 by_cases hpay:1+(xs.length:Int)≤ml
 case neg =>
  have HPY:=Lib.hid (fpay_no W3 HW3.out (1+(xs.length:Int)) (by omega) (by omega))
  go_wp2_with fail
  refine HPY.out.mono ?_
  rintro e W4 ⟨rfl,hw4,hx4⟩
  have HEND:Hid (P (.returned (.bool false)) W4):=Lib.hid (by rw [HP2.out];exact rpost_out hw4 (HX3.out.trans (hx4.mono HX3.out.size)) (by have:=HL2.out;omega))
  clear hw4 hx4 s1 s2 s3 s4 s5 s6
  go_wp2
  exact HEND.out
 have HPY:=Lib.hid (fpay_yes W3 HW3.out (1+(xs.length:Int)) (by omega) (by omega) (by have:=HML.out;omega))
 go_wp2_with fail
 refine HPY.out.mono ?_
 rintro e W4 ⟨rfl,hw4,hx4⟩
 have HX4:=Lib.hid (HX3.out.trans (hx4.mono HX3.out.size))
 have HK4:=Lib.hid (blk_exw HK3.out hx4 (blk_lt HK3.out) (by have:=HKW.out;omega) (by have:=HKW.out;omega))
 have HC4:=Lib.hid (HC.out.exw (l':=l2) (ml':=ml-(1+(xs.length:Int))) (HXX3.out.trans (hx4.mono HXX3.out.size)) hw4 (by have:=HL2.out;omega) (by omega))
 have HST:Hid (SrAt base w m bp bc sv ev zs ss es fs ns wk mt B F left l2 ml xs.length #[.pointer (some ⟨m,0,none⟩),.int .i64 r,.int .i64 p,.int .i64 t.own,.int .i64 t.la,.int .i64 t.size] (.int .i64 ((0:Nat):Int)) W4):=Lib.hid ⟨0,[],l2,ml-(1+(xs.length:Int)),Nat.zero_le _,rfl,rfl,by have:=HL2.out;omega,by omega,by have:=HL2.out;omega,HC4.out,HX4.out,HK4.out⟩
 clear hw4 hx4 s1 s2 s3 s4 s5 s6 HPY HX4 HK4 HC4 HXX3 HK3 HW3 HX3 HX HB HC HFA
 go_wp2_with fail
 go_loopw [40] (fun y wr=>SrAt base w m bp bc sv ev zs ss es fs ns wk mt B F left l2 ml xs.length #[.pointer (some ⟨m,0,none⟩),.int .i64 r,.int .i64 p,.int .i64 t.own,.int .i64 t.la,.int .i64 t.size] y wr) (fun y _=>xs.length-(intOf y).toNat)
 case atStart=>exact HST.out
 case round =>
  obtain ⟨j,vs,l1,ml1,hj,rfl,hseq,hl1,hml1,h3,hcx,hx,hkb⟩:=hrel
  have HSEQ:=Lib.hid hseq
  have HCX:=Lib.hid hcx
  have HXW:=Lib.hid hx
  have HKB:=Lib.hid hkb
  have H3:=Lib.hid h3
  clear hseq hcx hx hkb h3
  by_cases hjl:j<xs.length
  case neg =>
   obtain rfl:j=xs.length:=by omega
   have HEND:Hid (P (.returned (.bool true)) wr):=Lib.hid (by rw [HP2.out,HSEQ.out];exact rpost_some HCX.out.st HXW.out rfl hl1.1 hl1.2 hml1.1 hml1.2 H3.out)
   clear hjl
   go_wp2
   exact HEND.out
  have hji:(j:Int)<(xs.length:Int):=by omega
  have hji0:(0:Int)≤(j:Int):=by omega
  obtain ⟨k,rr,l,d,nm,hxj,hty⟩:=HTY.out j hjl
  have hfrow:=HCX.out.msg.msg.fields _ (List.getElem_mem HRF.out)
  rw [HFF.out,HXS.out] at hfrow
  obtain ⟨g,cc,hv,hcc,hgl,hcell⟩:=row_el (l:=xs) mfldCells 5 (fun _=>rfl) hfrow j hjl
  obtain ⟨rfl,rfl⟩:=slice_inj hv
  rw [hxj] at hcell
  have x0:wr.cell? ⟨g,j * 5,none⟩=some (.int .u8 k):=hcell 0 (by omega)
  have x1:wr.cell? ⟨g,j * 5+1,none⟩=some (.int .i64 rr):=hcell 1 (by omega)
  have x2:wr.cell? ⟨g,j * 5+2,none⟩=some (.int .i64 l):=hcell 2 (by omega)
  have x3:wr.cell? ⟨g,j * 5+3,none⟩=some (.int .i64 (inlC k l)):=hcell 3 (by omega)
  have x4:wr.cell? ⟨g,j * 5+4,none⟩=some (.int .u64 d):=hcell 4 (by omega)
  have HFJ:Hid (F j l1=if offZ zs t j=0 then some (numV d,l1) else if offZ zs t j<4∨t.own<offZ zs t j+inlC k l then none else flatZ (sRecs ss) es zs q k rr l (p+offZ zs t j) l1):=Lib.hid (by
   rw [←HF.out]
   unfold fieldZ
   rw [List.getElem?_eq_getElem hjl,hxj])
  obtain ⟨tb,htb⟩:∃ tb,decide (offZ zs t j≠0)=tb:=⟨_,rfl⟩
  have HSK:Hid (∀ W,Below wr.heap.size wr W→Calls Tryd.prog 101 #[strV m r t p,.int .i64 j,.int .i64 (sortP k l:Nat)] W fun e w'=>e=.returned (kidV k rr l (p+offZ zs t j) d tb)∧Below W.heap.size W w'):=Lib.hid (fun W hW=>by
   have h:=fskid_any W (HCX.out.below hW).msg.msg r HRF.out t p HPB.out j (sortP k l) (by rw [HXS.out];exact hjl) (by omega) HTF.out.1 ⟨nm,k,rr,l,d⟩ (by simp only [HXS.out];exact hxj) rfl
   rw [htb] at h
   exact h)
  have hoz:0≤offZ zs t j∧offZ zs t j<65536:=by
   unfold offZ
   split
   · exact leAt_2 zs _ hzb
   · omega
  have HTYP:=Lib.hid hty
  have HINL:Hid (1≤inlC k l∧inlC k l≤8):=Lib.hid (by
   unfold inlC
   split
   · rename_i hnt
     unfold numTB at hnt
     rw [Bool.and_eq_true,decide_eq_true_iff,decide_eq_true_iff] at hnt
     obtain ⟨s,h1,h2⟩:=ksize_is hnt.2
     omega
   · omega)
  have HIN:Hid (4≤offZ zs t j→offZ zs t j+inlC k l≤t.own→sortP k l=1→inZ (lenZ zs) (p+offZ zs t j) (kSize k)=true):=Lib.hid (fun h1 h2 h3=>by
   have h4:=(sort_num k l).1 h3
   have h5:inlC k l=kSize k:=by unfold inlC;rw [if_pos h4]
   have h6:=inZ_iff.1 HTF.out.2.2.2.2.2
   have h7:=HINL.out
   rw [h5] at h2 h7
   exact inZ_iff.2 (by omega))
  unfold strV kidV at HSK
  have HIL:Hid (inlC k l=inlC k l):=Lib.hid rfl
  obtain ⟨ic,hic⟩:∃ ic,inlC k l=ic:=⟨_,rfl⟩
  rw [hic] at x3 HFJ HINL HIN
  obtain ⟨oz,hozz⟩:∃ oz,offZ zs t j=oz:=⟨_,rfl⟩
  simp only [hozz] at HFJ HSK hoz HIN
  rw [hozz] at htb
  have HTB:=Lib.hid htb
  clear hcell hv hxj hty hfrow HIL hic hozz htb
  have hw1:IntKind.i64.wrap (p+oz-p)=oz:=by rw [show p+oz-p=oz by omega];exact IntWalk.i64_in oz ⟨by omega,by omega⟩
  go_upto_region 7 with (fail)
  have hba:Below wr.heap.size wr (wr.alloc (.cells #[.int .u8 k,.int .i64 rr,.int .i64 l,.int .i64 ic,.int .u64 d] 164)):=(Below.refl _ _).alloc (Nat.le_refl _) _
  have HFB:=Lib.hid (heap_alloc_new wr (.cells #[.int .u8 k,.int .i64 rr,.int .i64 l,.int .i64 ic,.int .u64 d] 164))
  have HBA:=Lib.hid hba
  have HC5:=Lib.hid (HCX.out.below hba)
  have HK5:=Lib.hid (blk_below HKB.out hba (blk_lt HKB.out))
  clear x0 x1 x2 x3 x4 hba
  generalize wr.alloc (.cells #[.int .u8 k,.int .i64 rr,.int .i64 l,.int .i64 ic,.int .u64 d] 164)=W5 at *
  have HFS:Hid (wr.heap.size<W5.heap.size):=Lib.hid (blk_lt HFB.out)
  obtain ⟨_,s1,s2,s3,s4,s5,s6⟩:=blk6 HK5.out
  obtain ⟨_,y0,y1,y2,y3,y4,_⟩:=blk5 HFB.out
  refine wp_region_noPanic ?_
  refine wp_region_held_drew (S:=(fun w'=>w'.cell? ⟨w.heap.size,0,none⟩=some (.pointer (some ⟨m,0,none⟩))∧w'.cell? ⟨w.heap.size,1,none⟩=some (.int .i64 r)∧w'.cell? ⟨w.heap.size,2,none⟩=some (.int .i64 p)∧w'.cell? ⟨w.heap.size,3,none⟩=some (.int .i64 t.own)∧w'.cell? ⟨w.heap.size,4,none⟩=some (.int .i64 t.la)∧w'.cell? ⟨w.heap.size,5,none⟩=some (.int .i64 t.size)∧w'.cell? ⟨wr.heap.size,0,none⟩=some (.int .u8 k)∧w'.cell? ⟨wr.heap.size,1,none⟩=some (.int .i64 rr)∧w'.cell? ⟨wr.heap.size,2,none⟩=some (.int .i64 l)∧w'.cell? ⟨wr.heap.size,3,none⟩=some (.int .i64 ic)∧w'.cell? ⟨wr.heap.size,4,none⟩=some (.int .u64 d))) (by kernel_rfl) ⟨s1,s2,s3,s4,s5,s6,y0,y1,y2,y3,y4⟩ ?_
  intro hS
  refine tk 0 (.agg #[.pointer (some ⟨m,0,none⟩),.int .i64 r,.int .i64 p,.int .i64 t.own,.int .i64 t.la,.int .i64 t.size]) hS ?_ ?_
  · rintro w' ⟨s1,s2,s3,s4,s5,s6,y0,y1,y2,y3,y4⟩
    go_simp
  simp only [td]
  refine tk 1 (.int .i64 j) hS ?_ ?_
  · rintro w' ⟨s1,s2,s3,s4,s5,s6,y0,y1,y2,y3,y4⟩
    go_simp
  simp only [td]
  refine tk 2 (.pointer (some ⟨wr.heap.size,0,none⟩)) hS ?_ ?_
  · rintro w' ⟨s1,s2,s3,s4,s5,s6,y0,y1,y2,y3,y4⟩
    go_simp
  simp only [td]
  refine tk 3 (.agg #[.int .u8 k,.int .i64 rr,.int .i64 l]) hS ?_ ?_
  · rintro w' ⟨s1,s2,s3,s4,s5,s6,y0,y1,y2,y3,y4⟩
    go_simp
  simp only [td]
  refine wpAnyH_ready (rs:=[4,6]) (by kernel_rfl) (by decide) (AllReadyH.cons rfl (fun K hK=>?_) (AllReadyH.cons rfl (fun K hK=>?_) AllReadyH.nil))
  · rw [if_pos (by kernel_rfl)]
    go_simp
    refine (sorts_any k rr l W5.drew).mono ?_
    rintro e V1 ⟨rfl,hb1⟩
    have hv1:Below W5.heap.size W5 V1:=(Below.refl _ W5).drew.trans hb1
    have nn0:=cell_stays hv1 s1
    have nn1:=cell_stays hv1 s2
    have nn2:=cell_stays hv1 s3
    have nn3:=cell_stays hv1 s4
    have nn4:=cell_stays hv1 s5
    have nn5:=cell_stays hv1 s6
    have nn6:=cell_stays hv1 y0
    have nn7:=cell_stays hv1 y1
    have nn8:=cell_stays hv1 y2
    have nn9:=cell_stays hv1 y3
    have nn10:=cell_stays hv1 y4
    refine hK.out _ _ ⟨nn0,nn1,nn2,nn3,nn4,nn5,nn6,nn7,nn8,nn9,nn10⟩ (fun hS=>?_)
    clear nn0 nn1 nn2 nn3 nn4 nn5 nn6 nn7 nn8 nn9 nn10
    refine wpAnyH_ready (rs:=[5,6]) (by kernel_rfl) (by decide) (AllReadyH.cons rfl (fun K hK=>?_) (AllReadyH.cons rfl (fun K hK=>?_) AllReadyH.nil))
    · rw [if_pos (by kernel_rfl)]
      go_simp
      refine (HSK.out V1 (HBA.out.trans (hv1.mono HBA.out.size))).mono ?_
      rintro e V2 ⟨rfl,hb2⟩
      have hv2:Below W5.heap.size W5 V2:=hv1.trans (hb2.mono hv1.size)
      have nn0:=cell_stays hv2 s1
      have nn1:=cell_stays hv2 s2
      have nn2:=cell_stays hv2 s3
      have nn3:=cell_stays hv2 s4
      have nn4:=cell_stays hv2 s5
      have nn5:=cell_stays hv2 s6
      have nn6:=cell_stays hv2 y0
      have nn7:=cell_stays hv2 y1
      have nn8:=cell_stays hv2 y2
      have nn9:=cell_stays hv2 y3
      have nn10:=cell_stays hv2 y4
      refine hK.out _ _ ⟨nn0,nn1,nn2,nn3,nn4,nn5,nn6,nn7,nn8,nn9,nn10⟩ (fun hS=>?_)
      clear nn0 nn1 nn2 nn3 nn4 nn5 nn6 nn7 nn8 nn9 nn10
      refine wpAnyH_ready (rs:=[6]) (by kernel_rfl) (by decide) (AllReadyH.cons rfl (fun K hK=>?_) AllReadyH.nil)
      rw [if_pos (by kernel_rfl)]
      go_simp
      have hv3:Below W5.heap.size W5 (V2.alloc (.cells #[.int .u8 0,.int .i64 0,.int .i64 0,.int .i64 0,.int .u64 0,.bool false] 166)):=hv2.alloc hv2.size _
      have hT3:=heap_alloc_new V2 (.cells #[.int .u8 0,.int .i64 0,.int .i64 0,.int .i64 0,.int .u64 0,.bool false] 166)
      have nn0:=cell_stays hv3 s1
      have nn1:=cell_stays hv3 s2
      have nn2:=cell_stays hv3 s3
      have nn3:=cell_stays hv3 s4
      have nn4:=cell_stays hv3 s5
      have nn5:=cell_stays hv3 s6
      have nn6:=cell_stays hv3 y0
      have nn7:=cell_stays hv3 y1
      have nn8:=cell_stays hv3 y2
      have nn9:=cell_stays hv3 y3
      have nn10:=cell_stays hv3 y4
      refine hK.out _ _ ⟨nn0,nn1,nn2,nn3,nn4,nn5,nn6,nn7,nn8,nn9,nn10⟩ (fun hS=>?_)
      clear nn0 nn1 nn2 nn3 nn4 nn5 nn6 nn7 nn8 nn9 nn10
      generalize V2.alloc (.cells #[.int .u8 0,.int .i64 0,.int .i64 0,.int .i64 0,.int .u64 0,.bool false] 166)=V3 at *
      have hthere:V3.there (V2.heap.size) 0 6:=fun i hi=>by
       have h4:i=0∨i=1∨i=2∨i=3∨i=4∨i=5:=by omega
       obtain ⟨_,v0,v1,v2,v3,v4,v5⟩:=blk6 hT3
       rcases h4 with rfl|rfl|rfl|rfl|rfl|rfl
       · exact ⟨by rw [Nat.add_zero,v0];rfl,blk_frozen hT3 _⟩
       · exact ⟨by rw [Nat.zero_add,v1];rfl,blk_frozen hT3 _⟩
       · exact ⟨by rw [Nat.zero_add,v2];rfl,blk_frozen hT3 _⟩
       · exact ⟨by rw [Nat.zero_add,v3];rfl,blk_frozen hT3 _⟩
       · exact ⟨by rw [Nat.zero_add,v4];rfl,blk_frozen hT3 _⟩
       · exact ⟨by rw [Nat.zero_add,v5];rfl,blk_frozen hT3 _⟩
      refine wpAnyH_ready (rs:=[7]) (by kernel_rfl) (by decide) (AllReadyH.cons rfl (fun K hK=>?_) AllReadyH.nil)
      rw [if_pos (by kernel_rfl)]
      refine wp_store_mid 166 (.tmp 10) (.tmp 50) rfl (V2.heap.size) 0 #[.int .u8 k,.int .i64 rr,.int .i64 l,.int .i64 (p+oz),.int .u64 d,.bool tb] rfl rfl hthere (by kernel_rfl) (Array.all_eq_true_iff_forall_mem.2 (by intro x hx;simp at hx;rcases hx with rfl|rfl|rfl|rfl|rfl|rfl<;>rfl)) ?_
      change K _ (set6 V3 (V2.heap.size) (.int .u8 k) (.int .i64 rr) (.int .i64 l) (.int .i64 (p+oz)) (.int .u64 d) (.bool tb))
      have hTS:W5.heap.size≤V2.heap.size:=hv2.size
      have hks:∀ (bb o:Nat) (cc:Value),bb<W5.heap.size→W5.cell? ⟨bb,o,none⟩=some cc→(set6 V3 (V2.heap.size) (.int .u8 k) (.int .i64 rr) (.int .i64 l) (.int .i64 (p+oz)) (.int .u64 d) (.bool tb)).cell? ⟨bb,o,none⟩=some cc:=fun bb o cc hbb hcc=>keep6 (cell_stays hv3 hcc) (by show bb≠_;omega)
      refine hK.out _ _ ⟨hks _ _ _ (World.block_lt_of_cell? _ _ s1) s1,hks _ _ _ (World.block_lt_of_cell? _ _ s2) s2,hks _ _ _ (World.block_lt_of_cell? _ _ s3) s3,hks _ _ _ (World.block_lt_of_cell? _ _ s4) s4,hks _ _ _ (World.block_lt_of_cell? _ _ s5) s5,hks _ _ _ (World.block_lt_of_cell? _ _ s6) s6,hks _ _ _ (World.block_lt_of_cell? _ _ y0) y0,hks _ _ _ (World.block_lt_of_cell? _ _ y1) y1,hks _ _ _ (World.block_lt_of_cell? _ _ y2) y2,hks _ _ _ (World.block_lt_of_cell? _ _ y3) y3,hks _ _ _ (World.block_lt_of_cell? _ _ y4) y4⟩ (fun hS=>?_)
      refine wpAnyH_done (by kernel_rfl) ?_ _
      refine NoPanic.normal ?_
      try simp only [Exit.then]
      have HE1:=Lib.hid (show (set6 V3 (V2.heap.size) (.int .u8 k) (.int .i64 rr) (.int .i64 l) (.int .i64 (p+oz)) (.int .u64 d) (.bool tb)).heap[V2.heap.size]?=some (.cells #[.int .u8 k,.int .i64 rr,.int .i64 l,.int .i64 (p+oz),.int .u64 d,.bool tb] 166 (0,0)) from blk_set6 hT3 _ _ _ _ _ _)
      have HE2:=Lib.hid (show Below W5.heap.size W5 (set6 V3 (V2.heap.size) (.int .u8 k) (.int .i64 rr) (.int .i64 l) (.int .i64 (p+oz)) (.int .u64 d) (.bool tb)) from below_set6 hv3 hTS _ _ _ _ _ _)
      clear hS hks hthere s1 s2 s3 s4 s5 s6 y0 y1 y2 y3 y4 hTS
      generalize set6 V3 (V2.heap.size) (.int .u8 k) (.int .i64 rr) (.int .i64 l) (.int .i64 (p+oz)) (.int .u64 d) (.bool tb)=W9 at *
      obtain ⟨_,q0,q1,q2,q3,q4,q5⟩:=blk6 HE1.out
      have HC9:=Lib.hid (HC5.out.below HE2.out)
      have HX9:=Lib.hid ((HXW.out.trans ((Exw.of_below (R:=wk) (S:=mt) HBA.out).mono (by have:=HXW.out.size;omega))).trans ((Exw.of_below (R:=wk) (S:=mt) HE2.out).mono (by have:=HXW.out.size;have:=HFS.out;omega)))
      have HK9:=Lib.hid (blk_below HK5.out HE2.out (blk_lt HK5.out))
      have HF9:=Lib.hid (blk_below HFB.out HE2.out (blk_lt HFB.out))
      obtain ⟨_,s1,s2,s3,s4,s5,s6⟩:=blk6 HK9.out
      obtain ⟨_,y0,y1,y2,y3,y4,_⟩:=blk5 HF9.out
      by_cases hz0:oz=0
      · obtain rfl:tb=false:=HTB.out.symm.trans (decide_eq_false (by simp [hz0]))
        have HNEW:Hid (seqD F l2 (j+1)=some (vs++[numV d],l1)):=Lib.hid (by rw [seqD_succ HSEQ.out,HFJ.out,if_pos hz0])
        clear hz0
        go_wp2
        go_roundw
        case rel=>exact ⟨j+1,_,l1,ml1,by omega,by go_num,HNEW.out,hl1,hml1,H3.out,HC9.out,HX9.out,HK9.out⟩
        case measure=>simp [intOf];omega
      · obtain rfl:tb=true:=HTB.out.symm.trans (decide_eq_true hz0)
        have HHO:=Lib.hid (fun W=>fholds_any t p oz ic W (by omega) (by have:=HINL.out;omega))
        unfold tabV at HHO
        by_cases hho:4≤oz∧oz+ic≤t.own
        case neg =>
         have HEND:Hid (∀ W,Below W9.heap.size W9 W→P (.returned (.bool false)) W):=Lib.hid (fun W hW=>by
          have hn:seqD F l2 xs.length=none:=seqD_le (j:=j+1) (by omega) (by rw [seqD_succ HSEQ.out,HFJ.out,if_neg hz0,if_pos (by omega)])
          rw [HP2.out,hn]
          exact rpost_none (HC9.out.st.below hW) (HX9.out.trans ((Exw.of_below (R:=wk) (S:=mt) hW).mono HX9.out.size)) rfl)
         rw [decide_eq_false hho] at HHO
         go_wp2_with fail
         refine (HHO.out _).mono ?_
         rintro e W10 ⟨rfl,hb10⟩
         have HE10:=Lib.hid (HEND.out W10 hb10)
         clear hb10 q0 q1 q2 q3 q4 q5 s1 s2 s3 s4 s5 s6 y0 y1 y2 y3 y4
         go_wp2
         exact HE10.out
        rw [decide_eq_true hho] at HHO
        have HHH:=Lib.hid hho
        clear hho
        go_wp2_with fail
        refine (HHO.out _).mono ?_
        rintro e W10 ⟨rfl,hb10⟩
        have HC10:=Lib.hid (HC9.out.below hb10)
        have HX10:=Lib.hid (HX9.out.trans ((Exw.of_below (R:=wk) (S:=mt) hb10).mono HX9.out.size))
        have HK10:=Lib.hid (blk_below HK9.out hb10 (blk_lt HK9.out))
        have HQ10:=Lib.hid (blk_below HE1.out hb10 (blk_lt HE1.out))
        clear hb10 q0 q1 q2 q3 q4 q5 s1 s2 s3 s4 s5 s6 y0 y1 y2 y3 y4
        obtain ⟨_,q0,q1,q2,q3,q4,q5⟩:=blk6 HQ10.out
        have HKR:=Lib.hid (HNX.out.run HC10.out k rr l d (p+oz) HTYP.out (HIN.out HHH.out.1 HHH.out.2))
        unfold kidV at HKR
        go_wp2_with fail
        refine HKR.out.mono ?_
        rintro e W11 hp11
        have HX11:=Lib.hid (HX10.out.trans (hp11.1.mono HX10.out.size))
        have HK11:=Lib.hid (blk_exw HK10.out hp11.1 (blk_lt HK10.out) (by have:=HKW.out;omega) (by have:=HKW.out;omega))
        have HXL:=Lib.hid hp11.1
        rcases hp11.2 with ⟨v',l',ml',hres,hl',rfl,hs',hml',h3'⟩|⟨rfl,o,l',ml',mo,hs',hno,hout⟩
        · have HNEW:Hid (seqD F l2 (j+1)=some (vs++[v'],l')):=Lib.hid (by rw [seqD_succ HSEQ.out,HFJ.out,if_neg hz0,if_neg (by have:=HHH.out;omega),hres])
          have HC11:=Lib.hid (HC10.out.exw HXL.out hs' hl' hml')
          have H33:=Lib.hid h3'
          clear hp11 hres hs' h3' q0 q1 q2 q3 q4 q5
          go_wp2
          go_roundw
          case rel=>exact ⟨j+1,_,l',ml',by omega,by go_num,HNEW.out,by omega,by omega,fun h=>H33.out (H3.out h),HC11.out,HX11.out,HK11.out⟩
          case measure=>simp [intOf];omega
        · have HEND:Hid (P (.returned (.bool false)) W11):=Lib.hid (by
           rw [HP2.out]
           cases o with
           | false =>
            have hn:seqD F l2 xs.length=none:=seqD_le (j:=j+1) (by omega) (by rw [seqD_succ HSEQ.out,HFJ.out,if_neg hz0,if_neg (by have:=HHH.out;omega),hno rfl])
            rw [hn]
            exact rpost_none hs' HX11.out rfl
           | true =>
            have h5:=hout rfl
            exact rpost_out hs' HX11.out (by
             rcases Int.lt_or_le ml (3 * left) with h6|h6
             · exact h6
             · have:=H3.out h6
               omega))
          clear hp11 hs' hno hout q0 q1 q2 q3 q4 q5
          go_wp2
          exact HEND.out
    · rw [if_pos (by kernel_rfl)]
      go_simp
      have hv2:Below W5.heap.size W5 (V1.alloc (.cells #[.int .u8 0,.int .i64 0,.int .i64 0,.int .i64 0,.int .u64 0,.bool false] 166)):=hv1.alloc hv1.size _
      have hT2:=heap_alloc_new V1 (.cells #[.int .u8 0,.int .i64 0,.int .i64 0,.int .i64 0,.int .u64 0,.bool false] 166)
      have nn0:=cell_stays hv2 s1
      have nn1:=cell_stays hv2 s2
      have nn2:=cell_stays hv2 s3
      have nn3:=cell_stays hv2 s4
      have nn4:=cell_stays hv2 s5
      have nn5:=cell_stays hv2 s6
      have nn6:=cell_stays hv2 y0
      have nn7:=cell_stays hv2 y1
      have nn8:=cell_stays hv2 y2
      have nn9:=cell_stays hv2 y3
      have nn10:=cell_stays hv2 y4
      refine hK.out _ _ ⟨nn0,nn1,nn2,nn3,nn4,nn5,nn6,nn7,nn8,nn9,nn10⟩ (fun hS=>?_)
      clear nn0 nn1 nn2 nn3 nn4 nn5 nn6 nn7 nn8 nn9 nn10
      generalize V1.alloc (.cells #[.int .u8 0,.int .i64 0,.int .i64 0,.int .i64 0,.int .u64 0,.bool false] 166)=V2 at *
      refine wpAnyH_ready (rs:=[5]) (by kernel_rfl) (by decide) (AllReadyH.cons rfl (fun K hK=>?_) AllReadyH.nil)
      rw [if_pos (by kernel_rfl)]
      go_simp
      refine (HSK.out V2 (HBA.out.trans (hv2.mono HBA.out.size))).mono ?_
      rintro e V3 ⟨rfl,hb3⟩
      have hv3:Below W5.heap.size W5 V3:=hv2.trans (hb3.mono hv2.size)
      have nn0:=cell_stays hv3 s1
      have nn1:=cell_stays hv3 s2
      have nn2:=cell_stays hv3 s3
      have nn3:=cell_stays hv3 s4
      have nn4:=cell_stays hv3 s5
      have nn5:=cell_stays hv3 s6
      have nn6:=cell_stays hv3 y0
      have nn7:=cell_stays hv3 y1
      have nn8:=cell_stays hv3 y2
      have nn9:=cell_stays hv3 y3
      have nn10:=cell_stays hv3 y4
      refine hK.out _ _ ⟨nn0,nn1,nn2,nn3,nn4,nn5,nn6,nn7,nn8,nn9,nn10⟩ (fun hS=>?_)
      clear nn0 nn1 nn2 nn3 nn4 nn5 nn6 nn7 nn8 nn9 nn10
      have hT3:=blk_below hT2 hb3 (blk_lt hT2)
      have hthere:V3.there (V1.heap.size) 0 6:=fun i hi=>by
       have h4:i=0∨i=1∨i=2∨i=3∨i=4∨i=5:=by omega
       obtain ⟨_,v0,v1,v2,v3,v4,v5⟩:=blk6 hT3
       rcases h4 with rfl|rfl|rfl|rfl|rfl|rfl
       · exact ⟨by rw [Nat.add_zero,v0];rfl,blk_frozen hT3 _⟩
       · exact ⟨by rw [Nat.zero_add,v1];rfl,blk_frozen hT3 _⟩
       · exact ⟨by rw [Nat.zero_add,v2];rfl,blk_frozen hT3 _⟩
       · exact ⟨by rw [Nat.zero_add,v3];rfl,blk_frozen hT3 _⟩
       · exact ⟨by rw [Nat.zero_add,v4];rfl,blk_frozen hT3 _⟩
       · exact ⟨by rw [Nat.zero_add,v5];rfl,blk_frozen hT3 _⟩
      refine wpAnyH_ready (rs:=[7]) (by kernel_rfl) (by decide) (AllReadyH.cons rfl (fun K hK=>?_) AllReadyH.nil)
      rw [if_pos (by kernel_rfl)]
      refine wp_store_mid 166 (.tmp 10) (.tmp 50) rfl (V1.heap.size) 0 #[.int .u8 k,.int .i64 rr,.int .i64 l,.int .i64 (p+oz),.int .u64 d,.bool tb] rfl rfl hthere (by kernel_rfl) (Array.all_eq_true_iff_forall_mem.2 (by intro x hx;simp at hx;rcases hx with rfl|rfl|rfl|rfl|rfl|rfl<;>rfl)) ?_
      change K _ (set6 V3 (V1.heap.size) (.int .u8 k) (.int .i64 rr) (.int .i64 l) (.int .i64 (p+oz)) (.int .u64 d) (.bool tb))
      have hTS:W5.heap.size≤V1.heap.size:=hv1.size
      have hks:∀ (bb o:Nat) (cc:Value),bb<W5.heap.size→W5.cell? ⟨bb,o,none⟩=some cc→(set6 V3 (V1.heap.size) (.int .u8 k) (.int .i64 rr) (.int .i64 l) (.int .i64 (p+oz)) (.int .u64 d) (.bool tb)).cell? ⟨bb,o,none⟩=some cc:=fun bb o cc hbb hcc=>keep6 (cell_stays hv3 hcc) (by show bb≠_;omega)
      refine hK.out _ _ ⟨hks _ _ _ (World.block_lt_of_cell? _ _ s1) s1,hks _ _ _ (World.block_lt_of_cell? _ _ s2) s2,hks _ _ _ (World.block_lt_of_cell? _ _ s3) s3,hks _ _ _ (World.block_lt_of_cell? _ _ s4) s4,hks _ _ _ (World.block_lt_of_cell? _ _ s5) s5,hks _ _ _ (World.block_lt_of_cell? _ _ s6) s6,hks _ _ _ (World.block_lt_of_cell? _ _ y0) y0,hks _ _ _ (World.block_lt_of_cell? _ _ y1) y1,hks _ _ _ (World.block_lt_of_cell? _ _ y2) y2,hks _ _ _ (World.block_lt_of_cell? _ _ y3) y3,hks _ _ _ (World.block_lt_of_cell? _ _ y4) y4⟩ (fun hS=>?_)
      refine wpAnyH_done (by kernel_rfl) ?_ _
      refine NoPanic.normal ?_
      try simp only [Exit.then]
      have HE1:=Lib.hid (show (set6 V3 (V1.heap.size) (.int .u8 k) (.int .i64 rr) (.int .i64 l) (.int .i64 (p+oz)) (.int .u64 d) (.bool tb)).heap[V1.heap.size]?=some (.cells #[.int .u8 k,.int .i64 rr,.int .i64 l,.int .i64 (p+oz),.int .u64 d,.bool tb] 166 (0,0)) from blk_set6 hT3 _ _ _ _ _ _)
      have HE2:=Lib.hid (show Below W5.heap.size W5 (set6 V3 (V1.heap.size) (.int .u8 k) (.int .i64 rr) (.int .i64 l) (.int .i64 (p+oz)) (.int .u64 d) (.bool tb)) from below_set6 hv3 hTS _ _ _ _ _ _)
      clear hS hks hthere s1 s2 s3 s4 s5 s6 y0 y1 y2 y3 y4 hTS
      generalize set6 V3 (V1.heap.size) (.int .u8 k) (.int .i64 rr) (.int .i64 l) (.int .i64 (p+oz)) (.int .u64 d) (.bool tb)=W9 at *
      obtain ⟨_,q0,q1,q2,q3,q4,q5⟩:=blk6 HE1.out
      have HC9:=Lib.hid (HC5.out.below HE2.out)
      have HX9:=Lib.hid ((HXW.out.trans ((Exw.of_below (R:=wk) (S:=mt) HBA.out).mono (by have:=HXW.out.size;omega))).trans ((Exw.of_below (R:=wk) (S:=mt) HE2.out).mono (by have:=HXW.out.size;have:=HFS.out;omega)))
      have HK9:=Lib.hid (blk_below HK5.out HE2.out (blk_lt HK5.out))
      have HF9:=Lib.hid (blk_below HFB.out HE2.out (blk_lt HFB.out))
      obtain ⟨_,s1,s2,s3,s4,s5,s6⟩:=blk6 HK9.out
      obtain ⟨_,y0,y1,y2,y3,y4,_⟩:=blk5 HF9.out
      by_cases hz0:oz=0
      · obtain rfl:tb=false:=HTB.out.symm.trans (decide_eq_false (by simp [hz0]))
        have HNEW:Hid (seqD F l2 (j+1)=some (vs++[numV d],l1)):=Lib.hid (by rw [seqD_succ HSEQ.out,HFJ.out,if_pos hz0])
        clear hz0
        go_wp2
        go_roundw
        case rel=>exact ⟨j+1,_,l1,ml1,by omega,by go_num,HNEW.out,hl1,hml1,H3.out,HC9.out,HX9.out,HK9.out⟩
        case measure=>simp [intOf];omega
      · obtain rfl:tb=true:=HTB.out.symm.trans (decide_eq_true hz0)
        have HHO:=Lib.hid (fun W=>fholds_any t p oz ic W (by omega) (by have:=HINL.out;omega))
        unfold tabV at HHO
        by_cases hho:4≤oz∧oz+ic≤t.own
        case neg =>
         have HEND:Hid (∀ W,Below W9.heap.size W9 W→P (.returned (.bool false)) W):=Lib.hid (fun W hW=>by
          have hn:seqD F l2 xs.length=none:=seqD_le (j:=j+1) (by omega) (by rw [seqD_succ HSEQ.out,HFJ.out,if_neg hz0,if_pos (by omega)])
          rw [HP2.out,hn]
          exact rpost_none (HC9.out.st.below hW) (HX9.out.trans ((Exw.of_below (R:=wk) (S:=mt) hW).mono HX9.out.size)) rfl)
         rw [decide_eq_false hho] at HHO
         go_wp2_with fail
         refine (HHO.out _).mono ?_
         rintro e W10 ⟨rfl,hb10⟩
         have HE10:=Lib.hid (HEND.out W10 hb10)
         clear hb10 q0 q1 q2 q3 q4 q5 s1 s2 s3 s4 s5 s6 y0 y1 y2 y3 y4
         go_wp2
         exact HE10.out
        rw [decide_eq_true hho] at HHO
        have HHH:=Lib.hid hho
        clear hho
        go_wp2_with fail
        refine (HHO.out _).mono ?_
        rintro e W10 ⟨rfl,hb10⟩
        have HC10:=Lib.hid (HC9.out.below hb10)
        have HX10:=Lib.hid (HX9.out.trans ((Exw.of_below (R:=wk) (S:=mt) hb10).mono HX9.out.size))
        have HK10:=Lib.hid (blk_below HK9.out hb10 (blk_lt HK9.out))
        have HQ10:=Lib.hid (blk_below HE1.out hb10 (blk_lt HE1.out))
        clear hb10 q0 q1 q2 q3 q4 q5 s1 s2 s3 s4 s5 s6 y0 y1 y2 y3 y4
        obtain ⟨_,q0,q1,q2,q3,q4,q5⟩:=blk6 HQ10.out
        have HKR:=Lib.hid (HNX.out.run HC10.out k rr l d (p+oz) HTYP.out (HIN.out HHH.out.1 HHH.out.2))
        unfold kidV at HKR
        go_wp2_with fail
        refine HKR.out.mono ?_
        rintro e W11 hp11
        have HX11:=Lib.hid (HX10.out.trans (hp11.1.mono HX10.out.size))
        have HK11:=Lib.hid (blk_exw HK10.out hp11.1 (blk_lt HK10.out) (by have:=HKW.out;omega) (by have:=HKW.out;omega))
        have HXL:=Lib.hid hp11.1
        rcases hp11.2 with ⟨v',l',ml',hres,hl',rfl,hs',hml',h3'⟩|⟨rfl,o,l',ml',mo,hs',hno,hout⟩
        · have HNEW:Hid (seqD F l2 (j+1)=some (vs++[v'],l')):=Lib.hid (by rw [seqD_succ HSEQ.out,HFJ.out,if_neg hz0,if_neg (by have:=HHH.out;omega),hres])
          have HC11:=Lib.hid (HC10.out.exw HXL.out hs' hl' hml')
          have H33:=Lib.hid h3'
          clear hp11 hres hs' h3' q0 q1 q2 q3 q4 q5
          go_wp2
          go_roundw
          case rel=>exact ⟨j+1,_,l',ml',by omega,by go_num,HNEW.out,by omega,by omega,fun h=>H33.out (H3.out h),HC11.out,HX11.out,HK11.out⟩
          case measure=>simp [intOf];omega
        · have HEND:Hid (P (.returned (.bool false)) W11):=Lib.hid (by
           rw [HP2.out]
           cases o with
           | false =>
            have hn:seqD F l2 xs.length=none:=seqD_le (j:=j+1) (by omega) (by rw [seqD_succ HSEQ.out,HFJ.out,if_neg hz0,if_neg (by have:=HHH.out;omega),hno rfl])
            rw [hn]
            exact rpost_none hs' HX11.out rfl
           | true =>
            have h5:=hout rfl
            exact rpost_out hs' HX11.out (by
             rcases Int.lt_or_le ml (3 * left) with h6|h6
             · exact h6
             · have:=H3.out h6
               omega))
          clear hp11 hs' hno hout q0 q1 q2 q3 q4 q5
          go_wp2
          exact HEND.out
  · rw [if_pos (by kernel_rfl)]
    go_simp
    have hv1:Below W5.heap.size W5 ((W5.alloc (.cells #[.int .u8 0,.int .i64 0,.int .i64 0,.int .i64 0,.int .u64 0,.bool false] 166)).drew):=((Below.refl _ W5).alloc (Nat.le_refl _) _).drew
    have hT1:((W5.alloc (.cells #[.int .u8 0,.int .i64 0,.int .i64 0,.int .i64 0,.int .u64 0,.bool false] 166)).drew).heap[W5.heap.size]?=some (.cells #[.int .u8 0,.int .i64 0,.int .i64 0,.int .i64 0,.int .u64 0,.bool false] 166 (0,0)):=heap_alloc_new W5 _
    have nn0:=cell_stays hv1 s1
    have nn1:=cell_stays hv1 s2
    have nn2:=cell_stays hv1 s3
    have nn3:=cell_stays hv1 s4
    have nn4:=cell_stays hv1 s5
    have nn5:=cell_stays hv1 s6
    have nn6:=cell_stays hv1 y0
    have nn7:=cell_stays hv1 y1
    have nn8:=cell_stays hv1 y2
    have nn9:=cell_stays hv1 y3
    have nn10:=cell_stays hv1 y4
    refine hK.out _ _ ⟨nn0,nn1,nn2,nn3,nn4,nn5,nn6,nn7,nn8,nn9,nn10⟩ (fun hS=>?_)
    clear nn0 nn1 nn2 nn3 nn4 nn5 nn6 nn7 nn8 nn9 nn10
    generalize (W5.alloc (.cells #[.int .u8 0,.int .i64 0,.int .i64 0,.int .i64 0,.int .u64 0,.bool false] 166)).drew=V1 at *
    refine wpAnyH_ready (rs:=[4]) (by kernel_rfl) (by decide) (AllReadyH.cons rfl (fun K hK=>?_) AllReadyH.nil)
    rw [if_pos (by kernel_rfl)]
    go_simp
    refine (sorts_any k rr l V1).mono ?_
    rintro e V2 ⟨rfl,hb2⟩
    have hv2:Below W5.heap.size W5 V2:=hv1.trans (hb2.mono hv1.size)
    have nn0:=cell_stays hv2 s1
    have nn1:=cell_stays hv2 s2
    have nn2:=cell_stays hv2 s3
    have nn3:=cell_stays hv2 s4
    have nn4:=cell_stays hv2 s5
    have nn5:=cell_stays hv2 s6
    have nn6:=cell_stays hv2 y0
    have nn7:=cell_stays hv2 y1
    have nn8:=cell_stays hv2 y2
    have nn9:=cell_stays hv2 y3
    have nn10:=cell_stays hv2 y4
    refine hK.out _ _ ⟨nn0,nn1,nn2,nn3,nn4,nn5,nn6,nn7,nn8,nn9,nn10⟩ (fun hS=>?_)
    clear nn0 nn1 nn2 nn3 nn4 nn5 nn6 nn7 nn8 nn9 nn10
    refine wpAnyH_ready (rs:=[5]) (by kernel_rfl) (by decide) (AllReadyH.cons rfl (fun K hK=>?_) AllReadyH.nil)
    rw [if_pos (by kernel_rfl)]
    go_simp
    refine (HSK.out V2 (HBA.out.trans (hv2.mono HBA.out.size))).mono ?_
    rintro e V3 ⟨rfl,hb3⟩
    have hv3:Below W5.heap.size W5 V3:=hv2.trans (hb3.mono hv2.size)
    have nn0:=cell_stays hv3 s1
    have nn1:=cell_stays hv3 s2
    have nn2:=cell_stays hv3 s3
    have nn3:=cell_stays hv3 s4
    have nn4:=cell_stays hv3 s5
    have nn5:=cell_stays hv3 s6
    have nn6:=cell_stays hv3 y0
    have nn7:=cell_stays hv3 y1
    have nn8:=cell_stays hv3 y2
    have nn9:=cell_stays hv3 y3
    have nn10:=cell_stays hv3 y4
    refine hK.out _ _ ⟨nn0,nn1,nn2,nn3,nn4,nn5,nn6,nn7,nn8,nn9,nn10⟩ (fun hS=>?_)
    clear nn0 nn1 nn2 nn3 nn4 nn5 nn6 nn7 nn8 nn9 nn10
    have hT3:=blk_below (blk_below hT1 hb2 (blk_lt hT1)) hb3 (blk_lt (blk_below hT1 hb2 (blk_lt hT1)))
    have hthere:V3.there (W5.heap.size) 0 6:=fun i hi=>by
     have h4:i=0∨i=1∨i=2∨i=3∨i=4∨i=5:=by omega
     obtain ⟨_,v0,v1,v2,v3,v4,v5⟩:=blk6 hT3
     rcases h4 with rfl|rfl|rfl|rfl|rfl|rfl
     · exact ⟨by rw [Nat.add_zero,v0];rfl,blk_frozen hT3 _⟩
     · exact ⟨by rw [Nat.zero_add,v1];rfl,blk_frozen hT3 _⟩
     · exact ⟨by rw [Nat.zero_add,v2];rfl,blk_frozen hT3 _⟩
     · exact ⟨by rw [Nat.zero_add,v3];rfl,blk_frozen hT3 _⟩
     · exact ⟨by rw [Nat.zero_add,v4];rfl,blk_frozen hT3 _⟩
     · exact ⟨by rw [Nat.zero_add,v5];rfl,blk_frozen hT3 _⟩
    refine wpAnyH_ready (rs:=[7]) (by kernel_rfl) (by decide) (AllReadyH.cons rfl (fun K hK=>?_) AllReadyH.nil)
    rw [if_pos (by kernel_rfl)]
    refine wp_store_mid 166 (.tmp 10) (.tmp 50) rfl (W5.heap.size) 0 #[.int .u8 k,.int .i64 rr,.int .i64 l,.int .i64 (p+oz),.int .u64 d,.bool tb] rfl rfl hthere (by kernel_rfl) (Array.all_eq_true_iff_forall_mem.2 (by intro x hx;simp at hx;rcases hx with rfl|rfl|rfl|rfl|rfl|rfl<;>rfl)) ?_
    change K _ (set6 V3 (W5.heap.size) (.int .u8 k) (.int .i64 rr) (.int .i64 l) (.int .i64 (p+oz)) (.int .u64 d) (.bool tb))
    have hTS:W5.heap.size≤W5.heap.size:=Nat.le_refl _
    have hks:∀ (bb o:Nat) (cc:Value),bb<W5.heap.size→W5.cell? ⟨bb,o,none⟩=some cc→(set6 V3 (W5.heap.size) (.int .u8 k) (.int .i64 rr) (.int .i64 l) (.int .i64 (p+oz)) (.int .u64 d) (.bool tb)).cell? ⟨bb,o,none⟩=some cc:=fun bb o cc hbb hcc=>keep6 (cell_stays hv3 hcc) (by show bb≠_;omega)
    refine hK.out _ _ ⟨hks _ _ _ (World.block_lt_of_cell? _ _ s1) s1,hks _ _ _ (World.block_lt_of_cell? _ _ s2) s2,hks _ _ _ (World.block_lt_of_cell? _ _ s3) s3,hks _ _ _ (World.block_lt_of_cell? _ _ s4) s4,hks _ _ _ (World.block_lt_of_cell? _ _ s5) s5,hks _ _ _ (World.block_lt_of_cell? _ _ s6) s6,hks _ _ _ (World.block_lt_of_cell? _ _ y0) y0,hks _ _ _ (World.block_lt_of_cell? _ _ y1) y1,hks _ _ _ (World.block_lt_of_cell? _ _ y2) y2,hks _ _ _ (World.block_lt_of_cell? _ _ y3) y3,hks _ _ _ (World.block_lt_of_cell? _ _ y4) y4⟩ (fun hS=>?_)
    refine wpAnyH_done (by kernel_rfl) ?_ _
    refine NoPanic.normal ?_
    try simp only [Exit.then]
    have HE1:=Lib.hid (show (set6 V3 (W5.heap.size) (.int .u8 k) (.int .i64 rr) (.int .i64 l) (.int .i64 (p+oz)) (.int .u64 d) (.bool tb)).heap[W5.heap.size]?=some (.cells #[.int .u8 k,.int .i64 rr,.int .i64 l,.int .i64 (p+oz),.int .u64 d,.bool tb] 166 (0,0)) from blk_set6 hT3 _ _ _ _ _ _)
    have HE2:=Lib.hid (show Below W5.heap.size W5 (set6 V3 (W5.heap.size) (.int .u8 k) (.int .i64 rr) (.int .i64 l) (.int .i64 (p+oz)) (.int .u64 d) (.bool tb)) from below_set6 hv3 hTS _ _ _ _ _ _)
    clear hS hks hthere s1 s2 s3 s4 s5 s6 y0 y1 y2 y3 y4 hTS
    generalize set6 V3 (W5.heap.size) (.int .u8 k) (.int .i64 rr) (.int .i64 l) (.int .i64 (p+oz)) (.int .u64 d) (.bool tb)=W9 at *
    obtain ⟨_,q0,q1,q2,q3,q4,q5⟩:=blk6 HE1.out
    have HC9:=Lib.hid (HC5.out.below HE2.out)
    have HX9:=Lib.hid ((HXW.out.trans ((Exw.of_below (R:=wk) (S:=mt) HBA.out).mono (by have:=HXW.out.size;omega))).trans ((Exw.of_below (R:=wk) (S:=mt) HE2.out).mono (by have:=HXW.out.size;have:=HFS.out;omega)))
    have HK9:=Lib.hid (blk_below HK5.out HE2.out (blk_lt HK5.out))
    have HF9:=Lib.hid (blk_below HFB.out HE2.out (blk_lt HFB.out))
    obtain ⟨_,s1,s2,s3,s4,s5,s6⟩:=blk6 HK9.out
    obtain ⟨_,y0,y1,y2,y3,y4,_⟩:=blk5 HF9.out
    by_cases hz0:oz=0
    · obtain rfl:tb=false:=HTB.out.symm.trans (decide_eq_false (by simp [hz0]))
      have HNEW:Hid (seqD F l2 (j+1)=some (vs++[numV d],l1)):=Lib.hid (by rw [seqD_succ HSEQ.out,HFJ.out,if_pos hz0])
      clear hz0
      go_wp2
      go_roundw
      case rel=>exact ⟨j+1,_,l1,ml1,by omega,by go_num,HNEW.out,hl1,hml1,H3.out,HC9.out,HX9.out,HK9.out⟩
      case measure=>simp [intOf];omega
    · obtain rfl:tb=true:=HTB.out.symm.trans (decide_eq_true hz0)
      have HHO:=Lib.hid (fun W=>fholds_any t p oz ic W (by omega) (by have:=HINL.out;omega))
      unfold tabV at HHO
      by_cases hho:4≤oz∧oz+ic≤t.own
      case neg =>
       have HEND:Hid (∀ W,Below W9.heap.size W9 W→P (.returned (.bool false)) W):=Lib.hid (fun W hW=>by
        have hn:seqD F l2 xs.length=none:=seqD_le (j:=j+1) (by omega) (by rw [seqD_succ HSEQ.out,HFJ.out,if_neg hz0,if_pos (by omega)])
        rw [HP2.out,hn]
        exact rpost_none (HC9.out.st.below hW) (HX9.out.trans ((Exw.of_below (R:=wk) (S:=mt) hW).mono HX9.out.size)) rfl)
       rw [decide_eq_false hho] at HHO
       go_wp2_with fail
       refine (HHO.out _).mono ?_
       rintro e W10 ⟨rfl,hb10⟩
       have HE10:=Lib.hid (HEND.out W10 hb10)
       clear hb10 q0 q1 q2 q3 q4 q5 s1 s2 s3 s4 s5 s6 y0 y1 y2 y3 y4
       go_wp2
       exact HE10.out
      rw [decide_eq_true hho] at HHO
      have HHH:=Lib.hid hho
      clear hho
      go_wp2_with fail
      refine (HHO.out _).mono ?_
      rintro e W10 ⟨rfl,hb10⟩
      have HC10:=Lib.hid (HC9.out.below hb10)
      have HX10:=Lib.hid (HX9.out.trans ((Exw.of_below (R:=wk) (S:=mt) hb10).mono HX9.out.size))
      have HK10:=Lib.hid (blk_below HK9.out hb10 (blk_lt HK9.out))
      have HQ10:=Lib.hid (blk_below HE1.out hb10 (blk_lt HE1.out))
      clear hb10 q0 q1 q2 q3 q4 q5 s1 s2 s3 s4 s5 s6 y0 y1 y2 y3 y4
      obtain ⟨_,q0,q1,q2,q3,q4,q5⟩:=blk6 HQ10.out
      have HKR:=Lib.hid (HNX.out.run HC10.out k rr l d (p+oz) HTYP.out (HIN.out HHH.out.1 HHH.out.2))
      unfold kidV at HKR
      go_wp2_with fail
      refine HKR.out.mono ?_
      rintro e W11 hp11
      have HX11:=Lib.hid (HX10.out.trans (hp11.1.mono HX10.out.size))
      have HK11:=Lib.hid (blk_exw HK10.out hp11.1 (blk_lt HK10.out) (by have:=HKW.out;omega) (by have:=HKW.out;omega))
      have HXL:=Lib.hid hp11.1
      rcases hp11.2 with ⟨v',l',ml',hres,hl',rfl,hs',hml',h3'⟩|⟨rfl,o,l',ml',mo,hs',hno,hout⟩
      · have HNEW:Hid (seqD F l2 (j+1)=some (vs++[v'],l')):=Lib.hid (by rw [seqD_succ HSEQ.out,HFJ.out,if_neg hz0,if_neg (by have:=HHH.out;omega),hres])
        have HC11:=Lib.hid (HC10.out.exw HXL.out hs' hl' hml')
        have H33:=Lib.hid h3'
        clear hp11 hres hs' h3' q0 q1 q2 q3 q4 q5
        go_wp2
        go_roundw
        case rel=>exact ⟨j+1,_,l',ml',by omega,by go_num,HNEW.out,by omega,by omega,fun h=>H33.out (H3.out h),HC11.out,HX11.out,HK11.out⟩
        case measure=>simp [intOf];omega
      · have HEND:Hid (P (.returned (.bool false)) W11):=Lib.hid (by
         rw [HP2.out]
         cases o with
         | false =>
          have hn:seqD F l2 xs.length=none:=seqD_le (j:=j+1) (by omega) (by rw [seqD_succ HSEQ.out,HFJ.out,if_neg hz0,if_neg (by have:=HHH.out;omega),hno rfl])
          rw [hn]
          exact rpost_none hs' HX11.out rfl
         | true =>
          have h5:=hout rfl
          exact rpost_out hs' HX11.out (by
           rcases Int.lt_or_le ml (3 * left) with h6|h6
           · exact h6
           · have:=H3.out h6
             omega))
        clear hp11 hs' hno hout q0 q1 q2 q3 q4 q5
        go_wp2
        exact HEND.out
end Go.Proofs.YtcfjjocmiheiaaaDoor
