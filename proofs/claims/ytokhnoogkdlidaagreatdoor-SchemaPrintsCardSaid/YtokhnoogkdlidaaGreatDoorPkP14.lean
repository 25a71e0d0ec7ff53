/-
  A plan that came in, opened. Conditions: those that each theorem names.
-/
import Derived.Test.YtokhnoogkdlidaaGreatDoorPkP2
import Derived.Test.YtokhnoogkdlidaaGreatDoorPkP3
import Derived.Test.YtokhnoogkdlidaaGreatDoorPkP12
import Derived.Deep.RegionHeld3
import Derived.Deep.Slices
import Derived.Lib.SmallJoins
namespace Go.Proofs.YtokhnoogkdlidaaGreatDoor
open Go.ChangeShapes Go.WideShapes Go.ChangeAt Go.RowKit Go.Shelf
theorem fold_take {α:Type}(f:ByteArray→α→ByteArray)(t:ByteArray)(l:List α)(k:Nat)(a:α)(h:l[k]?=some a):(l.take (k+1)).foldl f t=f ((l.take k).foldl f t) a:=by
 obtain ⟨hk,rfl⟩:=List.getElem?_eq_some_iff.1 h
 rw [List.take_succ_eq_append_getElem hk,List.foldl_append]
 rfl
theorem tyBase_of {S:Sch}(h:Few S){r:SRec}(hr:r ∈ S.structs){f:SFld}(hf:f ∈ r.fields):TyBase S.structs S.enums f.kind f.ref (tyBaseS S.structs S.enums f.kind f.ref):=by
 obtain ⟨h1,h2,h3,h4,h5,h6,h7⟩:=h.fl r hr f hf
 unfold tyBaseS
 by_cases h10:f.kind=10
 · have hh:=(h6 h10).choose
   rw [if_pos h10]
   exact .inl ⟨h10,hh,by rw [List.getD,List.getElem?_eq_getElem hh];rfl⟩
 · rw [if_neg h10]
   by_cases h13:f.kind=13
   · have hh:=h7 h13
     rw [if_pos h13]
     exact .inr (.inl ⟨h13,hh,by rw [List.getD,List.getElem?_eq_getElem hh];rfl⟩)
   · rw [if_neg h13]
     exact .inr (.inr ⟨h10,by omega,rfl⟩)
theorem defS_of {es:List SCho}{kind ref n:Nat}{T:ByteArray}(h:DefIs es kind ref n T):T=defS es kind ref n:=by
 unfold defS
 rcases h with ⟨h1,rfl⟩|⟨h10,h,h2,rfl⟩|⟨h1,h10,hd⟩
 · rw [if_pos h1]
 · rw [if_neg (by omega),if_pos h10,List.getD,List.getD,List.getElem?_eq_getElem h,Option.getD_some,List.getElem?_eq_getElem h2]
   rfl
 · rw [if_neg h1,if_neg h10]
   unfold decS
   rw [←show bts T=_ from hd,strOf_bts]
def TextPost (S:Sch)(w:World)(e:Ending)(w':World):Prop:=e=.returned (.string (textS S))∧Below w.heap.size w w'
def ValsAt (t1:ByteArray)(names:List ByteArray)(s i:Value):Prop:=∃ k:Nat,k≤names.length∧i=.int .i64 k∧s=.string (textVals t1 (names.take k))
def EnumsAt (es:List SCho)(s i:Value):Prop:=∃ k:Nat,k≤es.length∧i=.int .i64 k∧s=.string (textEnums ⟨#[]⟩ (es.take k))
def RecsAt (S:Sch)(T:ByteArray)(s i:Value):Prop:=∃ k:Nat,k≤S.structs.length∧i=.int .i64 k∧s=.string (textRecs S T (S.structs.take k))
def FieldsIn (S:Sch)(T:ByteArray)(l:List SFld)(s i:Value):Prop:=∃ k:Nat,k≤l.length∧i=.int .i64 k∧s=.string (textFields S T (l.take k))
set_option maxRecDepth 100000 in
set_option maxHeartbeats 16000000 in
theorem text_any (w:World){b:Nat}{ss:List (SRec × Value)}{es:List (SCho × Value)}{sv ev:Value}(root:Nat)(h:SchRows b w ss es sv ev)(S:Sch)(hS:S=⟨ss.map Prod.fst,es.map Prod.fst,root⟩)(hF:Few S) :
  Calls Tryz.prog 6 #[.agg #[sv,ev,.int .i64 root]] w (TextPost S w):=by
 obtain ⟨sa,sc,ea,ec,rfl,rfl⟩:=h.forms
 have hel:S.enums.length=es.length:=by rw [hS];simp
 have hsl:S.structs.length=ss.length:=by rw [hS];simp
 have hee:∀ k (hk:k<es.length),S.enums[k]?=some es[k].1:=fun k hk=>by subst hS;simp [hk]
 have hse:∀ k (hk:k<ss.length),S.structs[k]?=some ss[k].1:=fun k hk=>by subst hS;simp [hk]
 have hSs:S.structs=ss.map Prod.fst:=by rw [hS]
 have hSe:S.enums=es.map Prod.fst:=by rw [hS]
 have hSr:S.root=root:=by rw [hS]
 have HEE:=Lib.hid hee
 have HSE:=Lib.hid hse
 have HSS:=Lib.hid hSs
 have HSN:=Lib.hid hSe
 have HSR:=Lib.hid hSr
 have HEL:=Lib.hid hel
 have HSL:=Lib.hid hsl
 have hn1:es.length≤100:=by have:=hF.ne;omega
 have hn2:ss.length≤100:=by have:=hF.ns;omega
 have hrt:root<ss.length:=by have:=hF.rt;omega
 have HF:=Lib.hid hF
 have hb0:Below w.heap.size w (w.alloc (.cells #[.slice sa ss.length sc,.slice ea es.length ec,.int .i64 root] 30)):=(Below.refl _ _).alloc (Nat.le_refl _) _
 have HQ:=Lib.hid (heap_alloc_new w (.cells #[.slice sa ss.length sc,.slice ea es.length ec,.int .i64 root] 30))
 have HB:=Lib.hid hb0
 have HH:=Lib.hid (h.below hb0)
 clear hel hsl hee hse hSs hSe hSr hF h hb0 hS
 go_enter Tryz.func6,Tryz.ntmps6
 go_upto_region 1 with (fail)
 generalize w.alloc (.cells #[.slice sa ss.length sc,.slice ea es.length ec,.int .i64 root] 30)=W0 at *
 obtain ⟨_,z0,z1,z2,_⟩:=blk3 HQ.out
 go_wp2_with fail
 go_loopw [3,4] (fun s i wr=>wr=W0∧EnumsAt S.enums s i) (fun _ i _=>es.length-(intOf i).toNat)
 case atStart=>exact ⟨rfl,0,Nat.zero_le _,rfl,rfl⟩
 case round =>
  obtain ⟨hw,i,hi,rfl,rfl⟩:=hrel
  obtain rfl:W0=wr:=hw.symm
  clear hw
  rw [HEL.out] at hi
  have hts:=textEnums_size HF.out ⟨#[]⟩ (S.enums.take i) (fun c hc=>List.mem_of_mem_take hc)
  rw [List.length_take,show (⟨#[]⟩:ByteArray).size=0 from rfl] at hts
  generalize ht:textEnums ⟨#[]⟩ (S.enums.take i)=T at *
  have HT:=Lib.hid ht
  have hT:T.size≤1100000:=by omega
  clear ht hts
  by_cases hlt:i<es.length
  · obtain ⟨g,c,a,m,hv,hc,hg,x0,x1,he⟩:=HH.out.enum i hlt
    obtain ⟨rfl,rfl⟩:=slice_inj hv
    have hmem:es[i].1 ∈ S.enums:=by rw [HSN.out];exact List.mem_map.2 ⟨_,List.getElem_mem hlt,rfl⟩
    obtain ⟨e1,e2,e3⟩:=HF.out.en _ hmem
    have HE3:=Lib.hid e3
    have HNM:=Lib.hid (HH.out.name i hlt)
    have HX:=Lib.hid (HEE.out i hlt)
    rw [he] at HNM
    clear e3 hv he hmem
    generalize es[i]=q at *
    obtain ⟨c0,qv⟩:=q
    simp only at *
    have q1:¬9223372036854775807<T.size+5:=by omega
    have q2:¬9223372036854775807<T.size+5+c0.name.size:=by omega
    have q3:¬9223372036854775807<T.size+5+c0.name.size+2:=by omega
    have ht1:(T++⟨#[101,110,117,109,32]⟩++c0.name++⟨#[32,123]⟩).size=T.size+5+c0.name.size+2:=by rw [ByteArray.size_append,ByteArray.size_append,ByteArray.size_append];rfl
    go_upto_region 6 with (fail)
    clear q1 q2 q3
    obtain ⟨T1,hT1⟩:∃ T1,T++⟨#[101,110,117,109,32]⟩++c0.name++⟨#[32,123]⟩=T1:=⟨_,rfl⟩
    rw [hT1] at ht1 ⊢
    have HT1:=Lib.hid hT1
    clear hT1
    go_wp2_with fail
    go_loopw [3,5] (fun s k wq=>wq=W0∧ValsAt T1 c0.names s k) (fun _ k _=>c0.names.length-(intOf k).toNat)
    case atStart=>exact ⟨rfl,0,Nat.zero_le _,rfl,rfl⟩
    case round =>
     obtain ⟨hw,j,hj,rfl,rfl⟩:=hrel
     obtain rfl:W0=wr:=hw.symm
     clear hw
     have hvs:=textVals_size T1 (c0.names.take j) (fun n hn=>HE3.out n (List.mem_of_mem_take hn))
     rw [List.length_take] at hvs
     generalize ht:textVals T1 (c0.names.take j)=T2 at *
     have HT2:=Lib.hid ht
     have hT2:T2.size≤1200000:=by omega
     clear ht hvs
     by_cases hjl:j<c0.names.length
     · obtain ⟨g2,c2,he2,hc2,hg2,x2⟩:=HNM.out j hjl
       obtain ⟨rfl,rfl⟩:=slice_inj he2
       have e4:=HE3.out _ (List.getElem_mem hjl)
       have HY:=Lib.hid (List.getElem?_eq_getElem hjl)
       generalize c0.names[j]=nm at *
       have q1:¬9223372036854775807<T2.size+nm.size:=by omega
       have q2:¬9223372036854775807<T2.size+nm.size+1:=by omega
       clear he2
       go_wp2
       go_roundw
       case rel=>exact ⟨trivial,j+1,hjl,by go_num,by rw [←HT2.out];exact congrArg Value.string (fold_take (fun t n=>t++n++⟨#[44]⟩) T1 c0.names j nm HY.out).symm⟩
       case measure=>simp [intOf];omega
     · obtain rfl:j=c0.names.length:=by omega
       have q1:¬9223372036854775807<T2.size+2:=by omega
       rw [List.take_length] at HT2
       clear hjl
       go_wp2
       go_roundw
       case rel=>exact ⟨trivial,i+1,by rw [HEL.out];exact hlt,by go_num,by
        refine congrArg Value.string ((fold_take _ _ _ _ _ HX.out).trans ?_).symm
        rw [show (S.enums.take i).foldl textEnum ⟨#[]⟩=T from HT.out]
        unfold textEnum
        rw [HT1.out,HT2.out]⟩
       case measure=>simp [intOf];omega
  · obtain rfl:i=es.length:=by omega
    rw [←HEL.out,List.take_length] at HT
    clear hlt
    go_upto_region 11 with (fail)
    go_wp2_with fail
    go_loopw [3,6] (fun s i wq=>Below W0.heap.size W0 wq∧RecsAt S T s i) (fun _ i _=>ss.length-(intOf i).toNat)
    case atStart=>exact ⟨Below.refl _ _,0,Nat.zero_le _,rfl,rfl⟩
    case round =>
     obtain ⟨hb,i,hi,rfl,rfl⟩:=hrel
     rw [HSL.out] at hi
     have hts:=textRecs_size HF.out T (S.structs.take i) (fun c hc=>List.mem_of_mem_take hc)
     rw [List.length_take] at hts
     generalize ht:textRecs S T (S.structs.take i)=T2 at *
     have HT2:=Lib.hid ht
     have hT2:T2.size≤6000000:=by omega
     have HBW:=Lib.hid hb
     have hbz:W0.heap.size≤wr.heap.size:=hb.size
     clear ht hts z0 z1 z2 hb
     obtain ⟨_,z0,z1,z2,_⟩:=blk3 (blk_below HQ.out HBW.out (blk_lt HQ.out))
     by_cases hlt:i<ss.length
     · obtain ⟨g,c,a,m,hv,hc,hg,x0,x1,he⟩:=(HH.out.below HBW.out).strct i hlt
       obtain ⟨rfl,rfl⟩:=slice_inj hv
       have hmem:ss[i].1 ∈ S.structs:=by rw [HSS.out];exact List.mem_map.2 ⟨_,List.getElem_mem hlt,rfl⟩
       obtain ⟨e1,e2⟩:=HF.out.sn _ hmem
       have HME:=Lib.hid hmem
       have HNM:=Lib.hid (fun (W:World) (hb:Below W0.heap.size W0 W)=>(HH.out.below hb).field i hlt)
       have HX:=Lib.hid (HSE.out i hlt)
       rw [he] at HNM
       clear hv he hmem
       generalize ss[i]=q at *
       obtain ⟨c0,qv⟩:=q
       simp only at *
       have q1:¬9223372036854775807<T2.size+7:=by omega
       have q2:¬9223372036854775807<T2.size+7+c0.name.size:=by omega
       have q3:¬9223372036854775807<T2.size+7+c0.name.size+3:=by omega
       have ht1:(T2++⟨#[115,116,114,117,99,116,32]⟩++c0.name++⟨#[32,123,10]⟩).size=T2.size+7+c0.name.size+3:=by rw [ByteArray.size_append,ByteArray.size_append,ByteArray.size_append];rfl
       go_upto_region 15 with (fail)
       clear q1 q2 q3
       obtain ⟨T1,hT1⟩:∃ T1,T2++⟨#[115,116,114,117,99,116,32]⟩++c0.name++⟨#[32,123,10]⟩=T1:=⟨_,rfl⟩
       rw [hT1] at ht1 ⊢
       have HT1:=Lib.hid hT1
       clear hT1
       go_wp2_with fail
       have HX1:=Lib.hid x1
       have HQ1:=Lib.hid (blk_below HQ.out HBW.out (blk_lt HQ.out))
       have HG:=Lib.hid hg
       clear x0 x1 z0 z1 z2
       generalize wr=W1 at *
       go_loopw [3,7] (fun s k wq=>Below W1.heap.size W1 wq∧FieldsIn S T1 c0.fields s k) (fun _ k _=>c0.fields.length-(intOf k).toNat)
       case atStart=>exact ⟨Below.refl _ _,0,Nat.zero_le _,rfl,rfl⟩
       case round =>
        obtain ⟨hb,j,hj,rfl,rfl⟩:=hrel
        have hvs:=textFields_size HF.out HME.out T1 (c0.fields.take j) (fun n hn=>List.mem_of_mem_take hn)
        rw [List.length_take] at hvs
        generalize ht:textFields S T1 (c0.fields.take j)=T3 at *
        have HT3:=Lib.hid ht
        have hT3:T3.size≤6100000:=by omega
        have HB1:=Lib.hid hb
        have HBW0:=Lib.hid (HBW.out.trans (hb.mono HBW.out.size))
        have x1:=(hb.cell (p:=⟨g,i * 2+1,none⟩) HG.out).trans HX1.out
        have HQ2:=Lib.hid (blk_below HQ1.out hb (blk_lt HQ1.out))
        obtain ⟨_,z0,z1,z2,_⟩:=blk3 HQ2.out
        clear ht hvs hb
        by_cases hjl:j<c0.fields.length
        · obtain ⟨g2,c2,he2,hc2,hg2,y0,y1,y2,y3,y4⟩:=HNM.out wr HBW0.out j hjl
          obtain ⟨rfl,rfl⟩:=slice_inj he2
          have HY:=Lib.hid (List.getElem?_eq_getElem hjl)
          have hmf:c0.fields[j] ∈ c0.fields:=List.getElem_mem hjl
          obtain ⟨l1,l2,l3,l4,l5,l6,l7⟩:=HF.out.fl _ HME.out _ hmf
          have hTB:=tyBase_of HF.out HME.out hmf
          have hbs:=tyBaseS_size HF.out HME.out hmf
          have HDS:=Lib.hid (defS_size HF.out HME.out hmf)
          have HL5:=Lib.hid l5
          have HL6:=Lib.hid l6
          clear he2 hmf l5 l6 l7
          generalize c0.fields[j]=f at *
          have HWD:Hid (∀ W,Below wr.heap.size wr W→Calls Tryz.prog 14 #[.agg #[.slice (some ⟨g,0,none⟩) ss.length sc,.slice ea es.length ec,.int .i64 root],.agg #[.int .u8 f.kind,.int .i64 f.ref,.int .i64 f.lists]] W (WordPost (tyBaseS S.structs S.enums f.kind f.ref) f.lists W)):=Lib.hid (fun W hb=>hword_any f.kind f.ref f.lists root W ((HH.out.below HBW0.out).below hb) _ (by rw [HSS.out,HSN.out] at hTB;rw [HSS.out,HSN.out];exact hTB) l2 (by omega))
          have HDF:Hid (f.dflt≠0→∀ W,Below wr.heap.size wr W→Calls Tryz.prog 15 #[.agg #[.slice (some ⟨g,0,none⟩) ss.length sc,.slice ea es.length ec,.int .i64 root],.agg #[.string f.name,.int .u8 f.kind,.int .i64 f.ref,.int .i64 f.lists,.int .u64 f.dflt]] W (StrIs (DefIs S.enums f.kind f.ref f.dflt) W)):=Lib.hid (fun h0 W hb=>by
           rw [HSN.out]
           exact def_any f.name f.kind f.ref f.lists f.dflt root W ((HH.out.below HBW0.out).below hb) (by omega) (fun h10=>by rw [←HSN.out];exact ⟨(HL6.out h10).choose,(HL6.out h10).choose_spec h0⟩) HL5.out)
          have hws:=wordS_size (tyBaseS S.structs S.enums f.kind f.ref) f.lists
          have hlw:(wordS (tyBaseS S.structs S.enums f.kind f.ref) f.lists).size≤118:=by omega
          clear hws hTB hbs
          obtain ⟨WS,hWS⟩:∃ WS,wordS (tyBaseS S.structs S.enums f.kind f.ref) f.lists=WS:=⟨_,rfl⟩
          have HWS:=Lib.hid hWS
          rw [hWS] at hlw
          clear hWS
          go_upto_region 19 with (fail)
          have hbf:Below wr.heap.size wr (wr.alloc (.cells #[.string f.name,.int .u8 f.kind,.int .i64 f.ref,.int .i64 f.lists,.int .u64 f.dflt] 49)):=(Below.refl _ _).alloc (Nat.le_refl _) _
          have hfb:=heap_alloc_new wr (.cells #[.string f.name,.int .u8 f.kind,.int .i64 f.ref,.int .i64 f.lists,.int .u64 f.dflt] 49)
          have hz:=blk_below HQ2.out hbf (blk_lt HQ2.out)
          have HBF:=Lib.hid hbf
          have HFB:=Lib.hid hfb
          have HQ3:=Lib.hid hz
          clear y0 y1 y2 y3 y4 z0 z1 z2 x1 hbf hfb hz
          generalize wr.alloc (.cells #[.string f.name,.int .u8 f.kind,.int .i64 f.ref,.int .i64 f.lists,.int .u64 f.dflt] 49)=W2 at *
          obtain ⟨hzl,z0,z1,z2,_⟩:=blk3 HQ3.out
          have hfl:wr.heap.size<W2.heap.size:=blk_lt HFB.out
          have f0:=(blk_cell HFB.out 0).trans rfl
          have f1:=(blk_cell HFB.out 1).trans rfl
          have f2:=(blk_cell HFB.out 2).trans rfl
          have f3:=(blk_cell HFB.out 3).trans rfl
          have q1:¬9223372036854775807<T3.size+1:=by omega
          have q2:¬9223372036854775807<T3.size+1+f.name.size:=by omega
          have q3:¬9223372036854775807<T3.size+1+f.name.size+3:=by omega
          have q4:¬9223372036854775807<T3.size+1+f.name.size+3+WS.size:=by omega
          have HBWR:=Lib.hid HBF.out
          have hbs0:w.heap.size<W2.heap.size:=hzl
          generalize hBF:wr.heap.size=BF at *
          go_region_held3 (fun w'=>w'.cell? ⟨w.heap.size,0,none⟩=some (.slice (some ⟨g,0,none⟩) ss.length sc)∧w'.cell? ⟨w.heap.size,1,none⟩=some (.slice ea es.length ec)∧w'.cell? ⟨w.heap.size,2,none⟩=some (.int .i64 root)∧w'.cell? ⟨BF,0,none⟩=some (.string f.name)∧w'.cell? ⟨BF,1,none⟩=some (.int .u8 f.kind)∧w'.cell? ⟨BF,2,none⟩=some (.int .i64 f.ref)∧w'.cell? ⟨BF,3,none⟩=some (.int .i64 f.lists)) (first|assumption|go_keep)
           (first|(go_at_call 14;refine (HWD.out _ (by first|exact HBF.out|exact HBF.out.drew)).mono ?_;rintro e W3 ⟨rfl,hb3⟩;rw [HWS.out];have k0:W3.cell? ⟨w.heap.size,0,none⟩=some (.slice (some ⟨g,0,none⟩) ss.length sc):=(hb3.cell (p:=⟨w.heap.size,0,none⟩) hbs0).trans z0;have k1:W3.cell? ⟨w.heap.size,1,none⟩=some (.slice ea es.length ec):=(hb3.cell (p:=⟨w.heap.size,1,none⟩) hbs0).trans z1;have k2:W3.cell? ⟨w.heap.size,2,none⟩=some (.int .i64 root):=(hb3.cell (p:=⟨w.heap.size,2,none⟩) hbs0).trans z2;have k3:W3.cell? ⟨BF,0,none⟩=some (.string f.name):=(hb3.cell (p:=⟨BF,0,none⟩) hfl).trans f0;have k4:W3.cell? ⟨BF,1,none⟩=some (.int .u8 f.kind):=(hb3.cell (p:=⟨BF,1,none⟩) hfl).trans f1;have k5:W3.cell? ⟨BF,2,none⟩=some (.int .i64 f.ref):=(hb3.cell (p:=⟨BF,2,none⟩) hfl).trans f2;have k6:W3.cell? ⟨BF,3,none⟩=some (.int .i64 f.lists):=(hb3.cell (p:=⟨BF,3,none⟩) hfl).trans f3))
          all_goals
           go_upto_region 20 with (fail)
           have hb3':Below W2.heap.size W2 W3:=by first|exact hb3|exact (Below.refl _ _).drew.trans hb3
           have f4:=(blk_cell (blk_below HFB.out hb3' hfl) 4).trans rfl
           have HB3:=Lib.hid (HBF.out.trans (hb3'.mono (by rw [←hBF];exact HBF.out.size)))
           have hfl3:BF<W3.heap.size:=Nat.lt_of_lt_of_le hfl hb3'.size
           have HHF:=Lib.hid (blk_below HFB.out hb3' hfl)
           have HHQ:=Lib.hid (blk_below HQ3.out hb3' hzl)
           clear hb3 hb3' z0 z1 z2 f0 f1 f2 f3 q1 q2 q3 q4
           have hT4:(T3++⟨#[34]⟩++f.name++⟨#[34,58,32]⟩++WS).size=T3.size+1+f.name.size+3+WS.size:=by simp only [ByteArray.size_append];rfl
           obtain ⟨T4,hT4e⟩:∃ T4,T3++⟨#[34]⟩++f.name++⟨#[34,58,32]⟩++WS=T4:=⟨_,rfl⟩
           rw [hT4e] at hT4 ⊢
           have HT4:=Lib.hid hT4e
           clear hT4e
           by_cases hd:f.dflt=0
           · have HD:=Lib.hid hd
             have k8:((f.dflt:Int) != 0)=false:=by simp;omega
             have q1:¬9223372036854775807<T4.size+2:=by omega
             clear hd
             go_wp2
             go_roundw
             case rel=>exact ⟨by first|exact HB1.out.trans (HB3.out.mono (by rw [←hBF];exact HB1.out.size))|exact (HB1.out.trans (HB3.out.mono (by rw [←hBF];exact HB1.out.size))).drew,j+1,hjl,by go_num,by
              refine congrArg Value.string ((fold_take _ _ _ _ _ HY.out).trans ?_).symm
              rw [show (c0.fields.take j).foldl (textField S) T1=T3 from HT3.out]
              unfold textField
              rw [if_neg (by simp [HD.out]),HWS.out,HT4.out]⟩
             case measure=>simp [intOf];omega
           · have HD:=Lib.hid hd
             have k8:((f.dflt:Int) != 0)=true:=by simp;omega
             have q1:¬9223372036854775807<T4.size+3:=by omega
             clear hd
             obtain ⟨_,z0,z1,z2,_⟩:=blk3 HHQ.out
             have f0:=(blk_cell HHF.out 0).trans rfl
             have f1:=(blk_cell HHF.out 1).trans rfl
             have f2:=(blk_cell HHF.out 2).trans rfl
             have f3:=(blk_cell HHF.out 3).trans rfl
             go_wp2_with fail
             refine (HDF.out HD.out _ HB3.out).mono ?_
             rintro e W4 ⟨D,rfl,hD,hb4⟩
             have HDD:=Lib.hid (defS_of hD)
             have hDl:D.size≤100:=by rw [HDD.out];exact HDS.out
             have HB4:=Lib.hid (HB3.out.trans (hb4.mono (by rw [←hBF];exact HB3.out.size)))
             have q2:¬9223372036854775807<T4.size+3+D.size:=by omega
             have q3:¬9223372036854775807<T4.size+3+D.size+2:=by omega
             clear hD hb4 z0 z1 z2 f0 f1 f2 f3 f4
             go_wp2
             go_roundw
             case rel=>exact ⟨HB1.out.trans (HB4.out.mono (by rw [←hBF];exact HB1.out.size)),j+1,hjl,by go_num,by
              refine congrArg Value.string ((fold_take _ _ _ _ _ HY.out).trans ?_).symm
              rw [show (c0.fields.take j).foldl (textField S) T1=T3 from HT3.out]
              unfold textField
              rw [if_pos HD.out,HWS.out,HT4.out,HDD.out]⟩
             case measure=>simp [intOf];omega
        · obtain rfl:j=c0.fields.length:=by omega
          have q1:¬9223372036854775807<T3.size+2:=by omega
          rw [List.take_length] at HT3
          clear hjl
          go_wp2
          go_roundw
          case rel=>exact ⟨HBW0.out,i+1,by rw [HSL.out];exact hlt,by go_num,by
           refine congrArg Value.string ((fold_take _ _ _ _ _ HX.out).trans ?_).symm
           rw [show (S.structs.take i).foldl (textRec S) T=T2 from HT2.out]
           unfold textRec
           rw [HT1.out,HT3.out]⟩
          case measure=>simp [intOf];omega
     · obtain rfl:i=ss.length:=by omega
       rw [←HSL.out,List.take_length] at HT2
       clear hlt
       obtain ⟨g,c,a,m,hv,hc,hg,x0,x1,he⟩:=(HH.out.below HBW.out).strct root hrt
       obtain ⟨rfl,rfl⟩:=slice_inj hv
       have hmem:ss[root].1 ∈ S.structs:=by rw [HSS.out];exact List.mem_map.2 ⟨_,List.getElem_mem hrt,rfl⟩
       obtain ⟨e1,e2⟩:=HF.out.sn _ hmem
       have HX:=Lib.hid (HSE.out root hrt)
       clear x1 hv he hmem
       generalize ss[root]=q at *
       obtain ⟨c0,qv⟩:=q
       simp only at *
       have q1:¬9223372036854775807<T2.size+5:=by omega
       have q2:¬9223372036854775807<T2.size+5+c0.name.size:=by omega
       have q3:¬9223372036854775807<T2.size+5+c0.name.size+2:=by omega
       go_wp2
       go_ret
       refine ⟨?_,HB.out.trans (HBW.out.mono HB.out.size)⟩
       unfold textS
       rw [HT.out,HT2.out,HSR.out,List.getD,HX.out]
       rfl
end Go.Proofs.YtokhnoogkdlidaaGreatDoor
namespace Go.Proofs.YtokhnoogkdlidaaGreatDoor
open Go.ChangeShapes Go.WideShapes Go.ChangeAt Go.RowKit
theorem exists_list {α:Type}(P:Nat→α→Prop)(d:α):∀ (n:Nat),(∀ r,r<n→∃ x,P r x)→∃ L:List α,L.length=n∧∀ r,r<n→P r (L.getD r d)
 | 0,_=>⟨[],rfl,fun r hr=>absurd hr (Nat.not_lt_zero r)⟩
 | n+1,h=>by
  obtain ⟨L,hL,hP⟩:=exists_list P d n (fun r hr=>h r (by omega))
  obtain ⟨x,hx⟩:=h n (Nat.lt_succ_self n)
  refine ⟨L++[x],by simp [hL],fun r hr=>?_⟩
  rcases Nat.lt_or_ge r n with h1|h1
  · rw [List.getD,List.getElem?_append_left (by omega),←List.getD]
    exact hP r h1
  · obtain rfl:r=n:=by omega
    rw [List.getD,List.getElem?_append_right (by omega),hL,Nat.sub_self]
    exact hx
theorem list_five':∀ {cs:List Value},cs.length=5→∃ v0 v1 v2 v3 v4,cs=[v0,v1,v2,v3,v4]
 | [v0,v1,v2,v3,v4],_=>⟨v0,v1,v2,v3,v4,rfl⟩
theorem list_one':∀ {cs:List Value},cs.length=1→∃ v0,cs=[v0]
 | [v0],_=>⟨v0,rfl⟩
theorem nat_u8 {m:Int}(h:(Lit.int .u8 m).wf=true):∃ k:Nat,m=k∧k≤255:=by
 obtain ⟨h0,h1⟩:=bounds_u8 h
 exact ⟨m.toNat,by omega,by omega⟩
theorem nat_u64 {m:Int}(h:(Lit.int .u64 m).wf=true):∃ k:Nat,m=k∧(k:Int)≤18446744073709551615:=by
 obtain ⟨h0,h1⟩:=bounds_u64 h
 exact ⟨m.toNat,by omega,by omega⟩
theorem open_int1' {H:Type}{enc:TypeId × Value→H}{W:World}{t:TypeId}{k:IntKind}{n:Nat}{v:Value}{xs:List (DataW H × List MemPlace)}{i:Nat}(ht:Tryz.prog.underlying t=some (.int k))(hi:i<xs.length)(h:DataW.trod enc Tryz.prog W 0 (fun _=>true) true n t [v]=xs[i]?):∃ m,v=.int k m∧(Lit.int k m).wf=true:=by
 rw [List.getElem?_eq_getElem hi] at h
 obtain ⟨m,h1,_,h2⟩:=DataW.trod_int ht h
 exact ⟨m,by simpa using h1,h2⟩
def PFLies (W:World)(a:Option Addr)(k:Nat)(f:PF):Prop:=
 ∃ b' off',a=some ⟨b',off',none⟩∧b'<W.heap.size∧W.cell? ⟨b',off'+k * 5,none⟩=some (.int .u8 (f.kind:Nat))∧W.cell? ⟨b',off'+k * 5+1,none⟩=some (.int .u8 (f.lists:Nat))∧W.cell? ⟨b',off'+k * 5+2,none⟩=some (.int .u8 (f.ref:Nat))∧W.cell? ⟨b',off'+k * 5+3,none⟩=some (.int .u8 (f.name:Nat))∧W.cell? ⟨b',off'+k * 5+4,none⟩=some (.int .u64 (f.dflt:Nat)) ∧
  f.kind≤255∧f.lists≤255∧f.ref≤255∧f.name≤255∧(f.dflt:Int)≤18446744073709551615
theorem open_fields {H:Type}{enc:TypeId × Value→H}{W:World}{n:Nat}{v:Value}{x:DataW H × List MemPlace}(h:DataW.trod enc Tryz.prog W 0 (fun _=>true) true n 56 [v]=some x) :
  ∃ a m c,v=.slice a m c∧m≤c∧c≤maxLen∧∃ l:List PF,l.length=m∧∀ k,k<m→PFLies W a k (l.getD k noPF):=by
 rcases Deep.open_slice Tryz.underlying56 h with ⟨hcs,_⟩|⟨y,l,c,m,n',Ds,Pl,hcs,_,hl,hm,hmm,_,hx⟩
 · simp at hcs
   subst hcs
   exact ⟨none,0,0,rfl,Nat.le_refl _,Nat.zero_le _,[],rfl,fun k hk=>absurd hk (Nat.not_lt_zero k)⟩
 · simp at hcs
   subst hcs
   simp only [if_true] at hmm
   have c5:Tryz.prog.cellsOf 58 = 5:=by kernel_rfl
   rw [c5] at hx
   refine ⟨some y,l,c,rfl,hl,hm,exists_list _ noPF l (fun r hlt=>?_)⟩
   obtain ⟨cs,h1,h2⟩:=hx r (by omega)
   obtain ⟨_,hcl,hc⟩:=World.cells?_some h1
   obtain ⟨_,hcl0,hc0⟩:=World.cells?_some (hx 0 (by omega)).choose_spec.1
   obtain ⟨b,off,spot⟩:=y
   have hspot:spot=none:=by
    have h0:=hc0 0 (by omega)
    rw [List.getElem?_eq_getElem (by omega)] at h0
    simpa [Addr.add] using World.cell?_spot h0
   subst hspot
   obtain ⟨xs,n2,_,_,_,hxl,hfs⟩:=DataW.trod_struct Tryz.underlying58 h2
   obtain ⟨v0,v1,v2,v3,v4,rfl⟩:=list_five' hcl
   have k8:Tryz.prog.cellsOf 5 = 1:=by kernel_rfl
   have k64:Tryz.prog.cellsOf 47 = 1:=by kernel_rfl
   have f0:DataW.trod enc Tryz.prog W 0 (fun _=>true) true n2 5 (([v0,v1,v2,v3,v4].drop 0).take (Tryz.prog.cellsOf 5))=xs[0]?:=hfs 0 _ rfl
   rw [k8] at f0
   have f1:DataW.trod enc Tryz.prog W 0 (fun _=>true) true n2 5 (([v0,v1,v2,v3,v4].drop 1).take (Tryz.prog.cellsOf 5))=xs[1]?:=hfs 1 _ rfl
   rw [k8] at f1
   have f2:DataW.trod enc Tryz.prog W 0 (fun _=>true) true n2 5 (([v0,v1,v2,v3,v4].drop 2).take (Tryz.prog.cellsOf 5))=xs[2]?:=hfs 2 _ rfl
   rw [k8] at f2
   have f3:DataW.trod enc Tryz.prog W 0 (fun _=>true) true n2 5 (([v0,v1,v2,v3,v4].drop 3).take (Tryz.prog.cellsOf 5))=xs[3]?:=hfs 3 _ rfl
   rw [k8] at f3
   have f4:DataW.trod enc Tryz.prog W 0 (fun _=>true) true n2 47 (([v0,v1,v2,v3,v4].drop 4).take (Tryz.prog.cellsOf 47))=xs[4]?:=hfs 4 _ rfl
   rw [k64] at f4
   have hx5:xs.length=5:=hxl
   obtain ⟨z0,rfl,w0⟩:=open_int1' Tryz.underlying5 (by omega) f0
   obtain ⟨z1,rfl,w1⟩:=open_int1' Tryz.underlying5 (by omega) f1
   obtain ⟨z2,rfl,w2⟩:=open_int1' Tryz.underlying5 (by omega) f2
   obtain ⟨z3,rfl,w3⟩:=open_int1' Tryz.underlying5 (by omega) f3
   obtain ⟨z4,rfl,w4⟩:=open_int1' Tryz.underlying47 (by omega) f4
   obtain ⟨q0,rfl,l0⟩:=nat_u8 w0
   obtain ⟨q1,rfl,l1⟩:=nat_u8 w1
   obtain ⟨q2,rfl,l2⟩:=nat_u8 w2
   obtain ⟨q3,rfl,l3⟩:=nat_u8 w3
   obtain ⟨q4,rfl,l4⟩:=nat_u64 w4
   have hcell:∀ i,i<5→W.cell? ⟨b,off+r * 5+i,none⟩=[Value.int .u8 q0,.int .u8 q1,.int .u8 q2,.int .u8 q3,.int .u64 q4][i]?:=fun i hi=>by
    have:=hc i hi
    rw [Deep.add_add,Go.WideShapes.add_plain,←Nat.add_assoc] at this
    exact this
   have e0:=hcell 0 (by omega)
   exact ⟨⟨q0,q1,q2,q3,q4⟩,b,off,rfl,World.block_lt_of_cell? _ _ e0,e0,hcell 1 (by omega),hcell 2 (by omega),hcell 3 (by omega),hcell 4 (by omega),l0,l1,l2,l3,l4⟩
theorem open_structs {H:Type}{enc:TypeId × Value→H}{W:World}{n:Nat}{v:Value}{x:DataW H × List MemPlace}(h:DataW.trod enc Tryz.prog W 0 (fun _=>true) true n 23 [v]=some x) :
  ∃ a1 n1 c1,v=.slice a1 n1 c1∧n1≤c1∧c1≤maxLen∧∃ L:List (List PF),L.length=n1∧∀ r,r<n1→∃ b off a m c,a1=some ⟨b,off,none⟩∧b<W.heap.size∧W.cell? ⟨b,off+r,none⟩=some (.slice a m c)∧(L.getD r []).length=m∧m≤c∧c≤maxLen∧∀ k,k<m→PFLies W a k ((L.getD r []).getD k noPF):=by
 rcases Deep.open_slice Tryz.underlying23 h with ⟨hcs,_⟩|⟨y,l,c,m,n',Ds,Pl,hcs,_,hl,hm,hmm,_,hx⟩
 · simp at hcs
   subst hcs
   exact ⟨none,0,0,rfl,Nat.le_refl _,Nat.zero_le _,[],rfl,fun k hk=>absurd hk (Nat.not_lt_zero k)⟩
 · simp at hcs
   subst hcs
   simp only [if_true] at hmm
   have c1:Tryz.prog.cellsOf 56 = 1:=by kernel_rfl
   rw [c1] at hx
   refine ⟨some y,l,c,rfl,hl,hm,?_⟩
   refine exists_list (fun r (q:List PF)=>∃ b off a m c,some y=some ⟨b,off,none⟩∧b<W.heap.size∧W.cell? ⟨b,off+r,none⟩=some (.slice a m c)∧q.length=m∧m≤c∧c≤maxLen∧∀ k,k<m→PFLies W a k (q.getD k noPF)) [] l (fun r hlt=>?_)
   obtain ⟨cs,h1,h2⟩:=hx r (by omega)
   obtain ⟨_,hcl,hc⟩:=World.cells?_some h1
   obtain ⟨_,hcl0,hc0⟩:=World.cells?_some (hx 0 (by omega)).choose_spec.1
   obtain ⟨b,off,spot⟩:=y
   have hspot:spot=none:=by
    have h0:=hc0 0 (by omega)
    rw [List.getElem?_eq_getElem (by omega)] at h0
    simpa [Addr.add] using World.cell?_spot h0
   subst hspot
   obtain ⟨v0,rfl⟩:=list_one' hcl
   obtain ⟨a,m',c',rfl,g1,g2,q,g3,g4⟩:=open_fields h2
   have e0:W.cell? ⟨b,off+r,none⟩=some (.slice a m' c'):=by
    have:=hc 0 (by omega)
    rw [Deep.add_add,Go.WideShapes.add_plain,Nat.add_zero,Nat.mul_one] at this
    exact this
   exact ⟨q,b,off,a,m',c',rfl,World.block_lt_of_cell? _ _ e0,e0,g3,g1,g2,g4⟩
set_option maxRecDepth 100000 in
theorem open_plan {H:Type}{enc:TypeId × Value→H}{W:World}{base:Nat}{v:Value}{d:DataW H}{p:List MemPlace}(hv:Value.okWide Tryz.prog W .any base 25 v)(h:DataW.Trod enc Tryz.prog W 0 (fun _=>true) true 25 v d p) :
  ∃ (q:Plan) (a0:Option Addr) (n0 e0:Nat) (a1:Option Addr) (n1 c1:Nat),v=.agg #[.slice a0 n0 e0,.slice a1 n1 c1,.int .u8 q.root,.bool q.tree]∧IsPlan W q a0 n0 e0 a1 n1 c1:=by
 obtain ⟨v0,v1,v2,v3,y0,y1,y2,y3,n,rfl,rfl,rfl,h0,h1,h2,h3⟩:=Joins.open_agg4 Tryz.underlying25 (by kernel_rfl) (by kernel_rfl) hv h
 obtain ⟨m2,e2,_,w2⟩:=DataW.trod_int Tryz.underlying5 h2
 obtain ⟨b3,e3,_⟩:=DataW.trod_bool Tryz.underlying4 h3
 simp at e2 e3
 subst e2
 subst e3
 obtain ⟨rt,rfl,hrt⟩:=nat_u8 w2
 obtain ⟨a0,n0,e0,zs,hv0,hrow⟩:∃ a0 n0 e0 zs,v0=.slice a0 n0 e0∧IsRow .u8 W a0 n0 e0 zs:=by
  rcases open_ints Tryz.underlying22 Tryz.underlying5 (by kernel_rfl) h0 with ⟨hcs,_⟩|⟨x,l,c,zs,hcs,_,hl,hm,hz,_,hcell,hwz⟩
  · exact ⟨none,0,0,[],by simpa using hcs,isRow_nil _ _ _⟩
  · exact ⟨some x,l,c,zs,by simpa using hcs,isRow_of hl hm (by simpa using hz) hcell hwz⟩
 subst hv0
 obtain ⟨a1,n1,c1,rfl,hn1,hc1,L,hL,hLs⟩:=open_structs h1
 refine ⟨⟨(zs.take n0).map Int.toNat,L,rt,b3⟩,a0,n0,e0,a1,n1,c1,rfl,?_,hL,⟨hrow.1,hrow.2.1⟩,⟨hn1,hc1⟩,hrt,?_,?_⟩
 · have h1:=hrow.1
   have h2:=hrow.2.2.1
   simp
   omega
 · intro j hj
   have g1:=hrow.1
   have g2:=hrow.2.2.1
   have hjz:j<zs.length:=by omega
   have hw:=hrow.2.2.2.1 _ (List.getElem_mem hjz)
   obtain ⟨k,hk,hk2⟩:=nat_u8 hw
   have he:((zs.take n0).map Int.toNat).getD j 0=k:=by
    rw [List.getD,List.getElem?_map,List.getElem?_take,if_pos hj,List.getElem?_eq_getElem hjz,hk]
    simp
   obtain ⟨b,off,ha,hb,hcell⟩:=hrow.2.2.2.2 (by intro e;rw [e] at hjz;simp at hjz)
   show ((zs.take n0).map Int.toNat).getD j 0≤255∧_
   rw [he]
   refine ⟨hk2,b,off,ha,hb,?_⟩
   rw [hcell j hjz,List.getD,List.getElem?_eq_getElem hjz,Option.getD_some,hk]
 · intro r hr
   obtain ⟨b,off,a,m,c,ha,hb,hcell,hlen,hm,hc,hfl⟩:=hLs r hr
   refine ⟨b,off,a,m,c,ha,hb,hcell,hlen,hm,hc,fun k hk=>?_⟩
   obtain ⟨b',off',g⟩:=hfl k hk
   exact ⟨b',off',_,rfl,g⟩
end Go.Proofs.YtokhnoogkdlidaaGreatDoor
