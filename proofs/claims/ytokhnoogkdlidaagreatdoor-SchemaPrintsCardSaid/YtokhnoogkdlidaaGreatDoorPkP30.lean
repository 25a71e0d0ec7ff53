/-
  The package schema's number, Fits, typed, field: types and defaults. Conditions: those that each theorem names; the library's tables hold what the row lists.
-/
import Derived.Test.YtokhnoogkdlidaaGreatDoorPkP1
import Derived.Test.YtokhnoogkdlidaaGreatDoorPkP3
import Derived.Test.YtokhnoogkdlidaaGreatDoorPkP5
import Derived.Test.YtokhnoogkdlidaaGreatDoorPkP7
import Derived.Test.YtokhnoogkdlidaaGreatDoorPkP8
import Derived.Test.YtokhnoogkdlidaaGreatDoorPkP17
import Derived.Test.YtokhnoogkdlidaaGreatDoorPkP22
import Derived.Test.YtokhnoogkdlidaaGreatDoorPkP25
import Derived.Test.YtokhnoogkdlidaaGreatDoorPkP28
import Derived.Deep.QuietTactic
import Derived.BigQuiet
namespace Go.Proofs.YtokhnoogkdlidaaGreatDoor
open Go.ChangeShapes Go.WideShapes Go.ChangeAt Go.RowKit Go.Shelf
theorem wsignedS_any (n s:Int)(w:World) :
  Calls Tryz.prog 114 #[.int .u64 n,.int .i64 s] w fun e w'=>e=.returned (.int .u64 (sgnOf n s))∧w=w':=by
 by_cases e1:s=1
 · subst e1
   have E:IntKind.u64.wrap (IntKind.i8.wrap n)=sgnOf n 1:=by
    rw [sgnOf_1]
    split<;>(simp only [IntKind.wrap,IntKind.bits,IntKind.signed];simp;omega)
   have H:=Lib.hid E
   clear E
   go_enter Tryz.func114,Tryz.ntmps114
   go_wp2
   go_ret
   exact ⟨ret_int H.out,rfl⟩
 by_cases e2:s=2
 · subst e2
   have E:IntKind.u64.wrap (IntKind.i16.wrap n)=sgnOf n 2:=by
    rw [sgnOf_2]
    split<;>(simp only [IntKind.wrap,IntKind.bits,IntKind.signed];simp;omega)
   have H:=Lib.hid E
   clear E
   go_enter Tryz.func114,Tryz.ntmps114
   go_wp2
   go_ret
   exact ⟨ret_int H.out,rfl⟩
 by_cases e4:s=4
 · subst e4
   have E:IntKind.u64.wrap (wrap32 n)=sgnOf n 4:=by
    rw [sgnOf_4,←IntWalk.i32_left]
    split<;>(simp only [IntKind.wrap,IntKind.bits,IntKind.signed];simp;omega)
   have H:=Lib.hid E
   clear E
   go_enter Tryz.func114,Tryz.ntmps114
   go_wp2
   go_ret
   exact ⟨ret_int H.out,rfl⟩
 have H:=Lib.hid (sgnOf_else n s e1 e2 e4)
 have hs1:(s==1)=false:=by simp;omega
 have hs2:(s==2)=false:=by simp;omega
 have hs4:(s==4)=false:=by simp;omega
 clear e1 e2 e4
 rw [H.out]
 go_enter Tryz.func114,Tryz.ntmps114
 go_wp2
 go_ret
 exact ⟨rfl,rfl⟩
theorem blk5c {w:World}{g:Nat}{x0 x1 x2 x3 x4:Value}{t:TypeId}(h:w.heap[g]?=some (.cells #[x0,x1,x2,x3,x4] t (0,0))) :
  g<w.heap.size∧w.cell? ⟨g,0,none⟩=some x0∧w.cell? ⟨g,1,none⟩=some x1∧w.cell? ⟨g,2,none⟩=some x2∧w.cell? ⟨g,3,none⟩=some x3∧w.cell? ⟨g,4,none⟩=some x4∧True:=
 ⟨blk_lt h,(blk_cell h 0).trans rfl,(blk_cell h 1).trans rfl,(blk_cell h 2).trans rfl,(blk_cell h 3).trans rfl,(blk_cell h 4).trans rfl,trivial⟩
theorem snumber_any (k:Nat)(ref lists:Int)(w:World) :
  Calls Tryz.prog 80 #[.agg #[.int .u8 k,.int .i64 ref,.int .i64 lists]] w fun e w'=>e=.returned (.bool (numTB k lists))∧Below w.heap.size w w':=by
 have h0:=heap_alloc_new w (.cells #[.int .u8 k,.int .i64 ref,.int .i64 lists] 46)
 have HB:=Lib.hid ((Below.refl w.heap.size w).alloc (Nat.le_refl _) (.cells #[.int .u8 k,.int .i64 ref,.int .i64 lists] 46))
 obtain ⟨_,x0,x1,x2,_⟩:=blk3 h0
 have HN:Hid (numTB k lists=(decide (lists=0)&&decide (0<kSize k))):=Lib.hid rfl
 generalize numTB k lists=res at *
 clear h0
 by_cases hl:lists=0
 · have HE:=Lib.hid (show res=decide (0<kSize k) by rw [HN.out,decide_eq_true hl,Bool.true_and])
   subst hl
   clear HN
   go_enter Tryz.func80,Tryz.ntmps80
   go_wp2_with fail
   refine (wsize_any _ _).mono ?_
   rintro e W1 ⟨rfl,rfl⟩
   generalize kSize (k:Int)=z at *
   by_cases hs:0<z
   · have HR:=Lib.hid (show res=true by rw [HE.out];exact decide_eq_true hs)
     clear HE
     go_wp2
     go_ret
     exact ⟨ret_bool HR.out.symm,HB.out⟩
   · have HR:=Lib.hid (show decide (0<z)=res from HE.out.symm)
     clear HE
     go_wp2
     go_ret
     exact ⟨ret_bool HR.out,HB.out⟩
 · have HE:=Lib.hid (show res=false by rw [HN.out,decide_eq_false hl,Bool.false_and])
   have t1:(lists==0)=false:=by simpa using hl
   clear HN hl
   go_enter Tryz.func80,Tryz.ntmps80
   go_wp2
   go_ret
   exact ⟨ret_bool HE.out.symm,HB.out⟩
theorem div_beq (n m:Nat):(((n:Int) / (m:Int))==0)=decide (n / m=0):=by
 rw [←Int.natCast_ediv,Bool.eq_iff_iff,beq_iff_eq,decide_eq_true_iff]
 omega
set_option maxRecDepth 100000 in
set_option maxHeartbeats 4000000 in
theorem sfits_any (w:World){base:Nat}{ss:List (CRec × Value)}{es:List (SCho × Value)}{sv ev:Value}(root:Int)(h:CRows base w ss es sv ev)(k:Nat)(ref lists:Int)(n:Nat)(hk:k≤255)(hn:n≤18446744073709551615) :
  Calls Tryz.prog 81 #[.agg #[sv,ev,.int .i64 root],.agg #[.int .u8 k,.int .i64 ref,.int .i64 lists],.int .u64 n] w fun e w'=>e=.returned (.bool (fitsT (es.map Prod.fst) k ref lists n))∧Below w.heap.size w w':=by
 obtain ⟨hb,hq1,hq2⟩:=two_start w #[sv,ev,.int .i64 root] #[.int .u8 k,.int .i64 ref,.int .i64 lists] 30 46
 obtain ⟨sa,sc,ea,ec,rfl,rfl⟩:=h.forms
 have hf2:=row_few h.enums
 obtain ⟨res,hres⟩:∃ res,fitsT (es.map Prod.fst) k ref lists n=res:=⟨_,rfl⟩
 rw [hres]
 unfold fitsT at hres
 rw [List.length_map] at hres
 have HN:=Lib.hid hres
 have HB:=Lib.hid hb
 have HR:=Lib.hid (h.below hb)
 have HQ1:=Lib.hid hq1
 have HQ2:=Lib.hid hq2
 obtain ⟨_,q0,q1,q2,_⟩:=blk3 hq2
 clear hq1 hq2 hb h hres
 go_enter Tryz.func81,Tryz.ntmps81
 go_upto_region 1 with (fail)
 generalize ((w.alloc (.cells #[.slice sa ss.length sc,.slice ea es.length ec,.int .i64 root] 30)).alloc (.cells #[.int .u8 k,.int .i64 ref,.int .i64 lists] 46))=W0 at *
 go_wp2_with fail
 refine (wsize_any _ _).mono ?_
 rintro e W1 ⟨rfl,rfl⟩
 go_wp2_with fail
 refine (snumber_any k ref lists _).mono ?_
 rintro e W1 ⟨rfl,hb1⟩
 have HB1:=Lib.hid (HB.out.trans (hb1.mono HB.out.size))
 have HR1:=Lib.hid (HR.out.below hb1)
 obtain ⟨_,p0,p1,p2,_⟩:=blk3 (blk_below HQ1.out hb1 (blk_lt HQ1.out))
 obtain ⟨_,r0,r1,r2,_⟩:=blk3 (blk_below HQ2.out hb1 (blk_lt HQ2.out))
 clear hb1 q0 q1 q2 HB HR HQ1 HQ2
 cases hnt:numTB k lists
 · have HE:=Lib.hid (show res=false by rw [←HN.out,if_pos hnt])
   clear HN hnt
   go_wp2
   go_ret
   exact ⟨ret_bool HE.out.symm,HB1.out⟩
 have HN2:=Lib.hid (HN.out.symm.trans (if_neg (by rw [hnt];decide)))
 have HSZ:=Lib.hid (show 0<kSize k from by unfold numTB at hnt;rw [Bool.and_eq_true,decide_eq_true_iff,decide_eq_true_iff] at hnt;exact hnt.2)
 clear HN hnt
 by_cases h1:k=1
 · subst h1
   have HE:=Lib.hid (HN2.out.trans (if_pos rfl))
   clear HN2
   by_cases hn1:n≤1
   · have HF:=Lib.hid (show res=true by rw [HE.out];exact decide_eq_true hn1)
     have g:(n:Int)≤1:=by omega
     clear HE
     go_wp2
     go_ret
     exact ⟨ret_bool HF.out.symm,HB1.out⟩
   · have g:¬(n:Int)≤1:=by omega
     have HF:=Lib.hid (show decide ((n:Int)≤1)=res by rw [HE.out,decide_eq_false g,decide_eq_false hn1])
     clear HE
     go_wp2
     go_ret
     exact ⟨ret_bool HF.out,HB1.out⟩
 have t1:((k:Int)==1)=false:=by simp;omega
 have HN3:=Lib.hid (HN2.out.trans (if_neg h1))
 clear HN2
 by_cases h10:k=10
 · subst h10
   have HE:=Lib.hid (HN3.out.trans (if_pos rfl))
   clear HN3
   by_cases hr:0≤ref∧ref<(es.length:Int)
   · obtain ⟨j,rfl⟩:∃ j:Nat,ref=j:=⟨ref.toNat,by omega⟩
     have hj:j<es.length:=by omega
     have HF:=Lib.hid (show res=decide (n<es[j].1.names.length) by
      rw [HE.out,decide_eq_true hr,Bool.true_and,Int.toNat_natCast,List.getD_eq_getElem?_getD,List.getElem?_map,List.getElem?_eq_getElem hj];rfl)
     obtain ⟨g,cc,hv,hcc,hg,hcell⟩:=row_el schoCells 2 (fun _=>rfl) HR1.out.enums j hj
     obtain ⟨rfl,rfl⟩:=slice_inj hv
     have hnm:=HR1.out.names _ (List.getElem_mem hj)
     obtain ⟨na,nc,hnv⟩:=ownsRow_form hnm
     have hfn:=row_few hnm
     have x1:W1.cell? ⟨g,j * 2+1,none⟩=some (.slice na es[j].1.names.length nc):=by rw [←hnv];exact hcell 1 (by omega)
     generalize es[j].1.names.length=cnt at *
     have hw:IntKind.u64.wrap (cnt:Int)=cnt:=IntWalk.u64_in _ (by omega)
     have hji:(j:Int)<es.length:=by omega
     have hj0:(0:Int)≤(j:Int):=by omega
     have HA:=Lib.hid (samong_any (j:Int) es.length true (decide_eq_true hr))
     clear HE hv hcell hnm hnv hr
     go_wp2_with fail
     refine (HA.out _).mono ?_
     rintro e W2 ⟨rfl,rfl⟩
     by_cases hnc:n<cnt
     · have HG:=Lib.hid (show res=true by rw [HF.out];exact decide_eq_true hnc)
       have gc:(n:Int)<(cnt:Int):=by omega
       clear HF
       go_wp2
       go_ret
       exact ⟨ret_bool HG.out.symm,HB1.out⟩
     · have HG:=Lib.hid (show res=false by rw [HF.out];exact decide_eq_false hnc)
       have gc:¬(n:Int)<(cnt:Int):=by omega
       clear HF
       go_wp2
       go_ret
       exact ⟨ret_bool HG.out.symm,HB1.out⟩
   · have HF:=Lib.hid (show res=false by rw [HE.out,decide_eq_false hr,Bool.false_and])
     have HA:=Lib.hid (samong_any ref es.length false (decide_eq_false hr))
     clear HE hr
     go_wp2_with fail
     refine (HA.out _).mono ?_
     rintro e W2 ⟨rfl,rfl⟩
     go_wp2
     go_ret
     exact ⟨ret_bool HF.out.symm,HB1.out⟩
 have t10:((k:Int)==10)=false:=by simp;omega
 have HN4:=Lib.hid (HN3.out.trans (if_neg h10))
 clear HN3
 go_wp2_with fail
 refine (wsign_any _ _).mono ?_
 rintro e W2 ⟨rfl,rfl⟩
 cases hsg:kSign (k:Int)
 · have HE:=Lib.hid (HN4.out.trans (if_neg (by rw [hsg];decide)))
   have hk4:k=6∨k=7∨k=8∨k=9:=by
    have hz:=HSZ.out
    unfold kSign at hsg
    have hs2:=of_decide_eq_false hsg
    unfold kSize at hz
    rcases Nat.lt_or_ge k 11 with h|h
    · have:k=0∨k=1∨k=2∨k=3∨k=4∨k=5∨k=6∨k=7∨k=8∨k=9∨k=10:=by omega
      rcases this with rfl|rfl|rfl|rfl|rfl|rfl|rfl|rfl|rfl|rfl|rfl<;>simp_all
    · rw [if_neg (by omega),if_neg (by omega),if_neg (by omega),if_neg (by omega)] at hz
      exact absurd hz (by decide)
   clear HN4 hsg
   rcases hk4 with rfl|rfl|rfl|rfl
   · have HE2:=Lib.hid (show res=decide (n / 256=0) from HE.out)
     have hks:kSize ((6:Nat):Int)=1:=by decide
     rw [hks]
     clear HE hks
     go_wp2
     go_ret
     exact ⟨ret_bool (by rw [HE2.out];exact div_beq n 256),HB1.out⟩
   · have HE2:=Lib.hid (show res=decide (n / 65536=0) from HE.out)
     have hks:kSize ((7:Nat):Int)=2:=by decide
     rw [hks]
     clear HE hks
     go_wp2
     go_ret
     exact ⟨ret_bool (by rw [HE2.out];exact div_beq n 65536),HB1.out⟩
   · have HE2:=Lib.hid (show res=decide (n / 4294967296=0) from HE.out)
     have hks:kSize ((8:Nat):Int)=4:=by decide
     rw [hks]
     clear HE hks
     go_wp2
     go_ret
     exact ⟨ret_bool (by rw [HE2.out];exact div_beq n 4294967296),HB1.out⟩
   · have HE2:=Lib.hid (show res=decide (n / 18446744073709551616=0) from HE.out)
     have hks:kSize ((9:Nat):Int)=8:=by decide
     rw [hks]
     clear HE hks
     go_wp2
     go_ret
     exact ⟨ret_bool (by rw [HE2.out];exact div_beq n 18446744073709551616),HB1.out⟩
 · have HE:=Lib.hid (HN4.out.trans (if_pos hsg))
   clear HN4 hsg
   go_wp2_with fail
   refine (wsignedS_any _ _ _).mono ?_
   rintro e W2 ⟨rfl,rfl⟩
   by_cases hq:sgnOf n (kSize k)=n
   · have HF:=Lib.hid (show res=true by rw [HE.out];exact decide_eq_true hq)
     have t:(sgnOf n (kSize k)==(n:Int))=true:=beq_iff_eq.2 hq
     generalize sgnOf n (kSize k)=z at *
     clear HE hq
     go_wp2
     go_ret
     exact ⟨ret_bool HF.out.symm,HB1.out⟩
   · have HF:=Lib.hid (show res=false by rw [HE.out];exact decide_eq_false hq)
     have t:(sgnOf n (kSize k)==(n:Int))=false:=beq_eq_false_iff_ne.2 hq
     generalize sgnOf n (kSize k)=z at *
     clear HE hq
     go_wp2
     go_ret
     exact ⟨ret_bool HF.out.symm,HB1.out⟩
end Go.Proofs.YtokhnoogkdlidaaGreatDoor
namespace Go.Proofs.YtokhnoogkdlidaaGreatDoor
open Go.ChangeShapes Go.WideShapes Go.ChangeAt Go.RowKit Go.Shelf
set_option maxRecDepth 100000 in
set_option maxHeartbeats 4000000 in
theorem alone_any (s:ByteArray)(k:Int)(x:ByteArray)(w:World)(hT:Tabs w)(hs:s.size≤9223372036854775807) :
  Calls Tryz.prog 77 #[.string s,.agg #[.int .i64 k,.string x,.int .i64 0]] w fun e w'=>e=.returned (.bool (aloneB s k x))∧Below w.heap.size w w':=by
 have HB:=Lib.hid ((Below.refl w.heap.size w).alloc (Nat.le_refl _) (.cells #[.int .i64 k,.string x,.int .i64 0] 97))
 have HN:=Lib.hid (heap_alloc_new w (.cells #[.int .i64 k,.string x,.int .i64 0] 97))
 have HA:Hid (aloneB s k x=(decide ((toks okU (amg ⟨#[]⟩) (bts s)).2.1=0)&&(decide ((toks okU (amg ⟨#[]⟩) (bts s)).1.length=2)&&decide (((toks okU (amg ⟨#[]⟩) (bts s)).1.getD 0 noTok).kind=k∧tokT ((toks okU (amg ⟨#[]⟩) (bts s)).1.getD 0 noTok)=x∧((toks okU (amg ⟨#[]⟩) (bts s)).1.getD 0 noTok).place=0)))):=Lib.hid rfl
 generalize aloneB s k x=res at *
 have HT:=Lib.hid hT
 clear hT
 go_enter Tryz.func77,Tryz.ntmps77
 go_upto_region 1 with (fail)
 generalize w.alloc (.cells #[.int .i64 k,.string x,.int .i64 0] 97)=W0 at *
 go_wp2_with fail
 refine (lexTokens_any s ⟨#[]⟩ W0 (HT.out.below (Nat.le_refl _) HB.out) hs).mono ?_
 rintro e W1 ⟨v,rfl,ho,hb1⟩
 generalize toks okU (amg ⟨#[]⟩) (bts s)=q at *
 obtain ⟨l,code,p⟩:=q
 simp only at *
 have HB1:=Lib.hid (HB.out.trans (hb1.mono HB.out.size))
 have HN1:=Lib.hid (blk_below HN.out hb1 (blk_lt HN.out))
 obtain ⟨a,c,rfl⟩:=ownsRow_form ho
 have hfew:=row_few ho
 have HO:=Lib.hid ho
 clear hb1 ho
 go_upto_region 2 with (fail)
 have hba:Below W1.heap.size W1 (W1.alloc (.cells #[.int .i64 code,.int .i64 (p:Nat)] 38)):=(Below.refl _ _).alloc (Nat.le_refl _) _
 have HF:=Lib.hid (heap_alloc_new W1 (.cells #[.int .i64 code,.int .i64 (p:Nat)] 38))
 have HB2:=Lib.hid (HB1.out.trans (hba.mono HB1.out.size))
 have HN2:=Lib.hid (blk_below HN1.out hba (blk_lt HN1.out))
 have HO2:=Lib.hid (row_keep hba HO.out)
 generalize W1.alloc (.cells #[.int .i64 code,.int .i64 (p:Nat)] 38)=W2 at *
 generalize W1.heap.size=F at *
 obtain ⟨_,f0,f1,_⟩:=blk2 HF.out
 obtain ⟨_,n0,n1,n2,_⟩:=blk3 HN2.out
 clear hba HO HB1 HN1
 by_cases hc:code=0
 · subst hc
   by_cases hl:l.length=2
   · obtain ⟨t,t2,rfl⟩:∃ t t2,l=[t,t2]:=by
      match l,hl with
      | [t,t2],_=>exact ⟨t,t2,rfl⟩
     obtain ⟨g,cc,hv,hcc,hg,hcell⟩:=row_el tokCells 3 (fun _=>rfl) HO2.out 0 (by simp)
     obtain ⟨rfl,rfl⟩:=slice_inj hv
     have x0:W2.cell? ⟨g,0,none⟩=some (.int .i64 t.kind):=hcell 0 (by omega)
     have x1:W2.cell? ⟨g,1,none⟩=some (.string (tokT t)):=hcell 1 (by omega)
     have x2:W2.cell? ⟨g,2,none⟩=some (.int .i64 t.place):=hcell 2 (by omega)
     have HR:Hid (res=decide (t.kind=k∧tokT t=x∧t.place=0)):=Lib.hid (by rw [HA.out];simp)
     have hz:(0:Int)<2:=by decide
     simp only [List.length_cons,List.length_nil,Nat.zero_add,Nat.reduceAdd] at *
     clear hv hcell hl HA
     generalize tokT t=tx at *
     generalize t.kind=tk at *
     generalize t.place=tp at *
     by_cases h1:tk=k
     · subst h1
       by_cases h2:tx=x
       · subst h2
         by_cases h3:tp=0
         · subst h3
           have HE:=Lib.hid (show res=true by rw [HR.out];simp)
           clear HR
           go_wp2_with fail
           go_quiet (fail)
           go_wp2
           go_ret
           exact ⟨ret_bool HE.out.symm,bel_drewN HB2.out _⟩
         · have HE:=Lib.hid (show res=false by rw [HR.out];simp [h3])
           have t1:((tp:Int)==0)=false:=by simp;omega
           clear HR h3
           go_wp2_with fail
           go_quiet (fail)
           go_wp2
           go_ret
           exact ⟨ret_bool HE.out.symm,bel_drewN HB2.out _⟩
       · have HE:=Lib.hid (show res=false by rw [HR.out];simp [h2])
         have t1:=ba_no h2
         clear HR h2
         go_wp2_with fail
         go_quiet (fail)
         go_wp2
         go_ret
         exact ⟨ret_bool HE.out.symm,bel_drewN HB2.out _⟩
     · have HE:=Lib.hid (show res=false by rw [HR.out];simp [h1])
       have t1:(tk==k)=false:=by simpa using h1
       clear HR h1
       go_wp2_with fail
       go_quiet (fail)
       go_wp2
       go_ret
       exact ⟨ret_bool HE.out.symm,bel_drewN HB2.out _⟩
   · have HE:=Lib.hid (show res=false by rw [HA.out,decide_eq_false hl];simp)
     have t1:((l.length:Int)==2)=false:=by simp;omega
     clear hl HA
     go_wp2_with fail
     go_quiet (fail)
     go_wp2
     go_ret
     exact ⟨ret_bool HE.out.symm,bel_drewN HB2.out _⟩
 · have HE:=Lib.hid (show res=false by rw [HA.out,decide_eq_false hc];simp)
   have t1:(code==0)=false:=by simpa using hc
   clear hc HA
   go_wp2_with fail
   go_quiet (fail)
   go_wp2
   go_ret
   exact ⟨ret_bool HE.out.symm,bel_drewN HB2.out _⟩
end Go.Proofs.YtokhnoogkdlidaaGreatDoor
namespace Go.Proofs.YtokhnoogkdlidaaGreatDoor
open Go.ChangeShapes Go.WideShapes Go.ChangeAt Go.RowKit Go.Shelf
set_option maxRecDepth 100000 in
theorem snamed_any (s:ByteArray)(w:World)(hT:Tabs w)(hs:s.size≤281474976710656):Calls Tryz.prog 53 #[.string s] w fun e w'=>e=.returned (.bool (namedB s))∧Below w.heap.size w w':=by
 have HA:=Lib.hid (alone_any s 1 s w hT (by omega))
 have HN:Hid (namedB s=(decide (s.size≤40)&&aloneB s 1 s)):=Lib.hid rfl
 generalize namedB s=res at *
 generalize aloneB s 1 s=al at *
 clear hT
 by_cases hl:s.size≤40
 · have HE:=Lib.hid (show res=al by rw [HN.out,decide_eq_true hl,Bool.true_and])
   clear HN
   go_enter Tryz.func53,Tryz.ntmps53
   go_wp2_with fail
   refine HA.out.mono ?_
   rintro e W1 ⟨rfl,hb1⟩
   have HB:=Lib.hid hb1
   clear hb1
   go_wp2
   go_ret
   exact ⟨ret_bool HE.out.symm,HB.out⟩
 · have HE:=Lib.hid (show res=false by rw [HN.out,decide_eq_false hl,Bool.false_and])
   clear HN
   go_enter Tryz.func53,Tryz.ntmps53
   go_wp2
   go_ret
   exact ⟨ret_bool HE.out.symm,Below.refl _ _⟩
theorem quote_size (s:ByteArray):(quoteB s).size=s.size+2:=by
 unfold quoteB
 rw [ByteArray.size_append,ByteArray.size_append]
 show 1+s.size+1=_
 omega
set_option maxRecDepth 100000 in
set_option maxHeartbeats 2000000 in
theorem slabel_any (s:ByteArray)(w:World)(hT:Tabs w)(hs:s.size≤281474976710656):Calls Tryz.prog 78 #[.string s] w fun e w'=>e=.returned (.bool (labelB s))∧Below w.heap.size w w':=by
 have HA:=Lib.hid (alone_any (quoteB s) 3 s w hT (by rw [quote_size];omega))
 have HN:Hid (labelB s=(decide (0<s.size)&&(decide (s.size≤40)&&aloneB (quoteB s) 3 s))):=Lib.hid rfl
 generalize labelB s=res at *
 generalize aloneB (quoteB s) 3 s=al at *
 have HQ:Hid ((⟨#[34]⟩:ByteArray)++s++⟨#[34]⟩=quoteB s):=Lib.hid rfl
 have hc1:¬9223372036854775807<1+s.size:=by omega
 have hc2:¬9223372036854775807<1+s.size+1:=by omega
 clear hT
 by_cases h0:0<s.size
 · by_cases hl:s.size≤40
   · have HE:=Lib.hid (show res=al by rw [HN.out,decide_eq_true hl,decide_eq_true h0,Bool.true_and,Bool.true_and])
     clear HN
     go_enter Tryz.func78,Tryz.ntmps78
     go_upto_region 2 with (fail)
     rw [HQ.out]
     go_wp2_with fail
     refine HA.out.mono ?_
     rintro e W1 ⟨rfl,hb1⟩
     have HB:=Lib.hid hb1
     clear hb1
     go_wp2
     go_ret
     exact ⟨ret_bool HE.out.symm,HB.out⟩
   · have HE:=Lib.hid (show res=false by rw [HN.out,decide_eq_false hl,Bool.false_and,Bool.and_false])
     clear HN
     go_enter Tryz.func78,Tryz.ntmps78
     go_wp2
     go_ret
     exact ⟨ret_bool HE.out.symm,Below.refl _ _⟩
 · have HE:=Lib.hid (show res=false by rw [HN.out,decide_eq_false h0,Bool.false_and])
   clear HN
   go_enter Tryz.func78,Tryz.ntmps78
   go_wp2
   go_ret
   exact ⟨ret_bool HE.out.symm,Below.refl _ _⟩
theorem ents_look2' {W:World}{b:Nat}{m:List NEnt}(h:MapAt W b (m.map entP))(s:ByteArray) :
  (Instr.lookup 127 (.map (some b)) (.string s) true).run Tryz.prog W=.ok (.tuple #[mtyV ((lookN m s).map Prod.fst |>.getD 0) ((lookN m s).map Prod.snd |>.getD 0) 0,.bool (lookN m s).isSome]) W:=by
 have:=h.look ty_key ty_map (ty_zero W) s true
 rw [if_pos rfl,look_ents] at this
 rw [this]
 cases lookN m s<;>rfl
set_option maxRecDepth 100000 in
set_option maxHeartbeats 2000000 in
theorem sfree_any (s:ByteArray)(w:World)(hT:Tabs w)(hs:s.size≤281474976710656):Calls Tryz.prog 23 #[.string s] w fun e w'=>e=.returned (.bool (freeB s))∧Below w.heap.size w w':=by
 have HT:=Lib.hid hT
 have HN:Hid (freeB s=(namedB s && !(lookN basicN s).isSome)):=Lib.hid rfl
 clear hT
 go_enter Tryz.func23,Tryz.ntmps23
 go_wp2_with fail
 refine (basic_any w).mono ?_
 rintro e W1 ⟨b,rfl,hm,hb1,_⟩
 have hlk:=ents_look2' hm s
 have HB1:=Lib.hid hb1
 generalize (lookN basicN s).isSome=tk at *
 generalize ((lookN basicN s).map Prod.fst |>.getD 0)=kk at *
 generalize ((lookN basicN s).map Prod.snd |>.getD 0)=rr at *
 unfold mtyV at hlk
 clear hm hb1
 go_upto_region 2 with (fail)
 have hba:Below W1.heap.size W1 (W1.alloc (.cells #[.int .u8 (kk:Nat),.int .i64 (rr:Nat),.int .i64 ((0:Nat):Int)] 46)):=(Below.refl _ _).alloc (Nat.le_refl _) _
 have HB2:=Lib.hid (HB1.out.trans (hba.mono HB1.out.size))
 clear hlk hba
 go_wp2_with fail
 refine (snamed_any s _ (HT.out.below (Nat.le_refl _) HB2.out) hs).mono ?_
 rintro e W3 ⟨rfl,hb3⟩
 have HB3:=Lib.hid (HB2.out.trans (hb3.mono HB2.out.size))
 clear hb3
 cases hn:namedB s
 · have HE:=Lib.hid (show freeB s=false by rw [HN.out,hn];rfl)
   clear hn
   go_wp2
   go_ret
   exact ⟨ret_bool HE.out.symm,HB3.out⟩
 · have HE:=Lib.hid (show freeB s = !tk by rw [HN.out,hn];rfl)
   clear hn
   go_wp2
   go_ret
   exact ⟨ret_bool HE.out.symm,HB3.out⟩
end Go.Proofs.YtokhnoogkdlidaaGreatDoor
namespace Go.Proofs.YtokhnoogkdlidaaGreatDoor
open Go.ChangeShapes Go.WideShapes Go.ChangeAt Go.RowKit Go.Shelf
set_option maxRecDepth 100000 in
set_option maxHeartbeats 4000000 in
theorem styped_any (w:World){base:Nat}{ss:List (CRec × Value)}{es:List (SCho × Value)}{sv ev:Value}(root:Int)(h:CRows base w ss es sv ev)(k:Nat)(ref lists:Int)(hk:k≤255) :
  Calls Tryz.prog 79 #[.agg #[sv,ev,.int .i64 root],.agg #[.int .u8 k,.int .i64 ref,.int .i64 lists]] w fun e w'=>e=.returned (.bool (typedB ss.length es.length k ref lists))∧Below w.heap.size w w':=by
 obtain ⟨hb,hq1,hq2⟩:=two_blk w #[sv,ev,.int .i64 root] #[.int .u8 k,.int .i64 ref,.int .i64 lists] 30 46
 obtain ⟨sa,sc,ea,ec,rfl,rfl⟩:=h.forms
 have hf1:=row_few h.structs
 have hf2:=row_few h.enums
 obtain ⟨res,hres⟩:∃ res,typedB ss.length es.length k ref lists=res:=⟨_,rfl⟩
 rw [hres]
 unfold typedB at hres
 have HN:=Lib.hid hres
 have HB:=Lib.hid hb
 obtain ⟨_,p0,p1,p2,_⟩:=blk3 hq1
 obtain ⟨_,q0,q1,q2,_⟩:=blk3 hq2
 clear hq1 hq2 hb h hres
 go_enter Tryz.func79,Tryz.ntmps79
 go_upto_region 1 with (fail)
 generalize ((w.alloc (.cells #[.slice sa ss.length sc,.slice ea es.length ec,.int .i64 root] 30)).alloc (.cells #[.int .u8 k,.int .i64 ref,.int .i64 lists] 46))=W0 at *
 by_cases hl1:lists<0
 · have HE:=Lib.hid (show res=false by rw [←HN.out,if_pos (.inl hl1)])
   clear HN
   go_wp2
   go_ret
   exact ⟨ret_bool HE.out.symm,HB.out⟩
 by_cases hl2:3<lists
 · have HE:=Lib.hid (show res=false by rw [←HN.out,if_pos (.inr hl2)])
   clear HN
   go_wp2
   go_ret
   exact ⟨ret_bool HE.out.symm,HB.out⟩
 have HN2:=Lib.hid (HN.out.symm.trans (if_neg (by omega)))
 clear HN
 by_cases h10:k=10
 · subst h10
   have HE:=Lib.hid (HN2.out.trans (if_pos rfl))
   have HA:=Lib.hid (samong_any ref es.length res HE.out.symm)
   clear HN2
   go_wp2_with fail
   refine (HA.out _).mono ?_
   rintro e W1 ⟨rfl,rfl⟩
   go_wp2
   go_ret
   exact ⟨rfl,HB.out⟩
 have t10:((k:Int)==10)=false:=by simp;omega
 have HN3:=Lib.hid (HN2.out.trans (if_neg h10))
 clear HN2
 by_cases h13:k=13
 · subst h13
   have HE:=Lib.hid (HN3.out.trans (if_pos rfl))
   have HA:=Lib.hid (samong_any ref ss.length res HE.out.symm)
   clear HN3
   go_wp2_with fail
   refine (HA.out _).mono ?_
   rintro e W1 ⟨rfl,rfl⟩
   go_wp2
   go_ret
   exact ⟨rfl,HB.out⟩
 have t13:((k:Int)==13)=false:=by simp;omega
 have HN4:=Lib.hid (HN3.out.trans (if_neg h13))
 clear HN3
 by_cases h1:1≤k
 · by_cases h2:k<13
   · have g1:(1:Int)≤(k:Int):=by omega
     have g2:(k:Int)<13:=by omega
     by_cases hr:ref=0
     · have HE:=Lib.hid (show res=true by rw [HN4.out,decide_eq_true h1,decide_eq_true h2,decide_eq_true hr];rfl)
       have t0:(ref==0)=true:=by simpa using hr
       clear HN4 hr
       go_wp2
       go_ret
       exact ⟨ret_bool HE.out.symm,HB.out⟩
     · have HE:=Lib.hid (show res=false by rw [HN4.out,decide_eq_true h1,decide_eq_true h2,decide_eq_false hr];rfl)
       have t0:(ref==0)=false:=by simpa using hr
       clear HN4 hr
       go_wp2
       go_ret
       exact ⟨ret_bool HE.out.symm,HB.out⟩
   · have HE:=Lib.hid (show res=false by rw [HN4.out,decide_eq_false h2,Bool.false_and,Bool.and_false])
     have g1:(1:Int)≤(k:Int):=by omega
     have g2:¬(k:Int)<13:=by omega
     clear HN4
     go_wp2
     go_ret
     exact ⟨ret_bool HE.out.symm,HB.out⟩
 · have HE:=Lib.hid (show res=false by rw [HN4.out,decide_eq_false h1,Bool.false_and])
   have g1:¬(1:Int)≤(k:Int):=by omega
   clear HN4
   go_wp2
   go_ret
   exact ⟨ret_bool HE.out.symm,HB.out⟩
set_option maxRecDepth 100000 in
set_option maxHeartbeats 4000000 in
theorem sfield_any (w:World){base:Nat}{ss:List (CRec × Value)}{es:List (SCho × Value)}{sv ev:Value}(root:Int)(h:CRows base w ss es sv ev)(f:CFld)(hk:f.kind≤255)(hd:f.dflt≤18446744073709551615)(hs:f.name.size≤281474976710656)(hT:Tabs w) :
  Calls Tryz.prog 56 #[.agg #[sv,ev,.int .i64 root],.agg (cfldCells f).toArray] w fun e w'=>e=.returned (.bool (fieldB ss.length (es.map Prod.fst) f))∧Below w.heap.size w w':=by
 obtain ⟨name,k,ref,lists,d⟩:=f
 simp only at hk hd hs
 show Calls Tryz.prog _ #[.agg #[sv,ev,.int .i64 root],.agg #[.string name,.int .u8 (k:Nat),.int .i64 ref,.int .i64 lists,.int .u64 (d:Nat)]] w _
 obtain ⟨hb,hq1,hq2⟩:=two_blk w #[sv,ev,.int .i64 root] #[.string name,.int .u8 (k:Nat),.int .i64 ref,.int .i64 lists,.int .u64 (d:Nat)] 30 49
 obtain ⟨sa,sc,ea,ec,rfl,rfl⟩:=h.forms
 obtain ⟨res,hres⟩:∃ res,fieldB ss.length (es.map Prod.fst) ⟨name,k,ref,lists,d⟩=res:=⟨_,rfl⟩
 rw [hres]
 unfold fieldB at hres
 simp only [List.length_map] at hres
 have HN:=Lib.hid hres
 have HB:=Lib.hid hb
 have HR:=Lib.hid (h.below hb)
 have HQ1:=Lib.hid hq1
 have HQ2:=Lib.hid hq2
 have HT:=Lib.hid hT
 obtain ⟨_,y0,y1,y2,y3,y4,_⟩:=blk5c hq2
 clear hq1 hq2 hb h hres hT
 go_enter Tryz.func56,Tryz.ntmps56
 go_upto_region 1 with (fail)
 generalize ((w.alloc (.cells #[.slice sa ss.length sc,.slice ea es.length ec,.int .i64 root] 30)).alloc (.cells #[.string name,.int .u8 (k:Nat),.int .i64 ref,.int .i64 lists,.int .u64 (d:Nat)] 49))=W0 at *
 go_wp2_with fail
 refine (slabel_any name W0 (HT.out.below (Nat.le_refl _) HB.out) hs).mono ?_
 rintro e W1 ⟨rfl,hb1⟩
 have HB1:=Lib.hid (HB.out.trans (hb1.mono HB.out.size))
 have HR1:=Lib.hid (HR.out.below hb1)
 have HP1:=Lib.hid (blk_below HQ1.out hb1 (blk_lt HQ1.out))
 have HP2:=Lib.hid (blk_below HQ2.out hb1 (blk_lt HQ2.out))
 clear hb1 y0 y1 y2 y3 y4 HB HR HQ1 HQ2
 obtain ⟨_,p0,p1,p2,_⟩:=blk3 HP1.out
 obtain ⟨_,y0,y1,y2,y3,y4,_⟩:=blk5c HP2.out
 cases hl:labelB name
 · have HE:=Lib.hid (show res=false by rw [←HN.out,hl,Bool.false_and])
   clear HN hl
   go_wp2
   go_ret
   exact ⟨ret_bool HE.out.symm,HB1.out⟩
 have HN2:=Lib.hid (show res=_ from HN.out.symm.trans (by rw [hl,Bool.true_and]))
 clear HN hl
 go_wp2_with fail
 refine (styped_any W1 root HR1.out k ref lists hk).mono ?_
 rintro e W2 ⟨rfl,hb2⟩
 have HB2:=Lib.hid (HB1.out.trans (hb2.mono HB1.out.size))
 have HR2:=Lib.hid (HR1.out.below hb2)
 have HS1:=Lib.hid (blk_below HP1.out hb2 (blk_lt HP1.out))
 have HS2:=Lib.hid (blk_below HP2.out hb2 (blk_lt HP2.out))
 clear hb2 p0 p1 p2 y0 y1 y2 y3 y4 HB1 HR1 HP1 HP2
 obtain ⟨_,p0,p1,p2,_⟩:=blk3 HS1.out
 obtain ⟨_,y0,y1,y2,y3,y4,_⟩:=blk5c HS2.out
 cases ht:typedB ss.length es.length k ref lists
 · have HE:=Lib.hid (show res=false by rw [HN2.out,ht,Bool.false_and])
   clear HN2 ht
   go_wp2
   go_ret
   exact ⟨ret_bool HE.out.symm,HB2.out⟩
 have HN3:=Lib.hid (show res=_ from HN2.out.trans (by rw [ht,Bool.true_and]))
 clear HN2 ht
 go_wp2_with fail
 refine (snumber_any k ref lists W2).mono ?_
 rintro e W3 ⟨rfl,hb3⟩
 have HB3:=Lib.hid (HB2.out.trans (hb3.mono HB2.out.size))
 have HR3:=Lib.hid (HR2.out.below hb3)
 obtain ⟨_,r0,r1,r2,_⟩:=blk3 (blk_below HS1.out hb3 (blk_lt HS1.out))
 obtain ⟨_,z0,z1,z2,z3,z4,_⟩:=blk5c (blk_below HS2.out hb3 (blk_lt HS2.out))
 clear hb3 p0 p1 p2 y0 y1 y2 y3 y4 HB2 HR2 HS1 HS2
 cases hn:numTB k lists
 · have HE:=Lib.hid (show res=decide (d=0) by rw [HN3.out,hn,if_neg (by decide)])
   clear HN3 hn
   go_wp2
   go_ret
   refine ⟨ret_bool ?_,HB3.out⟩
   rw [HE.out,Bool.eq_iff_iff,beq_iff_eq,decide_eq_true_iff]
   omega
 · have HE:=Lib.hid (show res=fitsT (es.map Prod.fst) k ref lists d by rw [HN3.out,hn,if_pos rfl])
   clear HN3 hn
   go_wp2_with fail
   refine (sfits_any W3 root HR3.out k ref lists d hk hd).mono ?_
   rintro e W4 ⟨rfl,hb4⟩
   have HB4:=Lib.hid (HB3.out.trans (hb4.mono HB3.out.size))
   clear hb4
   go_wp2
   go_ret
   exact ⟨ret_bool HE.out.symm,HB4.out⟩
end Go.Proofs.YtokhnoogkdlidaaGreatDoor
