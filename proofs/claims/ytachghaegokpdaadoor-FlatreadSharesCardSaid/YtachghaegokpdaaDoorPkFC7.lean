/-
  The document's own IsNum and Fits of schema over schemas of any numbers. Conditions: those that each theorem names.
-/
import Derived.Test.YtachghaegokpdaaDoorPkFC1
import Derived.Test.YtachghaegokpdaaDoorPkFC2
import Derived.Test.YtachghaegokpdaaDoorPkFC4
namespace Go.Proofs.YtachghaegokpdaaDoor
open Go.ChangeShapes Go.WideShapes Go.ChangeAt Go.RowKit Go.Shelf
set_option maxHeartbeats 4000000 in
theorem fsized_any (a b c d:Int)(w:World)(hd:0≤d) :
  Calls Tryd.prog 113 #[.agg #[.int .i64 a,.int .i64 b,.int .i64 c,.int .i64 d]] w fun e w'=>e=.returned (.bool (decide (4≤b∧4≤d∧d % 2=0)))∧Below w.heap.size w w':=by
 have HB:=Lib.hid ((Below.refl w.heap.size w).alloc (Nat.le_refl _) (.cells #[.int .i64 a,.int .i64 b,.int .i64 c,.int .i64 d] 133))
 obtain ⟨_,x0,x1,x2,x3⟩:=blk4p (heap_alloc_new w (.cells #[.int .i64 a,.int .i64 b,.int .i64 c,.int .i64 d] 133))
 have e2:d.tmod 2=d % 2:=Int.tmod_eq_emod_of_nonneg hd
 have h2:d % 2=0∨d % 2=1:=by omega
 obtain ⟨r,hr⟩:∃ r,decide (4≤b∧4≤d∧d % 2=0)=r:=⟨_,rfl⟩
 rw [hr]
 have HR:=Lib.hid hr.symm
 clear hr
 by_cases h0:4≤b
 · by_cases h1:4≤d
   · rcases h2 with h2|h2
     · have HV:Hid (r=true):=Lib.hid (HR.out.trans (decide_eq_true ⟨h0,h1,h2⟩))
       rw [h2] at e2
       clear h2
       go_enter Tryd.func113,Tryd.ntmps113
       go_wp2
       go_ret
       exact ⟨ret_bool HV.out.symm,HB.out⟩
     · have HV:Hid (r=false):=Lib.hid (HR.out.trans (decide_eq_false (by omega)))
       rw [h2] at e2
       clear h2
       go_enter Tryd.func113,Tryd.ntmps113
       go_wp2
       go_ret
       exact ⟨ret_bool HV.out.symm,HB.out⟩
   · have HV:Hid (r=false):=Lib.hid (HR.out.trans (decide_eq_false (by omega)))
     clear h2 e2
     go_enter Tryd.func113,Tryd.ntmps113
     go_wp2
     go_ret
     exact ⟨ret_bool HV.out.symm,HB.out⟩
 · have HV:Hid (r=false):=Lib.hid (HR.out.trans (decide_eq_false (by omega)))
   clear h2 e2
   go_enter Tryd.func113,Tryd.ntmps113
   go_wp2
   go_ret
   exact ⟨ret_bool HV.out.symm,HB.out⟩
set_option maxHeartbeats 4000000 in
theorem fholds_any (t:TabZ)(p at' size:Int)(w:World)(ha : -1000000000000≤at'∧at'≤1000000000000)(hs:0≤size∧size≤8) :
  Calls Tryd.prog 104 #[tabV t p,.int .i64 at',.int .i64 size] w fun e w'=>e=.returned (.bool (decide (4≤at'∧at'+size≤t.own)))∧Below w.heap.size w w':=by
 have HB:=Lib.hid ((Below.refl w.heap.size w).alloc (Nat.le_refl _) (.cells #[.int .i64 p,.int .i64 t.own,.int .i64 t.la,.int .i64 t.size] 133))
 obtain ⟨_,x0,x1,x2,x3⟩:=blk4p (heap_alloc_new w (.cells #[.int .i64 p,.int .i64 t.own,.int .i64 t.la,.int .i64 t.size] 133))
 have hw:=IntWalk.i64_in (at'+size) (by omega)
 obtain ⟨r,hr⟩:∃ r,decide (4≤at'∧at'+size≤t.own)=r:=⟨_,rfl⟩
 rw [hr]
 have HR:=Lib.hid hr.symm
 clear hr
 unfold tabV
 generalize t.own=b at *
 by_cases h0:4≤at'
 · by_cases h1:at'+size≤b
   · have HV:Hid (r=true):=Lib.hid (HR.out.trans (decide_eq_true ⟨h0,h1⟩))
     go_enter Tryd.func104,Tryd.ntmps104
     go_wp2
     go_ret
     exact ⟨ret_bool HV.out.symm,HB.out⟩
   · have HV:Hid (r=false):=Lib.hid (HR.out.trans (decide_eq_false (by omega)))
     go_enter Tryd.func104,Tryd.ntmps104
     go_wp2
     go_ret
     exact ⟨ret_bool HV.out.symm,HB.out⟩
 · have HV:Hid (r=false):=Lib.hid (HR.out.trans (decide_eq_false (by omega)))
   go_enter Tryd.func104,Tryd.ntmps104
   go_wp2
   go_ret
   exact ⟨ret_bool HV.out.symm,HB.out⟩
set_option maxRecDepth 100000 in
set_option maxHeartbeats 4000000 in
theorem ffield_any (w:World){base m:Nat}{bp:Option Addr}{bc:Nat}{sv ev:Value}{zs:List Int}{fs:List (List CFld × Value)}{ns:List Nat}(h:IsMsg base w m bp bc sv ev zs fs ns)(t:TabZ)(p:Int)(j:Nat)(hj:j≤1000000)
  (ht:inZ (lenZ zs) t.la t.size=true∧t.size % 2=0) :
  Calls Tryd.prog 116 #[.pointer (some ⟨m,0,none⟩),tabV t p,.int .i64 j] w fun e w'=>e=.returned (.int .i64 (offZ zs t j))∧Below w.heap.size w w':=by
 have hb:=(Below.refl w.heap.size w).alloc (Nat.le_refl _) (.cells #[.int .i64 p,.int .i64 t.own,.int .i64 t.la,.int .i64 t.size] 133)
 have HB:=Lib.hid hb
 have HM:=Lib.hid (h.below hb)
 obtain ⟨_,x0,x1,x2,x3⟩:=blk4p (heap_alloc_new w (.cells #[.int .i64 p,.int .i64 t.own,.int .i64 t.la,.int .i64 t.size] 133))
 obtain ⟨_,m0,m1,m2,_⟩:=blk3 HM.out.blk
 have HBY:=Lib.hid HM.out.bytes
 have hlen:=HM.out.len
 have htt:=inZ_iff.1 ht.1
 have hz:lenZ zs=(zs.length:Int):=rfl
 rw [hz] at htt
 have hw1:=IntWalk.i64_in (2 * (j:Int)) (by omega)
 have hw2:=IntWalk.i64_in (4+2 * (j:Int)) (by omega)
 have HEV:=Lib.hid ht.2
 obtain ⟨r,hr⟩:∃ r,offZ zs t j=r:=⟨_,rfl⟩
 rw [hr]
 have HR:=Lib.hid hr.symm
 have hb0:=hb
 clear hr hb h ht
 unfold tabV
 by_cases h0:4+2 * (j:Int)<t.size
 · have hin:inZ (lenZ zs) (t.la+(4+2 * (j:Int))) 2=true:=inZ_iff.2 (by have:=HEV.out;rw [hz];omega)
   have HL:Hid (∀ W,Below (w.alloc (.cells #[.int .i64 p,.int .i64 t.own,.int .i64 t.la,.int .i64 t.size] 133)).heap.size (w.alloc (.cells #[.int .i64 p,.int .i64 t.own,.int .i64 t.la,.int .i64 t.size] 133)) W→Calls Tryd.prog 111 #[.slice bp zs.length bc,.int .i64 (t.la+(4+2 * (j:Int))),.int .i64 2] W fun e w'=>e=.returned (.tuple #[.int .u64 (leAt zs (t.la+(4+2 * (j:Int))).toNat 2),.bool true])∧W=w'):=
    Lib.hid (fun W hb=>load_in bp bc zs (t.la+(4+2 * (j:Int))) 2 W (HBY.out.below (Nat.le_refl _) hb) hlen hin (by decide))
   have HV:Hid (r=leAt zs (t.la+(4+2 * (j:Int))).toNat 2):=Lib.hid (HR.out.trans (by
    unfold offZ
    rw [if_pos h0,show t.la.toNat+4+2 * j=(t.la+(4+2 * (j:Int))).toNat by omega]))
   have hld:=leAt_2 zs (t.la+(4+2 * (j:Int))).toNat HBY.out.1
   have hw3:=IntWalk.i64_in (t.la+(4+2 * (j:Int))) (by omega)
   generalize leAt zs (t.la+(4+2 * (j:Int))).toNat 2=z at *
   have hcv:=IntWalk.i64_in z ⟨by omega,by omega⟩
   have h0':¬t.size≤4+2 * (j:Int):=by omega
   clear hin hb0
   generalize t.la=la at *
   generalize t.size=sz at *
   generalize t.own=ow at *
   go_enter Tryd.func116,Tryd.ntmps116
   go_upto_region 4 with (fail)
   generalize w.alloc (.cells #[.int .i64 p,.int .i64 ow,.int .i64 la,.int .i64 sz] 133)=W0 at *
   go_quiet (first|(go_at_call 111;exact quiet_same (HL.out _ (bel_drewN (Below.refl _ _) _))))
   go_wp2
   go_ret
   exact ⟨ret_int HV.out.symm,bel_drewN HB.out _⟩
 · have HV:Hid (r=0):=Lib.hid (HR.out.trans (by unfold offZ;rw [if_neg h0]))
   generalize t.la=la at *
   generalize t.size=sz at *
   generalize t.own=ow at *
   go_enter Tryd.func116,Tryd.ntmps116
   go_wp2
   go_ret
   exact ⟨ret_int HV.out.symm,HB.out⟩
end Go.Proofs.YtachghaegokpdaaDoor
namespace Go.Proofs.YtachghaegokpdaaDoor
open Go.ChangeShapes Go.WideShapes Go.ChangeAt Go.RowKit Go.Shelf
theorem rnumI_any (k:Nat)(hk:k≤255)(ref lists:Int)(w:World) :
  Calls Tryd.prog 48 #[.agg #[.int .u8 k,.int .i64 ref,.int .i64 lists]] w fun e w'=>e=.returned (.bool (numTB k lists))∧Below w.heap.size w w':=by
 have h0:=heap_alloc_new w (.cells #[.int .u8 k,.int .i64 ref,.int .i64 lists] 58)
 have HB:=Lib.hid ((Below.refl w.heap.size w).alloc (Nat.le_refl _) (.cells #[.int .u8 k,.int .i64 ref,.int .i64 lists] 58))
 obtain ⟨_,x0,x1,x2,_⟩:=blk3 h0
 have hb1:(k:Int)≤255:=by omega
 have HN:Hid (numTB k lists=(decide (lists=0)&&decide (0<kSize k))):=Lib.hid rfl
 generalize numTB k lists=res at *
 clear h0
 by_cases hl:lists=0
 · have HE:=Lib.hid (show res=decide (0<kSize k) by rw [HN.out,decide_eq_true hl,Bool.true_and])
   subst hl
   clear HN
   go_enter Tryd.func48,Tryd.ntmps48
   go_wp2_with fail
   refine (rsize_any _ _).mono ?_
   rintro e W1 ⟨rfl,rfl⟩
   generalize kSize (k:Int)=z at *
   by_cases hs:0<z
   · have HR:=Lib.hid (show res=true by rw [HE.out];exact decide_eq_true hs)
     clear HE
     go_wp2
     go_ret
     exact ⟨ret_bool HR.out.symm,HB.out⟩
   · have HR:=Lib.hid (show decide (0<z)=res from HE.out.symm)
     clear HE
     go_wp2
     go_ret
     exact ⟨ret_bool HR.out,HB.out⟩
 · have HE:=Lib.hid (show res=false by rw [HN.out,decide_eq_false hl,Bool.false_and])
   have t1:(lists==0)=false:=by simpa using hl
   clear HN hl
   go_enter Tryd.func48,Tryd.ntmps48
   go_wp2
   go_ret
   exact ⟨ret_bool HE.out.symm,HB.out⟩
set_option maxRecDepth 100000 in
set_option maxHeartbeats 4000000 in
theorem rfits_any (w:World){base:Nat}{ss:List (CRec × Value)}{es:List (SCho × Value)}{sv ev:Value}(root:Int)(h:CRows base w ss es sv ev)(k:Nat)(ref lists:Int)(n:Nat)(hk:k≤255)(hn:n≤18446744073709551615) :
  Calls Tryd.prog 70 #[.agg #[sv,ev,.int .i64 root],.agg #[.int .u8 k,.int .i64 ref,.int .i64 lists],.int .u64 n] w fun e w'=>e=.returned (.bool (fitsT (es.map Prod.fst) k ref lists n))∧Below w.heap.size w w':=by
 obtain ⟨hb,hq1,hq2⟩:=two_start w #[sv,ev,.int .i64 root] #[.int .u8 k,.int .i64 ref,.int .i64 lists] 33 58
 obtain ⟨sa,sc,ea,ec,rfl,rfl⟩:=h.forms
 have hf2:=row_few h.enums
 obtain ⟨res,hres⟩:∃ res,fitsT (es.map Prod.fst) k ref lists n=res:=⟨_,rfl⟩
 rw [hres]
 unfold fitsT at hres
 rw [List.length_map] at hres
 have HN:=Lib.hid hres
 have HB:=Lib.hid hb
 have HR:=Lib.hid (h.below hb)
 have HQ1:=Lib.hid hq1
 have HQ2:=Lib.hid hq2
 obtain ⟨_,q0,q1,q2,_⟩:=blk3 hq2
 clear hq1 hq2 hb h hres
 go_enter Tryd.func70,Tryd.ntmps70
 go_upto_region 1 with (fail)
 generalize ((w.alloc (.cells #[.slice sa ss.length sc,.slice ea es.length ec,.int .i64 root] 33)).alloc (.cells #[.int .u8 k,.int .i64 ref,.int .i64 lists] 58))=W0 at *
 go_wp2_with fail
 refine (rnumI_any k hk ref lists _).mono ?_
 rintro e W1 ⟨rfl,hb1⟩
 have HB1:=Lib.hid (HB.out.trans (hb1.mono HB.out.size))
 have HR1:=Lib.hid (HR.out.below hb1)
 obtain ⟨_,p0,p1,p2,_⟩:=blk3 (blk_below HQ1.out hb1 (blk_lt HQ1.out))
 obtain ⟨_,r0,r1,r2,_⟩:=blk3 (blk_below HQ2.out hb1 (blk_lt HQ2.out))
 clear hb1 q0 q1 q2 HB HR HQ1 HQ2
 cases hnt:numTB k lists
 · have HE:=Lib.hid (show res=false by rw [←HN.out,if_pos hnt])
   clear HN hnt
   go_wp2
   go_ret
   exact ⟨ret_bool HE.out.symm,HB1.out⟩
 have HN2:=Lib.hid (HN.out.symm.trans (if_neg (by rw [hnt];decide)))
 have HSZ:=Lib.hid (show 0<kSize k from by unfold numTB at hnt;rw [Bool.and_eq_true,decide_eq_true_iff,decide_eq_true_iff] at hnt;exact hnt.2)
 clear HN hnt
 have hb1:(k:Int)≤255:=by omega
 go_wp2_with fail
 refine (rsize_any _ _).mono ?_
 rintro e W2 ⟨rfl,rfl⟩
 by_cases h1:k=1
 · subst h1
   have HE:=Lib.hid (HN2.out.trans (if_pos rfl))
   clear HN2
   by_cases hn1:n≤1
   · have HF:=Lib.hid (show res=true by rw [HE.out];exact decide_eq_true hn1)
     have g:(n:Int)<2:=by omega
     clear HE
     go_wp2
     go_ret
     exact ⟨ret_bool HF.out.symm,HB1.out⟩
   · have g:¬(n:Int)<2:=by omega
     have HF:=Lib.hid (show res=false by rw [HE.out];exact decide_eq_false hn1)
     clear HE
     go_wp2
     go_ret
     exact ⟨ret_bool ((decide_eq_false (Int.not_lt.2 g)).trans HF.out.symm),HB1.out⟩
 have t1:((k:Int)==1)=false:=by simp;omega
 have HN3:=Lib.hid (HN2.out.trans (if_neg h1))
 clear HN2
 by_cases h10:k=10
 · subst h10
   have HE:=Lib.hid (HN3.out.trans (if_pos rfl))
   clear HN3
   by_cases hr:0≤ref∧ref<(es.length:Int)
   · obtain ⟨j,rfl⟩:∃ j:Nat,ref=j:=⟨ref.toNat,by omega⟩
     have hj:j<es.length:=by omega
     have HF:=Lib.hid (show res=decide (n<es[j].1.names.length) by
      rw [HE.out,decide_eq_true hr,Bool.true_and,Int.toNat_natCast,List.getD_eq_getElem?_getD,List.getElem?_map,List.getElem?_eq_getElem hj];rfl)
     obtain ⟨g,cc,hv,hcc,hg,hcell⟩:=row_el schoCells 2 (fun _=>rfl) HR1.out.enums j hj
     obtain ⟨rfl,rfl⟩:=slice_inj hv
     have hnm:=HR1.out.names _ (List.getElem_mem hj)
     obtain ⟨na,nc,hnv⟩:=ownsRow_form hnm
     have hfn:=row_few hnm
     have x1:W1.cell? ⟨g,j * 2+1,none⟩=some (.slice na es[j].1.names.length nc):=by rw [←hnv];exact hcell 1 (by omega)
     generalize es[j].1.names.length=cnt at *
     have hw:IntKind.u64.wrap (cnt:Int)=cnt:=IntWalk.u64_in _ (by omega)
     have hji:(j:Int)<es.length:=by omega
     have hj0:(0:Int)≤(j:Int):=by omega
     clear HE hv hcell hnm hnv hr
     by_cases hnc:n<cnt
     · have HG:=Lib.hid (show res=true by rw [HF.out];exact decide_eq_true hnc)
       have gc:(n:Int)<(cnt:Int):=by omega
       clear HF
       go_wp2
       go_ret
       exact ⟨ret_bool HG.out.symm,HB1.out⟩
     · have HG:=Lib.hid (show res=false by rw [HF.out];exact decide_eq_false hnc)
       have gc:¬(n:Int)<(cnt:Int):=by omega
       clear HF
       go_wp2
       go_ret
       exact ⟨ret_bool HG.out.symm,HB1.out⟩
   · have HF:=Lib.hid (show res=false by rw [HE.out,decide_eq_false hr,Bool.false_and])
     clear HE
     by_cases hr0:0≤ref
     · have hr1:¬ref<(es.length:Int):=fun e=>hr ⟨hr0,e⟩
       clear hr
       go_wp2
       go_ret
       exact ⟨ret_bool HF.out.symm,HB1.out⟩
     · clear hr
       go_wp2
       go_ret
       exact ⟨ret_bool HF.out.symm,HB1.out⟩
 have t10:((k:Int)==10)=false:=by simp;omega
 have HN4:=Lib.hid (HN3.out.trans (if_neg h10))
 clear HN3
 go_wp2_with fail
 refine (rsign_any _ _).mono ?_
 rintro e W2 ⟨rfl,rfl⟩
 cases hsg:kSign (k:Int)
 · have HE:=Lib.hid (HN4.out.trans (if_neg (by rw [hsg];decide)))
   have hk4:k=6∨k=7∨k=8∨k=9:=by
    have hz:=HSZ.out
    unfold kSign at hsg
    have hs2:=of_decide_eq_false hsg
    unfold kSize at hz
    rcases Nat.lt_or_ge k 11 with h|h
    · have:k=0∨k=1∨k=2∨k=3∨k=4∨k=5∨k=6∨k=7∨k=8∨k=9∨k=10:=by omega
      rcases this with rfl|rfl|rfl|rfl|rfl|rfl|rfl|rfl|rfl|rfl|rfl<;>simp_all
    · rw [if_neg (by omega),if_neg (by omega),if_neg (by omega),if_neg (by omega)] at hz
      exact absurd hz (by decide)
   clear HN4 hsg
   rcases hk4 with rfl|rfl|rfl|rfl
   · have HE2:=Lib.hid (show res=decide (n / 256=0) from HE.out)
     have hks:kSize ((6:Nat):Int)=1:=by decide
     rw [hks]
     clear HE hks
     by_cases hlt:n<256
     · have HF:=Lib.hid (show res=true by rw [HE2.out];exact decide_eq_true (by omega))
       have g:(n:Int)<256:=by omega
       clear HE2
       go_wp2
       go_ret
       exact ⟨ret_bool HF.out.symm,HB1.out⟩
     · have HF:=Lib.hid (show res=false by rw [HE2.out];exact decide_eq_false (by omega))
       have g:¬(n:Int)<256:=by omega
       clear HE2
       go_wp2
       go_ret
       exact ⟨ret_bool ((decide_eq_false (Int.not_lt.2 g)).trans HF.out.symm),HB1.out⟩
   · have HE2:=Lib.hid (show res=decide (n / 65536=0) from HE.out)
     have hks:kSize ((7:Nat):Int)=2:=by decide
     rw [hks]
     clear HE hks
     by_cases hlt:n<65536
     · have HF:=Lib.hid (show res=true by rw [HE2.out];exact decide_eq_true (by omega))
       have g:(n:Int)<65536:=by omega
       clear HE2
       go_wp2
       go_ret
       exact ⟨ret_bool HF.out.symm,HB1.out⟩
     · have HF:=Lib.hid (show res=false by rw [HE2.out];exact decide_eq_false (by omega))
       have g:¬(n:Int)<65536:=by omega
       clear HE2
       go_wp2
       go_ret
       exact ⟨ret_bool ((decide_eq_false (Int.not_lt.2 g)).trans HF.out.symm),HB1.out⟩
   · have HE2:=Lib.hid (show res=decide (n / 4294967296=0) from HE.out)
     have hks:kSize ((8:Nat):Int)=4:=by decide
     rw [hks]
     clear HE hks
     by_cases hlt:n<4294967296
     · have HF:=Lib.hid (show res=true by rw [HE2.out];exact decide_eq_true (by omega))
       have g:(n:Int)<4294967296:=by omega
       clear HE2
       go_wp2
       go_ret
       exact ⟨ret_bool HF.out.symm,HB1.out⟩
     · have HF:=Lib.hid (show res=false by rw [HE2.out];exact decide_eq_false (by omega))
       have g:¬(n:Int)<4294967296:=by omega
       clear HE2
       go_wp2
       go_ret
       exact ⟨ret_bool ((decide_eq_false (Int.not_lt.2 g)).trans HF.out.symm),HB1.out⟩
   · have HF:=Lib.hid (show res=true by rw [show res=decide (n / 18446744073709551616=0) from HE.out];exact decide_eq_true (by omega))
     have hks:kSize ((9:Nat):Int)=8:=by decide
     rw [hks]
     clear HE hks
     go_wp2
     go_ret
     exact ⟨ret_bool HF.out.symm,HB1.out⟩
 · have HE:=Lib.hid (HN4.out.trans (if_pos hsg))
   clear HN4 hsg
   go_wp2_with fail
   refine (rsigned_any n (kSize k) _ (by omega) (by omega)).mono ?_
   rintro e W2 ⟨rfl,rfl⟩
   by_cases hq:sgnOf n (kSize k)=n
   · have HF:=Lib.hid (show res=true by rw [HE.out];exact decide_eq_true hq)
     have t:(sgnOf n (kSize k)==(n:Int))=true:=beq_iff_eq.2 hq
     generalize sgnOf n (kSize k)=z at *
     clear HE hq
     go_wp2
     go_ret
     exact ⟨ret_bool HF.out.symm,HB1.out⟩
   · have HF:=Lib.hid (show res=false by rw [HE.out];exact decide_eq_false hq)
     have t:(sgnOf n (kSize k)==(n:Int))=false:=beq_eq_false_iff_ne.2 hq
     generalize sgnOf n (kSize k)=z at *
     clear HE hq
     go_wp2
     go_ret
     exact ⟨ret_bool HF.out.symm,HB1.out⟩
end Go.Proofs.YtachghaegokpdaaDoor
