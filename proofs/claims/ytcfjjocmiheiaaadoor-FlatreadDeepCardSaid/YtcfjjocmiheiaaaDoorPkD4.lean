/-
  The document's own Num, by a walk of its text: a number's bytes, the lowest first. Conditions: those that the theorem names.
-/
import Derived.Test.YtcfjjocmiheiaaaDoorPkD1
import Derived.Test.YtcfjjocmiheiaaaDoorPkD2
import Derived.Test.YtcfjjocmiheiaaaDoorRows
import Derived.WalkKit
import Derived.ProofKit
import Derived.OpenShut
import Derived.ShutString
import Derived.ChangeOld
import Derived.Below
import Derived.WalkLawsBesides
import Derived.WalkSpells
import Derived.Lib.Hide
import Derived.Outline
import Derived.Handy
import Derived.BigQuiet
import Derived.Laws.CopyOwn
namespace Go.Proofs.YtcfjjocmiheiaaaDoor
open Go.ChangeShapes Go.WideShapes Go.ChangeAt Go.RowKit Go.Shelf
theorem rnumI_any (k:Nat)(hk:k≤255)(ref lists:Int)(w:World) :
  Calls Tryd.prog 38 #[.agg #[.int .u8 k,.int .i64 ref,.int .i64 lists]] w fun e w'=>e=.returned (.bool (numTB k lists))∧Below w.heap.size w w':=by
 have h0:=heap_alloc_new w (.cells #[.int .u8 k,.int .i64 ref,.int .i64 lists] 50)
 have HB:=Lib.hid ((Below.refl w.heap.size w).alloc (Nat.le_refl _) (.cells #[.int .u8 k,.int .i64 ref,.int .i64 lists] 50))
 obtain ⟨_,x0,x1,x2,_⟩:=blk3 h0
 have hb1:(k:Int)≤255:=by omega
 have HN:Hid (numTB k lists=(decide (lists=0)&&decide (0<kSize k))):=Lib.hid rfl
 generalize numTB k lists=res at *
 clear h0
 by_cases hl:lists=0
 · have HE:=Lib.hid (show res=decide (0<kSize k) by rw [HN.out,decide_eq_true hl,Bool.true_and])
   subst hl
   clear HN
   go_enter Tryd.func38,Tryd.ntmps38
   go_wp2_with fail
   refine (rsize_any _ _).mono ?_
   rintro e W1 ⟨rfl,rfl⟩
   generalize kSize (k:Int)=z at *
   by_cases hs:0<z
   · have HR:=Lib.hid (show res=true by rw [HE.out];exact decide_eq_true hs)
     clear HE
     go_wp2
     go_ret
     exact ⟨ret_bool HR.out.symm,HB.out⟩
   · have HR:=Lib.hid (show decide (0<z)=res from HE.out.symm)
     clear HE
     go_wp2
     go_ret
     exact ⟨ret_bool HR.out,HB.out⟩
 · have HE:=Lib.hid (show res=false by rw [HN.out,decide_eq_false hl,Bool.false_and])
   have t1:(lists==0)=false:=by simpa using hl
   clear HN hl
   go_enter Tryd.func38,Tryd.ntmps38
   go_wp2
   go_ret
   exact ⟨ret_bool HE.out.symm,HB.out⟩
set_option maxRecDepth 100000 in
set_option maxHeartbeats 4000000 in
theorem rfits_any (w:World){base:Nat}{ss:List (CRec × Value)}{es:List (SCho × Value)}{sv ev:Value}(root:Int)(h:CRows base w ss es sv ev)(k:Nat)(ref lists:Int)(n:Nat)(hk:k≤255)(hn:n≤18446744073709551615) :
  Calls Tryd.prog 83 #[.agg #[sv,ev,.int .i64 root],.agg #[.int .u8 k,.int .i64 ref,.int .i64 lists],.int .u64 n] w fun e w'=>e=.returned (.bool (fitsT (es.map Prod.fst) k ref lists n))∧Below w.heap.size w w':=by
 obtain ⟨hb,hq1,hq2⟩:=two_start w #[sv,ev,.int .i64 root] #[.int .u8 k,.int .i64 ref,.int .i64 lists] 30 50
 obtain ⟨sa,sc,ea,ec,rfl,rfl⟩:=h.forms
 have hf2:=row_few h.enums
 obtain ⟨res,hres⟩:∃ res,fitsT (es.map Prod.fst) k ref lists n=res:=⟨_,rfl⟩
 rw [hres]
 unfold fitsT at hres
 rw [List.length_map] at hres
 have HN:=Lib.hid hres
 have HB:=Lib.hid hb
 have HR:=Lib.hid (h.below hb)
 have HQ1:=Lib.hid hq1
 have HQ2:=Lib.hid hq2
 obtain ⟨_,q0,q1,q2,_⟩:=blk3 hq2
 clear hq1 hq2 hb h hres
 go_enter Tryd.func83,Tryd.ntmps83
 go_upto_region 1 with (fail)
 generalize ((w.alloc (.cells #[.slice sa ss.length sc,.slice ea es.length ec,.int .i64 root] 30)).alloc (.cells #[.int .u8 k,.int .i64 ref,.int .i64 lists] 50))=W0 at *
 go_wp2_with fail
 refine (rnumI_any k hk ref lists _).mono ?_
 rintro e W1 ⟨rfl,hb1⟩
 have HB1:=Lib.hid (HB.out.trans (hb1.mono HB.out.size))
 have HR1:=Lib.hid (HR.out.below hb1)
 obtain ⟨_,p0,p1,p2,_⟩:=blk3 (blk_below HQ1.out hb1 (blk_lt HQ1.out))
 obtain ⟨_,r0,r1,r2,_⟩:=blk3 (blk_below HQ2.out hb1 (blk_lt HQ2.out))
 clear hb1 q0 q1 q2 HB HR HQ1 HQ2
 cases hnt:numTB k lists
 · have HE:=Lib.hid (show res=false by rw [←HN.out,if_pos hnt])
   clear HN hnt
   go_wp2
   go_ret
   exact ⟨ret_bool HE.out.symm,HB1.out⟩
 have HN2:=Lib.hid (HN.out.symm.trans (if_neg (by rw [hnt];decide)))
 have HSZ:=Lib.hid (show 0<kSize k from by unfold numTB at hnt;rw [Bool.and_eq_true,decide_eq_true_iff,decide_eq_true_iff] at hnt;exact hnt.2)
 clear HN hnt
 have hb1:(k:Int)≤255:=by omega
 go_wp2_with fail
 refine (rsize_any _ _).mono ?_
 rintro e W2 ⟨rfl,rfl⟩
 by_cases h1:k=1
 · subst h1
   have HE:=Lib.hid (HN2.out.trans (if_pos rfl))
   clear HN2
   by_cases hn1:n≤1
   · have HF:=Lib.hid (show res=true by rw [HE.out];exact decide_eq_true hn1)
     have g:(n:Int)<2:=by omega
     clear HE
     go_wp2
     go_ret
     exact ⟨ret_bool HF.out.symm,HB1.out⟩
   · have g:¬(n:Int)<2:=by omega
     have HF:=Lib.hid (show res=false by rw [HE.out];exact decide_eq_false hn1)
     clear HE
     go_wp2
     go_ret
     exact ⟨ret_bool ((decide_eq_false (Int.not_lt.2 g)).trans HF.out.symm),HB1.out⟩
 have t1:((k:Int)==1)=false:=by simp;omega
 have HN3:=Lib.hid (HN2.out.trans (if_neg h1))
 clear HN2
 by_cases h10:k=10
 · subst h10
   have HE:=Lib.hid (HN3.out.trans (if_pos rfl))
   clear HN3
   by_cases hr:0≤ref∧ref<(es.length:Int)
   · obtain ⟨j,rfl⟩:∃ j:Nat,ref=j:=⟨ref.toNat,by omega⟩
     have hj:j<es.length:=by omega
     have HF:=Lib.hid (show res=decide (n<es[j].1.names.length) by
      rw [HE.out,decide_eq_true hr,Bool.true_and,Int.toNat_natCast,List.getD_eq_getElem?_getD,List.getElem?_map,List.getElem?_eq_getElem hj];rfl)
     obtain ⟨g,cc,hv,hcc,hg,hcell⟩:=row_el schoCells 2 (fun _=>rfl) HR1.out.enums j hj
     obtain ⟨rfl,rfl⟩:=slice_inj hv
     have hnm:=HR1.out.names _ (List.getElem_mem hj)
     obtain ⟨na,nc,hnv⟩:=ownsRow_form hnm
     have hfn:=row_few hnm
     have x1:W1.cell? ⟨g,j * 2+1,none⟩=some (.slice na es[j].1.names.length nc):=by rw [←hnv];exact hcell 1 (by omega)
     generalize es[j].1.names.length=cnt at *
     have hw:IntKind.u64.wrap (cnt:Int)=cnt:=IntWalk.u64_in _ (by omega)
     have hji:(j:Int)<es.length:=by omega
     have hj0:(0:Int)≤(j:Int):=by omega
     clear HE hv hcell hnm hnv hr
     by_cases hnc:n<cnt
     · have HG:=Lib.hid (show res=true by rw [HF.out];exact decide_eq_true hnc)
       have gc:(n:Int)<(cnt:Int):=by omega
       clear HF
       go_wp2
       go_ret
       exact ⟨ret_bool HG.out.symm,HB1.out⟩
     · have HG:=Lib.hid (show res=false by rw [HF.out];exact decide_eq_false hnc)
       have gc:¬(n:Int)<(cnt:Int):=by omega
       clear HF
       go_wp2
       go_ret
       exact ⟨ret_bool HG.out.symm,HB1.out⟩
   · have HF:=Lib.hid (show res=false by rw [HE.out,decide_eq_false hr,Bool.false_and])
     clear HE
     by_cases hr0:0≤ref
     · have hr1:¬ref<(es.length:Int):=fun e=>hr ⟨hr0,e⟩
       clear hr
       go_wp2
       go_ret
       exact ⟨ret_bool HF.out.symm,HB1.out⟩
     · clear hr
       go_wp2
       go_ret
       exact ⟨ret_bool HF.out.symm,HB1.out⟩
 have t10:((k:Int)==10)=false:=by simp;omega
 have HN4:=Lib.hid (HN3.out.trans (if_neg h10))
 clear HN3
 go_wp2_with fail
 refine (rsign_any _ _).mono ?_
 rintro e W2 ⟨rfl,rfl⟩
 cases hsg:kSign (k:Int)
 · have HE:=Lib.hid (HN4.out.trans (if_neg (by rw [hsg];decide)))
   have hk4:k=6∨k=7∨k=8∨k=9:=by
    have hz:=HSZ.out
    unfold kSign at hsg
    have hs2:=of_decide_eq_false hsg
    unfold kSize at hz
    rcases Nat.lt_or_ge k 11 with h|h
    · have:k=0∨k=1∨k=2∨k=3∨k=4∨k=5∨k=6∨k=7∨k=8∨k=9∨k=10:=by omega
      rcases this with rfl|rfl|rfl|rfl|rfl|rfl|rfl|rfl|rfl|rfl|rfl<;>simp_all
    · rw [if_neg (by omega),if_neg (by omega),if_neg (by omega),if_neg (by omega)] at hz
      exact absurd hz (by decide)
   clear HN4 hsg
   rcases hk4 with rfl|rfl|rfl|rfl
   · have HE2:=Lib.hid (show res=decide (n / 256=0) from HE.out)
     have hks:kSize ((6:Nat):Int)=1:=by decide
     rw [hks]
     clear HE hks
     by_cases hlt:n<256
     · have HF:=Lib.hid (show res=true by rw [HE2.out];exact decide_eq_true (by omega))
       have g:(n:Int)<256:=by omega
       clear HE2
       go_wp2
       go_ret
       exact ⟨ret_bool HF.out.symm,HB1.out⟩
     · have HF:=Lib.hid (show res=false by rw [HE2.out];exact decide_eq_false (by omega))
       have g:¬(n:Int)<256:=by omega
       clear HE2
       go_wp2
       go_ret
       exact ⟨ret_bool ((decide_eq_false (Int.not_lt.2 g)).trans HF.out.symm),HB1.out⟩
   · have HE2:=Lib.hid (show res=decide (n / 65536=0) from HE.out)
     have hks:kSize ((7:Nat):Int)=2:=by decide
     rw [hks]
     clear HE hks
     by_cases hlt:n<65536
     · have HF:=Lib.hid (show res=true by rw [HE2.out];exact decide_eq_true (by omega))
       have g:(n:Int)<65536:=by omega
       clear HE2
       go_wp2
       go_ret
       exact ⟨ret_bool HF.out.symm,HB1.out⟩
     · have HF:=Lib.hid (show res=false by rw [HE2.out];exact decide_eq_false (by omega))
       have g:¬(n:Int)<65536:=by omega
       clear HE2
       go_wp2
       go_ret
       exact ⟨ret_bool ((decide_eq_false (Int.not_lt.2 g)).trans HF.out.symm),HB1.out⟩
   · have HE2:=Lib.hid (show res=decide (n / 4294967296=0) from HE.out)
     have hks:kSize ((8:Nat):Int)=4:=by decide
     rw [hks]
     clear HE hks
     by_cases hlt:n<4294967296
     · have HF:=Lib.hid (show res=true by rw [HE2.out];exact decide_eq_true (by omega))
       have g:(n:Int)<4294967296:=by omega
       clear HE2
       go_wp2
       go_ret
       exact ⟨ret_bool HF.out.symm,HB1.out⟩
     · have HF:=Lib.hid (show res=false by rw [HE2.out];exact decide_eq_false (by omega))
       have g:¬(n:Int)<4294967296:=by omega
       clear HE2
       go_wp2
       go_ret
       exact ⟨ret_bool ((decide_eq_false (Int.not_lt.2 g)).trans HF.out.symm),HB1.out⟩
   · have HF:=Lib.hid (show res=true by rw [show res=decide (n / 18446744073709551616=0) from HE.out];exact decide_eq_true (by omega))
     have hks:kSize ((9:Nat):Int)=8:=by decide
     rw [hks]
     clear HE hks
     go_wp2
     go_ret
     exact ⟨ret_bool HF.out.symm,HB1.out⟩
 · have HE:=Lib.hid (HN4.out.trans (if_pos hsg))
   clear HN4 hsg
   go_wp2_with fail
   refine (rsigned_any n (kSize k) _ (by omega) (by omega)).mono ?_
   rintro e W2 ⟨rfl,rfl⟩
   by_cases hq:sgnOf n (kSize k)=n
   · have HF:=Lib.hid (show res=true by rw [HE.out];exact decide_eq_true hq)
     have t:(sgnOf n (kSize k)==(n:Int))=true:=beq_iff_eq.2 hq
     generalize sgnOf n (kSize k)=z at *
     clear HE hq
     go_wp2
     go_ret
     exact ⟨ret_bool HF.out.symm,HB1.out⟩
   · have HF:=Lib.hid (show res=false by rw [HE.out];exact decide_eq_false hq)
     have t:(sgnOf n (kSize k)==(n:Int))=false:=beq_eq_false_iff_ne.2 hq
     generalize sgnOf n (kSize k)=z at *
     clear HE hq
     go_wp2
     go_ret
     exact ⟨ret_bool HF.out.symm,HB1.out⟩
end Go.Proofs.YtcfjjocmiheiaaaDoor
namespace Go.Proofs.YtcfjjocmiheiaaaDoor
open Go.RowKit
def inZ (L a n:Int):Bool:=decide (0≤a∧0≤n∧n≤L-a)
def lenZ (zs:List Int):Int:=(zs.length:Nat)
def jumpZ (zs:List Int)(at':Int):Option Int:=
 if inZ (lenZ zs) at' 4=true then (if at'+leAt zs at'.toNat 4≤lenZ zs then some (at'+leAt zs at'.toNat 4) else none) else none
def sg32 (n:Int):Int:=if n<2147483648 then n else n-4294967296
structure TabZ where
 own:Int
 la:Int
 size:Int
def tabOf (zs:List Int)(at' la:Int):Option TabZ:=
 if inZ (lenZ zs) la 4=true then
  (if (4≤leAt zs la.toNat 2∧leAt zs la.toNat 2 % 2=0∧4≤leAt zs (la.toNat+2) 2)∧inZ (lenZ zs) la (leAt zs la.toNat 2)=true∧inZ (lenZ zs) at' (leAt zs (la.toNat+2) 2)=true then some ⟨leAt zs (la.toNat+2) 2,la,leAt zs la.toNat 2⟩ else none)
 else none
def tabZ (zs:List Int)(at':Int):Option TabZ:=
 if inZ (lenZ zs) at' 4=true then tabOf zs at' (at'-sg32 (leAt zs at'.toNat 4)) else none
def offZ (zs:List Int)(t:TabZ)(j:Nat):Int:=if 4+2 * (j:Int)<t.size then leAt zs (t.la.toNat+4+2 * j) 2 else 0
def partZ (zs:List Int)(a n:Nat):List Int:=(zs.drop a).take n
theorem inZ_iff {L a n:Int}:inZ L a n=true ↔ 0≤a∧0≤n∧n≤L-a:=decide_eq_true_iff
theorem inZ_no {L a n:Int}(h:¬inZ L a n=true):a<0∨n<0∨L<a∨L-a<n:=by
 have:¬(0≤a∧0≤n∧n≤L-a):=fun h2=>h (inZ_iff.2 h2)
 omega
theorem leAt_bd (zs:List Int)(a n:Nat)(hz:∀ i,0≤zs.getD i 0∧zs.getD i 0≤255):0≤leAt zs a n∧leAt zs a n<2 ^ (8 * n):=leNum_bd _ n (fun _ _=>hz _) n (Nat.le_refl _)
theorem leAt_1 (zs:List Int)(a:Nat)(hz:∀ i,0≤zs.getD i 0∧zs.getD i 0≤255):0≤leAt zs a 1∧leAt zs a 1<256:=leAt_bd zs a 1 hz
theorem leAt_2 (zs:List Int)(a:Nat)(hz:∀ i,0≤zs.getD i 0∧zs.getD i 0≤255):0≤leAt zs a 2∧leAt zs a 2<65536:=leAt_bd zs a 2 hz
theorem leAt_4 (zs:List Int)(a:Nat)(hz:∀ i,0≤zs.getD i 0∧zs.getD i 0≤255):0≤leAt zs a 4∧leAt zs a 4<4294967296:=leAt_bd zs a 4 hz
theorem leAt_8 (zs:List Int)(a:Nat)(hz:∀ i,0≤zs.getD i 0∧zs.getD i 0≤255):0≤leAt zs a 8∧leAt zs a 8<18446744073709551616:=leAt_bd zs a 8 hz
theorem leAt_one (zs:List Int)(a:Nat):leAt zs a 1=zs.getD a 0:=by
 simp [leAt,leNum]
theorem sg32_bd {n:Int}(h0:0≤n)(h1:n<4294967296) : -2147483648≤sg32 n∧sg32 n<2147483648:=by
 unfold sg32
 split<;>omega
theorem sg32_is {n:Int}(h0:0≤n)(h1:n<4294967296):wrap32 n=sg32 n:=by
 unfold sg32
 rw [←IntWalk.i32_left]
 split<;>(simp only [IntKind.wrap,IntKind.bits,IntKind.signed];simp;omega)
end Go.Proofs.YtcfjjocmiheiaaaDoor
namespace Go.Proofs.YtcfjjocmiheiaaaDoor
open Go.ChangeShapes Go.WideShapes Go.ChangeAt Go.RowKit
theorem sized_yes (n:Int)(w:World)(h:n=1∨n=2∨n=4∨n=8) :
  Calls Tryd.prog 142 #[.int .i64 n] w fun e w'=>e=.returned (.bool true)∧w=w':=by
 rcases h with rfl|rfl|rfl|rfl
 all_goals
  go_enter Tryd.func142,Tryd.ntmps142
  go_wp2
  go_ret
  exact ⟨rfl,rfl⟩
theorem sized_no (n:Int)(w:World)(h:¬(n=1∨n=2∨n=4∨n=8)) :
  Calls Tryd.prog 142 #[.int .i64 n] w fun e w'=>e=.returned (.bool false)∧w=w':=by
 have h1:(n==1)=false:=by simp;omega
 have h2:(n==2)=false:=by simp;omega
 have h4:(n==4)=false:=by simp;omega
 have h8:(n==8)=false:=by simp;omega
 clear h
 go_enter Tryd.func142,Tryd.ntmps142
 go_wp2
 go_ret
 exact ⟨rfl,rfl⟩
end Go.Proofs.YtcfjjocmiheiaaaDoor
namespace Go.Proofs.YtcfjjocmiheiaaaDoor
open Go.ChangeShapes Go.WideShapes Go.ChangeAt Go.RowKit
theorem next_yes (a n m:Int)(w:World)(h0:0≤a)(h1:0≤n)(h2:a≤m)(h3:n≤m-a)(hm:m≤9223372036854775807) :
  Calls Tryd.prog 85 #[.int .i64 a,.int .i64 n,.int .i64 m] w fun e w'=>e=.returned (.tuple #[.int .i64 (a+n),.bool true])∧w=w':=by
 go_enter Tryd.func85,Tryd.ntmps85
 go_wp2
 go_ret2
 exact ⟨rfl,rfl⟩
theorem next_no (a n m:Int)(w:World)(h:a<0∨n<0∨m<a∨m-a<n)(hm:m≤9223372036854775807) :
  Calls Tryd.prog 85 #[.int .i64 a,.int .i64 n,.int .i64 m] w fun e w'=>e=.returned (.tuple #[.int .i64 0,.bool false])∧w=w':=by
 by_cases h0:a<0
 · go_enter Tryd.func85,Tryd.ntmps85
   go_wp2
   go_ret2
   exact ⟨rfl,rfl⟩
 by_cases h1:n<0
 · go_enter Tryd.func85,Tryd.ntmps85
   go_wp2
   go_ret2
   exact ⟨rfl,rfl⟩
 by_cases h2:m<a
 · go_enter Tryd.func85,Tryd.ntmps85
   go_wp2
   go_ret2
   exact ⟨rfl,rfl⟩
 have h3:m-a<n:=by omega
 clear h
 go_enter Tryd.func85,Tryd.ntmps85
 go_wp2
 go_ret2
 exact ⟨rfl,rfl⟩
theorem within_yes (p:Option Addr)(len cap:Nat)(a n:Int)(w:World)(hl:(len:Int)≤9223372036854775807)(h0:0≤a)(h1:0≤n)(h2:a≤len)(h3:n≤len-a) :
  Calls Tryd.prog 125 #[.slice p len cap,.int .i64 a,.int .i64 n] w fun e w'=>e=.returned (.bool true)∧w=w':=by
 go_enter Tryd.func125,Tryd.ntmps125
 go_wp2_with (go_at_call 85;refine (next_yes a n len _ h0 h1 h2 h3 hl).mono ?_;rintro e w' ⟨rfl,rfl⟩)
 go_ret
 exact ⟨rfl,rfl⟩
theorem within_no (p:Option Addr)(len cap:Nat)(a n:Int)(w:World)(hl:(len:Int)≤9223372036854775807)(h:a<0∨n<0∨(len:Int)<a∨len-a<n) :
  Calls Tryd.prog 125 #[.slice p len cap,.int .i64 a,.int .i64 n] w fun e w'=>e=.returned (.bool false)∧w=w':=by
 go_enter Tryd.func125,Tryd.ntmps125
 go_wp2_with (go_at_call 85;refine (next_no a n len _ h hl).mono ?_;rintro e w' ⟨rfl,rfl⟩)
 go_ret
 exact ⟨rfl,rfl⟩
end Go.Proofs.YtcfjjocmiheiaaaDoor
namespace Go.Proofs.YtcfjjocmiheiaaaDoor
open Go.ChangeShapes Go.WideShapes Go.ChangeAt Go.RowKit
theorem load_yes (b off len cap:Nat)(a n:Int)(w:World)(zs:List Int)(hl:(len:Int)≤9223372036854775807)(hz:len≤zs.length)
  (hc:∀ i,i<zs.length→w.cell? ⟨b,off+i,none⟩=some (.int .u8 (zs.getD i 0))) (hb:∀ i,0≤zs.getD i 0∧zs.getD i 0≤255) (h0:0≤a) (h2:a≤len) (h3:n≤len-a) (hn:n=1∨n=2∨n=4∨n=8) :
  Calls Tryd.prog 123 #[.slice (some ⟨b,off,none⟩) len cap,.int .i64 a,.int .i64 n] w fun e w'=>e=.returned (.tuple #[.int .u64 (leAt zs a.toNat n.toNat),.bool true])∧w=w':=by
 obtain ⟨a,rfl⟩:=Int.eq_ofNat_of_zero_le h0
 obtain ⟨f,hf⟩:∃ f:Nat→Int,f=fun j=>zs.getD (a+j) 0:=⟨_,rfl⟩
 have HF:=Lib.hid (show ∀ k:Nat,leNum f k=leAt zs (a:Int).toNat (k:Int).toNat from fun k=>by rw [hf];rfl)
 have hcell:∀ k:Nat,(k:Int)<n→w.cell? ⟨b,off+(a+k),none⟩=some (.int .u8 (f k)):=fun k hk=>by rw [hf];exact hc _ (by omega)
 have hfb:∀ j,j<n.toNat→0≤f j∧f j≤255:=fun j _=>by rw [hf];exact hb _
 clear hc hb hf
 have hn1:0≤n:=by omega
 have hn8:n≤8:=by omega
 have HB:=Lib.hid hfb
 have HC:=Lib.hid hcell
 clear hfb hcell
 go_enter Tryd.func123,Tryd.ntmps123
 go_wp2_with (first|(go_at_call 142;refine (sized_yes _ _ hn).mono ?_;rintro e w' ⟨rfl,rfl⟩)|(go_at_call 125;refine (within_yes _ _ _ _ _ _ hl h0 hn1 h2 h3).mono ?_;rintro e w' ⟨rfl,rfl⟩))
 go_loop [8,21] (fun x i=>∃ k:Nat,(k:Int)≤n∧i=.int .i64 k∧x=.int .u64 (leNum f k)) (fun _ i=>(n-intOf i).toNat)
 case atStart=>exact ⟨0,hn1,rfl,rfl⟩
 case round =>
  obtain ⟨k,hk,rfl,rfl⟩:=hrel
  by_cases hlt:(k:Int)<n
  · have hcl:=HC.out k hlt
    have b1:=leNum_bd f n.toNat HB.out k (by omega)
    have b2:=HB.out k (by omega)
    have E:=Lib.hid (or_byte k (by omega) (leNum f k) (f k) b1.1 b1.2 b2.1 b2.2)
    clear b1 b2
    go_wp2
    refine ⟨⟨k+1,by omega,by go_num,?_⟩,by simp [intOf];omega⟩
    rw [E.out];rfl
  · go_wp2
    go_ret2
    obtain rfl:n=k:=by omega
    exact ⟨ret_int_bool (HF.out k),rfl⟩
theorem load_no (p:Option Addr)(len cap:Nat)(a n:Int)(w:World)(hl:(len:Int)≤9223372036854775807)
  (h:¬(n=1∨n=2∨n=4∨n=8)∨a<0∨(len:Int)<a∨len-a<n) :
  Calls Tryd.prog 123 #[.slice p len cap,.int .i64 a,.int .i64 n] w fun e w'=>e=.returned (.tuple #[.int .u64 0,.bool false])∧w=w':=by
 by_cases hn:n=1∨n=2∨n=4∨n=8
 · have h':a<0∨n<0∨(len:Int)<a∨len-a<n:=by omega
   clear h
   go_enter Tryd.func123,Tryd.ntmps123
   go_wp2_with (first|(go_at_call 142;refine (sized_yes _ _ hn).mono ?_;rintro e w' ⟨rfl,rfl⟩)|(go_at_call 125;refine (within_no _ _ _ _ _ _ hl h').mono ?_;rintro e w' ⟨rfl,rfl⟩))
   go_ret2
   exact ⟨rfl,rfl⟩
 · clear h
   go_enter Tryd.func123,Tryd.ntmps123
   go_wp2_with (go_at_call 142;refine (sized_no _ _ hn).mono ?_;rintro e w' ⟨rfl,rfl⟩)
   go_ret2
   exact ⟨rfl,rfl⟩
end Go.Proofs.YtcfjjocmiheiaaaDoor
namespace Go.Proofs.YtcfjjocmiheiaaaDoor
open Go.ChangeShapes Go.WideShapes Go.ChangeAt Go.RowKit Go.Shelf
def inlC (k:Nat)(lists:Int):Int:=if numTB k lists=true then kSize k else 4
def mfldCells (f:CFld):List Value:=[.int .u8 f.kind,.int .i64 f.ref,.int .i64 f.lists,.int .i64 (inlC f.kind f.lists),.int .u64 f.dflt]
def mfldsCells (l:List CFld):List Value:=l.flatMap mfldCells
def mrowCell (q:List CFld × Value):List Value:=[q.2]
def mrowsCells (l:List (List CFld × Value)):List Value:=l.flatMap mrowCell
def cntCell (n:Nat):List Value:=[.int .i64 n]
def cntsCells (l:List Nat):List Value:=l.flatMap cntCell
structure IsMsg (base:Nat)(W:World)(m:Nat)(bp:Option Addr)(bc:Nat)(sv ev:Value)(zs:List Int)(fs:List (List CFld × Value))(ns:List Nat):Prop where
 blk:W.heap[m]?=some (.cells #[.slice bp zs.length bc,sv,ev] 160 (0,0))
 bytes:Bytes W bp zs
 len:zs.length≤16384
 cap:zs.length≤bc
 structs:W.ownsRow base 161 1 sv fs.length (mrowsCells fs)
 fields:∀ q ∈ fs,W.ownsRow base 164 5 q.2 q.1.length (mfldsCells q.1)
 enums:W.ownsRow base 3 1 ev ns.length (cntsCells ns)
theorem IsMsg.below {base:Nat}{W W':World}{m:Nat}{bp:Option Addr}{bc:Nat}{sv ev:Value}{zs:List Int}{fs:List (List CFld × Value)}{ns:List Nat}(h:IsMsg base W m bp bc sv ev zs fs ns)(hb:Below W.heap.size W W'):IsMsg base W' m bp bc sv ev zs fs ns:=
 ⟨blk_below h.blk hb (blk_lt h.blk),h.bytes.below (Nat.le_refl _) hb,h.len,h.cap,row_keep hb h.structs,fun q hq=>row_keep hb (h.fields q hq),row_keep hb h.enums⟩
def kidV (k:Nat)(ref lists at':Int)(d:Nat)(there:Bool):Value:=.agg #[.int .u8 k,.int .i64 ref,.int .i64 lists,.int .i64 at',.int .u64 d,.bool there]
def optV:Option Int→Value
 | none=>.tuple #[.int .i64 0,.bool false]
 | some x=>.tuple #[.int .i64 x,.bool true]
def tabV (t:TabZ)(at':Int):Value:=.agg #[.int .i64 at',.int .i64 t.own,.int .i64 t.la,.int .i64 t.size]
theorem blk6 {w:World}{g:Nat}{x y z u v s:Value}{t:TypeId}(h:w.heap[g]?=some (.cells #[x,y,z,u,v,s] t (0,0))) :
  g<w.heap.size∧w.cell? ⟨g,0,none⟩=some x∧w.cell? ⟨g,1,none⟩=some y∧w.cell? ⟨g,2,none⟩=some z∧w.cell? ⟨g,3,none⟩=some u∧w.cell? ⟨g,4,none⟩=some v∧w.cell? ⟨g,5,none⟩=some s:=
 ⟨blk_lt h,(blk_cell h 0).trans rfl,(blk_cell h 1).trans rfl,(blk_cell h 2).trans rfl,(blk_cell h 3).trans rfl,(blk_cell h 4).trans rfl,(blk_cell h 5).trans rfl⟩
theorem blk7 {w:World}{g:Nat}{x y z u v s r:Value}{t:TypeId}(h:w.heap[g]?=some (.cells #[x,y,z,u,v,s,r] t (0,0))) :
  g<w.heap.size∧w.cell? ⟨g,0,none⟩=some x∧w.cell? ⟨g,1,none⟩=some y∧w.cell? ⟨g,2,none⟩=some z∧w.cell? ⟨g,3,none⟩=some u∧w.cell? ⟨g,4,none⟩=some v∧w.cell? ⟨g,5,none⟩=some s∧w.cell? ⟨g,6,none⟩=some r:=
 ⟨blk_lt h,(blk_cell h 0).trans rfl,(blk_cell h 1).trans rfl,(blk_cell h 2).trans rfl,(blk_cell h 3).trans rfl,(blk_cell h 4).trans rfl,(blk_cell h 5).trans rfl,(blk_cell h 6).trans rfl⟩
theorem blk_set6 {w:World}{g:Nat}{x y z u v s:Value}{t:TypeId}(h:w.heap[g]?=some (.cells #[x,y,z,u,v,s] t (0,0)))(a b c d e f:Value) :
  ((((((w.setCell ⟨g,0,none⟩ a).setCell ⟨g,1,none⟩ b).setCell ⟨g,2,none⟩ c).setCell ⟨g,3,none⟩ d).setCell ⟨g,4,none⟩ e).setCell ⟨g,5,none⟩ f).heap[g]?=some (.cells #[a,b,c,d,e,f] t (0,0)):=
 by
 have h1:(w.setCell ⟨g,0,none⟩ a).heap[g]?=some (.cells #[a,y,z,u,v,s] t (0,0)):=(blk_set h 0 a).trans rfl
 have h2:=((blk_set h1 1 b).trans rfl:_=some (Obj.cells #[a,b,z,u,v,s] t (0,0)))
 have h3:=((blk_set h2 2 c).trans rfl:_=some (Obj.cells #[a,b,c,u,v,s] t (0,0)))
 have h4:=((blk_set h3 3 d).trans rfl:_=some (Obj.cells #[a,b,c,d,v,s] t (0,0)))
 have h5:=((blk_set h4 4 e).trans rfl:_=some (Obj.cells #[a,b,c,d,e,s] t (0,0)))
 exact (blk_set h5 5 f).trans rfl
theorem below_set6 {B:Nat}{a w:World}(h:Below B a w){g:Nat}(hg:B≤g)(x y z u v s:Value):Below B a ((((((w.setCell ⟨g,0,none⟩ x).setCell ⟨g,1,none⟩ y).setCell ⟨g,2,none⟩ z).setCell ⟨g,3,none⟩ u).setCell ⟨g,4,none⟩ v).setCell ⟨g,5,none⟩ s):=
 (((((h.setCell (p:=⟨g,0,none⟩) hg x).setCell (p:=⟨g,1,none⟩) hg y).setCell (p:=⟨g,2,none⟩) hg z).setCell (p:=⟨g,3,none⟩) hg u).setCell (p:=⟨g,4,none⟩) hg v).setCell (p:=⟨g,5,none⟩) hg s
theorem blk_set7 {w:World}{g:Nat}{x y z u v s r:Value}{t:TypeId}(h:w.heap[g]?=some (.cells #[x,y,z,u,v,s,r] t (0,0)))(a b c d e f i:Value) :
  (((((((w.setCell ⟨g,0,none⟩ a).setCell ⟨g,1,none⟩ b).setCell ⟨g,2,none⟩ c).setCell ⟨g,3,none⟩ d).setCell ⟨g,4,none⟩ e).setCell ⟨g,5,none⟩ f).setCell ⟨g,6,none⟩ i).heap[g]?=some (.cells #[a,b,c,d,e,f,i] t (0,0)):=
 by
 have h1:(w.setCell ⟨g,0,none⟩ a).heap[g]?=some (.cells #[a,y,z,u,v,s,r] t (0,0)):=(blk_set h 0 a).trans rfl
 have h2:=((blk_set h1 1 b).trans rfl:_=some (Obj.cells #[a,b,z,u,v,s,r] t (0,0)))
 have h3:=((blk_set h2 2 c).trans rfl:_=some (Obj.cells #[a,b,c,u,v,s,r] t (0,0)))
 have h4:=((blk_set h3 3 d).trans rfl:_=some (Obj.cells #[a,b,c,d,v,s,r] t (0,0)))
 have h5:=((blk_set h4 4 e).trans rfl:_=some (Obj.cells #[a,b,c,d,e,s,r] t (0,0)))
 have h6:=((blk_set h5 5 f).trans rfl:_=some (Obj.cells #[a,b,c,d,e,f,r] t (0,0)))
 exact (blk_set h6 6 i).trans rfl
theorem below_set7 {B:Nat}{a w:World}(h:Below B a w){g:Nat}(hg:B≤g)(x y z u v s r:Value):Below B a (((((((w.setCell ⟨g,0,none⟩ x).setCell ⟨g,1,none⟩ y).setCell ⟨g,2,none⟩ z).setCell ⟨g,3,none⟩ u).setCell ⟨g,4,none⟩ v).setCell ⟨g,5,none⟩ s).setCell ⟨g,6,none⟩ r):=
 ((((((h.setCell (p:=⟨g,0,none⟩) hg x).setCell (p:=⟨g,1,none⟩) hg y).setCell (p:=⟨g,2,none⟩) hg z).setCell (p:=⟨g,3,none⟩) hg u).setCell (p:=⟨g,4,none⟩) hg v).setCell (p:=⟨g,5,none⟩) hg s).setCell (p:=⟨g,6,none⟩) hg r
theorem load_in (p:Option Addr)(cap:Nat)(zs:List Int)(a n:Int)(w:World)(hz:Bytes w p zs)(hl:zs.length≤16384)(h:inZ (lenZ zs) a n=true)(hn:n=1∨n=2∨n=4∨n=8) :
  Calls Tryd.prog 123 #[.slice p zs.length cap,.int .i64 a,.int .i64 n] w fun e w'=>e=.returned (.tuple #[.int .u64 (leAt zs a.toNat n.toNat),.bool true])∧w=w':=by
 have h1:=inZ_iff.1 h
 unfold lenZ at h1
 have hne:zs≠[]:=fun e=>by subst e;simp at h1;omega
 obtain ⟨b,off,rfl,_,hc⟩:=hz.2 hne
 exact load_yes b off zs.length cap a n w zs (by omega) (Nat.le_refl _) hc hz.1 h1.1 (by omega) (by omega) hn
theorem load_out (p:Option Addr)(cap:Nat)(zs:List Int)(a n:Int)(w:World)(hl:zs.length≤16384)(h:¬inZ (lenZ zs) a n=true) :
  Calls Tryd.prog 123 #[.slice p zs.length cap,.int .i64 a,.int .i64 n] w fun e w'=>e=.returned (.tuple #[.int .u64 0,.bool false])∧w=w':=by
 refine load_no p zs.length cap a n w (by omega) ?_
 have h1:=inZ_no h
 unfold lenZ at h1
 rcases h1 with h1|h1|h1|h1
 · exact .inr (.inl h1)
 · exact .inl (by omega)
 · exact .inr (.inr (.inl h1))
 · exact .inr (.inr (.inr h1))
end Go.Proofs.YtcfjjocmiheiaaaDoor
namespace Go.Proofs.YtcfjjocmiheiaaaDoor
open Go.ChangeShapes Go.WideShapes Go.ChangeAt Go.RowKit
def byteAt (n:Int)(k:Nat):Int:=IntKind.u8.wrap (n / 2 ^ (8 * k))
theorem byteAt_bd (n:Int)(k:Nat):0≤byteAt n k∧byteAt n k≤255:=by
 unfold byteAt
 rw [IntKind.wrap_u8]
 omega
def laidOver (zs:List Int)(a:Nat)(n:Int):Nat→List Int
 | 0=>zs
 | k+1=>(laidOver zs a n k).set (a+k) (byteAt n k)
theorem laidOver_length (zs:List Int)(a:Nat)(n:Int):∀ k,(laidOver zs a n k).length=zs.length
 | 0=>rfl
 | k+1=>by simp [laidOver,laidOver_length zs a n k]
theorem laidOver_get (zs:List Int)(a:Nat)(n:Int):∀ (k j:Nat),a+k≤zs.length→(laidOver zs a n k).getD j 0=if a≤j∧j<a+k then byteAt n (j-a) else zs.getD j 0
 | 0,j,_=>by simp [laidOver];omega
 | k+1,j,h=>by
  have ih:=laidOver_get zs a n k j (by omega)
  have hl:=laidOver_length zs a n k
  simp only [laidOver]
  by_cases hj:j=a+k
  · subst hj
    rw [if_pos (by omega),show a+k-a=k from by omega]
    simp [List.getD,hl,show a+k<zs.length by omega]
  · have e:((laidOver zs a n k).set (a+k) (byteAt n k)).getD j 0=(laidOver zs a n k).getD j 0:=by
     simp only [List.getD]
     rw [List.getElem?_set_ne (by omega)]
    rw [e,ih]
    by_cases h1:a≤j∧j<a+k
    · rw [if_pos h1,if_pos (by omega)]
    · rw [if_neg h1,if_neg (by omega)]
theorem OwnR.set {w:World}{base:Nat}{e:TypeId}{g n cap:Nat}{zs:List Int}(h:OwnR w base e g n cap zs)(j:Nat)(b:Int):OwnR (w.setCell ⟨g,j,none⟩ (.int .u8 b)) base e g n cap (zs.set j b):=by
 obtain ⟨hl,h'⟩:=h
 rcases h' with ⟨hv,_⟩|⟨g',cap',cur,hv,hb,hg,hn,hm,hs,ht⟩
 · cases hv
 · cases hv
   refine ⟨by simpa [u8s] using hl,.inr ⟨g,cap,cur.setIfInBounds j (.int .u8 b),rfl,hb,?_,hn,hm,by simpa using hs,?_⟩⟩
   · simp [World.setCell,Array.getElem?_modify,hg]
   · have e1:u8s (zs.set j b)=(u8s zs).set j (.int .u8 b):=by simp [u8s,List.map_set]
     rw [e1,←ht]
     simp [List.take_set]
def zeros (n:Nat):List Int:=List.replicate n 0
theorem made_zeros (n:Nat):(madeCells (Value.int .u8 0).cells n).toList=u8s (zeros n):=by
 apply List.ext_getElem?
 intro i
 by_cases hi:i<n
 · simp [madeCells,zeros,u8s,Value.cells,hi,Nat.mod_one]
 · simp [madeCells,zeros,u8s,hi]
theorem own_weaken {w:World}{base base':Nat}{e:TypeId}{g n cap:Nat}{zs:List Int}(h:OwnR w base e g n cap zs)(hb:base'≤base):OwnR w base' e g n cap zs:=by
 obtain ⟨hl,h'⟩:=h
 refine ⟨hl,?_⟩
 rcases h' with h1|⟨g',cap',cur,h1,h2,h3⟩
 · exact .inl h1
 · exact .inr ⟨g',cap',cur,h1,Nat.le_trans hb h2,h3⟩
theorem rput_any (base:Nat)(x:Int)(n:Nat)(w:World)(hbase:base≤w.heap.size)(hn:n≤8) :
  Calls Tryd.prog 94 #[.int .u64 x,.int .i64 n] w fun e w'=>∃ g,e=.returned (.slice (some ⟨g,0,none⟩) n n)∧OwnR w' base 5 g n n (laidOver (zeros n) 0 x n)∧Below w.heap.size w w':=by
 obtain ⟨i0,hi0,hz0,hz1,hz2⟩:=info_parts u8_info
 have I1:=Lib.hid hi0
 have I2:=Lib.hid hz0
 have I3:=Lib.hid hz1
 have I4:=Lib.hid hz2
 clear hi0 hz0 hz1 hz2
 go_enter Tryd.func94,Tryd.ntmps94
 go_wp2_with (at_make;refine wpList_make_full _ rfl _ _ 22 rfl w.heap.size 5 i0 (.int .u8 0) 1 Tryd.underlying22 I1.out I2.out I3.out .i64 .i64 _ _ n rfl rfl rfl rfl (by rw [I4.out];omega) (by unfold maxLen;omega) (Nat.le_refl _) ?_;intro w2 hown2 hg2)
 have hown:OwnR w2 w.heap.size 5 w.heap.size n n (zeros n):=by
  unfold OwnR
  rw [←made_zeros,show n=n * 1 from (Nat.mul_one n).symm]
  simpa using hown2
 have HO:=Lib.hid hown
 have HG:=Lib.hid ((Below.refl w.heap.size w).grown hg2 (Nat.le_refl _) (by simp))
 clear hown hown2 hg2
 go_loopw [6] (fun i wr=>∃ k:Nat,k≤n∧i=.int .i64 k∧OwnR wr w.heap.size 5 w.heap.size n n (laidOver (zeros n) 0 x k)∧Below w.heap.size w wr) (fun i _=>(n-intOf i).toNat)
 case atStart=>exact ⟨0,Nat.zero_le _,rfl,HO.out,HG.out⟩
 case round =>
  obtain ⟨k,hk,rfl,hown,hgr⟩:=hrel
  have HR:=Lib.hid hown
  have HB:=Lib.hid hgr
  clear hown hgr
  by_cases hlt:k<n
  · obtain ⟨hl,_,_,hc,_,hcell,hfz⟩:=HR.out.facts
    have c1:=hcell k (by omega)
    have c2:=hfz k
    clear hcell hfz hl
    go_wp2
    go_roundw
    case rel =>
     refine ⟨k+1,by omega,by go_num,?_,?_⟩
     · have h:=HR.out.set k (byteAt x k)
       simp only [laidOver,Nat.zero_add]
       exact h
     · exact HB.out.setCell (Nat.le_refl _) _
    case measure=>simp [intOf];omega
  · go_wp2
    go_ret
    obtain rfl:n=k:=by omega
    exact ⟨w.heap.size,rfl,own_weaken HR.out hbase,HB.out⟩
end Go.Proofs.YtcfjjocmiheiaaaDoor
namespace Go.Proofs.YtcfjjocmiheiaaaDoor
open Go.ChangeShapes Go.WideShapes Go.ChangeAt Go.RowKit Go.Shelf
def i64Cell (z:Int):List Value:=[.int .i64 z]
def i64Cells (l:List Int):List Value:=l.flatMap i64Cell
theorem i64Cells_map (l:List Int):i64Cells l=l.map (Value.int .i64):=by
 induction l with
 | nil=>rfl
 | cons a r ih=>rw [List.map_cons,←ih];rfl
theorem i64Cells_length (l:List Int):(i64Cells l).length=l.length:=by rw [i64Cells_map,List.length_map]
end Go.Proofs.YtcfjjocmiheiaaaDoor
namespace Go.Proofs.YtcfjjocmiheiaaaDoor
open Go.ChangeShapes Go.WideShapes Go.ChangeAt Go.RowKit
theorem OwnR.of_block {w w':World}{base:Nat}{e:TypeId}{g n cap:Nat}{zs:List Int}(h:OwnR w base e g n cap zs)(hb:w'.heap[g]?=w.heap[g]?):OwnR w' base e g n cap zs:=by
 obtain ⟨hl,h'⟩:=h
 refine ⟨hl,?_⟩
 rcases h' with h1|⟨g',cap',cur,hv,h1,hg,h2⟩
 · exact .inl h1
 · cases hv
   exact .inr ⟨g,cap,cur,rfl,h1,hb.trans hg,h2⟩
theorem OwnR.below {w w':World}{base B:Nat}{e:TypeId}{g n cap:Nat}{zs:List Int}(h:OwnR w base e g n cap zs)(hb:Below B w w')(hg:g<B):OwnR w' base e g n cap zs:=h.of_block (hb.block g hg)
theorem OwnR.grown {w w':World}{base:Nat}{row:Option Nat}{e:TypeId}{g n cap:Nat}{zs:List Int}(h:OwnR w base e g n cap zs)(hb:w.grownBy w' row)(hg:some g≠row):OwnR w' base e g n cap zs:=h.of_block (hb.block g h.facts.2.2.1 hg)
theorem OwnR.part {P:Program}{w w':World}{base:Nat}{e:TypeId}{g n cap:Nat}{zs:List Int}(h:OwnR w base e g n cap zs)(hw:∀ i,w'.cell? ⟨g,i,none⟩=w.cell? ⟨g,i,none⟩)(t d:TypeId)(ht:P.underlying t=some (.slice e))(he:P.underlying e=some (.int .u8))(hd:P.underlying d=some .string)
  (k m c:Nat) (hfit:k+m≤n):(convert t d (.slice (some ⟨g,k,none⟩) m c)).run P w'=.ok (.string (strOfNums ((zs.drop k).take m))) w':=by
 obtain ⟨hl,_,_,_,_,hc,_⟩:=h.facts
 refine run_convert_bytes_arg (P:=P) w' t e ht he g k m c _ (by simp;omega) (fun i hi=>?_) d hd
 rw [hw,hc (k+i) (by omega)]
 simp [List.getD,hi]
theorem IsRow.part {P:Program}{w w':World}{b off len cap:Nat}{zs:List Int}{e:TypeId}(h:IsRow .u8 w (some ⟨b,off,none⟩) len cap zs)(hb:Below w.heap.size w w')(t d:TypeId)(ht:P.underlying t=some (.slice e))(he:P.underlying e=some (.int .u8))(hd:P.underlying d=some .string)
  (k m c:Nat) (hfit:k+m≤len):(convert t d (.slice (some ⟨b,off+k,none⟩) m c)).run P w'=.ok (.string (strOfNums (((zs.take len).drop k).take m))) w':=by
 obtain ⟨hl,_,hz,_,hp⟩:=h
 refine run_convert_bytes_arg (P:=P) w' t e ht he b (off+k) m c _ (by simp;omega) (fun i hi=>?_) d hd
 obtain ⟨b',off',he',hlt,hc⟩:=hp (by rintro rfl;simp at hz;omega)
 cases he'
 rw [Nat.add_assoc,(hb.cell (p:=⟨b,off+(k+i),none⟩) hlt).trans (hc (k+i) (by omega))]
 have h1:k+i<len:=by omega
 simp [List.getD,hi,h1]
theorem u8s_one (zs:List Int):∀ v ∈ u8s zs,v.oneCell'=true:=by
 intro v hv
 obtain ⟨z,_,rfl⟩:=List.mem_map.1 hv
 rfl
end Go.Proofs.YtcfjjocmiheiaaaDoor
namespace Go.Proofs.YtcfjjocmiheiaaaDoor
open Go.ChangeShapes Go.WideShapes Go.ChangeAt Go.RowKit
theorem rnum_any (b off n cap:Nat)(w:World)(f:Nat→Int)(hn8:n≤8)(hc:∀ i,i<n→w.cell? ⟨b,off+i,none⟩=some (.int .u8 (f i)))(hb:∀ i,i<n→0≤f i∧f i≤255) :
  Calls Tryd.prog 132 #[.slice (some ⟨b,off,none⟩) n cap] w fun e w'=>e=.returned (.int .u64 (leNum f n))∧w=w':=by
 have HB:=Lib.hid hb
 have HC:=Lib.hid hc
 clear hc hb
 go_enter Tryd.func132,Tryd.ntmps132
 go_wp2
 go_loop [3,4] (fun x i=>∃ k:Nat,k≤n∧i=.int .i64 k∧x=.int .u64 (leNum f k)) (fun _ i=>(n-intOf i).toNat)
 case atStart=>exact ⟨0,Nat.zero_le _,rfl,rfl⟩
 case round =>
  obtain ⟨k,hk,rfl,rfl⟩:=hrel
  by_cases hlt:k<n
  · have hcl:=HC.out k hlt
    have b1:=leNum_bd f n HB.out k (by omega)
    have b2:=HB.out k hlt
    have E:=Lib.hid (add_byte k (by omega) (leNum f k) (f k) b1.1 b1.2 b2.1 b2.2)
    clear b1 b2
    go_wp2
    go_round
    case rel=>exact ⟨k+1,by omega,by go_num,by rw [E.out];rfl⟩
    case measure=>simp [intOf];omega
  · go_wp2
    go_ret
    obtain rfl:n=k:=by omega
    exact ⟨rfl,rfl⟩
end Go.Proofs.YtcfjjocmiheiaaaDoor
