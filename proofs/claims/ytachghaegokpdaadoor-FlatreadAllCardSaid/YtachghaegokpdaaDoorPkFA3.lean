/-
  The statement of the law FlatreadAll, from its walk: for every input that can be read the law returns true, and its arguments read as they did. Conditions: those of the given row (the listed tables hold what the program's text lays; the card ties them).
-/
import Derived.Test.YtachghaegokpdaaDoorPkFA2
import Derived.Test.YtachghaegokpdaaDoorPkFC1
import Derived.Test.YtachghaegokpdaaDoorPkFC4
import Derived.Test.YtachghaegokpdaaDoorPkFC5
import Derived.Test.YtachghaegokpdaaDoorPkFC6
import Derived.Test.YtachghaegokpdaaDoorPkFC8
import Derived.Test.YtachghaegokpdaaDoorPkFC9
import Derived.Test.YtachghaegokpdaaDoorPkFC11
import Derived.Test.YtachghaegokpdaaDoorPkFC41
import Derived.Deep.RegionHeld3
import Derived.Test.YtachghaegokpdaaDoorRows
import Derived.WalkKit
import Derived.ProofKit
import Derived.OpenShut
import Derived.ShutString
import Derived.ChangeOld
import Derived.Below
import Derived.Deep.DeepHandedRow
import Derived.Deep.Slices
import Derived.Lib.SmallJoins
import Derived.Test.YtachghaegokpdaaDoorCards
import Derived.Test.YtachghaegokpdaaDoorTie
namespace Go.Proofs.YtachghaegokpdaaDoor
open Go.ChangeShapes Go.WideShapes Go.ChangeAt Go.RowKit Go.Shelf
set_option maxRecDepth 100000 in
set_option maxHeartbeats 4000000 in
theorem made_any (p:Plan)(w:World){a0 a1:Option Addr}{n0 e0 n1 c1:Nat}(hp:IsPlan w p a0 n0 e0 a1 n1 c1) :
  Calls Tryd.prog 24 #[.agg #[.slice a0 n0 e0,.slice a1 n1 c1,.int .u8 p.root,.bool p.tree]] w (MadePost p w):=by
 obtain ⟨hb,hz1,hz2⟩:=two_start w #[.slice a0 n0 e0,.slice a1 n1 c1,.int .u8 p.root,.bool p.tree] #[.slice none 0 0,.slice none 0 0,.int .i64 0] 25 33
 have HP:=Lib.hid hp
 have HB:=Lib.hid hb
 have HZ1:=Lib.hid hz1
 have HZ2:=Lib.hid hz2
 have hrt:=hp.rt
 have hcaps:n0≤9223372036854775807∧n1≤9223372036854775807:=by
  have h1:=hp.e_cap
  have h2:=hp.s_cap
  unfold maxLen at h1 h2
  omega
 obtain ⟨hn0,hn1⟩:=hcaps
 have y0:=(blk_cell hz1 0).trans rfl
 have y1:=(blk_cell hz1 1).trans rfl
 have y2:=(blk_cell hz1 2).trans rfl
 obtain ⟨_,_,_,_,s0,s1,s2⟩:=blk3 hz2
 clear hp hb hz1 hz2
 by_cases hg:1≤n1∧n1≤16∧n0≤8
 · obtain ⟨g1,g2,g3⟩:=hg
   have hmod:(p.root:Int) % (n1:Int)=((p.root % n1:Nat):Int):=(Int.natCast_emod _ _).symm
   have hz0:(n1:Int)≠0:=by omega
   have HRT:Hid (p.root % n1=p.root % p.structs.length):=Lib.hid (by rw [HP.out.s_len])
   generalize p.root % n1=rt at *
   have hsz:((w.alloc (.cells #[.slice a0 n0 e0,.slice a1 n1 c1,.int .u8 p.root,.bool p.tree] 25)).alloc (.cells #[.slice none 0 0,.slice none 0 0,.int .i64 0] 33)).heap.size=w.heap.size+2:=by simp
   have HSZ:=Lib.hid hsz
   clear hsz
   go_enter Tryd.func24,Tryd.ntmps24
   go_upto_region 4 with (fail)
   generalize (w.alloc (.cells #[.slice a0 n0 e0,.slice a1 n1 c1,.int .u8 p.root,.bool p.tree] 25)).alloc (.cells #[.slice none 0 0,.slice none 0 0,.int .i64 0] 33)=W0 at *
   have hba:Below W0.heap.size W0 (W0.alloc (.cells #[.slice none 0 0,.slice none 0 0,.int .i64 rt] 33)):=(Below.refl _ _).alloc (Nat.le_refl _) _
   have hba2:=hba
   rw [HSZ.out] at hba2
   have HK1:Hid (MKeeps w w.heap.size (.slice a0 n0 e0) (.slice a1 n1 c1) p.root p.tree (W0.alloc (.cells #[.slice none 0 0,.slice none 0 0,.int .i64 rt] 33))):=Lib.hid ⟨rfl,blk_below HZ1.out hba (blk_lt HZ1.out),blk_below HZ2.out hba (blk_lt HZ2.out),HB.out.trans (hba.mono HB.out.size)⟩
   have hnew:=heap_alloc_new W0 (.cells #[.slice none 0 0,.slice none 0 0,.int .i64 rt] 33)
   rw [HSZ.out] at hnew
   have HS1:Hid (SchAt (w.heap.size+2) (W0.alloc (.cells #[.slice none 0 0,.slice none 0 0,.int .i64 rt] 33)) [] [] (.slice none 0 0) (.slice none 0 0) rt):=Lib.hid ⟨hnew,World.ownsRow_nil _ _ _ _,World.ownsRow_nil _ _ _ _,(fun q hq=>by cases hq),(fun q hq=>by cases hq)⟩
   clear hba hba2 hnew y0 y1 y2 s0 s1 s2
   generalize W0.alloc (.cells #[.slice none 0 0,.slice none 0 0,.int .i64 rt] 33)=W1 at *
   go_wp2_with fail
   refine enums_wp HP.out g3 ⟨rfl,rfl,rfl,rfl,rfl,rfl,rfl⟩ HK1.out HS1.out ?_
   intro c2 w2 es ev hf hk hs hes
   have HK2:=Lib.hid hk
   have HS2:=Lib.hid hs
   have HES:=Lib.hid hes
   obtain ⟨u,rfl⟩:=fra_lit hf
   clear hf hk hs hes
   simp only [Exit.inBlock,Exit.then]
   apply_assumption
   go_wp2_with fail
   refine recs_wp HP.out g3 g2 ⟨rfl,rfl,rfl,rfl,rfl,rfl,rfl⟩ HK2.out HS2.out HES.out ?_ ?_
   · intro c3 w3 ss sv hf hk hs hss hlen
     have HK3:=Lib.hid hk
     have HS3:=Lib.hid hs
     have HOK:Hid (planOk p):=Lib.hid (lens_ok (by rw [HP.out.s_len];exact g1) (by rw [HP.out.s_len];exact g2) (by rw [HP.out.e_len];exact g3) (by rw [HP.out.s_len];exact hlen))
     have HSS:=Lib.hid hss
     obtain ⟨_,o0,o1,o2,_⟩:=blk3 hs.blk
     obtain ⟨_,r0,r1,r2,q0,q1,q2⟩:=blk3 hk.res
     obtain ⟨u3,rfl⟩:=frc_lit hf
     obtain ⟨sva,svc,eva,evc,rfl,rfl⟩:=hs.rows.forms
     clear hf hk hs hss hlen
     simp only [Exit.inBlock,Exit.then]
     apply_assumption
     go_wp2
     refine post_gen (fun Wf=>Wf.heap[w.heap.size+1]?=some (.cells #[.slice sva ss.length svc,.slice eva es.length evc,.int .i64 rt] 33 (0,0))∧Below w.heap.size w Wf∧SchRows w.heap.size Wf ss es (.slice sva ss.length svc) (.slice eva es.length evc)) ⟨?_,?_,?_⟩ ?_
     · exact blk_set3 HK3.out.res _ _ _
     · exact ((HK3.out.bel.setCell (p:=⟨w.heap.size+1,0,none⟩) (Nat.le_succ _) _).setCell (p:=⟨w.heap.size+1,1,none⟩) (Nat.le_succ _) _).setCell (p:=⟨w.heap.size+1,2,none⟩) (Nat.le_succ _) _
     · have hr:=HS3.out.rows
       have key:∀ {e:TypeId} {s:Nat} {v:Value} {n:Nat} {xs:List Value},w3.ownsRow (w.heap.size+2+1) e s v n xs→World.ownsRow (((w3.setCell ⟨w.heap.size+1,0,none⟩ (.slice sva ss.length svc)).setCell ⟨w.heap.size+1,1,none⟩ (.slice eva es.length evc)).setCell ⟨w.heap.size+1,2,none⟩ (.int .i64 rt)) w.heap.size e s v n xs:=fun ho =>
        ownsRow_base (ownsRow_setCell_below (ownsRow_setCell_below (ownsRow_setCell_below ho (by show w.heap.size+1<_;omega) _) (by show w.heap.size+1<_;omega) _) (by show w.heap.size+1<_;omega) _) (by omega)
       exact ⟨key hr.structs,key hr.enums,fun q hq=>key (hr.fields q hq),fun q hq=>key (hr.names q hq)⟩
     · rintro Wf ⟨e1,e2,e3⟩
       obtain ⟨_,d0,d1,d2,_⟩:=blk3 e1
       refine bodyPost_ret (v:=.tuple #[.agg #[.slice sva ss.length svc,.slice eva es.length evc,.int .i64 rt],.bool true]) (by simp [results,Tryd.results24,go_sem,d0,d1,d2]) rfl ⟨e2,.inl ⟨HOK.out,ss,es,_,_,?_,?_,?_,e3⟩⟩
       · rw [HRT.out]
       · rw [HP.out.s_len];exact HSS.out
       · rw [HP.out.e_len];exact HES.out
   · intro c3 w3 j hf hres hbel hj hbad
     have HNO:Hid (¬planOk p):=Lib.hid (lens_bad (by rw [HP.out.s_len];exact hj) hbad)
     have HRE:=Lib.hid hres
     have HBE:=Lib.hid hbel
     obtain ⟨u3,rfl⟩:=frc_lit hf
     clear hf hres hbel hj hbad
     simp only [Exit.inBlock,Exit.then]
     refine post_gen (fun Wf=>Wf.heap[w.heap.size+1]?=some (.cells #[.slice none 0 0,.slice none 0 0,.int .i64 0] 33 (0,0))∧Below w.heap.size w Wf) ⟨HRE.out,HBE.out⟩ ?_
     rintro Wf ⟨e1,e2⟩
     obtain ⟨_,d0,d1,d2,_⟩:=blk3 e1
     exact bodyPost_ret (v:=.tuple #[.agg #[.slice none 0 0,.slice none 0 0,.int .i64 0],.bool false]) (by simp [results,Tryd.results24,go_sem,d0,d1,d2]) rfl (made_no HNO.out e2)
 · exact made_bad p w HP.out hg
end Go.Proofs.YtachghaegokpdaaDoor
namespace Go.Proofs.YtachghaegokpdaaDoor
open Go.ChangeShapes Go.WideShapes Go.ChangeAt Go.RowKit Go.Shelf
def PlanNums (p:Plan):Prop:=∀ i,i<p.structs.length→∀ k,k<(p.structs.getD i []).length→(((p.structs.getD i []).getD k noPF).dflt:Int)≤18446744073709551615
theorem plan_nums {w:World}{p:Plan}{a0 a1:Option Addr}{n0 e0 n1 c1:Nat}(hp:IsPlan w p a0 n0 e0 a1 n1 c1):PlanNums p:=by
 intro i hi k hk
 obtain ⟨_,_,_,n,_,_,_,_,hn,_,_,hfl⟩:=hp.s_at i (by rw [←hp.s_len];exact hi)
 obtain ⟨_,_,f,hf,_,_,_,_,_,_,_,_,_,_,_,h⟩:=hfl k (by rw [←hn];exact hk)
 rw [hf]
 exact h
theorem sgn_max (m n:Int)(h1:0<m)(h2:m≤2147483648):sgn m n≤18446744073709551615:=by
 unfold sgn
 have:=Int.emod_lt_of_pos n (show 0<2 * m by omega)
 split<;>omega
theorem sgnOf_max (n s:Int)(h:n≤18446744073709551615):sgnOf n s≤18446744073709551615:=by
 unfold sgnOf
 split
 · exact sgn_max _ _ (by decide) (by decide)
 · split
   · exact sgn_max _ _ (by decide) (by decide)
   · split
     · exact sgn_max _ _ (by decide) (by decide)
     · exact h
theorem numP_max (cnt kind n:Nat)(hn:(n:Int)≤18446744073709551615):(numP cnt kind n:Int)≤18446744073709551615:=by
 unfold numP
 split
 · omega
 · split
   · have:=Nat.mod_le n cnt
     omega
   · have hm:((if kSize kind<8 then n % 2 ^ (8 * (kSize kind).toNat) else n:Nat):Int)≤18446744073709551615:=by
      split
      · have:=Nat.mod_le n (2 ^ (8 * (kSize kind).toNat))
        omega
      · exact hn
     simp only
     generalize (if kSize kind<8 then n % 2 ^ (8 * (kSize kind).toNat) else n:Nat)=m at *
     split
     · have:=sgnOf_max m (kSize kind) hm
       omega
     · exact hm
theorem refP_struct {p:Plan}{f:PF}{i:Nat}(hi:i<p.structs.length)(h:kindP p i f=13):refP p i f<p.structs.length:=by
 by_cases h10:f.kind % 13+1=10
 · by_cases h0:p.enums.length=0
   · have:=(kp_a (i:=i) h10 h0).1
     omega
   · have:=(kp_b (i:=i) h10 h0).1
     omega
 · by_cases h13:f.kind % 13+1=13
   · cases ht:p.tree with
     | true =>
      by_cases hl:i+1=p.structs.length
      · have:=(kp_c h13 ht hl).1
        omega
      · rw [(kp_d h13 ht hl).2]
        have:=Nat.mod_lt f.ref (show 0<p.structs.length-i-1 by omega)
        omega
     | false =>
      rw [(kp_e (i:=i) h13 ht).2]
      exact Nat.mod_lt _ (by omega)
   · have:=(kp_f (p:=p) (i:=i) h10 h13).1
     omega
end Go.Proofs.YtachghaegokpdaaDoor
namespace Go.Proofs.YtachghaegokpdaaDoor
open Go.ChangeShapes Go.WideShapes Go.ChangeAt Go.RowKit Go.Shelf
theorem tk_cases (k:Nat)(h1:1≤k)(h2:k≤13):(k=13∧sortP k 0=4∧numTB k 0=false)∨((k=11∨k=12)∧sortP k 0=2∧numTB k 0=false)∨(k≤10∧sortP k 0=1∧numTB k 0=true):=by
 have:k=1∨k=2∨k=3∨k=4∨k=5∨k=6∨k=7∨k=8∨k=9∨k=10∨k=11∨k=12∨k=13:=by omega
 rcases this with rfl|rfl|rfl|rfl|rfl|rfl|rfl|rfl|rfl|rfl|rfl|rfl|rfl<;>simp [sortP,numTB,kSize]
end Go.Proofs.YtachghaegokpdaaDoor
namespace Go.Proofs.YtachghaegokpdaaDoor
open Go.ChangeShapes Go.WideShapes Go.ChangeAt Go.RowKit Go.Shelf
theorem made_fld {p:Plan}{ss:List (SRec × Value)}(hss:ss.map Prod.fst=recsP p p.structs.length):∀ q ∈ crow ss,∃ i,i<p.structs.length∧(p.structs.getD i []).length=q.1.fields.length∧q.1.name=recName i∧∀ f ∈ q.1.fields,∃ k,k<(p.structs.getD i []).length∧f=cF (fldP p i k ((p.structs.getD i []).getD k noPF)):=by
 intro q hq
 obtain ⟨x,hx,rfl⟩:=List.mem_map.1 hq
 have h1:x.1 ∈ recsP p p.structs.length:=by rw [←hss];exact List.mem_map.2 ⟨x,hx,rfl⟩
 obtain ⟨i,hi,h2⟩:=List.mem_map.1 h1
 refine ⟨i,List.mem_range.1 hi,?_,by rw [←h2];rfl,fun f hf=>?_⟩
 · show _=(x.1.fields.map cF).length
   rw [←h2]
   show _=((fldsP p i _ _).map cF).length
   rw [List.length_map,fldsP_length]
 · obtain ⟨y,hy,rfl⟩:=List.mem_map.1 (show f ∈ x.1.fields.map cF from hf)
   rw [←h2] at hy
   obtain ⟨k,hk,rfl⟩:=List.mem_map.1 (show y ∈ (List.range _).map _ from hy)
   exact ⟨k,List.mem_range.1 hk,rfl⟩
theorem made_ty {p:Plan}{i k:Nat}{f:PF}(hi:i<p.structs.length):1≤(cF (fldP p i k f)).kind∧(cF (fldP p i k f)).kind≤13∧0≤(cF (fldP p i k f)).lists∧(cF (fldP p i k f)).lists≤3∧((cF (fldP p i k f)).kind=13→0≤(cF (fldP p i k f)).ref∧(cF (fldP p i k f)).ref<p.structs.length):=by
 have hk:=kindP_le p i f
 refine ⟨hk.1,hk.2,Int.natCast_nonneg _,?_,fun h=>⟨Int.natCast_nonneg _,?_⟩⟩
 · have:=Nat.mod_lt f.lists (show 0<4 by decide)
   show ((f.lists % 4:Nat):Int)≤3
   omega
 · have:=refP_struct hi (show kindP p i f=13 from h)
   show ((refP p i f:Nat):Int)<_
   omega
theorem made_flds {p:Plan}(hn:PlanNums p){ss:List (SRec × Value)}(hss:ss.map Prod.fst=recsP p p.structs.length):FldsOk (crow ss):=by
 intro q hq f hf
 obtain ⟨i,hi,_,_,hall⟩:=made_fld hss q hq
 obtain ⟨k,hk,rfl⟩:=hall f hf
 obtain ⟨h1,h2,h3,h4,_⟩:=made_ty (k:=k) (f:=(p.structs.getD i []).getD k noPF) hi
 refine ⟨by omega,by omega,by omega,?_⟩
 show (if _ then numP _ _ _ else 0:Nat)≤_
 split
 · have:=numP_max (cntOf p (refP p i ((p.structs.getD i []).getD k noPF))) (kindP p i ((p.structs.getD i []).getD k noPF)) _ (hn i hi k hk)
   omega
 · omega
theorem made_len {p:Plan}{ss:List (SRec × Value)}(hok:planOk p)(hss:ss.map Prod.fst=recsP p p.structs.length):1≤ss.length∧ss.length≤16∧ss.length=p.structs.length:=by
 have hl:ss.length=p.structs.length:=by
  have:=congrArg List.length hss
  rwa [List.length_map,recsP_length] at this
 rw [hl]
 exact ⟨hok.1,hok.2.1,rfl⟩
end Go.Proofs.YtachghaegokpdaaDoor
namespace Go.Proofs.YtachghaegokpdaaDoor
open Go.ChangeShapes Go.WideShapes Go.ChangeAt Go.RowKit
theorem laidOut:laidOutB Tryd.prog=true:=by kernel_rfl
theorem isRow_nil (k:IntKind)(w:World)(a:Option Addr):IsRow k w a 0 0 []:=
 ⟨Nat.le_refl _,Nat.zero_le _,rfl,(fun n h=>by simp at h),(fun h=>absurd rfl h)⟩
theorem isRow_of {k:IntKind}{w:World}{x:Addr}{len cap:Nat}{zs:List Int}(hl:len≤cap)(hm:cap≤maxLen)(hz:zs.length=cap)
  (hc:∀ i,i<zs.length→w.cell? (x.add i)=some (.int k (zs.getD i 0))) (hw:∀ n ∈ zs,(Lit.int k n).wf=true):IsRow k w (some x) len cap zs:=by
 refine ⟨hl,hm,hz,hw,fun hne=>?_⟩
 have h0:0<zs.length:=List.length_pos_iff.2 hne
 obtain ⟨b,off,rfl,hc'⟩:=ints_at hc h0
 exact ⟨b,off,rfl,World.block_lt_of_cell? _ _ (hc' 0 h0),hc'⟩
end Go.Proofs.YtachghaegokpdaaDoor
namespace Go.Proofs.YtachghaegokpdaaDoor
open Go.ChangeShapes Go.WideShapes Go.ChangeAt Go.RowKit Go.Shelf
theorem dflt_nums {p:Plan}{ss:List (SRec × Value)}(hss:ss.map Prod.fst=recsP p p.structs.length):∀ q ∈ crow ss,∀ f ∈ q.1.fields,sortP f.kind f.lists≠1→f.dflt=0:=by
 intro q hq f hf hs
 obtain ⟨i,hi,_,_,hall⟩:=made_fld hss q hq
 obtain ⟨k,hk,rfl⟩:=hall f hf
 generalize (p.structs.getD i []).getD k noPF=x at *
 show (if isNumP (kindP p i x) (x.lists % 4)=true then numP _ _ _ else 0:Nat)=0
 refine if_neg fun h=>hs ?_
 unfold isNumP at h
 rw [Bool.and_eq_true,decide_eq_true_iff,decide_eq_true_iff] at h
 show sortP (kindP p i x) ((x.lists % 4:Nat):Int)=1
 unfold sortP
 rw [h.1]
 simp [h.2]
end Go.Proofs.YtachghaegokpdaaDoor
namespace Go.Proofs.YtachghaegokpdaaDoor
open Go.ChangeShapes Go.WideShapes Go.ChangeAt Go.RowKit Go.Shelf
theorem made_schM {p:Plan}(hok:planOk p)(hn:PlanNums p){ss:List (SRec × Value)}{es:List (SCho × Value)}(hss:ss.map Prod.fst=recsP p p.structs.length)(hes:es.map Prod.fst=chosP p p.enums.length):SchM ss (es.map Prod.fst):=by
 have hl:ss.length=p.structs.length:=by
  have:=congrArg List.length hss
  rwa [List.length_map,recsP_length] at this
 have hel:(es.map Prod.fst).length=p.enums.length:=by rw [hes,chosP_length]
 refine ⟨by rw [hl];exact hok.2.1,fun x hx=>?_⟩
 have h1:x.1 ∈ recsP p p.structs.length:=by rw [←hss];exact List.mem_map.2 ⟨x,hx,rfl⟩
 obtain ⟨i,hi,h2⟩:=List.mem_map.1 h1
 have hi':i<p.structs.length:=List.mem_range.1 hi
 have hgl:p.structs.getD i []=p.structs[i]:=by rw [List.getD,List.getElem?_eq_getElem hi',Option.getD_some]
 have hlen:x.1.fields.length=(p.structs.getD i []).length:=by
  rw [←h2]
  exact fldsP_length _ _ _ _
 refine ⟨by rw [hlen,hgl];exact (hok.2.2.2 _ (List.getElem_mem hi')).2,fun f hf=>?_⟩
 rw [←h2] at hf
 obtain ⟨k,hk,rfl⟩:=List.mem_map.1 (show f ∈ (List.range _).map _ from hf)
 have hk':=List.mem_range.1 hk
 generalize hq:(p.structs.getD i []).getD k noPF=q
 have hqd:(q.dflt:Int)≤18446744073709551615:=by rw [←hq];exact hn i hi' k hk'
 have hkl:=kindP_le p i q
 have hen:kindP p i q=10→refP p i q<(es.map Prod.fst).length∧1≤cntE (es.map Prod.fst) (refP p i q)∧cntE (es.map Prod.fst) (refP p i q)=cntOf p (refP p i q):=fun h=>by
  obtain ⟨h0,hr⟩:=kind_enum h
  have hlt:refP p i q<p.enums.length:=by rw [hr];exact Nat.mod_lt _ (by omega)
  have hc:cntE (es.map Prod.fst) (refP p i q)=cntOf p (refP p i q):=by
   unfold cntE
   rw [hes,List.getD]
   unfold chosP
   rw [List.getElem?_map,List.getElem?_range hlt]
   simp [choP]
  exact ⟨by rw [hel];exact hlt,by rw [hc];unfold cntOf;omega,hc⟩
 have hty:TyM ss.length (es.map Prod.fst) (kindP p i q) (refP p i q) (q.lists % 4):=⟨hkl.1,hkl.2,by omega,fun h=>⟨(hen h).1,(hen h).2.1⟩,fun h=>by rw [hl];exact refP_struct hi' h⟩
 refine ⟨hty,?_,fun h0 h10=>?_⟩
 · show ((if _ then numP _ _ _ else 0:Nat):Int)≤_
   split
   · exact numP_max _ _ _ hqd
   · decide
 · have h0':q.lists % 4=0:=h0
   have hin:isNumP (kindP p i q) (q.lists % 4)=true:=by
    unfold isNumP
    rw [h0',decide_eq_true (k_size hkl.1 h10)]
    rfl
   show fitsT (es.map Prod.fst) (kindP p i q) (refP p i q) 0 (if isNumP (kindP p i q) (q.lists % 4)=true then numP (cntOf p (refP p i q)) (kindP p i q) q.dflt else 0)=true
   rw [if_pos hin]
   have hnt:NumTy (es.map Prod.fst) (kindP p i q) (refP p i q):=⟨hkl.1,h10,fun h=>⟨(hen h).1,(hen h).2.1⟩⟩
   have hf:=num_fits hnt (n:=q.dflt) (by omega)
   by_cases hk10:kindP p i q=10
   · rwa [(hen hk10).2.2] at hf
   · have he:numP (cntOf p (refP p i q)) (kindP p i q) q.dflt=numP (cntE (es.map Prod.fst) (refP p i q)) (kindP p i q) q.dflt:=by
      unfold numP
      rw [if_neg hk10,if_neg hk10]
     rw [he]
     exact hf
end Go.Proofs.YtachghaegokpdaaDoor
namespace Go.Proofs.YtachghaegokpdaaDoor
open Go.ChangeShapes Go.WideShapes Go.ChangeAt Go.RowKit Go.Shelf
theorem made_dflts {p:Plan}{ss:List (SRec × Value)}{es:List SCho}(hss:ss.map Prod.fst=recsP p p.structs.length)(hm:SchM ss es):∀ q ∈ crow ss,DfltsOk es q.1.fields:=by
 intro q hq f hf
 have h0:=dflt_nums hss q hq f hf
 obtain ⟨x,hx,rfl⟩:=List.mem_map.1 hq
 obtain ⟨y,hy,rfl⟩:=List.mem_map.1 (show f ∈ x.1.fields.map cF from hf)
 obtain ⟨ht,hd,hn⟩:=(hm.2 x hx).2 y hy
 refine ⟨⟨ht.lo,ht.hi,Int.natCast_nonneg _⟩,fun hs=>?_,h0⟩
 have hs':sortP y.kind ((y.lists:Nat):Int)=1:=hs
 have hl:y.lists=0:=by
  rcases Nat.eq_zero_or_pos y.lists with h|h
  · exact h
  · rw [show sortP y.kind ((y.lists:Nat):Int)=3 from if_pos (by omega)] at hs'
    cases hs'
 have hk:y.kind≤10:=by
  rcases Nat.lt_or_ge 10 y.kind with h|h
  · rw [hl] at hs'
    rcases tk_cases y.kind ht.lo ht.hi with ⟨_,h2,_⟩|⟨_,h2,_⟩|⟨h2,_⟩
    · rw [show sortP y.kind ((0:Nat):Int)=sortP y.kind 0 from rfl,h2] at hs';cases hs'
    · rw [show sortP y.kind ((0:Nat):Int)=sortP y.kind 0 from rfl,h2] at hs';cases hs'
    · omega
  · exact h
 have h:=hn hl hk
 show fitsT es y.kind ((y.ref:Nat):Int) ((y.lists:Nat):Int) y.dflt=true
 rw [hl]
 exact h
end Go.Proofs.YtachghaegokpdaaDoor
namespace Go.Proofs.YtachghaegokpdaaDoor
open Go.ChangeShapes Go.WideShapes Go.ChangeAt Go.RowKit
theorem exists_list {α:Type}(P:Nat→α→Prop)(d:α):∀ (n:Nat),(∀ r,r<n→∃ x,P r x)→∃ L:List α,L.length=n∧∀ r,r<n→P r (L.getD r d)
 | 0,_=>⟨[],rfl,fun r hr=>absurd hr (Nat.not_lt_zero r)⟩
 | n+1,h=>by
  obtain ⟨L,hL,hP⟩:=exists_list P d n (fun r hr=>h r (by omega))
  obtain ⟨x,hx⟩:=h n (Nat.lt_succ_self n)
  refine ⟨L++[x],by simp [hL],fun r hr=>?_⟩
  rcases Nat.lt_or_ge r n with h1|h1
  · rw [List.getD,List.getElem?_append_left (by omega),←List.getD]
    exact hP r h1
  · obtain rfl:r=n:=by omega
    rw [List.getD,List.getElem?_append_right (by omega),hL,Nat.sub_self]
    exact hx
theorem list_five':∀ {cs:List Value},cs.length=5→∃ v0 v1 v2 v3 v4,cs=[v0,v1,v2,v3,v4]
 | [v0,v1,v2,v3,v4],_=>⟨v0,v1,v2,v3,v4,rfl⟩
theorem list_one':∀ {cs:List Value},cs.length=1→∃ v0,cs=[v0]
 | [v0],_=>⟨v0,rfl⟩
theorem nat_u8 {m:Int}(h:(Lit.int .u8 m).wf=true):∃ k:Nat,m=k∧k≤255:=by
 obtain ⟨h0,h1⟩:=bounds_u8 h
 exact ⟨m.toNat,by omega,by omega⟩
theorem nat_u64 {m:Int}(h:(Lit.int .u64 m).wf=true):∃ k:Nat,m=k∧(k:Int)≤18446744073709551615:=by
 obtain ⟨h0,h1⟩:=bounds_u64 h
 exact ⟨m.toNat,by omega,by omega⟩
theorem open_int1' {H:Type}{enc:TypeId × Value→H}{W:World}{t:TypeId}{k:IntKind}{n:Nat}{v:Value}{xs:List (DataW H × List MemPlace)}{i:Nat}(ht:Tryd.prog.underlying t=some (.int k))(hi:i<xs.length)(h:DataW.trod enc Tryd.prog W 0 (fun _=>true) true n t [v]=xs[i]?):∃ m,v=.int k m∧(Lit.int k m).wf=true:=by
 rw [List.getElem?_eq_getElem hi] at h
 obtain ⟨m,h1,_,h2⟩:=DataW.trod_int ht h
 exact ⟨m,by simpa using h1,h2⟩
def PFLies (W:World)(a:Option Addr)(k:Nat)(f:PF):Prop:=
 ∃ b' off',a=some ⟨b',off',none⟩∧b'<W.heap.size∧W.cell? ⟨b',off'+k * 5,none⟩=some (.int .u8 (f.kind:Nat))∧W.cell? ⟨b',off'+k * 5+1,none⟩=some (.int .u8 (f.lists:Nat))∧W.cell? ⟨b',off'+k * 5+2,none⟩=some (.int .u8 (f.ref:Nat))∧W.cell? ⟨b',off'+k * 5+3,none⟩=some (.int .u8 (f.name:Nat))∧W.cell? ⟨b',off'+k * 5+4,none⟩=some (.int .u64 (f.dflt:Nat)) ∧
  f.kind≤255∧f.lists≤255∧f.ref≤255∧f.name≤255∧(f.dflt:Int)≤18446744073709551615
theorem open_fields {H:Type}{enc:TypeId × Value→H}{W:World}{n:Nat}{v:Value}{x:DataW H × List MemPlace}(h:DataW.trod enc Tryd.prog W 0 (fun _=>true) true n 97 [v]=some x) :
  ∃ a m c,v=.slice a m c∧m≤c∧c≤maxLen∧∃ l:List PF,l.length=m∧∀ k,k<m→PFLies W a k (l.getD k noPF):=by
 rcases Deep.open_slice Tryd.underlying97 h with ⟨hcs,_⟩|⟨y,l,c,m,n',Ds,Pl,hcs,_,hl,hm,hmm,_,hx⟩
 · simp at hcs
   subst hcs
   exact ⟨none,0,0,rfl,Nat.le_refl _,Nat.zero_le _,[],rfl,fun k hk=>absurd hk (Nat.not_lt_zero k)⟩
 · simp at hcs
   subst hcs
   simp only [if_true] at hmm
   have c5:Tryd.prog.cellsOf 99 = 5:=by kernel_rfl
   rw [c5] at hx
   refine ⟨some y,l,c,rfl,hl,hm,exists_list _ noPF l (fun r hlt=>?_)⟩
   obtain ⟨cs,h1,h2⟩:=hx r (by omega)
   obtain ⟨_,hcl,hc⟩:=World.cells?_some h1
   obtain ⟨_,hcl0,hc0⟩:=World.cells?_some (hx 0 (by omega)).choose_spec.1
   obtain ⟨b,off,spot⟩:=y
   have hspot:spot=none:=by
    have h0:=hc0 0 (by omega)
    rw [List.getElem?_eq_getElem (by omega)] at h0
    simpa [Addr.add] using World.cell?_spot h0
   subst hspot
   obtain ⟨xs,n2,_,_,_,hxl,hfs⟩:=DataW.trod_struct Tryd.underlying99 h2
   obtain ⟨v0,v1,v2,v3,v4,rfl⟩:=list_five' hcl
   have k8:Tryd.prog.cellsOf 5 = 1:=by kernel_rfl
   have k64:Tryd.prog.cellsOf 46 = 1:=by kernel_rfl
   have f0:DataW.trod enc Tryd.prog W 0 (fun _=>true) true n2 5 (([v0,v1,v2,v3,v4].drop 0).take (Tryd.prog.cellsOf 5))=xs[0]?:=hfs 0 _ rfl
   rw [k8] at f0
   have f1:DataW.trod enc Tryd.prog W 0 (fun _=>true) true n2 5 (([v0,v1,v2,v3,v4].drop 1).take (Tryd.prog.cellsOf 5))=xs[1]?:=hfs 1 _ rfl
   rw [k8] at f1
   have f2:DataW.trod enc Tryd.prog W 0 (fun _=>true) true n2 5 (([v0,v1,v2,v3,v4].drop 2).take (Tryd.prog.cellsOf 5))=xs[2]?:=hfs 2 _ rfl
   rw [k8] at f2
   have f3:DataW.trod enc Tryd.prog W 0 (fun _=>true) true n2 5 (([v0,v1,v2,v3,v4].drop 3).take (Tryd.prog.cellsOf 5))=xs[3]?:=hfs 3 _ rfl
   rw [k8] at f3
   have f4:DataW.trod enc Tryd.prog W 0 (fun _=>true) true n2 46 (([v0,v1,v2,v3,v4].drop 4).take (Tryd.prog.cellsOf 46))=xs[4]?:=hfs 4 _ rfl
   rw [k64] at f4
   have hx5:xs.length=5:=hxl
   obtain ⟨z0,rfl,w0⟩:=open_int1' Tryd.underlying5 (by omega) f0
   obtain ⟨z1,rfl,w1⟩:=open_int1' Tryd.underlying5 (by omega) f1
   obtain ⟨z2,rfl,w2⟩:=open_int1' Tryd.underlying5 (by omega) f2
   obtain ⟨z3,rfl,w3⟩:=open_int1' Tryd.underlying5 (by omega) f3
   obtain ⟨z4,rfl,w4⟩:=open_int1' Tryd.underlying46 (by omega) f4
   obtain ⟨q0,rfl,l0⟩:=nat_u8 w0
   obtain ⟨q1,rfl,l1⟩:=nat_u8 w1
   obtain ⟨q2,rfl,l2⟩:=nat_u8 w2
   obtain ⟨q3,rfl,l3⟩:=nat_u8 w3
   obtain ⟨q4,rfl,l4⟩:=nat_u64 w4
   have hcell:∀ i,i<5→W.cell? ⟨b,off+r * 5+i,none⟩=[Value.int .u8 q0,.int .u8 q1,.int .u8 q2,.int .u8 q3,.int .u64 q4][i]?:=fun i hi=>by
    have:=hc i hi
    rw [Deep.add_add,Go.WideShapes.add_plain,←Nat.add_assoc] at this
    exact this
   have e0:=hcell 0 (by omega)
   exact ⟨⟨q0,q1,q2,q3,q4⟩,b,off,rfl,World.block_lt_of_cell? _ _ e0,e0,hcell 1 (by omega),hcell 2 (by omega),hcell 3 (by omega),hcell 4 (by omega),l0,l1,l2,l3,l4⟩
theorem open_structs {H:Type}{enc:TypeId × Value→H}{W:World}{n:Nat}{v:Value}{x:DataW H × List MemPlace}(h:DataW.trod enc Tryd.prog W 0 (fun _=>true) true n 23 [v]=some x) :
  ∃ a1 n1 c1,v=.slice a1 n1 c1∧n1≤c1∧c1≤maxLen∧∃ L:List (List PF),L.length=n1∧∀ r,r<n1→∃ b off a m c,a1=some ⟨b,off,none⟩∧b<W.heap.size∧W.cell? ⟨b,off+r,none⟩=some (.slice a m c)∧(L.getD r []).length=m∧m≤c∧c≤maxLen∧∀ k,k<m→PFLies W a k ((L.getD r []).getD k noPF):=by
 rcases Deep.open_slice Tryd.underlying23 h with ⟨hcs,_⟩|⟨y,l,c,m,n',Ds,Pl,hcs,_,hl,hm,hmm,_,hx⟩
 · simp at hcs
   subst hcs
   exact ⟨none,0,0,rfl,Nat.le_refl _,Nat.zero_le _,[],rfl,fun k hk=>absurd hk (Nat.not_lt_zero k)⟩
 · simp at hcs
   subst hcs
   simp only [if_true] at hmm
   have c1:Tryd.prog.cellsOf 97 = 1:=by kernel_rfl
   rw [c1] at hx
   refine ⟨some y,l,c,rfl,hl,hm,?_⟩
   refine exists_list (fun r (q:List PF)=>∃ b off a m c,some y=some ⟨b,off,none⟩∧b<W.heap.size∧W.cell? ⟨b,off+r,none⟩=some (.slice a m c)∧q.length=m∧m≤c∧c≤maxLen∧∀ k,k<m→PFLies W a k (q.getD k noPF)) [] l (fun r hlt=>?_)
   obtain ⟨cs,h1,h2⟩:=hx r (by omega)
   obtain ⟨_,hcl,hc⟩:=World.cells?_some h1
   obtain ⟨_,hcl0,hc0⟩:=World.cells?_some (hx 0 (by omega)).choose_spec.1
   obtain ⟨b,off,spot⟩:=y
   have hspot:spot=none:=by
    have h0:=hc0 0 (by omega)
    rw [List.getElem?_eq_getElem (by omega)] at h0
    simpa [Addr.add] using World.cell?_spot h0
   subst hspot
   obtain ⟨v0,rfl⟩:=list_one' hcl
   obtain ⟨a,m',c',rfl,g1,g2,q,g3,g4⟩:=open_fields h2
   have e0:W.cell? ⟨b,off+r,none⟩=some (.slice a m' c'):=by
    have:=hc 0 (by omega)
    rw [Deep.add_add,Go.WideShapes.add_plain,Nat.add_zero,Nat.mul_one] at this
    exact this
   exact ⟨q,b,off,a,m',c',rfl,World.block_lt_of_cell? _ _ e0,e0,g3,g1,g2,g4⟩
set_option maxRecDepth 100000 in
theorem open_plan {H:Type}{enc:TypeId × Value→H}{W:World}{base:Nat}{v:Value}{d:DataW H}{p:List MemPlace}(hv:Value.okWide Tryd.prog W .any base 25 v)(h:DataW.Trod enc Tryd.prog W 0 (fun _=>true) true 25 v d p) :
  ∃ (q:Plan) (a0:Option Addr) (n0 e0:Nat) (a1:Option Addr) (n1 c1:Nat),v=.agg #[.slice a0 n0 e0,.slice a1 n1 c1,.int .u8 q.root,.bool q.tree]∧IsPlan W q a0 n0 e0 a1 n1 c1:=by
 obtain ⟨v0,v1,v2,v3,y0,y1,y2,y3,n,rfl,rfl,rfl,h0,h1,h2,h3⟩:=Joins.open_agg4 Tryd.underlying25 (by kernel_rfl) (by kernel_rfl) hv h
 obtain ⟨m2,e2,_,w2⟩:=DataW.trod_int Tryd.underlying5 h2
 obtain ⟨b3,e3,_⟩:=DataW.trod_bool Tryd.underlying4 h3
 simp at e2 e3
 subst e2
 subst e3
 obtain ⟨rt,rfl,hrt⟩:=nat_u8 w2
 obtain ⟨a0,n0,e0,zs,hv0,hrow⟩:∃ a0 n0 e0 zs,v0=.slice a0 n0 e0∧IsRow .u8 W a0 n0 e0 zs:=by
  rcases open_ints Tryd.underlying22 Tryd.underlying5 (by kernel_rfl) h0 with ⟨hcs,_⟩|⟨x,l,c,zs,hcs,_,hl,hm,hz,_,hcell,hwz⟩
  · exact ⟨none,0,0,[],by simpa using hcs,isRow_nil _ _ _⟩
  · exact ⟨some x,l,c,zs,by simpa using hcs,isRow_of hl hm (by simpa using hz) hcell hwz⟩
 subst hv0
 obtain ⟨a1,n1,c1,rfl,hn1,hc1,L,hL,hLs⟩:=open_structs h1
 refine ⟨⟨(zs.take n0).map Int.toNat,L,rt,b3⟩,a0,n0,e0,a1,n1,c1,rfl,?_,hL,⟨hrow.1,hrow.2.1⟩,⟨hn1,hc1⟩,hrt,?_,?_⟩
 · have h1:=hrow.1
   have h2:=hrow.2.2.1
   simp
   omega
 · intro j hj
   have g1:=hrow.1
   have g2:=hrow.2.2.1
   have hjz:j<zs.length:=by omega
   have hw:=hrow.2.2.2.1 _ (List.getElem_mem hjz)
   obtain ⟨k,hk,hk2⟩:=nat_u8 hw
   have he:((zs.take n0).map Int.toNat).getD j 0=k:=by
    rw [List.getD,List.getElem?_map,List.getElem?_take,if_pos hj,List.getElem?_eq_getElem hjz,hk]
    simp
   obtain ⟨b,off,ha,hb,hcell⟩:=hrow.2.2.2.2 (by intro e;rw [e] at hjz;simp at hjz)
   show ((zs.take n0).map Int.toNat).getD j 0≤255∧_
   rw [he]
   refine ⟨hk2,b,off,ha,hb,?_⟩
   rw [hcell j hjz,List.getD,List.getElem?_eq_getElem hjz,Option.getD_some,hk]
 · intro r hr
   obtain ⟨b,off,a,m,c,ha,hb,hcell,hlen,hm,hc,hfl⟩:=hLs r hr
   refine ⟨b,off,a,m,c,ha,hb,hcell,hlen,hm,hc,fun k hk=>?_⟩
   obtain ⟨b',off',g⟩:=hfl k hk
   exact ⟨b',off',_,rfl,g⟩
end Go.Proofs.YtachghaegokpdaaDoor
namespace Go.Proofs.YtachghaegokpdaaDoor
open Go.ChangeShapes Go.WideShapes Go.ChangeAt Go.RowKit
theorem getD_take_int (zs:List Int)(n i:Nat)(hw:∀ z ∈ zs,(Lit.int .u8 z).wf=true):0≤(zs.take n).getD i 0∧(zs.take n).getD i 0≤255:=by
 rcases Nat.lt_or_ge i (zs.take n).length with h|h
 · rw [List.getD,List.getElem?_eq_getElem h,Option.getD_some]
   exact bounds_u8 (hw _ (List.mem_of_mem_take (List.getElem_mem h)))
 · rw [List.getD,List.getElem?_eq_none h]
   exact ⟨by decide,by decide⟩
end Go.Proofs.YtachghaegokpdaaDoor
namespace Go.Proofs.YtachghaegokpdaaDoor
open Go.ChangeShapes Go.WideShapes Go.ChangeAt Go.RowKit Go.Shelf
theorem made_few {p:Plan}(hok:planOk p){es:List (SCho × Value)}(hes:es.map Prod.fst=chosP p p.enums.length):es.length≤1000000∧∀ q ∈ es,q.1.names.length≤1000000:=by
 have hl:es.length=p.enums.length:=by
  have:=congrArg List.length hes
  rwa [List.length_map,chosP_length] at this
 refine ⟨by have:=hok.2.2.1;omega,fun q hq=>?_⟩
 have h1:q.1 ∈ chosP p p.enums.length:=by rw [←hes];exact List.mem_map.2 ⟨q,hq,rfl⟩
 obtain ⟨i,_,h2⟩:=List.mem_map.1 h1
 rw [←h2]
 show ((List.range (cntOf p i)).map valName).length≤1000000
 rw [List.length_map,List.length_range]
 unfold cntOf
 omega
theorem made_defs {p:Plan}{ss:List (SRec × Value)}{es:List SCho}(hss:ss.map Prod.fst=recsP p p.structs.length)(hm:SchM ss es):∀ q ∈ ss,DfltsOk es (cR q.1).fields:=fun q hq=>made_dflts hss hm (cR q.1,q.2) (List.mem_map.2 ⟨q,hq,rfl⟩)
set_option maxRecDepth 100000 in
set_option maxHeartbeats 8000000 in
theorem fall_go (p:Plan){a0 a1 b0:Option Addr}{n0 e0 n1 c1 nb cb:Nat}(bs:List Int)(w:World)(hp:IsPlan w p a0 n0 e0 a1 n1 c1)(hb:Bytes w b0 bs)(hbn:bs.length=nb)(hbc:nb≤cb)(hT:Tabs w) :
  Calls Tryd.prog 6 #[.agg #[.slice a0 n0 e0,.slice a1 n1 c1,.int .u8 p.root,.bool p.tree],.slice b0 nb cb] w fun e w'=>e=.returned (.bool true)∧Below w.heap.size w w':=by
 subst hbn
 have hb1:=(Below.refl w.heap.size w).alloc (Nat.le_refl _) (.cells #[.slice a0 n0 e0,.slice a1 n1 c1,.int .u8 p.root,.bool p.tree] 25)
 have HP:=Lib.hid (hp.below hb1)
 have HT:=Lib.hid (hT.below (Nat.le_refl _) hb1)
 have HBY:=Lib.hid (hb.below (Nat.le_refl _) hb1)
 have HB0:=Lib.hid hb1
 have HQ1:=Lib.hid (heap_alloc_new w (.cells #[.slice a0 n0 e0,.slice a1 n1 c1,.int .u8 p.root,.bool p.tree] 25))
 have HBC:=Lib.hid hbc
 clear hp hT hb hb1 hbc
 go_enter Tryd.func6,Tryd.ntmps6
 go_upto_region 1 with (fail)
 generalize w.alloc (.cells #[.slice a0 n0 e0,.slice a1 n1 c1,.int .u8 p.root,.bool p.tree] 25)=W0 at *
 go_wp2_with fail
 refine (awake10_any W0 HT.out).mono ?_
 rintro e W1 ⟨rfl,hb1⟩
 have HB1:=Lib.hid (HB0.out.trans (hb1.mono HB0.out.size))
 have HB01:=Lib.hid hb1
 have HQ11:=Lib.hid (blk_below HQ1.out hb1 (blk_lt HQ1.out))
 clear hb1 HB0 HQ1
 obtain ⟨_,y0',y1',y2',y3'⟩:=blk4p HQ11.out
 go_wp2_with fail
 refine (made_any p W1 (HP.out.below HB01.out)).mono ?_
 rintro e W2 ⟨hb2,hpost⟩
 have HB2:=Lib.hid (HB1.out.trans (hb2.mono HB1.out.size))
 have HB02:=Lib.hid (HB01.out.trans (hb2.mono HB01.out.size))
 clear hb2 y0' y1' y2' y3' HQ11 HB1 HB01
 rcases hpost with ⟨hok,ss,es,sv,ev,rfl,hss,hes,hr⟩|⟨hno,rfl⟩
 · obtain ⟨sa,sc,ea,ec,rfl,rfl⟩:=hr.forms
   have hlen:=made_len hok hss
   have HFO:=Lib.hid (made_flds (plan_nums HP.out) hss)
   have hm:=made_schM hok (plan_nums HP.out) hss hes
   have HSM:=Lib.hid hm
   have HDF:=Lib.hid (made_defs hss hm)
   have HFE:=Lib.hid (made_few hok hes)
   have hrt:p.root % p.structs.length<ss.length:=by rw [hlen.2.2];exact Nat.mod_lt _ (by omega)
   have HRT:=Lib.hid hrt
   have HR:=Lib.hid hr
   clear hok hss hes hr hlen hrt hm
   generalize p.root % p.structs.length=rt at *
   go_upto_region 4 with (fail)
   have hba:Below W2.heap.size W2 (W2.alloc (.cells #[.slice sa ss.length sc,.slice ea es.length ec,.int .i64 rt] 33)):=(Below.refl _ _).alloc (Nat.le_refl _) _
   have HZ:=Lib.hid (heap_alloc_new W2 (.cells #[.slice sa ss.length sc,.slice ea es.length ec,.int .i64 rt] 33))
   have HB3:=Lib.hid (HB2.out.trans (hba.mono HB2.out.size))
   have HB03:=Lib.hid (HB02.out.trans (hba.mono HB02.out.size))
   have HR3:=Lib.hid (HR.out.below hba)
   clear hba HR HB2 HB02
   generalize W2.alloc (.cells #[.slice sa ss.length sc,.slice ea es.length ec,.int .i64 rt] 33)=W3 at *
   generalize W2.heap.size=Z at *
   obtain ⟨_,z0,z1,z2,_⟩:=blk3 HZ.out
   by_cases hbig:20000<bs.length
   · go_wp2
     go_ret
     exact ⟨rfl,HB3.out⟩
   go_wp2_with fail
   refine (ftold_any W3 rt HR3.out HSM.out HDF.out HFE.out HFO.out HRT.out (HBY.out.below (Nat.le_refl _) HB03.out) (by omega) HBC.out (fun V hV=>HT.out.below (Nat.le_refl _) (HB03.out.trans (hV.mono HB03.out.size)))).mono ?_
   rintro e W4 ⟨rfl,hb4⟩
   have HB4:=Lib.hid (HB3.out.trans (hb4.mono HB3.out.size))
   clear hb4 z0 z1 z2
   go_wp2
   go_ret
   exact ⟨rfl,HB4.out⟩
 · go_wp2
   go_ret
   exact ⟨rfl,(HB2.out.alloc HB2.out.size _)⟩
theorem bytes_row {w:World}{a:Option Addr}{len cap:Nat}{zs:List Int}(h:IsRow .u8 w a len cap zs):Bytes w a (zs.take len)∧(zs.take len).length=len∧len≤cap∧(cap:Int)≤9223372036854775807:=by
 obtain ⟨h1,h2,h3,h4,h5⟩:=h
 refine ⟨⟨fun i=>getD_take_int zs len i h4,fun hne=>?_⟩,by rw [List.length_take];omega,h1,by unfold maxLen at h2;omega⟩
 have hz:zs≠[]:=fun e=>hne (by rw [e];exact List.take_nil)
 obtain ⟨b,off,e,hlt,hc⟩:=h5 hz
 refine ⟨b,off,e,hlt,fun i hi=>?_⟩
 rw [List.length_take] at hi
 rw [hc i (by omega),List.getD,List.getD,List.getElem?_take,if_pos (by omega)]
theorem flatreadAll_walk (p:Plan)(b0:Option Addr)(nb cb:Nat)(z1:List Int){a0 a1:Option Addr}{n0 e0 n1 c1:Nat}(w:World)(hp:IsPlan w p a0 n0 e0 a1 n1 c1)(h1:IsRow .u8 w b0 nb cb z1)(hT:Tabs w) :
  Calls Tryd.prog 6 #[.agg #[.slice a0 n0 e0,.slice a1 n1 c1,.int .u8 p.root,.bool p.tree],.slice b0 nb cb] w fun e w'=>e=.returned (.bool true)∧Below w.heap.size w w':=by
 obtain ⟨k1,k2,k3,_⟩:=bytes_row h1
 exact fall_go p _ w hp k1 k2 k3 hT
end Go.Proofs.YtachghaegokpdaaDoor
namespace Go.Proofs.YtachghaegokpdaaDoor
open Go.ChangeShapes Go.WideShapes Go.ChangeAt Go.RowKit
open Go.ChangeMaps (open_string shut_string)
namespace flatreadAllFrame
theorem laid_met (os:Os):laidMet Tryd.prog Rows.flatreadAllRow.laid ((laidWorld os).forCall (fun _ _=>0) ⟨#[],#[Value.agg #[Value.slice none 0 0,Value.slice none 0 0,Value.int .u8 0,Value.bool false],Value.slice none 0 0],[]⟩).memory:=
 laidMet_of_run' 8 (by kernel_rfl) (by kernel_rfl)
theorem reads (os:Os){H:Type}(enc:TypeId × Value→H):∃ places,DataW.whole enc Tryd.prog ((laidWorld os).forCall (fun _ _=>0) ⟨#[],#[Value.agg #[Value.slice none 0 0,Value.slice none 0 0,Value.int .u8 0,Value.bool false],Value.slice none 0 0],[]⟩).memory Tryd.f6.params.toList Rows.flatreadAllSpec.vars false #[Value.agg #[Value.slice none 0 0,Value.slice none 0 0,Value.int .u8 0,Value.bool false],Value.slice none 0 0].toList 8=some ([.agg [.nil,.nil,.lit (.int .u8 0),.lit (.bool false)],.nil],[],places):=
 ⟨[],by kernel_rfl⟩
set_option maxRecDepth 100000 in
theorem contract (H:Type)(enc:TypeId × Value→H)(W:World)(base:Nat)(args:Array Value)(ds gs:List (DataW H))(before:List MemPlace)
  (hval0:∀ (j:Nat) t v,Tryd.f6.params[j]?=some t→args[j]?=some v→Value.okWide Tryd.prog W .any base t v)
  (hW:DataW.Whole enc Tryd.prog Tryd.f6.params.toList Rows.flatreadAllSpec.vars false W args.toList ds gs before) (hL:laidMetH Tryd.prog Rows.flatreadAllRow.laid W) :
  Calls Tryd.prog 6 args W fun e W'=>∃ v,e=.returned v∧Rows.flatreadAllSpec.post enc Tryd.prog Tryd.f6 false true false false W args v W':=by
 have hval:∀ (j:Nat) t v,Tryd.f6.params[j]?=some t→args[j]?=some v→Value.okWide Tryd.prog W .any base t v:=hval0
 have hW':=hW
 obtain ⟨p,q,hA0,hV,rfl,_hfz,_hnd⟩:=hW
 have hA:DataW.TrodAll enc Tryd.prog W 0 (fun _=>true) true Tryd.f6.params.toList args.toList ds p:=hA0
 rw [Tryd.params6] at hA hval
 obtain ⟨v0,vs0,d0,ds0,p0,q0,hargs,rfl,rfl,h0,r0⟩:=trodAll_cons hA
 obtain ⟨v1,vs1,d1,ds1,p1,q1,rfl,rfl,rfl,h1,r1⟩:=trodAll_cons r0
 obtain ⟨rfl,rfl,rfl⟩:=trodAll_nil r1
 obtain rfl:args=#[v0,v1]:=by cases args;simp_all
 obtain ⟨rfl,rfl⟩:=trodVars_none hV
 have k0:=h0
 have lt0:∀ x ∈ p0,x.block<W.heap.size:=by obtain ⟨m,hm⟩:=k0;exact DataW.trod_lt m _ _ _ hm
 obtain ⟨a0,_,_,_,_,_,_,rfl,w0⟩:=open_plan (hval 0 25 v0 rfl rfl) h0
 obtain ⟨a1,len1,cap1,rfl⟩:=okWide_slice Tryd.underlying22 (hval 1 22 v1 rfl rfl)
 have k1:=h1
 have lt1:∀ x ∈ p1,x.block<W.heap.size:=by obtain ⟨m,hm⟩:=k1;exact DataW.trod_lt m _ _ _ hm
 obtain ⟨z1,w1⟩:∃ zs,IsRow .u8 W a1 len1 cap1 zs:=by
  obtain ⟨fuel,hf⟩:=h1
  rcases open_ints Tryd.underlying22 Tryd.underlying5 (by kernel_rfl) hf with ⟨hcs,_⟩|⟨x,l,c,zs,hcs,_,hl,hm,hz,_,hcell,hwz⟩
  · simp [Value.cells] at hcs
    obtain ⟨rfl,rfl,rfl⟩:=hcs
    exact ⟨[],isRow_nil _ _ _⟩
  · simp [Value.cells] at hcs
    obtain ⟨rfl,rfl,rfl⟩:=hcs
    exact ⟨zs,isRow_of hl hm (by simpa using hz) hcell hwz⟩
 clear hA0 hval0
 refine (flatreadAll_walk a0 a1 len1 cap1 z1 W w0 w1 (tabs_of_laid hL)).mono fun e W' ⟨he,bel⟩=>?_
 subst he
 exact ⟨_,rfl,_,_,_,[],_,[],hW',trodAll_mk1 (shut_bool Tryd.underlying4 _),(trodAll_cons_mk (Below.trod laidOut (by kernel_rfl) (of_decide_eq_true (by kernel_rfl)) k0 bel lt0) (trodAll_cons_mk (Below.trod laidOut (by kernel_rfl) (of_decide_eq_true (by kernel_rfl)) k1 bel lt1) trodAll_mk0)),rfl,bel.frame _,fun h=>by cases h⟩
set_option maxRecDepth 100000 in
theorem lifted (os:Os)(started:os.Started)(H:Type)(enc:TypeId × Value→H)(F:Stop.Interp) :
  ReturnsInHanded {} Tryd.checked os 6 .any ((OpenSpec.ofChange Rows.flatreadAllSpec).preRow enc Tryd.prog Tryd.f6 Rows.flatreadAllRow.domain false Rows.flatreadAllRow.laid) (((OpenSpec.ofChange Rows.flatreadAllSpec).at F).post enc Tryd.prog Tryd.f6 false true false false):=by
 obtain ⟨places,hx⟩:=reads os enc
 refine returnsInHanded_of_row (C:=Tryd.checked) (s:=OpenSpec.ofChange Rows.flatreadAllSpec) own started (by kernel_rfl) Tryd.func6
  (witness_row_at (enc:=enc) (C:=Tryd.checked) false (laidWorld os) #[Value.agg #[Value.slice none 0 0,Value.slice none 0 0,Value.int .u8 0,Value.bool false],Value.slice none 0 0] rfl (by kernel_rfl) (by kernel_rfl) (by kernel_rfl)
   (OpenSpec.preRow_of_cond 8 hx (by kernel_rfl) (fun k hk=>by cases hk) (by kernel_rfl) (laid_met os))) ?_
 intro W base args ds gs before hval hW _ _ _ hL _ _
 exact contract H enc W base args ds gs before hval hW hL
theorem said:Rows.FlatreadAllSaid:=
 OpenClaim.holds_of_cond 6 Tryd.f6 rfl rfl rfl rfl rfl rfl rfl ⟨rfl,rfl,rfl,rfl,rfl⟩ rfl rfl rfl rfl rfl (by kernel_rfl) Tryd.func6 (by kernel_rfl)
  (of_decide_eq_true (by kernel_rfl)) (by unfold Func.isWrapper;first|(rw [if_pos (by decide +kernel)];kernel_rfl)|(rw [if_neg (by decide +kernel)];exact ⟨rfl,rfl⟩))
  (fun os started H enc _ F=>by rw [OpenClaim.pre_eq_preRow];exact lifted os started H enc F)
theorem plain (f:FuncId)(fn:Func)(hf:Tryd.pinned.checked.prog.funcNamed "transom/transomlaw10.FlatreadAll" = some f)(hfn:Tryd.pinned.checked.prog.funcs[f]?=some fn) :
  false=Tryd.pinned.checked.prog.looks []∧∀ (j:Nat) t,fn.params[j]?=some t→Tryd.pinned.checked.prog.wantsStandIn t=false:=by
 obtain rfl:f=6 := Option.some.inj ((show Tryd.prog.funcNamed "transom/transomlaw10.FlatreadAll" = some 6 by kernel_rfl).symm.trans hf) |>.symm
 obtain rfl:fn=Tryd.f6 := (Option.some.inj (Tryd.func6.symm.trans hfn)).symm
 refine ⟨by kernel_rfl,fun j t ht=>?_⟩
 rw [Tryd.params6] at ht
 have hm:t=25 ∨ t=22 := by simpa using Array.mem_of_getElem? ht
 rcases hm with rfl|rfl
 · exact (show Tryd.prog.wantsStandIn 25 = false by kernel_rfl)
 · exact (show Tryd.prog.wantsStandIn 22 = false by kernel_rfl)
end flatreadAllFrame
theorem flatreadAll_card:Rows.FlatreadAllCardSaid:=
 Claim7.holds_tied_plain_at .later [] _ _ _ _ flatreadAllFrame.said (fun _ h=>by cases h) (by kernel_rfl) (fun _ h=>by cases h) flatreadAll_row_tie rfl ⟨rfl,rfl⟩ (by kernel_rfl) rfl flatreadAllFrame.plain (by kernel_rfl)
end Go.Proofs.YtachghaegokpdaaDoor
