/-
  The package view's Tree: of whatever view shows a value it hands back that value, of new blocks alone. Conditions: those that each theorem names.
-/
import Derived.Test.YtachghaegokpdaaDoorPkFC35
import Derived.Test.YtachghaegokpdaaDoorPkFC36
namespace Go.Proofs.YtachghaegokpdaaDoor
open Go.ChangeShapes Go.WideShapes Go.ChangeAt Go.RowKit Go.Shelf
theorem skid_all {ss:List (CRec × Value)}{es:List (SCho × Value)}(hF:FldsOk ss)(hFew:∀ i (hi:i<ss.length),(ss[i]'hi).1.fields.length≤1000000):∀ room,room≤12→KidAtS ss es room
 | 0,h=>skidtree 0 h (sstructtree hF hFew 0 h (fun r e=>by omega)) (slisttree 0 h (fun r e=>by omega))
 | n+1,h =>
  have hn:∀ r,n+1=r+1→KidAtS ss es r:=fun r e=>by
   obtain rfl:n=r:=by omega
   exact skid_all hF hFew n (by omega)
  skidtree (n+1) h (sstructtree hF hFew (n+1) h hn) (slisttree (n+1) h hn)
theorem sstruct_all {ss:List (CRec × Value)}{es:List (SCho × Value)}(hF:FldsOk ss)(hFew:∀ i (hi:i<ss.length),(ss[i]'hi).1.fields.length≤1000000):StructAtS ss es 12:=
 sstructtree hF hFew 12 (Nat.le_refl _) (fun r e=>skid_all hF hFew r (by omega))
set_option maxRecDepth 100000 in
set_option maxHeartbeats 4000000 in
theorem stree_any (w:World){base:Nat}{ss:List (CRec × Value)}{es:List (SCho × Value)}{sv ev:Value}(root rec:Int)(h:CRows base w ss es sv ev)(hF:FldsOk ss)(hFew:∀ i (hi:i<ss.length),(ss[i]'hi).1.fields.length≤1000000)(v:PV)(vv:Value)(hsh:Shown (ss.map Prod.fst) 12 w vv 13 rec 0 v) :
  Calls Tryd.prog 40 #[.agg #[sv,ev,.int .i64 root],.int .i64 rec,vv] w fun e w'=>(∃ val',e=.returned val'∧VH (newS w.heap.size) w' v val')∧Below w.heap.size w w':=by
 obtain ⟨h0,h1,h2⟩:=two_start w #[sv,ev,.int .i64 root] #[.int .u64 0,.slice none 0 0,.slice none 0 0,.bool false] 33 49
 have HCALL:=Lib.hid (sstruct_all hF hFew _ base sv ev root 13 rec 0 v vv (h.below h0) rfl (hsh.later _ h0))
 have HB:=Lib.hid h0
 have Q2:=Lib.hid h2
 obtain ⟨_,s0,s1,s2,_⟩:=blk3 h1
 clear h0 h1 h2 h hsh hF hFew
 go_enter Tryd.func40,Tryd.ntmps40
 go_upto_region 1 with (fail)
 generalize (w.alloc (.cells #[sv,ev,.int .i64 root] 33)).alloc (.cells #[.int .u64 0,.slice none 0 0,.slice none 0 0,.bool false] 49)=W0 at *
 have HW0:Hid (w.heap.size+1<W0.heap.size):=Lib.hid (blk_lt Q2.out)
 go_wp2_with fail
 refine HCALL.out.mono ?_
 rintro e W1 ⟨⟨val1,rfl,hvh⟩,hb1⟩
 obtain ⟨ba,ka,bc,kc,rfl,_⟩:=IsV.form hvh
 have HB1:=Lib.hid (HB.out.trans (hb1.mono HB.out.size))
 have P2:=Lib.hid (blk_below Q2.out hb1 (blk_lt Q2.out))
 have HVH:=Lib.hid hvh
 clear hb1 hvh s0 s1 s2 HCALL HB Q2
 go_upto_region 2 with (fail)
 have hba:Below W1.heap.size W1 (W1.alloc (.cells #[.int .u64 v.num,.slice ba v.bytes.length bc,.slice ka v.kids.length kc,.bool v.has] 49)):=(Below.refl _ _).alloc (Nat.le_refl _) _
 have hn:=heap_alloc_new W1 (.cells #[.int .u64 v.num,.slice ba v.bytes.length bc,.slice ka v.kids.length kc,.bool v.has] 49)
 have HB2:=Lib.hid (HB1.out.trans (hba.mono HB1.out.size))
 have P3:=Lib.hid (blk_below P2.out hba (blk_lt P2.out))
 have HVH2:=Lib.hid (HVH.out.below hba)
 clear hba
 generalize W1.alloc (.cells #[.int .u64 v.num,.slice ba v.bytes.length bc,.slice ka v.kids.length kc,.bool v.has] 49)=W2 at *
 obtain ⟨_,y0,y1,y2,y3⟩:=blk4p hn
 obtain ⟨_,u0,u1,u2,u3⟩:=blk4p P3.out
 have p0:=blk_frozen P3.out 0
 have p1:=blk_frozen P3.out 1
 have p2:=blk_frozen P3.out 2
 have p3:=blk_frozen P3.out 3
 clear hn
 go_wp2
 refine post_gen (fun Wf=>Wf.heap[w.heap.size+1]?=some (.cells #[.int .u64 v.num,.slice ba v.bytes.length bc,.slice ka v.kids.length kc,.bool v.has] 49 (0,0))∧VH (newS w.heap.size) Wf v (.agg #[.int .u64 v.num,.slice ba v.bytes.length bc,.slice ka v.kids.length kc,.bool v.has])∧Below w.heap.size w Wf) ⟨?_,?_⟩ ?_
 · exact blk_set4 (w:=W2) P3.out _ _ _ _
 · exact tree_end HB2.out (by omega) HW0.out HVH2.out _ _ _ _
 · rintro Wf ⟨e1,e2,e3⟩
   obtain ⟨_,d0,d1,d2,d3⟩:=blk4p e1
   exact bodyPost_ret (v:=.agg #[.int .u64 v.num,.slice ba v.bytes.length bc,.slice ka v.kids.length kc,.bool v.has]) (by simp [results,Tryd.results40,go_sem,d0,d1,d2,d3]) rfl ⟨⟨_,rfl,e2⟩,e3⟩
end Go.Proofs.YtachghaegokpdaaDoor
