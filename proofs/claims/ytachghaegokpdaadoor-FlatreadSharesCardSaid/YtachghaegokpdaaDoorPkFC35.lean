/-
  The package view's Tree: of a list, whatever stands behind it. Conditions: those that each theorem names.
-/
import Derived.Test.YtachghaegokpdaaDoorPkFC34
import Derived.Deep.MidRow
import Derived.Deep.RegionHeld3
import Derived.Deep.Cut
import Derived.BigQuiet
namespace Go.Proofs.YtachghaegokpdaaDoor
open Go.ChangeShapes Go.WideShapes Go.ChangeAt Go.RowKit Go.Shelf
def KidAtS (ss:List (CRec × Value))(es:List (SCho × Value))(room:Nat):Prop:=
 ∀ (w:World) (base:Nat) (sv ev:Value) (root:Int) (k:Nat) (ref lists:Int) (q:PV) (v:Value) (i:Nat),CRows base w ss es sv ev→k≤255 → -9223372036854775800≤lists→lists≤9223372036854775807→(i:Int)≤9223372036854775807→AskOk (Shown (ss.map Prod.fst) room) true w v i k ref lists q →
  Calls Tryd.prog 85 #[.agg #[sv,ev,.int .i64 root],.agg #[.int .u8 k,.int .i64 ref,.int .i64 lists],v,.int .i64 i,.int .i64 room] w (TreePost w q)
def StructAtS (ss:List (CRec × Value))(es:List (SCho × Value))(room:Nat):Prop:=
 ∀ (w:World) (base:Nat) (sv ev:Value) (root:Int) (k:Nat) (ref lists:Int) (q:PV) (v:Value),CRows base w ss es sv ev→sortP k lists=4→Shown (ss.map Prod.fst) room w v k ref lists q →
  Calls Tryd.prog 61 #[.agg #[sv,ev,.int .i64 root],.int .i64 ref,v,.int .i64 room] w (TreePost w q)
def ListAtS (ss:List (CRec × Value))(es:List (SCho × Value))(room:Nat):Prop:=
 ∀ (w:World) (base:Nat) (sv ev:Value) (root:Int) (k:Nat) (ref lists:Int) (q:PV) (v:Value),CRows base w ss es sv ev→k≤255 → -9223372036854775799≤lists→lists≤9223372036854775807→sortP k lists=3→Shown (ss.map Prod.fst) room w v k ref lists q →
  Calls Tryd.prog 107 #[.agg #[sv,ev,.int .i64 root],.agg #[.int .u8 k,.int .i64 ref,.int .i64 (lists-1)],v,.int .i64 room] w (TreePost w q)
theorem sort_le (k:Nat)(lists:Int):sortP k lists≤4∧(sortP k lists=3→0<lists):=by
 unfold sortP
 split
 · exact ⟨by decide,fun _=>by assumption⟩
 split
 · exact ⟨by decide,fun h=>by cases h⟩
 split
 · exact ⟨by decide,fun h=>by cases h⟩
 split
 · exact ⟨by decide,fun h=>by cases h⟩
 split
 · exact ⟨by decide,fun h=>by cases h⟩
 · exact ⟨by decide,fun h=>by cases h⟩
set_option maxRecDepth 100000 in
set_option maxHeartbeats 16000000 in
theorem skidtree {ss:List (CRec × Value)}{es:List (SCho × Value)}(room:Nat)(_:room≤12)(hSt:StructAtS ss es room)(hLi:ListAtS ss es room):KidAtS ss es room:=by
 intro w base sv ev root k ref lists q v i h hk hl0 hl1 hi hask
 obtain ⟨sa,sc,ea,ec,rfl,rfl⟩:=h.forms
 obtain ⟨h0,h1,h2,h3⟩:=three_start w #[.slice sa ss.length sc,.slice ea es.length ec,.int .i64 root] #[.int .u8 k,.int .i64 ref,.int .i64 lists] #[.int .u64 0,.slice none 0 0,.slice none 0 0,.bool false] 33 58 49
 have HCW:=Lib.hid h
 have HASK:=Lib.hid hask
 have HB:=Lib.hid h0
 have Q1:=Lib.hid h1
 have Q2:=Lib.hid h2
 have Q3:=Lib.hid h3
 have HST:=Lib.hid hSt
 have HLI:=Lib.hid hLi
 have hs4:=sort_le k lists
 have hs0:=hask.sort
 clear h0 h1 h2 h3 h hask hSt hLi
 have hs:sortP k lists=1∨sortP k lists=2∨sortP k lists=3∨sortP k lists=4:=by omega
 have HS3:=Lib.hid hs4.2
 clear hs0 hs4
 rcases hs with hs|hs|hs|hs
 · obtain ⟨hqe,hqn,T,r,f,rv,rfl,hm,hc⟩:=HASK.out.num hs
   have HQE:=Lib.hid hqe
   have HQN:=Lib.hid hqn
   have HC:=Lib.hid hc
   have mN:=hm.at (by decide)
   have eN:=hm.enters
   clear hqe hqn hc hm
   go_enter Tryd.func85,Tryd.ntmps85
   go_upto_region 1 with (fail)
   generalize ((w.alloc (.cells #[.slice sa ss.length sc,.slice ea es.length ec,.int .i64 root] 33)).alloc (.cells #[.int .u8 k,.int .i64 ref,.int .i64 lists] 58)).alloc (.cells #[.int .u64 0,.slice none 0 0,.slice none 0 0,.bool false] 49)=W0 at *
   obtain ⟨_,t0,t1,t2,_⟩:=blk3 Q2.out
   go_wp2_with fail
   refine (sorts_any k ref lists W0).mono ?_
   rintro e W1 ⟨rfl,hb1⟩
   have HB1:=Lib.hid (HB.out.trans (hb1.mono HB.out.size))
   have P1:=Lib.hid (blk_below Q1.out hb1 (blk_lt Q1.out))
   have P2:=Lib.hid (blk_below Q2.out hb1 (blk_lt Q2.out))
   have P3:=Lib.hid (blk_below Q3.out hb1 (blk_lt Q3.out))
   have HR1:Hid (w.heap.size+1+1<W1.heap.size):=Lib.hid (blk_lt P3.out)
   clear hb1 t0 t1 t2 Q1 Q2 Q3 HB
   rw [hs]
   clear hs
   go_wp2_with fail
   refine (HC.out W1 HB1.out).mono ?_
   rintro e W2 ⟨rfl,hb2⟩
   have HB2:=Lib.hid (HB1.out.trans (hb2.mono HB1.out.size))
   have P4:=Lib.hid (blk_below P3.out hb2 (blk_lt P3.out))
   clear hb2 mN eN
   obtain ⟨_,u0,u1,u2,u3⟩:=blk4p (P4.out)
   have p0:=blk_frozen (P4.out) 0
   have p1:=blk_frozen (P4.out) 1
   have p2:=blk_frozen (P4.out) 2
   have p3:=blk_frozen (P4.out) 3
   go_wp2
   refine post_gen (fun Wf=>Wf.heap[w.heap.size+1+1]?=some (.cells #[.int .u64 q.num,.slice none 0 0,.slice none 0 0,.bool false] 49 (0,0))∧VH (newS w.heap.size) Wf q (.agg #[.int .u64 q.num,.slice none 0 0,.slice none 0 0,.bool false])∧Below w.heap.size w Wf) ⟨?_,?_⟩ ?_
   · exact blk_set4 (w:=W2) (P4.out) _ _ _ _
   · exact tree_end (N:=w.heap.size+1+1+1) HB2.out (by omega) (by omega) (by have h:=vh_num (newS (w.heap.size+1+1+1)) W2 q.num (by have:=HQN.out;omega);rw [show numV q.num=q from HQE.out.symm] at h;exact h) _ _ _ _
   · rintro Wf ⟨e1,e2,e3⟩
     obtain ⟨_,d0,d1,d2,d3⟩:=blk4p e1
     exact bodyPost_ret (v:=.tuple #[.agg #[.int .u64 q.num,.slice none 0 0,.slice none 0 0,.bool false],.bool true]) (by simp [results,Tryd.results85,go_sem,d0,d1,d2,d3]) rfl ⟨⟨_,rfl,e2⟩,e3⟩
 · obtain ⟨hqe,hql,T,r,f,rv,rfl,hm,hc⟩:=HASK.out.bytes hs
   have HQE:=Lib.hid hqe
   have HQL:=Lib.hid hql
   have HC:=Lib.hid hc
   have mN:=hm.at (by decide)
   have eN:=hm.enters
   clear hqe hql hc hm
   go_enter Tryd.func85,Tryd.ntmps85
   go_upto_region 1 with (fail)
   generalize ((w.alloc (.cells #[.slice sa ss.length sc,.slice ea es.length ec,.int .i64 root] 33)).alloc (.cells #[.int .u8 k,.int .i64 ref,.int .i64 lists] 58)).alloc (.cells #[.int .u64 0,.slice none 0 0,.slice none 0 0,.bool false] 49)=W0 at *
   obtain ⟨_,t0,t1,t2,_⟩:=blk3 Q2.out
   go_wp2_with fail
   refine (sorts_any k ref lists W0).mono ?_
   rintro e W1 ⟨rfl,hb1⟩
   have HB1:=Lib.hid (HB.out.trans (hb1.mono HB.out.size))
   have P1:=Lib.hid (blk_below Q1.out hb1 (blk_lt Q1.out))
   have P2:=Lib.hid (blk_below Q2.out hb1 (blk_lt Q2.out))
   have P3:=Lib.hid (blk_below Q3.out hb1 (blk_lt Q3.out))
   have HR1:Hid (w.heap.size+1+1<W1.heap.size):=Lib.hid (blk_lt P3.out)
   clear hb1 t0 t1 t2 Q1 Q2 Q3 HB
   rw [hs]
   clear hs
   go_wp2_with fail
   refine (HC.out W1 HB1.out).mono ?_
   rintro e W2 ⟨⟨A,cap,rfl,hby⟩,hb2⟩
   have HB2:=Lib.hid (HB1.out.trans (hb2.mono HB1.out.size))
   have P4:=Lib.hid (blk_below P3.out hb2 (blk_lt P3.out))
   have HS2:Hid (W1.heap.size≤W2.heap.size):=Lib.hid hb2.size
   have HMEM:=Lib.hid (bytes_mem hby)
   have HCL:=Lib.hid (bclone_any W2 A q.bytes cap hby HQL.out)
   clear hb2 hby mN eN
   go_wp2_with fail
   refine HCL.out.mono ?_
   rintro e W3 ⟨⟨v,rfl,ho⟩,hb3⟩
   obtain ⟨A2,c2,rfl⟩:=ownsRow_form ho
   have HB3:=Lib.hid (HB2.out.trans (hb3.mono HB2.out.size))
   have P5:=Lib.hid (blk_below P4.out hb3 (blk_lt P4.out))
   have HVH:Hid (VH (newS W2.heap.size) W3 (.mk 0 q.bytes [] false) (.agg #[.int .u64 0,.slice A2 q.bytes.length c2,.slice none 0 0,.bool false])):=Lib.hid (vh_bytes ho HMEM.out (fun k hk=>by unfold newS;simp;omega))
   rw [←HQE.out] at HVH
   clear hb3 ho HCL
   obtain ⟨_,u0,u1,u2,u3⟩:=blk4p (P5.out)
   have p0:=blk_frozen (P5.out) 0
   have p1:=blk_frozen (P5.out) 1
   have p2:=blk_frozen (P5.out) 2
   have p3:=blk_frozen (P5.out) 3
   go_wp2
   refine post_gen (fun Wf=>Wf.heap[w.heap.size+1+1]?=some (.cells #[.int .u64 0,.slice A2 q.bytes.length c2,.slice none 0 0,.bool false] 49 (0,0))∧VH (newS w.heap.size) Wf q (.agg #[.int .u64 0,.slice A2 q.bytes.length c2,.slice none 0 0,.bool false])∧Below w.heap.size w Wf) ⟨?_,?_⟩ ?_
   · exact blk_set4 (w:=W3) (P5.out) _ _ _ _
   · exact tree_end HB3.out (by omega) (by have:=HR1.out;have:=HS2.out;omega) HVH.out _ _ _ _
   · rintro Wf ⟨e1,e2,e3⟩
     obtain ⟨_,d0,d1,d2,d3⟩:=blk4p e1
     exact bodyPost_ret (v:=.tuple #[.agg #[.int .u64 0,.slice A2 q.bytes.length c2,.slice none 0 0,.bool false],.bool true]) (by simp [results,Tryd.results85,go_sem,d0,d1,d2,d3]) rfl ⟨⟨_,rfl,e2⟩,e3⟩
 · obtain ⟨T,r,f,rv,rfl,hm,hc⟩:=HASK.out.list hs
   have HC:=Lib.hid hc
   have HS:=Lib.hid hs
   have HS3L:=Lib.hid (HS3.out hs)
   have mN:=hm.at (by decide)
   have eN:=hm.enters
   have HEL:=Lib.hid (fun W=>element_any k ref lists (by have:=HS3.out hs;omega) W)
   clear hc hm
   go_enter Tryd.func85,Tryd.ntmps85
   go_upto_region 1 with (fail)
   generalize ((w.alloc (.cells #[.slice sa ss.length sc,.slice ea es.length ec,.int .i64 root] 33)).alloc (.cells #[.int .u8 k,.int .i64 ref,.int .i64 lists] 58)).alloc (.cells #[.int .u64 0,.slice none 0 0,.slice none 0 0,.bool false] 49)=W0 at *
   obtain ⟨_,t0,t1,t2,_⟩:=blk3 Q2.out
   go_wp2_with fail
   refine (sorts_any k ref lists W0).mono ?_
   rintro e W1 ⟨rfl,hb1⟩
   have HB1:=Lib.hid (HB.out.trans (hb1.mono HB.out.size))
   have P1:=Lib.hid (blk_below Q1.out hb1 (blk_lt Q1.out))
   have P2:=Lib.hid (blk_below Q2.out hb1 (blk_lt Q2.out))
   have P3:=Lib.hid (blk_below Q3.out hb1 (blk_lt Q3.out))
   have HR1:Hid (w.heap.size+1+1<W1.heap.size):=Lib.hid (blk_lt P3.out)
   clear hb1 t0 t1 t2 Q1 Q2 Q3 HB
   rw [hs]
   clear hs
   obtain ⟨_,s0,s1,s2,_⟩:=blk3 P1.out
   obtain ⟨_,s3,s4,s5,_⟩:=blk3 P2.out
   go_upto_region 7 with (fail)
   refine wp_region_noPanic ?_
   refine wp_region_held_drew (S:=(fun w'=>w'.cell? ⟨w.heap.size,0,none⟩=some (.slice sa ss.length sc)∧w'.cell? ⟨w.heap.size,1,none⟩=some (.slice ea es.length ec)∧w'.cell? ⟨w.heap.size,2,none⟩=some (.int .i64 root)∧w'.cell? ⟨w.heap.size+1,0,none⟩=some (.int .u8 k)∧w'.cell? ⟨w.heap.size+1,1,none⟩=some (.int .i64 ref)∧w'.cell? ⟨w.heap.size+1,2,none⟩=some (.int .i64 lists))) (by kernel_rfl) ⟨s0,s1,s2,s3,s4,s5⟩ ?_
   intro hS
   refine wpAnyH_take (i:=0) (v:=.agg #[.slice sa ss.length sc,.slice ea es.length ec,.int .i64 root]) rfl (by kernel_rfl) (by kernel_rfl) (by kernel_rfl) (fun _ _ _ h=>h) (Or.inl ⟨by rfl,?_⟩) hS ?_
   · intro w' hSw
     obtain ⟨s0,s1,s2,s3,s4,s5⟩:=hSw
     go_simp
   simp only [Act.put,List.getElem_toArray,List.getElem_cons_zero,List.setIfInBounds_toArray,List.set_cons_zero,List.set_cons_succ]
   refine wpAnyH_take (i:=1) (v:=.agg #[.int .u8 k,.int .i64 ref,.int .i64 lists]) rfl (by kernel_rfl) (by kernel_rfl) (by kernel_rfl) (fun _ _ _ h=>h) (Or.inl ⟨by rfl,?_⟩) hS ?_
   · intro w' hSw
     obtain ⟨s0,s1,s2,s3,s4,s5⟩:=hSw
     go_simp
   simp only [Act.put,List.getElem_toArray,List.getElem_cons_succ,List.getElem_cons_zero,List.setIfInBounds_toArray,List.set_cons_zero,List.set_cons_succ]
   refine wpAnyH_take (i:=3) (v:=.iface T r) rfl (by kernel_rfl) (by kernel_rfl) (by kernel_rfl) (fun _ _ _ h=>h) (Or.inl ⟨by rfl,?_⟩) hS ?_
   · intro w' hSw
     obtain ⟨s0,s1,s2,s3,s4,s5⟩:=hSw
     go_simp
   simp only [Act.put,List.getElem_toArray,List.getElem_cons_succ,List.getElem_cons_zero,List.setIfInBounds_toArray,List.set_cons_zero,List.set_cons_succ]
   refine wpAnyH_take (i:=4) (v:=.int .i64 i) rfl (by kernel_rfl) (by kernel_rfl) (by kernel_rfl) (fun _ _ _ h=>h) (Or.inl ⟨by rfl,?_⟩) hS ?_
   · intro w' hSw
     obtain ⟨s0,s1,s2,s3,s4,s5⟩:=hSw
     go_simp
   simp only [Act.put,List.getElem_toArray,List.getElem_cons_succ,List.getElem_cons_zero,List.setIfInBounds_toArray,List.set_cons_zero,List.set_cons_succ]
   refine wpAnyH_take (i:=6) (v:=.int .i64 room) rfl (by kernel_rfl) (by kernel_rfl) (by kernel_rfl) (fun _ _ _ h=>h) (Or.inl ⟨by rfl,?_⟩) hS ?_
   · intro w' hSw
     obtain ⟨s0,s1,s2,s3,s4,s5⟩:=hSw
     go_simp
   simp only [Act.put,List.getElem_toArray,List.getElem_cons_succ,List.getElem_cons_zero,List.setIfInBounds_toArray,List.set_cons_zero,List.set_cons_succ]
   refine wpAnyH_ready (rs:=[2]) (by kernel_rfl) (by decide) (AllReadyH.cons rfl (fun K hK=>?_) AllReadyH.nil)
   rw [if_pos (by kernel_rfl)]
   go_simp
   refine (HEL.out W1.drew).mono ?_
   rintro e Wh1 ⟨rfl,hb1⟩
   have hx1:Below W1.heap.size W1 Wh1:=(Below.refl _ W1).drew.trans hb1
   have ns0:=cell_stays hx1 s0
   have ns1:=cell_stays hx1 s1
   have ns2:=cell_stays hx1 s2
   have ns3:=cell_stays hx1 s3
   have ns4:=cell_stays hx1 s4
   have ns5:=cell_stays hx1 s5
   refine hK.out _ _ ⟨ns0,ns1,ns2,ns3,ns4,ns5⟩ (fun hS=>?_)
   clear ns0 ns1 ns2 ns3 ns4 ns5
   refine wpAnyH_ready (rs:=[5]) (by kernel_rfl) (by decide) (AllReadyH.cons rfl (fun K hK=>?_) AllReadyH.nil)
   rw [if_pos (by kernel_rfl)]
   go_simp
   refine (HC.out Wh1 (HB1.out.trans (hx1.mono HB1.out.size))).mono ?_
   rintro e Wh2 ⟨⟨lv,rfl,hlv⟩,hb2⟩
   have hx2:Below W1.heap.size W1 Wh2:=hx1.trans (hb2.mono hx1.size)
   have ns0:=cell_stays hx2 s0
   have ns1:=cell_stays hx2 s1
   have ns2:=cell_stays hx2 s2
   have ns3:=cell_stays hx2 s3
   have ns4:=cell_stays hx2 s4
   have ns5:=cell_stays hx2 s5
   refine hK.out _ _ ⟨ns0,ns1,ns2,ns3,ns4,ns5⟩ (fun hS=>?_)
   clear ns0 ns1 ns2 ns3 ns4 ns5
   refine wpAnyH_ready (rs:=[7]) (by kernel_rfl) (by decide) (AllReadyH.cons rfl (fun K hK=>?_) AllReadyH.nil)
   rw [if_pos (by kernel_rfl)]
   go_simp
   refine (HLI.out Wh2 base _ _ root k ref lists q lv (HCW.out.below (HB1.out.trans (hx2.mono HB1.out.size))) hk (by have:=HS3L.out;omega) hl1 HS.out hlv).mono ?_
   rintro e Wh3 ⟨⟨val6,rfl,hvh6⟩,hb3⟩
   have hx3:Below W1.heap.size W1 Wh3:=hx2.trans (hb3.mono hx2.size)
   have ns0:=cell_stays hx3 s0
   have ns1:=cell_stays hx3 s1
   have ns2:=cell_stays hx3 s2
   have ns3:=cell_stays hx3 s3
   have ns4:=cell_stays hx3 s4
   have ns5:=cell_stays hx3 s5
   obtain ⟨ba6,ka6,bc6,kc6,rfl,_⟩:=IsV.form hvh6
   refine hK.out _ _ ⟨ns0,ns1,ns2,ns3,ns4,ns5⟩ (fun hS=>?_)
   clear ns0 ns1 ns2 ns3 ns4 ns5
   refine wpAnyH_take (i:=8) (v:=.agg #[.int .u64 q.num,.slice ba6 q.bytes.length bc6,.slice ka6 q.kids.length kc6,.bool q.has]) rfl (by kernel_rfl) (by kernel_rfl) (by kernel_rfl) (fun _ _ _ h=>h) (Or.inl ⟨by rfl,?_⟩) hS ?_
   · intro w' hSw
     obtain ⟨s0,s1,s2,s3,s4,s5⟩:=hSw
     go_simp
   simp only [Act.put,List.getElem_toArray,List.getElem_cons_succ,List.getElem_cons_zero,List.setIfInBounds_toArray,List.set_cons_zero,List.set_cons_succ]
   refine wpAnyH_take (i:=9) (v:=.bool true) rfl (by kernel_rfl) (by kernel_rfl) (by kernel_rfl) (fun _ _ _ h=>h) (Or.inl ⟨by rfl,?_⟩) hS ?_
   · intro w' hSw
     obtain ⟨s0,s1,s2,s3,s4,s5⟩:=hSw
     go_simp
   simp only [Act.put,List.getElem_toArray,List.getElem_cons_succ,List.getElem_cons_zero,List.setIfInBounds_toArray,List.set_cons_zero,List.set_cons_succ]
   have hR4:=blk_below P3.out hx3 (blk_lt P3.out)
   obtain ⟨_,u0,u1,u2,u3⟩:=blk4p hR4
   have hthere:Wh3.there (w.heap.size+1+1) 0 4:=fun j hj=>by
    have h4:j=0∨j=1∨j=2∨j=3:=by omega
    rcases h4 with rfl|rfl|rfl|rfl
    · exact ⟨by rw [Nat.add_zero,u0];rfl,blk_frozen hR4 _⟩
    · exact ⟨by rw [Nat.zero_add,u1];rfl,blk_frozen hR4 _⟩
    · exact ⟨by rw [Nat.zero_add,u2];rfl,blk_frozen hR4 _⟩
    · exact ⟨by rw [Nat.zero_add,u3];rfl,blk_frozen hR4 _⟩
   refine wpAnyH_ready (rs:=[10]) (by kernel_rfl) (by decide) (AllReadyH.cons rfl (fun K hK=>?_) AllReadyH.nil)
   rw [if_pos (by kernel_rfl)]
   refine wp_store_mid 49 (.tmp 10) (.tmp 39) rfl (w.heap.size+1+1) 0 #[.int .u64 q.num,.slice ba6 q.bytes.length bc6,.slice ka6 q.kids.length kc6,.bool q.has] rfl rfl hthere (by kernel_rfl) (Array.all_eq_true_iff_forall_mem.2 (by intro x hx;simp at hx;rcases hx with rfl|rfl|rfl|rfl<;>rfl)) ?_
   change K _ (set4 Wh3 (w.heap.size+1+1) (.int .u64 q.num) (.slice ba6 q.bytes.length bc6) (.slice ka6 q.kids.length kc6) (.bool q.has))
   have hks:∀ (b:Nat) (o:Nat) (c:Value),b<w.heap.size+1+1→W1.cell? ⟨b,o,none⟩=some c→(set4 Wh3 (w.heap.size+1+1) (.int .u64 q.num) (.slice ba6 q.bytes.length bc6) (.slice ka6 q.kids.length kc6) (.bool q.has)).cell? ⟨b,o,none⟩=some c:=fun b o c hb hc=>keep4 (cell_stays hx3 hc) (by show b≠_;omega)
   refine hK.out _ _ ⟨hks _ _ _ (by omega) s0,hks _ _ _ (by omega) s1,hks _ _ _ (by omega) s2,hks _ _ _ (by omega) s3,hks _ _ _ (by omega) s4,hks _ _ _ (by omega) s5⟩ (fun hS=>?_)
   refine wpAnyH_take (i:=11) (v:=.bool true) rfl (by kernel_rfl) (by kernel_rfl) (by kernel_rfl) (fun _ _ _ h=>h) (Or.inl ⟨by rfl,?_⟩) hS ?_
   · intro w' hSw
     obtain ⟨s0,s1,s2,s3,s4,s5⟩:=hSw
     go_simp
   simp only [Act.put,List.getElem_toArray,List.getElem_cons_succ,List.getElem_cons_zero,List.setIfInBounds_toArray,List.set_cons_zero,List.set_cons_succ]
   refine wpAnyH_done (by kernel_rfl) ?_ _
   refine NoPanic.normal ?_
   try simp only [Exit.then]
   have he1:=blk_set4 hR4 (.int .u64 q.num) (.slice ba6 q.bytes.length bc6) (.slice ka6 q.kids.length kc6) (.bool q.has)
   have he2:=tree_end (R:=w.heap.size+1+1) (HB1.out.trans (hx3.mono HB1.out.size)) (by omega) (by have:=HR1.out;have:=hx2.size;omega) hvh6 (.int .u64 q.num) (.slice ba6 q.bytes.length bc6) (.slice ka6 q.kids.length kc6) (.bool q.has)
   replace he1:(set4 Wh3 (w.heap.size+1+1) (.int .u64 q.num) (.slice ba6 q.bytes.length bc6) (.slice ka6 q.kids.length kc6) (.bool q.has)).heap[w.heap.size+1+1]?=_:=he1
   have HE1:=Lib.hid he1
   have HE2:=Lib.hid he2
   clear he1 he2 hS hks hthere u0 u1 u2 u3 hR4 hlv hvh6
   generalize set4 Wh3 (w.heap.size+1+1) (.int .u64 q.num) (.slice ba6 q.bytes.length bc6) (.slice ka6 q.kids.length kc6) (.bool q.has)=W9 at *
   go_wp2
   refine post_gen (fun Wf=>Wf.heap[w.heap.size+1+1]?=some (.cells #[.int .u64 q.num,.slice ba6 q.bytes.length bc6,.slice ka6 q.kids.length kc6,.bool q.has] 49 (0,0))∧VH (newS w.heap.size) Wf q (.agg #[.int .u64 q.num,.slice ba6 q.bytes.length bc6,.slice ka6 q.kids.length kc6,.bool q.has])∧Below w.heap.size w Wf) ⟨HE1.out,HE2.out⟩ ?_
   rintro Wf ⟨e1,e2,e3⟩
   obtain ⟨_,d0,d1,d2,d3⟩:=blk4p e1
   exact bodyPost_ret (v:=.tuple #[.agg #[.int .u64 q.num,.slice ba6 q.bytes.length bc6,.slice ka6 q.kids.length kc6,.bool q.has],.bool true]) (by simp [results,Tryd.results85,go_sem,d0,d1,d2,d3]) rfl ⟨⟨_,rfl,e2⟩,e3⟩
 · obtain ⟨T,r,f,rv,rfl,hm,hc⟩:=HASK.out.sub hs
   have HC:=Lib.hid hc
   have HS:=Lib.hid hs
   have mN:=hm.at (by decide)
   have eN:=hm.enters
   clear hc hm
   go_enter Tryd.func85,Tryd.ntmps85
   go_upto_region 1 with (fail)
   generalize ((w.alloc (.cells #[.slice sa ss.length sc,.slice ea es.length ec,.int .i64 root] 33)).alloc (.cells #[.int .u8 k,.int .i64 ref,.int .i64 lists] 58)).alloc (.cells #[.int .u64 0,.slice none 0 0,.slice none 0 0,.bool false] 49)=W0 at *
   obtain ⟨_,t0,t1,t2,_⟩:=blk3 Q2.out
   go_wp2_with fail
   refine (sorts_any k ref lists W0).mono ?_
   rintro e W1 ⟨rfl,hb1⟩
   have HB1:=Lib.hid (HB.out.trans (hb1.mono HB.out.size))
   have P1:=Lib.hid (blk_below Q1.out hb1 (blk_lt Q1.out))
   have P2:=Lib.hid (blk_below Q2.out hb1 (blk_lt Q2.out))
   have P3:=Lib.hid (blk_below Q3.out hb1 (blk_lt Q3.out))
   have HR1:Hid (w.heap.size+1+1<W1.heap.size):=Lib.hid (blk_lt P3.out)
   clear hb1 t0 t1 t2 Q1 Q2 Q3 HB
   rw [hs]
   clear hs
   go_wp2_with fail
   refine (HC.out W1 HB1.out).mono ?_
   rintro e W2 ⟨hw2,hb2⟩
   have HB2:=Lib.hid (HB1.out.trans (hb2.mono HB1.out.size))
   have P4:=Lib.hid (blk_below P3.out hb2 (blk_lt P3.out))
   rcases hw2 with ⟨sv2,rfl,hsv⟩|⟨_,rfl,hnil⟩
   · have HSTC:Hid (Calls Tryd.prog 61 #[.agg #[.slice sa ss.length sc,.slice ea es.length ec,.int .i64 root],.int .i64 ref,sv2,.int .i64 room] W2 (TreePost W2 q)):=Lib.hid (HST.out W2 base _ _ root k ref lists q sv2 (HCW.out.below HB2.out) HS.out hsv)
     have HS2:Hid (W1.heap.size≤W2.heap.size):=Lib.hid hb2.size
     obtain ⟨_,s0,s1,s2,_⟩:=blk3 (blk_below P1.out hb2 (blk_lt P1.out))
     obtain ⟨_,t0,t1,t2,_⟩:=blk3 (blk_below P2.out hb2 (blk_lt P2.out))
     simp only [if_true]
     clear hb2 hsv mN eN
     go_wp2_with fail
     refine HSTC.out.mono ?_
     rintro e W3 ⟨⟨val6,rfl,hvh6⟩,hb3⟩
     obtain ⟨ba6,ka6,bc6,kc6,rfl,_⟩:=IsV.form hvh6
     have HB3:=Lib.hid (HB2.out.trans (hb3.mono HB2.out.size))
     have P5:=Lib.hid (blk_below P4.out hb3 (blk_lt P4.out))
     have HVH:=Lib.hid hvh6
     clear hb3 hvh6 s0 s1 s2 t0 t1 t2
     obtain ⟨_,u0,u1,u2,u3⟩:=blk4p (P5.out)
     have p0:=blk_frozen (P5.out) 0
     have p1:=blk_frozen (P5.out) 1
     have p2:=blk_frozen (P5.out) 2
     have p3:=blk_frozen (P5.out) 3
     go_wp2
     refine post_gen (fun Wf=>Wf.heap[w.heap.size+1+1]?=some (.cells #[.int .u64 q.num,.slice ba6 q.bytes.length bc6,.slice ka6 q.kids.length kc6,.bool q.has] 49 (0,0))∧VH (newS w.heap.size) Wf q (.agg #[.int .u64 q.num,.slice ba6 q.bytes.length bc6,.slice ka6 q.kids.length kc6,.bool q.has])∧Below w.heap.size w Wf) ⟨?_,?_⟩ ?_
     · exact blk_set4 (w:=W3) (P5.out) _ _ _ _
     · exact tree_end HB3.out (by omega) (by have:=HR1.out;have:=HS2.out;omega) HVH.out _ _ _ _
     · rintro Wf ⟨e1,e2,e3⟩
       obtain ⟨_,d0,d1,d2,d3⟩:=blk4p e1
       exact bodyPost_ret (v:=.tuple #[.agg #[.int .u64 q.num,.slice ba6 q.bytes.length bc6,.slice ka6 q.kids.length kc6,.bool q.has],.bool true]) (by simp [results,Tryd.results85,go_sem,d0,d1,d2,d3]) rfl ⟨⟨_,rfl,e2⟩,e3⟩
   · have HQE:=Lib.hid hnil
     clear hb2 hnil mN eN
     obtain ⟨_,u0,u1,u2,u3⟩:=blk4p (P4.out)
     have p0:=blk_frozen (P4.out) 0
     have p1:=blk_frozen (P4.out) 1
     have p2:=blk_frozen (P4.out) 2
     have p3:=blk_frozen (P4.out) 3
     go_wp2
     refine post_gen (fun Wf=>Wf.heap[w.heap.size+1+1]?=some (.cells #[.int .u64 0,.slice none 0 0,.slice none 0 0,.bool false] 49 (0,0))∧VH (newS w.heap.size) Wf q (.agg #[.int .u64 0,.slice none 0 0,.slice none 0 0,.bool false])∧Below w.heap.size w Wf) ⟨?_,?_⟩ ?_
     · exact blk_set4 (w:=W2) (P4.out) _ _ _ _
     · exact tree_end (N:=w.heap.size+1+1+1) HB2.out (by omega) (by omega) (by rw [HQE.out];exact vh_nil _ _) _ _ _ _
     · rintro Wf ⟨e1,e2,e3⟩
       obtain ⟨_,d0,d1,d2,d3⟩:=blk4p e1
       exact bodyPost_ret (v:=.tuple #[.agg #[.int .u64 0,.slice none 0 0,.slice none 0 0,.bool false],.bool true]) (by simp [results,Tryd.results85,go_sem,d0,d1,d2,d3]) rfl ⟨⟨_,rfl,e2⟩,e3⟩
end Go.Proofs.YtachghaegokpdaaDoor
namespace Go.Proofs.YtachghaegokpdaaDoor
open Go.ChangeShapes Go.WideShapes Go.ChangeAt Go.RowKit Go.Shelf
def SLtAt (w:World)(B:Nat)(ks:List PV)(sv ev:Value)(root:Int)(tcells:Array Value)(x:Value)(wr:World):Prop:=∃ (j:Nat) (A:Option Addr) (cap:Nat) (l:List KV),j≤ks.length∧x=.int .i64 j∧wr.heap[B+1+1+1]?=some (.cells #[.int .u64 0,.slice none 0 0,.slice A j cap,.bool false] 49 (0,0)) ∧
 wr.ownsRow (B+1+1+1+1) 49 4 (.slice A j cap) j (kvsCells l)∧KidsIn (rowS (B+1+1+1+1) (.slice A j cap)) wr l∧l.map KV.v=ks.take j∧wr.heap[B+1+1]?=some (.cells #[.int .u64 0,.slice none 0 0,.slice none 0 0,.bool false] 49 (0,0)) ∧
 wr.heap[B]?=some (.cells #[sv,ev,.int .i64 root] 33 (0,0))∧wr.heap[B+1]?=some (.cells tcells 58 (0,0))∧Exc B B w wr
theorem shown_list {ss:List CRec}{room:Nat}{w:World}{v:Value}{k:Nat}{ref lists:Int}{q:PV}(hs:sortP k lists=3)(h:Shown ss room w v k ref lists q):ListHead w v q∧∀ j (hj:j<q.kids.length),∃ r,room=r+1∧AskOk (Shown ss r) false w v j k ref (lists-1) (q.kids[j]'hj):=by
 cases room with
 | zero =>
  obtain ⟨_,h1,h2⟩:=h
  exact ⟨h1,fun j hj=>by rw [h2] at hj;exact absurd hj (Nat.not_lt_zero _)⟩
 | succ r =>
  rcases h with ⟨_,h1,h2⟩|⟨h1,_⟩
  · exact ⟨h1,fun j hj=>⟨r,rfl,h2 j hj⟩⟩
  · rw [hs] at h1;cases h1
set_option maxRecDepth 100000 in
set_option maxHeartbeats 8000000 in
theorem slisttree {ss:List (CRec × Value)}{es:List (SCho × Value)}(room:Nat)(hr12:room≤12)(hnx:∀ r,room=r+1→KidAtS ss es r):ListAtS ss es room:=by
 intro w base sv ev root k ref lists x v h hk hl0 hl1 hs hsh
 obtain ⟨sa,sc,ea,ec,rfl,rfl⟩:=h.forms
 obtain ⟨h0,h1,h2,h3,h4⟩:=four_blk w #[.slice sa ss.length sc,.slice ea es.length ec,.int .i64 root] #[.int .u8 k,.int .i64 ref,.int .i64 (lists-1)] #[.int .u64 0,.slice none 0 0,.slice none 0 0,.bool false] #[.int .u64 0,.slice none 0 0,.slice none 0 0,.bool false] 33 58 49 49
 obtain ⟨hhead,hel⟩:=shown_list hs hsh
 have hkl:x.kids.length≤1000000:=hhead.few
 have HCW:=Lib.hid h
 have HHD:=Lib.hid (hhead.later h0)
 have HEL:=Lib.hid hel
 have HB:=Lib.hid h0
 have Q1:=Lib.hid h1
 have Q2:=Lib.hid h2
 have Q3:=Lib.hid h3
 have Q4:=Lib.hid h4
 have HNX:=Lib.hid hnx
 have HX0:=Lib.hid hhead.bare
 clear h0 h1 h2 h3 h4 h hsh hhead hel hnx hs
 go_enter Tryd.func107,Tryd.ntmps107
 go_upto_region 2 with (fail)
 generalize ((((w.alloc (.cells #[.slice sa ss.length sc,.slice ea es.length ec,.int .i64 root] 33)).alloc (.cells #[.int .u8 k,.int .i64 ref,.int .i64 (lists-1)] 58)).alloc (.cells #[.int .u64 0,.slice none 0 0,.slice none 0 0,.bool false] 49)).alloc (.cells #[.int .u64 0,.slice none 0 0,.slice none 0 0,.bool false] 49))=W0 at *
 go_wp2_with fail
 refine (slength_any W0 x v HHD.out).mono ?_
 rintro e W1 ⟨rfl,hb1⟩
 have HB1:=Lib.hid (HB.out.trans (hb1.mono HB.out.size))
 have HST:Hid (SLtAt w w.heap.size x.kids (.slice sa ss.length sc) (.slice ea es.length ec) root #[.int .u8 k,.int .i64 ref,.int .i64 (lists-1)] (.int .i64 ((0:Nat):Int)) W1):=Lib.hid ⟨0,none,0,[],Nat.zero_le _,rfl,blk_below Q4.out hb1 (blk_lt Q4.out),World.ownsRow_nil _ _ _ _,fun q hq=>by (cases hq),rfl,blk_below Q3.out hb1 (blk_lt Q3.out),blk_below Q1.out hb1 (blk_lt Q1.out),blk_below Q2.out hb1 (blk_lt Q2.out),Exc.of_below HB1.out⟩
 have HW1:Hid (Below w.heap.size w W1):=Lib.hid HB1.out
 clear hb1 HB HHD Q1 Q2 Q3 Q4 HB1
 go_wp2_with fail
 go_loopw [16] (fun y wr=>SLtAt w w.heap.size x.kids (.slice sa ss.length sc) (.slice ea es.length ec) root #[.int .u8 k,.int .i64 ref,.int .i64 (lists-1)] y wr) (fun y _=>x.kids.length-(intOf y).toNat)
 case atStart=>exact HST.out
 case round =>
  obtain ⟨j,A,cap,l',hj,rfl,hO,hrow,hkin,hkv,hR,hSB,hTB,hx'⟩:=hrel
  have HO:=Lib.hid hO
  have HROW:=Lib.hid hrow
  have HKI:=Lib.hid hkin
  have HKV:=Lib.hid hkv
  have HR:=Lib.hid hR
  have HSB:=Lib.hid hSB
  have HTB:=Lib.hid hTB
  have HXW:=Lib.hid hx'
  clear hO hrow hkin hkv hR hSB hTB hx'
  have HBW:=Lib.hid (HXW.out.below (Nat.le_refl _))
  by_cases hjl:j<x.kids.length
  · have hji:(j:Int)<(x.kids.length:Int):=by omega
    obtain ⟨r,hr,hask⟩:=HEL.out j hjl
    obtain ⟨q,hq⟩:∃ q,x.kids[j]=q:=⟨_,rfl⟩
    rw [hq] at hask
    have hrn:((room:Int)==0)=false:=by simp;omega
    have hrw:(room:Int)-1=(r:Int):=by omega
    have hrw2:IntKind.i64.wrap (r:Int)=r:=IntWalk.i64_in _ (by omega)
    have HK:Hid (Calls Tryd.prog 85 #[.agg #[.slice sa ss.length sc,.slice ea es.length ec,.int .i64 root],.agg #[.int .u8 k,.int .i64 ref,.int .i64 (lists-1)],.iface 202 (.agg #[v]),.int .i64 j,.int .i64 r] wr (TreePost wr q)):=Lib.hid (HNX.out r hr wr base _ _ root k ref (lists-1) q _ j (HCW.out.below HBW.out) hk (by omega) (by omega) (by omega) (ask_elem (hask.later HBW.out)))
    have HQ:=Lib.hid hq
    obtain ⟨_,s0,s1,s2,_⟩:=blk3 HSB.out
    obtain ⟨_,t0,t1,t2,_⟩:=blk3 HTB.out
    obtain ⟨T,rv,rfl⟩:=hask.iface
    clear hr hq hask
    go_wp2_with fail
    refine HK.out.mono ?_
    rintro e W6 ⟨⟨val6,rfl,hvh6⟩,hb6⟩
    obtain ⟨ba,ka,bcc,kcc,rfl,_⟩:=IsV.form hvh6
    clear s0 s1 s2 t0 t1 t2 HK
    go_upto_region 10 with (fail)
    have q1:Exc w.heap.size wr.heap.size wr (W6.alloc (.cells #[.int .u64 q.num,.slice ba q.bytes.length bcc,.slice ka q.kids.length kcc,.bool q.has] 49)):=(Exc.of_below hb6).alloc hb6.size _
    have q2:VH (newS wr.heap.size) (W6.alloc (.cells #[.int .u64 q.num,.slice ba q.bytes.length bcc,.slice ka q.kids.length kcc,.bool q.has] 49)) q (.agg #[.int .u64 q.num,.slice ba q.bytes.length bcc,.slice ka q.kids.length kcc,.bool q.has]):=VH.alloc (show VH (newS wr.heap.size) W6 q (.agg #[.int .u64 q.num,.slice ba q.bytes.length bcc,.slice ka q.kids.length kcc,.bool q.has]) from hvh6) _
    have q3:(W6.alloc (.cells #[.int .u64 q.num,.slice ba q.bytes.length bcc,.slice ka q.kids.length kcc,.bool q.has] 49)).heap[W6.heap.size]?=some (.cells #[.int .u64 q.num,.slice ba q.bytes.length bcc,.slice ka q.kids.length kcc,.bool q.has] 49 (0,0)):=heap_alloc_new W6 _
    have HK6:=Lib.hid (hb6.alloc hb6.size (.cells #[.int .u64 q.num,.slice ba q.bytes.length bcc,.slice ka q.kids.length kcc,.bool q.has] 49))
    generalize W6.alloc (.cells #[.int .u64 q.num,.slice ba q.bytes.length bcc,.slice ka q.kids.length kcc,.bool q.has] 49)=W7 at *
    generalize W6.heap.size=V at *
    have hOlt:=blk_lt HO.out
    have HX7:=Lib.hid (HXW.out.thenB (Nat.le_refl _) q1)
    have HO7:=Lib.hid (blk_exc HO.out q1 (blk_lt HO.out) (by omega))
    have HROW7:=Lib.hid (q1.ownsRow HROW.out (fun e=>by have:=(ownsRow_lt HROW.out _ e).1;omega))
    have HR7:=Lib.hid (blk_exc HR.out q1 (blk_lt HR.out) (by omega))
    have HSB7:=Lib.hid ((HK6.out.block w.heap.size (blk_lt HSB.out)).trans HSB.out)
    have HTB7:=Lib.hid (blk_exc HTB.out q1 (blk_lt HTB.out) (by omega))
    have HBN:=Lib.hid (heap_alloc_new W7 (.cells #[.int .u64 q.num,.slice ba q.bytes.length bcc,.slice ka q.kids.length kcc,.bool q.has] 49))
    have HBA:=Lib.hid ((Below.refl W7.heap.size W7).alloc (Nat.le_refl _) (.cells #[.int .u64 q.num,.slice ba q.bytes.length bcc,.slice ka q.kids.length kcc,.bool q.has] 49))
    have hO1:=blk_lt HO7.out
    have hjj:j≤1000000:=by omega
    obtain ⟨_,v0,v1,v2,v3⟩:=blk4p HO7.out
    obtain ⟨_,w0,w1,w2,w3⟩:=blk4p q3
    obtain ⟨i0,hi0,hzz0,hzz1,hzz2⟩:=info_parts val_infoT
    have I1:=Lib.hid hi0
    have I2:=Lib.hid hzz0
    have I3:=Lib.hid hzz1
    have I4:=Lib.hid hzz2
    have Q1:=Lib.hid q1
    have Q2:=Lib.hid q2
    have HOW:=Lib.hid hOlt
    clear q1 q2 hi0 hzz0 hzz1 hzz2 hvh6 hb6 hOlt
    go_wp2_with (at_builtin;refine wpList_append_own_at _ rfl (.tmp 38) (.tmp 40) 47 rfl (w.heap.size+1+1+1+1) 49 i0 _ 4 64 Tryd.underlying47 I1.out I2.out I3.out I4.out rfl (by decide) _ j (kvsCells l') rfl (row_keep HBA.out HROW7.out) _ 1 1 [.int .u64 q.num,.slice ba q.bytes.length bcc,.slice ka q.kids.length kcc,.bool q.has] rfl rfl (World.news_of_block HBN.out) (by intro u hu;simp at hu;rcases hu with rfl|rfl|rfl|rfl<;>rfl) (by unfold maxLen;omega) (by omega) (by simp;omega) ?_;intro v4 W8 hown4 hg4 hx hat4;clear hx;obtain ⟨a4,m4,rfl⟩:=ownsRow_form hown4;obtain ⟨s1,s2,s3,s4,s5⟩:=stepV 2 HX7.out (show w.heap.size≤w.heap.size+1+1+1 by omega) HO7.out HROW7.out HBA.out hg4 hown4;have hkk:=kids_step (q:=⟨q,.int .u64 q.num,.slice ba q.bytes.length bcc,.slice ka q.kids.length kcc,.bool q.has⟩) HKI.out Q1.out (show w.heap.size≤w.heap.size+1+1+1 by omega) HOW.out (fun k hk=>(ownsRow_lt HROW.out k hk).2) Q2.out HBA.out hg4 hat4 (Nat.le_refl _) 2 (.slice a4 (j+1) m4);obtain ⟨_,d0,d1,d2,d3⟩:=blk4p s4;have e1:=blk_frozen s4 2;have S1:=Lib.hid s1;have S2:=Lib.hid s2;have S3:=Lib.hid s3;have S5:=Lib.hid s5;have HKK:=Lib.hid hkk;clear s1 s2 s3 s4 s5 hkk hown4 hg4 hat4)
    go_roundw
    case rel=>exact ⟨j+1,a4,m4,l'++[⟨q,.int .u64 q.num,.slice ba q.bytes.length bcc,.slice ka q.kids.length kcc,.bool q.has⟩],by omega,by go_num,S2.out.trans rfl,by rw [kvsCells_snoc];exact S3.out,HKK.out,by rw [List.map_append,HKV.out,List.take_succ_eq_append_getElem hjl,HQ.out];rfl,(S5.out _ (by omega)).trans HR7.out,(S5.out _ (by omega)).trans HSB7.out,(S5.out _ (by omega)).trans HTB7.out,S1.out⟩
    case measure=>simp [intOf];omega
  · obtain rfl:j=x.kids.length:=by omega
    obtain ⟨_,u0,u1,u2,u3⟩:=blk4p HR.out
    obtain ⟨_,v0,v1,v2,v3⟩:=blk4p HO.out
    have p0:=blk_frozen HR.out 0
    have p1:=blk_frozen HR.out 1
    have p2:=blk_frozen HR.out 2
    have p3:=blk_frozen HR.out 3
    clear hjl
    go_wp2
    refine post_gen (fun Wf=>Wf.heap[w.heap.size+1+1]?=some (.cells #[.int .u64 0,.slice none 0 0,.slice A x.kids.length cap,.bool false] 49 (0,0))∧Exc w.heap.size w.heap.size w Wf∧Wf.ownsRow (w.heap.size+1+1+1+1) 49 4 (.slice A x.kids.length cap) x.kids.length (kvsCells l')∧KidsIn (rowS (w.heap.size+1+1+1+1) (.slice A x.kids.length cap)) Wf l') ⟨?_,?_,?_,?_⟩ ?_
    · exact blk_set4 (w:=wr) HR.out _ _ _ _
    · exact exc_put4 HXW.out (Nat.le_succ_of_le (Nat.le_succ _)) _ _ _ _
    · exact own_set4 HROW.out (by omega) _ _ _ _
    · exact HKI.out.step (by simp [World.setCell]) (fun k hk hS=>⟨hS,set4_blk wr (by have:=(rowS_no.1 hS).1;omega) _ _ _ _⟩)
    · rintro Wf ⟨e1,e2,e3,e4⟩
      obtain ⟨_,d0,d1,d2,d3⟩:=blk4p e1
      have hxe:PV.mk 0 [] (l'.map KV.v) false=x:=by
       rw [HKV.out,List.take_length,pv_eq x,HX0.out.1,HX0.out.2.1,HX0.out.2.2]
       rfl
      have hvh:=vh_kids (S':=newS w.heap.size) e3 e4 (fun k hS=>by have:=(rowS_no.1 hS).1;unfold newS;simp;omega) (fun k hk=>by unfold newS;simp;omega) false
      rw [hxe] at hvh
      exact bodyPost_ret (v:=.tuple #[.agg #[.int .u64 0,.slice none 0 0,.slice A x.kids.length cap,.bool false],.bool true]) (by simp [results,Tryd.results107,go_sem,d0,d1,d2,d3]) rfl ⟨⟨_,rfl,hvh⟩,e2.below (Nat.le_refl _)⟩
end Go.Proofs.YtachghaegokpdaaDoor
