/-
  The hand's Value: of the root of a made schema it makes a value that is there and fits. Conditions: those that each theorem names.
-/
import Derived.Test.YtpbaaedijfofnaaDoorPkV53
import Derived.Test.YtpbaaedijfofnaaDoorPkV2
import Derived.Test.YtpbaaedijfofnaaDoorPkV5
import Derived.Test.YtpbaaedijfofnaaDoorPkV19
import Derived.Test.YtpbaaedijfofnaaDoorPkV29
import Derived.Test.YtpbaaedijfofnaaDoorPkV32
import Derived.Test.YtpbaaedijfofnaaDoorPkV36
import Derived.Deep.MidRow
import Derived.Deep.RegionHeld3
import Derived.Deep.Cut
namespace Go.Proofs.YtpbaaedijfofnaaDoor
open Go.ChangeShapes Go.WideShapes Go.ChangeAt Go.RowKit Go.Shelf
def KidAtS (ss:List (CRec × Value))(es:List (SCho × Value))(room:Nat):Prop:=
 ∀ (w:World) (base:Nat) (sv ev:Value) (root:Int) (k:Nat) (ref lists:Int) (q:PV) (v:Value) (i:Nat),CRows base w ss es sv ev→k≤255 → -9223372036854775800≤lists→lists≤9223372036854775807→(i:Int)≤9223372036854775807→AskOk (Shown (ss.map Prod.fst) room) true w v i k ref lists q →
  Calls Tryd.prog 84 #[.agg #[sv,ev,.int .i64 root],.agg #[.int .u8 k,.int .i64 ref,.int .i64 lists],v,.int .i64 i,.int .i64 room] w (TreePost w q)
def StructAtS (ss:List (CRec × Value))(es:List (SCho × Value))(room:Nat):Prop:=
 ∀ (w:World) (base:Nat) (sv ev:Value) (root:Int) (k:Nat) (ref lists:Int) (q:PV) (v:Value),CRows base w ss es sv ev→sortP k lists=4→Shown (ss.map Prod.fst) room w v k ref lists q →
  Calls Tryd.prog 55 #[.agg #[sv,ev,.int .i64 root],.int .i64 ref,v,.int .i64 room] w (TreePost w q)
def ListAtS (ss:List (CRec × Value))(es:List (SCho × Value))(room:Nat):Prop:=
 ∀ (w:World) (base:Nat) (sv ev:Value) (root:Int) (k:Nat) (ref lists:Int) (q:PV) (v:Value),CRows base w ss es sv ev→k≤255 → -9223372036854775799≤lists→lists≤9223372036854775807→sortP k lists=3→Shown (ss.map Prod.fst) room w v k ref lists q →
  Calls Tryd.prog 116 #[.agg #[sv,ev,.int .i64 root],.agg #[.int .u8 k,.int .i64 ref,.int .i64 (lists-1)],v,.int .i64 room] w (TreePost w q)
theorem sort_le (k:Nat)(lists:Int):sortP k lists≤4∧(sortP k lists=3→0<lists):=by
 unfold sortP
 split
 · exact ⟨by decide,fun _=>by assumption⟩
 split
 · exact ⟨by decide,fun h=>by cases h⟩
 split
 · exact ⟨by decide,fun h=>by cases h⟩
 split
 · exact ⟨by decide,fun h=>by cases h⟩
 split
 · exact ⟨by decide,fun h=>by cases h⟩
 · exact ⟨by decide,fun h=>by cases h⟩
set_option maxRecDepth 100000 in
set_option maxHeartbeats 16000000 in
theorem skidtree {ss:List (CRec × Value)}{es:List (SCho × Value)}(room:Nat)(_:room≤12)(hSt:StructAtS ss es room)(hLi:ListAtS ss es room):KidAtS ss es room:=by
 intro w base sv ev root k ref lists q v i h hk hl0 hl1 hi hask
 obtain ⟨sa,sc,ea,ec,rfl,rfl⟩:=h.forms
 obtain ⟨h0,h1,h2,h3⟩:=three_start w #[.slice sa ss.length sc,.slice ea es.length ec,.int .i64 root] #[.int .u8 k,.int .i64 ref,.int .i64 lists] #[.int .u64 0,.slice none 0 0,.slice none 0 0,.bool false] 30 62 36
 have HCW:=Lib.hid h
 have HASK:=Lib.hid hask
 have HB:=Lib.hid h0
 have Q1:=Lib.hid h1
 have Q2:=Lib.hid h2
 have Q3:=Lib.hid h3
 have HST:=Lib.hid hSt
 have HLI:=Lib.hid hLi
 have hs4:=sort_le k lists
 have hs0:=hask.sort
 clear h0 h1 h2 h3 h hask hSt hLi
 have hs:sortP k lists=1∨sortP k lists=2∨sortP k lists=3∨sortP k lists=4:=by omega
 have HS3:=Lib.hid hs4.2
 clear hs0 hs4
 rcases hs with hs|hs|hs|hs
 · obtain ⟨hqe,hqn,T,r,f,rv,rfl,hm,hc⟩:=HASK.out.num hs
   have HQE:=Lib.hid hqe
   have HQN:=Lib.hid hqn
   have HC:=Lib.hid hc
   have mN:=hm.at (by decide)
   have eN:=hm.enters
   clear hqe hqn hc hm
   go_enter Tryd.func84,Tryd.ntmps84
   go_upto_region 1 with (fail)
   generalize ((w.alloc (.cells #[.slice sa ss.length sc,.slice ea es.length ec,.int .i64 root] 30)).alloc (.cells #[.int .u8 k,.int .i64 ref,.int .i64 lists] 62)).alloc (.cells #[.int .u64 0,.slice none 0 0,.slice none 0 0,.bool false] 36)=W0 at *
   obtain ⟨_,t0,t1,t2,_⟩:=blk3 Q2.out
   go_wp2_with fail
   refine (sorts_any k ref lists W0).mono ?_
   rintro e W1 ⟨rfl,hb1⟩
   have HB1:=Lib.hid (HB.out.trans (hb1.mono HB.out.size))
   have P1:=Lib.hid (blk_below Q1.out hb1 (blk_lt Q1.out))
   have P2:=Lib.hid (blk_below Q2.out hb1 (blk_lt Q2.out))
   have P3:=Lib.hid (blk_below Q3.out hb1 (blk_lt Q3.out))
   have HR1:Hid (w.heap.size+1+1<W1.heap.size):=Lib.hid (blk_lt P3.out)
   clear hb1 t0 t1 t2 Q1 Q2 Q3 HB
   rw [hs]
   clear hs
   go_wp2_with fail
   refine (HC.out W1 HB1.out).mono ?_
   rintro e W2 ⟨rfl,hb2⟩
   have HB2:=Lib.hid (HB1.out.trans (hb2.mono HB1.out.size))
   have P4:=Lib.hid (blk_below P3.out hb2 (blk_lt P3.out))
   clear hb2 mN eN
   obtain ⟨_,u0,u1,u2,u3⟩:=blk4p (P4.out)
   have p0:=blk_frozen (P4.out) 0
   have p1:=blk_frozen (P4.out) 1
   have p2:=blk_frozen (P4.out) 2
   have p3:=blk_frozen (P4.out) 3
   go_wp2
   refine post_gen (fun Wf=>Wf.heap[w.heap.size+1+1]?=some (.cells #[.int .u64 q.num,.slice none 0 0,.slice none 0 0,.bool false] 36 (0,0))∧VH (newS w.heap.size) Wf q (.agg #[.int .u64 q.num,.slice none 0 0,.slice none 0 0,.bool false])∧Below w.heap.size w Wf) ⟨?_,?_⟩ ?_
   · exact blk_set4 (w:=W2) (P4.out) _ _ _ _
   · exact tree_end (N:=w.heap.size+1+1+1) HB2.out (by omega) (by omega) (by have h:=vh_num (newS (w.heap.size+1+1+1)) W2 q.num (by have:=HQN.out;omega);rw [show numV q.num=q from HQE.out.symm] at h;exact h) _ _ _ _
   · rintro Wf ⟨e1,e2,e3⟩
     obtain ⟨_,d0,d1,d2,d3⟩:=blk4p e1
     exact bodyPost_ret (v:=.tuple #[.agg #[.int .u64 q.num,.slice none 0 0,.slice none 0 0,.bool false],.bool true]) (by simp [results,Tryd.results84,go_sem,d0,d1,d2,d3]) rfl ⟨⟨_,rfl,e2⟩,e3⟩
 · obtain ⟨hqe,hql,T,r,f,rv,rfl,hm,hc⟩:=HASK.out.bytes hs
   have HQE:=Lib.hid hqe
   have HQL:=Lib.hid hql
   have HC:=Lib.hid hc
   have mN:=hm.at (by decide)
   have eN:=hm.enters
   clear hqe hql hc hm
   go_enter Tryd.func84,Tryd.ntmps84
   go_upto_region 1 with (fail)
   generalize ((w.alloc (.cells #[.slice sa ss.length sc,.slice ea es.length ec,.int .i64 root] 30)).alloc (.cells #[.int .u8 k,.int .i64 ref,.int .i64 lists] 62)).alloc (.cells #[.int .u64 0,.slice none 0 0,.slice none 0 0,.bool false] 36)=W0 at *
   obtain ⟨_,t0,t1,t2,_⟩:=blk3 Q2.out
   go_wp2_with fail
   refine (sorts_any k ref lists W0).mono ?_
   rintro e W1 ⟨rfl,hb1⟩
   have HB1:=Lib.hid (HB.out.trans (hb1.mono HB.out.size))
   have P1:=Lib.hid (blk_below Q1.out hb1 (blk_lt Q1.out))
   have P2:=Lib.hid (blk_below Q2.out hb1 (blk_lt Q2.out))
   have P3:=Lib.hid (blk_below Q3.out hb1 (blk_lt Q3.out))
   have HR1:Hid (w.heap.size+1+1<W1.heap.size):=Lib.hid (blk_lt P3.out)
   clear hb1 t0 t1 t2 Q1 Q2 Q3 HB
   rw [hs]
   clear hs
   go_wp2_with fail
   refine (HC.out W1 HB1.out).mono ?_
   rintro e W2 ⟨⟨A,cap,rfl,hby⟩,hb2⟩
   have HB2:=Lib.hid (HB1.out.trans (hb2.mono HB1.out.size))
   have P4:=Lib.hid (blk_below P3.out hb2 (blk_lt P3.out))
   have HS2:Hid (W1.heap.size≤W2.heap.size):=Lib.hid hb2.size
   have HMEM:=Lib.hid (bytes_mem hby)
   have HCL:=Lib.hid (bclone_any W2 A q.bytes cap hby HQL.out)
   clear hb2 hby mN eN
   go_wp2_with fail
   refine HCL.out.mono ?_
   rintro e W3 ⟨⟨v,rfl,ho⟩,hb3⟩
   obtain ⟨A2,c2,rfl⟩:=ownsRow_form ho
   have HB3:=Lib.hid (HB2.out.trans (hb3.mono HB2.out.size))
   have P5:=Lib.hid (blk_below P4.out hb3 (blk_lt P4.out))
   have HVH:Hid (VH (newS W2.heap.size) W3 (.mk 0 q.bytes [] false) (.agg #[.int .u64 0,.slice A2 q.bytes.length c2,.slice none 0 0,.bool false])):=Lib.hid (vh_bytes ho HMEM.out (fun k hk=>by unfold newS;simp;omega))
   rw [←HQE.out] at HVH
   clear hb3 ho HCL
   obtain ⟨_,u0,u1,u2,u3⟩:=blk4p (P5.out)
   have p0:=blk_frozen (P5.out) 0
   have p1:=blk_frozen (P5.out) 1
   have p2:=blk_frozen (P5.out) 2
   have p3:=blk_frozen (P5.out) 3
   go_wp2
   refine post_gen (fun Wf=>Wf.heap[w.heap.size+1+1]?=some (.cells #[.int .u64 0,.slice A2 q.bytes.length c2,.slice none 0 0,.bool false] 36 (0,0))∧VH (newS w.heap.size) Wf q (.agg #[.int .u64 0,.slice A2 q.bytes.length c2,.slice none 0 0,.bool false])∧Below w.heap.size w Wf) ⟨?_,?_⟩ ?_
   · exact blk_set4 (w:=W3) (P5.out) _ _ _ _
   · exact tree_end HB3.out (by omega) (by have:=HR1.out;have:=HS2.out;omega) HVH.out _ _ _ _
   · rintro Wf ⟨e1,e2,e3⟩
     obtain ⟨_,d0,d1,d2,d3⟩:=blk4p e1
     exact bodyPost_ret (v:=.tuple #[.agg #[.int .u64 0,.slice A2 q.bytes.length c2,.slice none 0 0,.bool false],.bool true]) (by simp [results,Tryd.results84,go_sem,d0,d1,d2,d3]) rfl ⟨⟨_,rfl,e2⟩,e3⟩
 · obtain ⟨T,r,f,rv,rfl,hm,hc⟩:=HASK.out.list hs
   have HC:=Lib.hid hc
   have HS:=Lib.hid hs
   have HS3L:=Lib.hid (HS3.out hs)
   have mN:=hm.at (by decide)
   have eN:=hm.enters
   have HEL:=Lib.hid (fun W=>element_any k ref lists (by have:=HS3.out hs;omega) W)
   clear hc hm
   go_enter Tryd.func84,Tryd.ntmps84
   go_upto_region 1 with (fail)
   generalize ((w.alloc (.cells #[.slice sa ss.length sc,.slice ea es.length ec,.int .i64 root] 30)).alloc (.cells #[.int .u8 k,.int .i64 ref,.int .i64 lists] 62)).alloc (.cells #[.int .u64 0,.slice none 0 0,.slice none 0 0,.bool false] 36)=W0 at *
   obtain ⟨_,t0,t1,t2,_⟩:=blk3 Q2.out
   go_wp2_with fail
   refine (sorts_any k ref lists W0).mono ?_
   rintro e W1 ⟨rfl,hb1⟩
   have HB1:=Lib.hid (HB.out.trans (hb1.mono HB.out.size))
   have P1:=Lib.hid (blk_below Q1.out hb1 (blk_lt Q1.out))
   have P2:=Lib.hid (blk_below Q2.out hb1 (blk_lt Q2.out))
   have P3:=Lib.hid (blk_below Q3.out hb1 (blk_lt Q3.out))
   have HR1:Hid (w.heap.size+1+1<W1.heap.size):=Lib.hid (blk_lt P3.out)
   clear hb1 t0 t1 t2 Q1 Q2 Q3 HB
   rw [hs]
   clear hs
   obtain ⟨_,s0,s1,s2,_⟩:=blk3 P1.out
   obtain ⟨_,s3,s4,s5,_⟩:=blk3 P2.out
   go_upto_region 7 with (fail)
   refine wp_region_noPanic ?_
   refine wp_region_held_drew (S:=(fun w'=>w'.cell? ⟨w.heap.size,0,none⟩=some (.slice sa ss.length sc)∧w'.cell? ⟨w.heap.size,1,none⟩=some (.slice ea es.length ec)∧w'.cell? ⟨w.heap.size,2,none⟩=some (.int .i64 root)∧w'.cell? ⟨w.heap.size+1,0,none⟩=some (.int .u8 k)∧w'.cell? ⟨w.heap.size+1,1,none⟩=some (.int .i64 ref)∧w'.cell? ⟨w.heap.size+1,2,none⟩=some (.int .i64 lists))) (by kernel_rfl) ⟨s0,s1,s2,s3,s4,s5⟩ ?_
   intro hS
   refine tk 0 (.agg #[.slice sa ss.length sc,.slice ea es.length ec,.int .i64 root]) hS ?_ ?_
   · rintro w' ⟨s0,s1,s2,s3,s4,s5⟩
     go_simp
   simp only [td]
   refine tk 1 (.agg #[.int .u8 k,.int .i64 ref,.int .i64 lists]) hS ?_ ?_
   · rintro w' ⟨s0,s1,s2,s3,s4,s5⟩
     go_simp
   simp only [td]
   refine tk 3 (.iface T r) hS ?_ ?_
   · rintro w' ⟨s0,s1,s2,s3,s4,s5⟩
     go_simp
   simp only [td]
   refine tk 4 (.int .i64 i) hS ?_ ?_
   · rintro w' ⟨s0,s1,s2,s3,s4,s5⟩
     go_simp
   simp only [td]
   refine tk 6 (.int .i64 room) hS ?_ ?_
   · rintro w' ⟨s0,s1,s2,s3,s4,s5⟩
     go_simp
   simp only [td]
   refine wpAnyH_ready (rs:=[2]) (by kernel_rfl) (by decide) (AllReadyH.cons rfl (fun K hK=>?_) AllReadyH.nil)
   rw [if_pos (by kernel_rfl)]
   go_simp
   refine (HEL.out W1.drew).mono ?_
   rintro e Wh1 ⟨rfl,hb1⟩
   have hx1:Below W1.heap.size W1 Wh1:=(Below.refl _ W1).drew.trans hb1
   have ns0:=cell_stays hx1 s0
   have ns1:=cell_stays hx1 s1
   have ns2:=cell_stays hx1 s2
   have ns3:=cell_stays hx1 s3
   have ns4:=cell_stays hx1 s4
   have ns5:=cell_stays hx1 s5
   refine hK.out _ _ ⟨ns0,ns1,ns2,ns3,ns4,ns5⟩ (fun hS=>?_)
   clear ns0 ns1 ns2 ns3 ns4 ns5
   refine wpAnyH_ready (rs:=[5]) (by kernel_rfl) (by decide) (AllReadyH.cons rfl (fun K hK=>?_) AllReadyH.nil)
   rw [if_pos (by kernel_rfl)]
   go_simp
   refine (HC.out Wh1 (HB1.out.trans (hx1.mono HB1.out.size))).mono ?_
   rintro e Wh2 ⟨⟨lv,rfl,hlv⟩,hb2⟩
   have hx2:Below W1.heap.size W1 Wh2:=hx1.trans (hb2.mono hx1.size)
   have ns0:=cell_stays hx2 s0
   have ns1:=cell_stays hx2 s1
   have ns2:=cell_stays hx2 s2
   have ns3:=cell_stays hx2 s3
   have ns4:=cell_stays hx2 s4
   have ns5:=cell_stays hx2 s5
   refine hK.out _ _ ⟨ns0,ns1,ns2,ns3,ns4,ns5⟩ (fun hS=>?_)
   clear ns0 ns1 ns2 ns3 ns4 ns5
   refine wpAnyH_ready (rs:=[7]) (by kernel_rfl) (by decide) (AllReadyH.cons rfl (fun K hK=>?_) AllReadyH.nil)
   rw [if_pos (by kernel_rfl)]
   go_simp
   refine (HLI.out Wh2 base _ _ root k ref lists q lv (HCW.out.below (HB1.out.trans (hx2.mono HB1.out.size))) hk (by have:=HS3L.out;omega) hl1 HS.out hlv).mono ?_
   rintro e Wh3 ⟨⟨val6,rfl,hvh6⟩,hb3⟩
   have hx3:Below W1.heap.size W1 Wh3:=hx2.trans (hb3.mono hx2.size)
   have ns0:=cell_stays hx3 s0
   have ns1:=cell_stays hx3 s1
   have ns2:=cell_stays hx3 s2
   have ns3:=cell_stays hx3 s3
   have ns4:=cell_stays hx3 s4
   have ns5:=cell_stays hx3 s5
   obtain ⟨ba6,ka6,bc6,kc6,rfl,_⟩:=IsV.form hvh6
   refine hK.out _ _ ⟨ns0,ns1,ns2,ns3,ns4,ns5⟩ (fun hS=>?_)
   clear ns0 ns1 ns2 ns3 ns4 ns5
   refine tk 8 (.agg #[.int .u64 q.num,.slice ba6 q.bytes.length bc6,.slice ka6 q.kids.length kc6,.bool q.has]) hS ?_ ?_
   · rintro w' ⟨s0,s1,s2,s3,s4,s5⟩
     go_simp
   simp only [td]
   refine tk 9 (.bool true) hS ?_ ?_
   · rintro w' ⟨s0,s1,s2,s3,s4,s5⟩
     go_simp
   simp only [td]
   have hR4:=blk_below P3.out hx3 (blk_lt P3.out)
   obtain ⟨_,u0,u1,u2,u3⟩:=blk4p hR4
   have hthere:Wh3.there (w.heap.size+1+1) 0 4:=fun j hj=>by
    have h4:j=0∨j=1∨j=2∨j=3:=by omega
    rcases h4 with rfl|rfl|rfl|rfl
    · exact ⟨by rw [Nat.add_zero,u0];rfl,blk_frozen hR4 _⟩
    · exact ⟨by rw [Nat.zero_add,u1];rfl,blk_frozen hR4 _⟩
    · exact ⟨by rw [Nat.zero_add,u2];rfl,blk_frozen hR4 _⟩
    · exact ⟨by rw [Nat.zero_add,u3];rfl,blk_frozen hR4 _⟩
   refine wpAnyH_ready (rs:=[10]) (by kernel_rfl) (by decide) (AllReadyH.cons rfl (fun K hK=>?_) AllReadyH.nil)
   rw [if_pos (by kernel_rfl)]
   refine wp_store_mid 36 (.tmp 10) (.tmp 39) rfl (w.heap.size+1+1) 0 #[.int .u64 q.num,.slice ba6 q.bytes.length bc6,.slice ka6 q.kids.length kc6,.bool q.has] rfl rfl hthere (by kernel_rfl) (Array.all_eq_true_iff_forall_mem.2 (by intro x hx;simp at hx;rcases hx with rfl|rfl|rfl|rfl<;>rfl)) ?_
   change K _ (set4 Wh3 (w.heap.size+1+1) (.int .u64 q.num) (.slice ba6 q.bytes.length bc6) (.slice ka6 q.kids.length kc6) (.bool q.has))
   have hks:∀ (b:Nat) (o:Nat) (c:Value),b<w.heap.size+1+1→W1.cell? ⟨b,o,none⟩=some c→(set4 Wh3 (w.heap.size+1+1) (.int .u64 q.num) (.slice ba6 q.bytes.length bc6) (.slice ka6 q.kids.length kc6) (.bool q.has)).cell? ⟨b,o,none⟩=some c:=fun b o c hb hc=>keep4 (cell_stays hx3 hc) (by show b≠_;omega)
   refine hK.out _ _ ⟨hks _ _ _ (by omega) s0,hks _ _ _ (by omega) s1,hks _ _ _ (by omega) s2,hks _ _ _ (by omega) s3,hks _ _ _ (by omega) s4,hks _ _ _ (by omega) s5⟩ (fun hS=>?_)
   refine tk 11 (.bool true) hS ?_ ?_
   · rintro w' ⟨s0,s1,s2,s3,s4,s5⟩
     go_simp
   simp only [td]
   refine wpAnyH_done (by kernel_rfl) ?_ _
   refine NoPanic.normal ?_
   try simp only [Exit.then]
   have he1:=blk_set4 hR4 (.int .u64 q.num) (.slice ba6 q.bytes.length bc6) (.slice ka6 q.kids.length kc6) (.bool q.has)
   have he2:=tree_end (R:=w.heap.size+1+1) (HB1.out.trans (hx3.mono HB1.out.size)) (by omega) (by have:=HR1.out;have:=hx2.size;omega) hvh6 (.int .u64 q.num) (.slice ba6 q.bytes.length bc6) (.slice ka6 q.kids.length kc6) (.bool q.has)
   replace he1:(set4 Wh3 (w.heap.size+1+1) (.int .u64 q.num) (.slice ba6 q.bytes.length bc6) (.slice ka6 q.kids.length kc6) (.bool q.has)).heap[w.heap.size+1+1]?=_:=he1
   have HE1:=Lib.hid he1
   have HE2:=Lib.hid he2
   clear he1 he2 hS hks hthere u0 u1 u2 u3 hR4 hlv hvh6
   generalize set4 Wh3 (w.heap.size+1+1) (.int .u64 q.num) (.slice ba6 q.bytes.length bc6) (.slice ka6 q.kids.length kc6) (.bool q.has)=W9 at *
   go_wp2
   refine post_gen (fun Wf=>Wf.heap[w.heap.size+1+1]?=some (.cells #[.int .u64 q.num,.slice ba6 q.bytes.length bc6,.slice ka6 q.kids.length kc6,.bool q.has] 36 (0,0))∧VH (newS w.heap.size) Wf q (.agg #[.int .u64 q.num,.slice ba6 q.bytes.length bc6,.slice ka6 q.kids.length kc6,.bool q.has])∧Below w.heap.size w Wf) ⟨HE1.out,HE2.out⟩ ?_
   rintro Wf ⟨e1,e2,e3⟩
   obtain ⟨_,d0,d1,d2,d3⟩:=blk4p e1
   exact bodyPost_ret (v:=.tuple #[.agg #[.int .u64 q.num,.slice ba6 q.bytes.length bc6,.slice ka6 q.kids.length kc6,.bool q.has],.bool true]) (by simp [results,Tryd.results84,go_sem,d0,d1,d2,d3]) rfl ⟨⟨_,rfl,e2⟩,e3⟩
 · obtain ⟨T,r,f,rv,rfl,hm,hc⟩:=HASK.out.sub hs
   have HC:=Lib.hid hc
   have HS:=Lib.hid hs
   have mN:=hm.at (by decide)
   have eN:=hm.enters
   clear hc hm
   go_enter Tryd.func84,Tryd.ntmps84
   go_upto_region 1 with (fail)
   generalize ((w.alloc (.cells #[.slice sa ss.length sc,.slice ea es.length ec,.int .i64 root] 30)).alloc (.cells #[.int .u8 k,.int .i64 ref,.int .i64 lists] 62)).alloc (.cells #[.int .u64 0,.slice none 0 0,.slice none 0 0,.bool false] 36)=W0 at *
   obtain ⟨_,t0,t1,t2,_⟩:=blk3 Q2.out
   go_wp2_with fail
   refine (sorts_any k ref lists W0).mono ?_
   rintro e W1 ⟨rfl,hb1⟩
   have HB1:=Lib.hid (HB.out.trans (hb1.mono HB.out.size))
   have P1:=Lib.hid (blk_below Q1.out hb1 (blk_lt Q1.out))
   have P2:=Lib.hid (blk_below Q2.out hb1 (blk_lt Q2.out))
   have P3:=Lib.hid (blk_below Q3.out hb1 (blk_lt Q3.out))
   have HR1:Hid (w.heap.size+1+1<W1.heap.size):=Lib.hid (blk_lt P3.out)
   clear hb1 t0 t1 t2 Q1 Q2 Q3 HB
   rw [hs]
   clear hs
   go_wp2_with fail
   refine (HC.out W1 HB1.out).mono ?_
   rintro e W2 ⟨hw2,hb2⟩
   have HB2:=Lib.hid (HB1.out.trans (hb2.mono HB1.out.size))
   have P4:=Lib.hid (blk_below P3.out hb2 (blk_lt P3.out))
   rcases hw2 with ⟨sv2,rfl,hsv⟩|⟨_,rfl,hnil⟩
   · have HSTC:Hid (Calls Tryd.prog 55 #[.agg #[.slice sa ss.length sc,.slice ea es.length ec,.int .i64 root],.int .i64 ref,sv2,.int .i64 room] W2 (TreePost W2 q)):=Lib.hid (HST.out W2 base _ _ root k ref lists q sv2 (HCW.out.below HB2.out) HS.out hsv)
     have HS2:Hid (W1.heap.size≤W2.heap.size):=Lib.hid hb2.size
     obtain ⟨_,s0,s1,s2,_⟩:=blk3 (blk_below P1.out hb2 (blk_lt P1.out))
     obtain ⟨_,t0,t1,t2,_⟩:=blk3 (blk_below P2.out hb2 (blk_lt P2.out))
     simp only [if_true]
     clear hb2 hsv mN eN
     go_wp2_with fail
     refine HSTC.out.mono ?_
     rintro e W3 ⟨⟨val6,rfl,hvh6⟩,hb3⟩
     obtain ⟨ba6,ka6,bc6,kc6,rfl,_⟩:=IsV.form hvh6
     have HB3:=Lib.hid (HB2.out.trans (hb3.mono HB2.out.size))
     have P5:=Lib.hid (blk_below P4.out hb3 (blk_lt P4.out))
     have HVH:=Lib.hid hvh6
     clear hb3 hvh6 s0 s1 s2 t0 t1 t2
     obtain ⟨_,u0,u1,u2,u3⟩:=blk4p (P5.out)
     have p0:=blk_frozen (P5.out) 0
     have p1:=blk_frozen (P5.out) 1
     have p2:=blk_frozen (P5.out) 2
     have p3:=blk_frozen (P5.out) 3
     go_wp2
     refine post_gen (fun Wf=>Wf.heap[w.heap.size+1+1]?=some (.cells #[.int .u64 q.num,.slice ba6 q.bytes.length bc6,.slice ka6 q.kids.length kc6,.bool q.has] 36 (0,0))∧VH (newS w.heap.size) Wf q (.agg #[.int .u64 q.num,.slice ba6 q.bytes.length bc6,.slice ka6 q.kids.length kc6,.bool q.has])∧Below w.heap.size w Wf) ⟨?_,?_⟩ ?_
     · exact blk_set4 (w:=W3) (P5.out) _ _ _ _
     · exact tree_end HB3.out (by omega) (by have:=HR1.out;have:=HS2.out;omega) HVH.out _ _ _ _
     · rintro Wf ⟨e1,e2,e3⟩
       obtain ⟨_,d0,d1,d2,d3⟩:=blk4p e1
       exact bodyPost_ret (v:=.tuple #[.agg #[.int .u64 q.num,.slice ba6 q.bytes.length bc6,.slice ka6 q.kids.length kc6,.bool q.has],.bool true]) (by simp [results,Tryd.results84,go_sem,d0,d1,d2,d3]) rfl ⟨⟨_,rfl,e2⟩,e3⟩
   · have HQE:=Lib.hid hnil
     clear hb2 hnil mN eN
     obtain ⟨_,u0,u1,u2,u3⟩:=blk4p (P4.out)
     have p0:=blk_frozen (P4.out) 0
     have p1:=blk_frozen (P4.out) 1
     have p2:=blk_frozen (P4.out) 2
     have p3:=blk_frozen (P4.out) 3
     go_wp2
     refine post_gen (fun Wf=>Wf.heap[w.heap.size+1+1]?=some (.cells #[.int .u64 0,.slice none 0 0,.slice none 0 0,.bool false] 36 (0,0))∧VH (newS w.heap.size) Wf q (.agg #[.int .u64 0,.slice none 0 0,.slice none 0 0,.bool false])∧Below w.heap.size w Wf) ⟨?_,?_⟩ ?_
     · exact blk_set4 (w:=W2) (P4.out) _ _ _ _
     · exact tree_end (N:=w.heap.size+1+1+1) HB2.out (by omega) (by omega) (by rw [HQE.out];exact vh_nil _ _) _ _ _ _
     · rintro Wf ⟨e1,e2,e3⟩
       obtain ⟨_,d0,d1,d2,d3⟩:=blk4p e1
       exact bodyPost_ret (v:=.tuple #[.agg #[.int .u64 0,.slice none 0 0,.slice none 0 0,.bool false],.bool true]) (by simp [results,Tryd.results84,go_sem,d0,d1,d2,d3]) rfl ⟨⟨_,rfl,e2⟩,e3⟩
end Go.Proofs.YtpbaaedijfofnaaDoor
namespace Go.Proofs.YtpbaaedijfofnaaDoor
open Go.ChangeShapes Go.WideShapes Go.ChangeAt Go.RowKit Go.Shelf
def Loc (W:World)(wk:Nat)(A:Option Addr)(p:Nat)(o:Obj):Prop:=W.heap[p]?=some o∧p≠wk∧some p≠rowOf A
theorem blk_lt' {w:World}{g:Nat}{o:Obj}(h:w.heap[g]?=some o):g<w.heap.size:=by
 rcases Nat.lt_or_ge g w.heap.size with h1|h1
 · exact h1
 · rw [Array.getElem?_eq_none h1] at h;cases h
theorem Wx.notrow {wk p:Nat}{A A':Option Addr}{w w':World}(h:Wx wk A A' w w')(hp:p<w.heap.size)(hne:some p≠rowOf A):some p≠rowOf A':=by
 rcases h.row with e|⟨k,e,hk⟩
 · rw [e];exact hne
 · rw [e];intro e2;injection e2 with e2;omega
theorem Loc.wx {W W':World}{wk p:Nat}{A A':Option Addr}{o:Obj}(h:Loc W wk A p o)(hx:Wx wk A A' W W'):Loc W' wk A' p o:=
 ⟨(hx.block p (blk_lt' h.1) h.2.1 h.2.2).trans h.1,h.2.1,hx.notrow (blk_lt' h.1) h.2.2⟩
theorem Loc.bel {W W':World}{wk p:Nat}{A:Option Addr}{o:Obj}(h:Loc W wk A p o)(hb:Below W.heap.size W W'):Loc W' wk A p o:=⟨(hb.block p (blk_lt' h.1)).trans h.1,h.2.1,h.2.2⟩
theorem Loc.new {W W':World}{base wk p cap:Nat}{A:Option Addr}{sv ev:Value}{root:Int}{zs:List Int}{o:Obj}(h:WrSt W base wk A cap sv ev root zs)(hp:W.heap.size≤p)(hb:W'.heap[p]?=some o):Loc W' wk A p o:=
 ⟨hb,by have:=blk_lt h.blk;omega,fun e=>by have:=(h.row p e.symm).2;omega⟩
structure ECtx (b:Nat)(w0 W:World)(wk:Nat)(A:Option Addr)(cap:Nat)(sv ev:Value)(root:Int)(zs:List Int)(ss:List (SRec × Value))(es:List (SCho × Value)):Prop where
 st:WrSt W w0.heap.size wk A cap sv ev root zs
 rows:SchRows b w0 ss es sv ev
 bel:Below w0.heap.size w0 W
 sch:SchM ss (es.map Prod.fst)
 dfl:∀ q ∈ ss,DfltsOk (es.map Prod.fst) (cR q.1).fields
section
variable {b:Nat} {w0 W W':World} {wk:Nat} {A A':Option Addr} {cap cap':Nat} {sv ev:Value} {root:Int} {zs zs':List Int} {ss:List (SRec × Value)} {es:List (SCho × Value)}
theorem ECtx.step (h:ECtx b w0 W wk A cap sv ev root zs ss es)(hs:WrSt W' w0.heap.size wk A' cap' sv ev root zs')(hx:Wx wk A A' W W'):ECtx b w0 W' wk A' cap' sv ev root zs' ss es:=
 ⟨hs,h.rows,h.bel.trans (hx.below h.st.hb (fun k hk=>(h.st.row k hk).1) h.bel.size),h.sch,h.dfl⟩
theorem ECtx.below (h:ECtx b w0 W wk A cap sv ev root zs ss es)(hb:Below W.heap.size W W'):ECtx b w0 W' wk A cap sv ev root zs ss es:=h.step (h.st.below hb) (Wx.of_below A hb)
theorem ECtx.post (h:ECtx b w0 W wk A cap sv ev root zs ss es){r:Value}{e:Ending}(hp:WrPost r w0.heap.size wk A sv ev root zs' W e W'):∃ A' cap',e=.returned r∧ECtx b w0 W' wk A' cap' sv ev root zs' ss es∧Wx wk A A' W W':=by
 obtain ⟨h1,A',cap',h2,h3⟩:=hp
 exact ⟨A',cap',h1,h.step h2 h3,h3⟩
theorem sRecs_map (ss:List (SRec × Value)):sRecs ss=(ss.map Prod.fst).map cR:=by
 unfold sRecs crow
 rw [List.map_map,List.map_map]
 rfl
end
def EncAt (r:Nat):Prop:=∀ (b:Nat) (w0 W:World) (wk:Nat) (A:Option Addr) (cap:Nat) (sv ev:Value) (root:Int) (zs:List Int) (ss:List (SRec × Value)) (es:List (SCho × Value)) (k ref lists:Nat) (v:PV) (val:Value) (a:Nat),
 ECtx b w0 W wk A cap sv ev root zs ss es→IsV w0 v val→1≤k→k≤13→lists≤3→fitsP (sRecs ss) (es.map Prod.fst) r k ref lists v=true→(k=13→lists=0→v.has=true)→a+(inlC k lists).toNat≤zs.length→(valE (ss.map Prod.fst) (encE (ss.map Prod.fst) r) k ref lists v a zs).length≤70368744177664 →
 Calls Tryd.prog 77 #[.pointer (some ⟨wk,0,none⟩),.agg #[.int .u8 k,.int .i64 ref,.int .i64 lists],val,.int .i64 a] W (WrPost (.tuple #[]) w0.heap.size wk A sv ev root (valE (ss.map Prod.fst) (encE (ss.map Prod.fst) r) k ref lists v a zs) W)
def EncListAt (r:Nat):Prop:=∀ (b:Nat) (w0 W:World) (wk:Nat) (A:Option Addr) (cap:Nat) (sv ev:Value) (root:Int) (zs:List Int) (ss:List (SRec × Value)) (es:List (SCho × Value)) (k ref lists:Nat) (v:PV) (val:Value) (a:Nat),
 ECtx b w0 W wk A cap sv ev root zs ss es→IsV w0 v val→1≤k→k≤13→1≤lists→lists≤3→fitsP (sRecs ss) (es.map Prod.fst) r k ref lists v=true→a+4≤zs.length→(listE (encE (ss.map Prod.fst) r) k ref ((lists:Int)-1) v a zs).length≤70368744177664 →
 Calls Tryd.prog 103 #[.pointer (some ⟨wk,0,none⟩),.agg #[.int .u8 k,.int .i64 ref,.int .i64 lists],val,.int .i64 a] W (WrPost (.tuple #[]) w0.heap.size wk A sv ev root (listE (encE (ss.map Prod.fst) r) k ref ((lists:Int)-1) v a zs) W)
def EncTabAt (r:Nat):Prop:=∀ (b:Nat) (w0 W:World) (wk:Nat) (A:Option Addr) (cap:Nat) (sv ev:Value) (root:Int) (zs:List Int) (ss:List (SRec × Value)) (es:List (SCho × Value)) (i:Nat) (v:PV) (val:Value) (a:Nat),
 ECtx b w0 W wk A cap sv ev root zs ss es→IsV w0 v val→fitsP (sRecs ss) (es.map Prod.fst) r 13 i 0 v=true→v.has=true→a+4≤zs.length→(tableE (ss.map Prod.fst) (encE (ss.map Prod.fst) r) i v a zs).length≤70368744177664 →
 Calls Tryd.prog 51 #[.pointer (some ⟨wk,0,none⟩),.int .i64 i,val,.int .i64 a] W (WrPost (.tuple #[]) w0.heap.size wk A sv ev root (tableE (ss.map Prod.fst) (encE (ss.map Prod.fst) r) i v a zs) W)
end Go.Proofs.YtpbaaedijfofnaaDoor
namespace Go.Proofs.YtpbaaedijfofnaaDoor
open Go.ChangeShapes Go.WideShapes Go.ChangeAt Go.RowKit Go.Shelf
set_option maxRecDepth 100000 in
set_option maxHeartbeats 4000000 in
theorem hvalue_wt (w:World){b n bc root:Nat}{a:Option Addr}{bs:List Int}{ss:List (SRec × Value)}{es:List (SCho × Value)}{sv ev:Value}(h:SchRows b w ss es sv ev)(hm:SchM ss (es.map Prod.fst))(hr:root<ss.length)(hb:Bytes w a bs)(hn:bs.length=n)(hl:(n:Int)≤9223372036854775807)(hc:n≤bc) :
  Calls Tryd.prog 15 #[.agg #[sv,ev,.int .i64 root],.slice a n bc] w fun e w'=>(∃ (v:PV) (val:Value),e=.returned val∧IsV w' v val∧VH (newS w.heap.size) w' v val∧v.has=true∧fitsP ((crow ss).map Prod.fst) (es.map Prod.fst) 12 13 root 0 v=true∧SmallV v∧Wt v (1700 * (n+1)))∧Below w.heap.size w w':=by
 subst hn
 obtain ⟨h0,h1,h2,h3⟩:=three_start w #[sv,ev,.int .i64 root] #[.int .u64 0,.slice none 0 0,.slice none 0 0,.bool false] #[.slice a bs.length bc,.int .i64 0] 30 36 100
 have HB:=Lib.hid h0
 have HR2:=Lib.hid h2
 have HCALL:=Lib.hid (hval_any 12 (by decide) 13 root 0 0 0 0 0 ⟨#[]⟩ true b (w.heap.size+1+1) 0 bc a bs ss es sv ev root _ ⟨by decide,by decide,by decide,fun h=>absurd h (by decide),fun _=>hr⟩ hm ⟨h3,Nat.zero_le _,hb.below (Nat.le_refl _) h0,fun hne p off e=>by
   obtain ⟨b',off',e',hlt,_⟩:=hb.2 hne
   rw [e] at e'
   injection e' with e'
   injection e' with e1 _ _
   omega,hl,hc⟩ (fun W hW=>h.below (h0.trans (((hW.mono h0.size)).below (by omega)))) (by decide) (fun _ h10=>absurd h10 (by decide)))
 obtain ⟨_,s0,s1,s2,_⟩:=blk3 h1
 clear h0 h1 h2 h3 h hb hl hc hm hr
 go_enter Tryd.func15,Tryd.ntmps15
 go_upto_region 1 with (fail)
 go_wp2_with fail
 refine HCALL.out.mono ?_
 rintro e W6 ⟨v,val,i3,rfl,hvh,⟨hft,hsm⟩,hss,hi3,hs6,hx6⟩
 have hbel:Below w.heap.size w W6:=HB.out.trans ((hx6.mono HB.out.size).below (by omega))
 have hq2:=blk_exc HR2.out hx6 (blk_lt HR2.out) (by omega)
 have hsz:w.heap.size+1+1+1=(((w.alloc (.cells #[sv,ev,.int .i64 root] 30)).alloc (.cells #[.int .u64 0,.slice none 0 0,.slice none 0 0,.bool false] 36)).alloc (.cells #[.slice a bs.length bc,.int .i64 0] 100)).heap.size:=by simp
 rw [←hsz] at hvh
 obtain ⟨ba,ka,bcc,kcc,rfl,_,_,_,_,_,_,_⟩:=IsV.form hvh
 have HVH:=Lib.hid hvh
 have HFT:=Lib.hid hft
 have HSM:=Lib.hid hsm
 have HWT:Hid (Wt v (1700 * (bs.length+1))):=Lib.hid (by
  obtain ⟨m,h1,h2,_⟩:=hsm.2
  have h3:=hs6.le
  exact h1.mono (by omega))
 have HSS:=Lib.hid (hss rfl rfl rfl (by decide))
 have HBE:=Lib.hid hbel
 have HQ2:=Lib.hid hq2
 obtain ⟨_,u0,u1,u2,u3⟩:=blk4p hq2
 have p0:=blk_frozen hq2 0
 have p1:=blk_frozen hq2 1
 have p2:=blk_frozen hq2 2
 have p3:=blk_frozen hq2 3
 clear hvh hft hsm hss hi3 hs6 hx6 hbel hq2 hsz s0 s1 s2 HB HR2 HCALL
 go_wp2
 refine post_gen (fun Wf=>Wf.heap[w.heap.size+1]?=some (.cells #[.int .u64 v.num,.slice ba v.bytes.length bcc,.slice ka v.kids.length kcc,.bool v.has] 36 (0,0))∧Below w.heap.size w Wf∧VH (newS w.heap.size) Wf v (.agg #[.int .u64 v.num,.slice ba v.bytes.length bcc,.slice ka v.kids.length kcc,.bool v.has])) ⟨?_,?_,?_⟩ ?_
 · exact blk_set4 HQ2.out _ _ _ _
 · exact below_set4 HBE.out (Nat.le_succ _) _ _ _ _
 · exact vh_new HVH.out (by omega) (by simp [World.setCell]) (fun k hk hB=>set4_blk W6 (by omega) _ _ _ _)
 · rintro Wf ⟨e1,e2,e3⟩
   obtain ⟨_,d0,d1,d2,d3⟩:=blk4p e1
   exact bodyPost_ret (v:=.agg #[.int .u64 v.num,.slice ba v.bytes.length bcc,.slice ka v.kids.length kcc,.bool v.has]) (by simp [results,Tryd.results15,go_sem,d0,d1,d2,d3]) rfl ⟨⟨v,_,rfl,e3.out,e3,HSS.out,HFT.out,HSM.out.1,HWT.out⟩,e2⟩
end Go.Proofs.YtpbaaedijfofnaaDoor
