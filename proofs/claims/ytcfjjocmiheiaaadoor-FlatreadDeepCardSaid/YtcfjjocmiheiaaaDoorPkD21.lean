/-
  The package view's Tree: of whatever view shows a value it hands back that value, of new blocks alone. Conditions: those that each theorem names.
-/
import Derived.Test.YtcfjjocmiheiaaaDoorPkD18
import Derived.BigQuiet
import Derived.Deep.MidRow
namespace Go.Proofs.YtcfjjocmiheiaaaDoor
open Go.ChangeShapes Go.WideShapes Go.ChangeAt Go.RowKit Go.Shelf
def SLtAt (w:World)(B:Nat)(ks:List PV)(sv ev:Value)(root:Int)(tcells:Array Value)(x:Value)(wr:World):Prop:=∃ (j:Nat) (A:Option Addr) (cap:Nat) (l:List KV),j≤ks.length∧x=.int .i64 j∧wr.heap[B+1+1+1]?=some (.cells #[.int .u64 0,.slice none 0 0,.slice A j cap,.bool false] 36 (0,0)) ∧
 wr.ownsRow (B+1+1+1+1) 36 4 (.slice A j cap) j (kvsCells l)∧KidsIn (rowS (B+1+1+1+1) (.slice A j cap)) wr l∧l.map KV.v=ks.take j∧wr.heap[B+1+1]?=some (.cells #[.int .u64 0,.slice none 0 0,.slice none 0 0,.bool false] 36 (0,0)) ∧
 wr.heap[B]?=some (.cells #[sv,ev,.int .i64 root] 30 (0,0))∧wr.heap[B+1]?=some (.cells tcells 50 (0,0))∧Exc B B w wr
theorem shown_list {ss:List CRec}{room:Nat}{w:World}{v:Value}{k:Nat}{ref lists:Int}{q:PV}(hs:sortP k lists=3)(h:Shown ss room w v k ref lists q):ListHead w v q∧∀ j (hj:j<q.kids.length),∃ r,room=r+1∧AskOk (Shown ss r) false w v j k ref (lists-1) (q.kids[j]'hj):=by
 cases room with
 | zero =>
  obtain ⟨_,h1,h2⟩:=h
  exact ⟨h1,fun j hj=>by rw [h2] at hj;exact absurd hj (Nat.not_lt_zero _)⟩
 | succ r =>
  rcases h with ⟨_,h1,h2⟩|⟨h1,_⟩
  · exact ⟨h1,fun j hj=>⟨r,rfl,h2 j hj⟩⟩
  · rw [hs] at h1;cases h1
set_option maxRecDepth 100000 in
set_option maxHeartbeats 8000000 in
theorem slisttree {ss:List (CRec × Value)}{es:List (SCho × Value)}(room:Nat)(hr12:room≤12)(hnx:∀ r,room=r+1→KidAtS ss es r):ListAtS ss es room:=by
 intro w base sv ev root k ref lists x v h hk hl0 hl1 hs hsh
 obtain ⟨sa,sc,ea,ec,rfl,rfl⟩:=h.forms
 obtain ⟨h0,h1,h2,h3,h4⟩:=four_blk w #[.slice sa ss.length sc,.slice ea es.length ec,.int .i64 root] #[.int .u8 k,.int .i64 ref,.int .i64 (lists-1)] #[.int .u64 0,.slice none 0 0,.slice none 0 0,.bool false] #[.int .u64 0,.slice none 0 0,.slice none 0 0,.bool false] 30 50 36 36
 obtain ⟨hhead,hel⟩:=shown_list hs hsh
 have hkl:x.kids.length≤1000000:=hhead.few
 have HCW:=Lib.hid h
 have HHD:=Lib.hid (hhead.later h0)
 have HEL:=Lib.hid hel
 have HB:=Lib.hid h0
 have Q1:=Lib.hid h1
 have Q2:=Lib.hid h2
 have Q3:=Lib.hid h3
 have Q4:=Lib.hid h4
 have HNX:=Lib.hid hnx
 have HX0:=Lib.hid hhead.bare
 clear h0 h1 h2 h3 h4 h hsh hhead hel hnx hs
 go_enter Tryd.func134,Tryd.ntmps134
 go_upto_region 2 with (fail)
 generalize ((((w.alloc (.cells #[.slice sa ss.length sc,.slice ea es.length ec,.int .i64 root] 30)).alloc (.cells #[.int .u8 k,.int .i64 ref,.int .i64 (lists-1)] 50)).alloc (.cells #[.int .u64 0,.slice none 0 0,.slice none 0 0,.bool false] 36)).alloc (.cells #[.int .u64 0,.slice none 0 0,.slice none 0 0,.bool false] 36))=W0 at *
 go_wp2_with fail
 refine (slength_any W0 x v HHD.out).mono ?_
 rintro e W1 ⟨rfl,hb1⟩
 have HB1:=Lib.hid (HB.out.trans (hb1.mono HB.out.size))
 have HST:Hid (SLtAt w w.heap.size x.kids (.slice sa ss.length sc) (.slice ea es.length ec) root #[.int .u8 k,.int .i64 ref,.int .i64 (lists-1)] (.int .i64 ((0:Nat):Int)) W1):=Lib.hid ⟨0,none,0,[],Nat.zero_le _,rfl,blk_below Q4.out hb1 (blk_lt Q4.out),World.ownsRow_nil _ _ _ _,fun q hq=>by (cases hq),rfl,blk_below Q3.out hb1 (blk_lt Q3.out),blk_below Q1.out hb1 (blk_lt Q1.out),blk_below Q2.out hb1 (blk_lt Q2.out),Exc.of_below HB1.out⟩
 have HW1:Hid (Below w.heap.size w W1):=Lib.hid HB1.out
 clear hb1 HB HHD Q1 Q2 Q3 Q4 HB1
 go_wp2_with fail
 go_loopw [16] (fun y wr=>SLtAt w w.heap.size x.kids (.slice sa ss.length sc) (.slice ea es.length ec) root #[.int .u8 k,.int .i64 ref,.int .i64 (lists-1)] y wr) (fun y _=>x.kids.length-(intOf y).toNat)
 case atStart=>exact HST.out
 case round =>
  obtain ⟨j,A,cap,l',hj,rfl,hO,hrow,hkin,hkv,hR,hSB,hTB,hx'⟩:=hrel
  have HO:=Lib.hid hO
  have HROW:=Lib.hid hrow
  have HKI:=Lib.hid hkin
  have HKV:=Lib.hid hkv
  have HR:=Lib.hid hR
  have HSB:=Lib.hid hSB
  have HTB:=Lib.hid hTB
  have HXW:=Lib.hid hx'
  clear hO hrow hkin hkv hR hSB hTB hx'
  have HBW:=Lib.hid (HXW.out.below (Nat.le_refl _))
  by_cases hjl:j<x.kids.length
  · have hji:(j:Int)<(x.kids.length:Int):=by omega
    obtain ⟨r,hr,hask⟩:=HEL.out j hjl
    obtain ⟨q,hq⟩:∃ q,x.kids[j]=q:=⟨_,rfl⟩
    rw [hq] at hask
    have hrn:((room:Int)==0)=false:=by simp;omega
    have hrw:(room:Int)-1=(r:Int):=by omega
    have hrw2:IntKind.i64.wrap (r:Int)=r:=IntWalk.i64_in _ (by omega)
    have HK:Hid (Calls Tryd.prog 108 #[.agg #[.slice sa ss.length sc,.slice ea es.length ec,.int .i64 root],.agg #[.int .u8 k,.int .i64 ref,.int .i64 (lists-1)],.iface 241 (.agg #[v]),.int .i64 j,.int .i64 r] wr (TreePost wr q)):=Lib.hid (HNX.out r hr wr base _ _ root k ref (lists-1) q _ j (HCW.out.below HBW.out) hk (by omega) (by omega) (by omega) (ask_elem (hask.later HBW.out)))
    have HQ:=Lib.hid hq
    obtain ⟨_,s0,s1,s2,_⟩:=blk3 HSB.out
    obtain ⟨_,t0,t1,t2,_⟩:=blk3 HTB.out
    obtain ⟨T,rv,rfl⟩:=hask.iface
    clear hr hq hask
    go_wp2_with fail
    refine HK.out.mono ?_
    rintro e W6 ⟨⟨val6,rfl,hvh6⟩,hb6⟩
    obtain ⟨ba,ka,bcc,kcc,rfl,_⟩:=IsV.form hvh6
    clear s0 s1 s2 t0 t1 t2 HK
    go_upto_region 10 with (fail)
    have q1:Exc w.heap.size wr.heap.size wr (W6.alloc (.cells #[.int .u64 q.num,.slice ba q.bytes.length bcc,.slice ka q.kids.length kcc,.bool q.has] 36)):=(Exc.of_below hb6).alloc hb6.size _
    have q2:VH (newS wr.heap.size) (W6.alloc (.cells #[.int .u64 q.num,.slice ba q.bytes.length bcc,.slice ka q.kids.length kcc,.bool q.has] 36)) q (.agg #[.int .u64 q.num,.slice ba q.bytes.length bcc,.slice ka q.kids.length kcc,.bool q.has]):=VH.alloc (show VH (newS wr.heap.size) W6 q (.agg #[.int .u64 q.num,.slice ba q.bytes.length bcc,.slice ka q.kids.length kcc,.bool q.has]) from hvh6) _
    have q3:(W6.alloc (.cells #[.int .u64 q.num,.slice ba q.bytes.length bcc,.slice ka q.kids.length kcc,.bool q.has] 36)).heap[W6.heap.size]?=some (.cells #[.int .u64 q.num,.slice ba q.bytes.length bcc,.slice ka q.kids.length kcc,.bool q.has] 36 (0,0)):=heap_alloc_new W6 _
    have HK6:=Lib.hid (hb6.alloc hb6.size (.cells #[.int .u64 q.num,.slice ba q.bytes.length bcc,.slice ka q.kids.length kcc,.bool q.has] 36))
    generalize W6.alloc (.cells #[.int .u64 q.num,.slice ba q.bytes.length bcc,.slice ka q.kids.length kcc,.bool q.has] 36)=W7 at *
    generalize W6.heap.size=V at *
    have hOlt:=blk_lt HO.out
    have HX7:=Lib.hid (HXW.out.thenB (Nat.le_refl _) q1)
    have HO7:=Lib.hid (blk_exc HO.out q1 (blk_lt HO.out) (by omega))
    have HROW7:=Lib.hid (q1.ownsRow HROW.out (fun e=>by have:=(ownsRow_lt HROW.out _ e).1;omega))
    have HR7:=Lib.hid (blk_exc HR.out q1 (blk_lt HR.out) (by omega))
    have HSB7:=Lib.hid ((HK6.out.block w.heap.size (blk_lt HSB.out)).trans HSB.out)
    have HTB7:=Lib.hid (blk_exc HTB.out q1 (blk_lt HTB.out) (by omega))
    have HBN:=Lib.hid (heap_alloc_new W7 (.cells #[.int .u64 q.num,.slice ba q.bytes.length bcc,.slice ka q.kids.length kcc,.bool q.has] 36))
    have HBA:=Lib.hid ((Below.refl W7.heap.size W7).alloc (Nat.le_refl _) (.cells #[.int .u64 q.num,.slice ba q.bytes.length bcc,.slice ka q.kids.length kcc,.bool q.has] 36))
    have hO1:=blk_lt HO7.out
    have hjj:j≤1000000:=by omega
    obtain ⟨_,v0,v1,v2,v3⟩:=blk4p HO7.out
    obtain ⟨_,w0,w1,w2,w3⟩:=blk4p q3
    obtain ⟨i0,hi0,hzz0,hzz1,hzz2⟩:=info_parts val_infoT
    have I1:=Lib.hid hi0
    have I2:=Lib.hid hzz0
    have I3:=Lib.hid hzz1
    have I4:=Lib.hid hzz2
    have Q1:=Lib.hid q1
    have Q2:=Lib.hid q2
    have HOW:=Lib.hid hOlt
    clear q1 q2 hi0 hzz0 hzz1 hzz2 hvh6 hb6 hOlt
    go_wp2_with (at_builtin;refine wpList_append_own_at _ rfl (.tmp 38) (.tmp 40) 34 rfl (w.heap.size+1+1+1+1) 36 i0 _ 4 64 Tryd.underlying34 I1.out I2.out I3.out I4.out rfl (by decide) _ j (kvsCells l') rfl (row_keep HBA.out HROW7.out) _ 1 1 [.int .u64 q.num,.slice ba q.bytes.length bcc,.slice ka q.kids.length kcc,.bool q.has] rfl rfl (World.news_of_block HBN.out) (by intro u hu;simp at hu;rcases hu with rfl|rfl|rfl|rfl<;>rfl) (by unfold maxLen;omega) (by omega) (by simp;omega) ?_;intro v4 W8 hown4 hg4 hx hat4;clear hx;obtain ⟨a4,m4,rfl⟩:=ownsRow_form hown4;obtain ⟨s1,s2,s3,s4,s5⟩:=stepV 2 HX7.out (show w.heap.size≤w.heap.size+1+1+1 by omega) HO7.out HROW7.out HBA.out hg4 hown4;have hkk:=kids_step (q:=⟨q,.int .u64 q.num,.slice ba q.bytes.length bcc,.slice ka q.kids.length kcc,.bool q.has⟩) HKI.out Q1.out (show w.heap.size≤w.heap.size+1+1+1 by omega) HOW.out (fun k hk=>(ownsRow_lt HROW.out k hk).2) Q2.out HBA.out hg4 hat4 (Nat.le_refl _) 2 (.slice a4 (j+1) m4);obtain ⟨_,d0,d1,d2,d3⟩:=blk4p s4;have e1:=blk_frozen s4 2;have S1:=Lib.hid s1;have S2:=Lib.hid s2;have S3:=Lib.hid s3;have S5:=Lib.hid s5;have HKK:=Lib.hid hkk;clear s1 s2 s3 s4 s5 hkk hown4 hg4 hat4)
    go_roundw
    case rel=>exact ⟨j+1,a4,m4,l'++[⟨q,.int .u64 q.num,.slice ba q.bytes.length bcc,.slice ka q.kids.length kcc,.bool q.has⟩],by omega,by go_num,S2.out.trans rfl,by rw [kvsCells_snoc];exact S3.out,HKK.out,by rw [List.map_append,HKV.out,List.take_succ_eq_append_getElem hjl,HQ.out];rfl,(S5.out _ (by omega)).trans HR7.out,(S5.out _ (by omega)).trans HSB7.out,(S5.out _ (by omega)).trans HTB7.out,S1.out⟩
    case measure=>simp [intOf];omega
  · obtain rfl:j=x.kids.length:=by omega
    obtain ⟨_,u0,u1,u2,u3⟩:=blk4p HR.out
    obtain ⟨_,v0,v1,v2,v3⟩:=blk4p HO.out
    have p0:=blk_frozen HR.out 0
    have p1:=blk_frozen HR.out 1
    have p2:=blk_frozen HR.out 2
    have p3:=blk_frozen HR.out 3
    clear hjl
    go_wp2
    refine post_gen (fun Wf=>Wf.heap[w.heap.size+1+1]?=some (.cells #[.int .u64 0,.slice none 0 0,.slice A x.kids.length cap,.bool false] 36 (0,0))∧Exc w.heap.size w.heap.size w Wf∧Wf.ownsRow (w.heap.size+1+1+1+1) 36 4 (.slice A x.kids.length cap) x.kids.length (kvsCells l')∧KidsIn (rowS (w.heap.size+1+1+1+1) (.slice A x.kids.length cap)) Wf l') ⟨?_,?_,?_,?_⟩ ?_
    · exact blk_set4 (w:=wr) HR.out _ _ _ _
    · exact exc_put4 HXW.out (Nat.le_succ_of_le (Nat.le_succ _)) _ _ _ _
    · exact own_set4 HROW.out (by omega) _ _ _ _
    · exact HKI.out.step (by simp [World.setCell]) (fun k hk hS=>⟨hS,set4_blk wr (by have:=(rowS_no.1 hS).1;omega) _ _ _ _⟩)
    · rintro Wf ⟨e1,e2,e3,e4⟩
      obtain ⟨_,d0,d1,d2,d3⟩:=blk4p e1
      have hxe:PV.mk 0 [] (l'.map KV.v) false=x:=by
       rw [HKV.out,List.take_length,pv_eq x,HX0.out.1,HX0.out.2.1,HX0.out.2.2]
       rfl
      have hvh:=vh_kids (S':=newS w.heap.size) e3 e4 (fun k hS=>by have:=(rowS_no.1 hS).1;unfold newS;simp;omega) (fun k hk=>by unfold newS;simp;omega) false
      rw [hxe] at hvh
      exact bodyPost_ret (v:=.tuple #[.agg #[.int .u64 0,.slice none 0 0,.slice A x.kids.length cap,.bool false],.bool true]) (by simp [results,Tryd.results134,go_sem,d0,d1,d2,d3]) rfl ⟨⟨_,rfl,hvh⟩,e2.below (Nat.le_refl _)⟩
end Go.Proofs.YtcfjjocmiheiaaaDoor
namespace Go.Proofs.YtcfjjocmiheiaaaDoor
open Go.ChangeShapes Go.WideShapes Go.ChangeAt Go.RowKit Go.Shelf
def SStAt (w:World)(B K n:Nat)(ks:List PV)(sv ev:Value)(root:Int)(x:Value)(wr:World):Prop:=∃ (j:Nat) (l:List KV),j≤n∧x=.int .i64 j∧l.length=n∧wr.ownsRow (B+1+1) 36 4 (.slice (some ⟨K,0,none⟩) n n) n (kvsCells l)∧(∃ cur,wr.heap[K]?=some (.cells cur 36 (0,0))) ∧
 KidsIn (rowS (B+1+1) (.slice (some ⟨K,0,none⟩) n n)) wr l∧(∀ i (h1:i<l.length) (h2:i<ks.length),i<j→l[i].v=ks[i])∧wr.heap[B+1]?=some (.cells #[.int .u64 0,.slice none 0 0,.slice none 0 0,.bool false] 36 (0,0)) ∧
 wr.heap[B]?=some (.cells #[sv,ev,.int .i64 root] 30 (0,0))∧Below B w wr
theorem shown_struct {ss:List (CRec × Value)}{room:Nat}{w:World}{v:Value}{k:Nat}{ref lists:Int}{q:PV}(hs:sortP k lists=4)(h:Shown (ss.map Prod.fst) room w v k ref lists q):(∃ T r,v=.iface T r)∧(q.num=0∧q.bytes=[]∧q.has=true)∧∃ (i r:Nat) (hi:i<ss.length),ref=i∧room=r+1∧q.kids.length=ss[i].1.fields.length ∧
  ∀ j (hj:j<q.kids.length) (hf:j<ss[i].1.fields.length),AskOk (Shown (ss.map Prod.fst) r) true w v j ss[i].1.fields[j].kind ss[i].1.fields[j].ref ss[i].1.fields[j].lists (q.kids[j]'hj):=by
 cases room with
 | zero =>
  obtain ⟨h1,_⟩:=h
  rw [hs] at h1;cases h1
 | succ r =>
  rcases h with ⟨h1,_⟩|⟨_,h1,h2⟩
  · rw [hs] at h1;cases h1
  · have hr:=h1.within
    rw [List.length_map] at hr
    obtain ⟨i,rfl⟩:=Int.eq_ofNat_of_zero_le hr.1
    have hi:i<ss.length:=by omega
    have hge:recAt (ss.map Prod.fst) ((i:Nat):Int)=ss[i].1:=by
     unfold recAt
     rw [Int.toNat_natCast,List.getD,List.getElem?_map,List.getElem?_eq_getElem hi]
     rfl
    have hfew:=h1.few
    rw [hge] at hfew h2
    exact ⟨h1.there,h1.bare,i,r,hi,rfl,rfl,hfew,h2⟩
set_option maxRecDepth 100000 in
set_option maxHeartbeats 8000000 in
theorem sstructtree {ss:List (CRec × Value)}{es:List (SCho × Value)}(hF:FldsOk ss)(hFew:∀ i (hi:i<ss.length),(ss[i]'hi).1.fields.length≤1000000)(room:Nat)(hr12:room≤12)(hnx:∀ r,room=r+1→KidAtS ss es r):StructAtS ss es room:=by
 intro w base sv ev root k0 rec lists0 x v h hs hsh
 obtain ⟨sa,sc,ea,ec,rfl,rfl⟩:=h.forms
 obtain ⟨⟨T,rv,rfl⟩,hx0,i,r,hi,rfl,hr,hlen,hask⟩:=shown_struct hs hsh
 obtain ⟨h0,h1,h2⟩:=two_start w #[.slice sa ss.length sc,.slice ea es.length ec,.int .i64 root] #[.int .u64 0,.slice none 0 0,.slice none 0 0,.bool false] 30 36
 have HCW:=Lib.hid h
 have HB:=Lib.hid h0
 have HC0:=Lib.hid (h.below h0)
 have Q1:=Lib.hid h1
 have Q2:=Lib.hid h2
 have HKA:=Lib.hid (hnx r hr)
 have HASK:=Lib.hid hask
 have HLEN:=Lib.hid hlen
 have HX0:=Lib.hid hx0
 have HOK:=Lib.hid (hF _ (List.getElem_mem hi))
 have hrn:((room:Int)==0)=false:=by simp;omega
 have hrw:(room:Int)-1=(r:Int):=by omega
 have hrw2:IntKind.i64.wrap (r:Int)=r:=IntWalk.i64_in _ (by omega)
 have HROWS:Hid (∀ W,Below w.heap.size w W→W.ownsRow base 52 5 ss[i].2 ss[i].1.fields.length (cfldsCells ss[i].1.fields)):=Lib.hid (fun W hb=>row_keep hb (h.fields _ (List.getElem_mem hi)))
 have hfl:ss[i].1.fields.length≤1000000:=hFew i hi
 clear h0 h1 h2 h hsh hnx hx0 hs hask hF hr hlen
 have e0:=viewT_no T rv
 go_enter Tryd.func76,Tryd.ntmps76
 go_upto_region 1 with (fail)
 generalize (w.alloc (.cells #[.slice sa ss.length sc,.slice ea es.length ec,.int .i64 root] 30)).alloc (.cells #[.int .u64 0,.slice none 0 0,.slice none 0 0,.bool false] 36)=W0 at *
 obtain ⟨_,s0,s1,s2,_⟩:=blk3 Q1.out
 go_wp2_with fail
 refine (vfields_any W0 root i HC0.out).mono ?_
 rintro e W1 ⟨hb1,hpost⟩
 have HB1:=Lib.hid (HB.out.trans (hb1.mono HB.out.size))
 have P1:=Lib.hid (blk_below Q1.out hb1 (blk_lt Q1.out))
 have P2:=Lib.hid (blk_below Q2.out hb1 (blk_lt Q2.out))
 clear hb1 s0 s1 s2 Q1 Q2 HB HC0
 rcases hpost with ⟨hno,rfl⟩|⟨i',hi',hii,rfl⟩
 · exact absurd ⟨by omega,by omega⟩ hno
 obtain rfl:i=i':=by omega
 obtain ⟨fa,fc,hf⟩:=ownsRow_form (HROWS.out w (Below.refl _ _))
 rw [hf] at HROWS ⊢
 obtain ⟨n,hn⟩:∃ n,ss[i].1.fields.length=n:=⟨_,rfl⟩
 generalize ss[i].1.fields=xs at *
 obtain rfl:=hn
 have hmk:=make_vals xs.length hfl W1
 clear hf hii
 go_upto_region 5 with (fail)
 have hba:Below W1.heap.size W1 (W1.alloc (.cells (rowN (List.replicate xs.length 0)).toArray 36)):=(Below.refl _ _).alloc (Nat.le_refl _) _
 have HKB:=Lib.hid (heap_alloc_new W1 (.cells (rowN (List.replicate xs.length 0)).toArray 36))
 have HKK:Hid (w.heap.size+1<W1.heap.size):=Lib.hid (blk_lt P2.out)
 have HB2:=Lib.hid (HB1.out.trans (hba.mono HB1.out.size))
 have R1:=Lib.hid (blk_below P1.out hba (blk_lt P1.out))
 have R2:=Lib.hid (blk_below P2.out hba (blk_lt P2.out))
 clear hba hmk P1 P2 HB1
 generalize W1.alloc (.cells (rowN (List.replicate xs.length 0)).toArray 36)=W2 at *
 generalize W1.heap.size=K at *
 have HST:Hid (SStAt w w.heap.size K xs.length x.kids (.slice sa ss.length sc) (.slice ea es.length ec) root (.int .i64 ((0:Nat):Int)) W2):=Lib.hid ⟨0,List.replicate xs.length nilKV,Nat.zero_le _,rfl,List.length_replicate,by
   have hsz:(rowN (List.replicate xs.length 0)).toArray.size=xs.length * 4:=by rw [List.size_toArray,rowN_len,List.length_replicate]
   have h:=own_blk (base:=w.heap.size+1+1) (n:=xs.length) (size:=4) HKB.out HKK.out (by unfold maxLen;omega) hsz
   rw [rowN_kv] at h
   exact h,⟨_,HKB.out⟩,fun q hq=>by rw [List.eq_of_mem_replicate hq];exact vh_nil _ _,fun i _ _ h=>absurd h (Nat.not_lt_zero _),R2.out,R1.out,HB2.out⟩
 clear HKB R1 R2
 go_wp2_with fail
 go_loopw [37] (fun y wr=>SStAt w w.heap.size K xs.length x.kids (.slice sa ss.length sc) (.slice ea es.length ec) root y wr) (fun y _=>xs.length-(intOf y).toNat)
 case atStart=>exact HST.out
 case round =>
  obtain ⟨j,l,hj,rfl,hll,hrow,hcur,hkin,hkv,hR,hSB,hbw⟩:=hrel
  have HROW:=Lib.hid hrow
  have HCUR:=Lib.hid hcur
  have HKI:=Lib.hid hkin
  have HKV:=Lib.hid hkv
  have HR:=Lib.hid hR
  have HSB:=Lib.hid hSB
  have HBW:=Lib.hid hbw
  have HLL:=Lib.hid hll
  clear hrow hcur hkin hkv hR hSB hbw hll
  by_cases hjl:j<xs.length
  · have hji:(j:Int)<(xs.length:Int):=by omega
    have hji0:(0:Int)≤(j:Int):=by omega
    have hjk:j<x.kids.length:=by have:=HLEN.out;omega
    obtain ⟨g,cc,hv,hcc,hgl,hcell⟩:=row_el cfldCells 5 (fun _=>rfl) (HROWS.out wr HBW.out) j hjl
    obtain ⟨rfl,rfl⟩:=slice_inj hv
    have hask:=HASK.out j hjk hjl
    obtain ⟨hk255,hl0,hl1,_⟩:=HOK.out _ (List.getElem_mem hjl)
    obtain ⟨q,hq⟩:∃ q,x.kids[j]=q:=⟨_,rfl⟩
    obtain ⟨f,hf⟩:∃ f,xs[j]=f:=⟨_,rfl⟩
    rw [hq,hf] at hask
    rw [hf] at hcell hk255 hl0 hl1
    have x0:wr.cell? ⟨g,j * 5,none⟩=some (.string f.name):=hcell 0 (by omega)
    have x1:wr.cell? ⟨g,j * 5+1,none⟩=some (.int .u8 f.kind):=hcell 1 (by omega)
    have x2:wr.cell? ⟨g,j * 5+2,none⟩=some (.int .i64 f.ref):=hcell 2 (by omega)
    have x3:wr.cell? ⟨g,j * 5+3,none⟩=some (.int .i64 f.lists):=hcell 3 (by omega)
    have x4:wr.cell? ⟨g,j * 5+4,none⟩=some (.int .u64 f.dflt):=hcell 4 (by omega)
    have HQ:=Lib.hid hq
    have HK:Hid (∀ W,Below wr.heap.size wr W→Calls Tryd.prog 108 #[.agg #[.slice sa ss.length sc,.slice ea es.length ec,.int .i64 root],.agg #[.int .u8 f.kind,.int .i64 f.ref,.int .i64 f.lists],.iface T rv,.int .i64 j,.int .i64 r] W (TreePost W q)):=Lib.hid (fun W hb=>HKA.out W base _ _ root f.kind f.ref f.lists q _ j (HCW.out.below (HBW.out.trans (hb.mono HBW.out.size))) hk255 hl0 hl1 (by omega) (hask.later (HBW.out.trans (hb.mono HBW.out.size))))
    have hzc:∀ u,u<4→∃ o,wr.cell? ⟨K,j * 4+u,none⟩=some o:=fun u hu=>by
     obtain ⟨g',c',hv',_,_,hc'⟩:=row_el kvCells 4 (fun _=>rfl) (l:=l) (by rw [HLL.out];exact HROW.out) j (by rw [HLL.out];exact hjl)
     have hv'':=(slice_inj hv').1
     injection hv'' with hv''
     injection hv'' with hv'' _ _
     subst hv''
     have h4:(kvCells (l[j]'(by rw [HLL.out];exact hjl))).length=4:=rfl
     exact ⟨_,(hc' u hu).trans (List.getElem?_eq_getElem (by rw [h4];exact hu))⟩
    have HZC:=Lib.hid hzc
    clear hcell hv hq hf hask hk255 hl0 hl1 hzc
    generalize f.name=xn at *
    generalize f.kind=xk at *
    generalize f.ref=xr at *
    generalize f.lists=xl at *
    generalize f.dflt=xd at *
    go_upto_region 8 with (fail)
    have hba:Below wr.heap.size wr (wr.alloc (.cells #[.string xn,.int .u8 xk,.int .i64 xr,.int .i64 xl,.int .u64 xd] 52)):=(Below.refl _ _).alloc (Nat.le_refl _) _
    have HFB:=Lib.hid (heap_alloc_new wr (.cells #[.string xn,.int .u8 xk,.int .i64 xr,.int .i64 xl,.int .u64 xd] 52))
    have HBA:=Lib.hid hba
    have HSB5:=Lib.hid (blk_below HSB.out hba (blk_lt HSB.out))
    clear x0 x1 x2 x3 x4 hba
    generalize wr.alloc (.cells #[.string xn,.int .u8 xk,.int .i64 xr,.int .i64 xl,.int .u64 xd] 52)=W5 at *
    obtain ⟨_,s0,s1,s2,_⟩:=blk3 HSB5.out
    obtain ⟨_,y0,y1,y2,y3,y4,_⟩:=blk5 HFB.out
    go_wp2_with fail
    refine (HK.out W5 HBA.out).mono ?_
    rintro e W6 ⟨⟨val6,rfl,hvh6⟩,hb6⟩
    obtain ⟨ba,ka,bcc,kcc,rfl,_⟩:=IsV.form hvh6
    have hb56:Below wr.heap.size wr W6:=HBA.out.trans (hb6.mono HBA.out.size)
    obtain ⟨cur,hcur⟩:=HCUR.out
    have hK6:=blk_below hcur hb56 (blk_lt hcur)
    obtain ⟨o0,z0⟩:=HZC.out 0 (by decide)
    obtain ⟨o1,z1⟩:=HZC.out 1 (by decide)
    obtain ⟨o2,z2⟩:=HZC.out 2 (by decide)
    obtain ⟨o3,z3⟩:=HZC.out 3 (by decide)
    replace z0:=cell_stays hb56 z0
    replace z1:=cell_stays hb56 z1
    replace z2:=cell_stays hb56 z2
    replace z3:=cell_stays hb56 z3
    rw [Nat.add_zero] at z0
    have f0:=blk_frozen hK6 (j * 4)
    have f1:=blk_frozen hK6 (j * 4+1)
    have f2:=blk_frozen hK6 (j * 4+2)
    have f3:=blk_frozen hK6 (j * 4+3)
    have hKlt:=blk_lt hcur
    have hWV:=HBA.out.size
    have HVH6:=Lib.hid hvh6
    have HB56:=Lib.hid hb56
    have HK6:=Lib.hid hK6
    have HKLT:=Lib.hid hKlt
    have HWV:=Lib.hid hWV
    clear s0 s1 s2 y0 y1 y2 y3 y4 HK hvh6 hb6 hb56 hK6 hcur hKlt hWV
    go_wp2
    go_roundw
    case rel =>
     have hkk:=HKK.out
     have hKlt:=HKLT.out
     have hWV:=HWV.out
     have hs9:((((W6.setCell ⟨K,j * 4,none⟩ (.int .u64 q.num)).setCell ⟨K,j * 4+1,none⟩ (.slice ba q.bytes.length bcc)).setCell ⟨K,j * 4+2,none⟩ (.slice ka q.kids.length kcc)).setCell ⟨K,j * 4+3,none⟩ (.bool q.has)).heap.size=W6.heap.size:=by simp [World.setCell]
     have rheap:∀ k,k≠K→((((W6.setCell ⟨K,j * 4,none⟩ (.int .u64 q.num)).setCell ⟨K,j * 4+1,none⟩ (.slice ba q.bytes.length bcc)).setCell ⟨K,j * 4+2,none⟩ (.slice ka q.kids.length kcc)).setCell ⟨K,j * 4+3,none⟩ (.bool q.has)).heap[k]?=W6.heap[k]?:=fun k hk=>(Below.heap_setCell _ _ _ _ (by show k≠K;exact hk)).trans ((Below.heap_setCell _ _ _ _ (by show k≠K;exact hk)).trans ((Below.heap_setCell _ _ _ _ (by show k≠K;exact hk)).trans (Below.heap_setCell _ _ _ _ (by show k≠K;exact hk))))
     have hjl':j<l.length:=by rw [HLL.out];exact hjl
     refine ⟨j+1,l.set j ⟨q,.int .u64 q.num,.slice ba q.bytes.length bcc,.slice ka q.kids.length kcc,.bool q.has⟩,by omega,by go_num,by rw [List.length_set];exact HLL.out,?_,?_,?_,?_,(rheap _ (by omega)).trans (blk_below HR.out HB56.out (blk_lt HR.out)),(rheap _ (by omega)).trans (blk_below HSB.out HB56.out (blk_lt HSB.out)),?_⟩
     · have h:=own_put (own_put (own_put (own_put (row_keep HB56.out HROW.out) (j * 4) (.int .u64 q.num)) (j * 4+1) (.slice ba q.bytes.length bcc)) (j * 4+2) (.slice ka q.kids.length kcc)) (j * 4+3) (.bool q.has)
       rw [kvs_set l j ⟨q,.int .u64 q.num,.slice ba q.bytes.length bcc,.slice ka q.kids.length kcc,.bool q.has⟩ hjl'] at h
       exact h
     · exact ⟨_,blk_set (blk_set (blk_set (blk_set HK6.out _ _) _ _) _ _) _ _⟩
     · intro p hp
       rcases List.mem_or_eq_of_mem_set hp with h|h
       · refine (HKI.out p h).step (by rw [hs9];exact HB56.out.size) (fun k hk hs=>?_)
         have hne:k≠K:=fun e=>(rowS_no.1 hs).2 (by rw [e];rfl)
         exact ⟨hs,(rheap k hne).trans (HB56.out.block k hk)⟩
       · subst h
         refine VH.step HVH6.out (by rw [hs9];exact Nat.le_refl _) (fun k hk hs=>?_)
         have h1:W5.heap.size≤k:=by unfold newS at hs;simpa using hs
         exact ⟨rowS_no.2 ⟨by omega,fun e=>by have e2:some K=some k:=e;injection e2 with e2;omega⟩,rheap k (by omega)⟩
     · intro i h1 h2 hi
       rw [List.getElem_set]
       split
       · rename_i e
         subst e
         exact HQ.out.symm
       · exact HKV.out i (by rw [List.length_set] at h1;exact h1) h2 (by omega)
     · exact ((((HBW.out.trans (HB56.out.mono HBW.out.size)).setCell (p:=⟨K,j * 4,none⟩) (show w.heap.size≤K by omega) _).setCell (p:=⟨K,j * 4+1,none⟩) (show w.heap.size≤K by omega) _).setCell (p:=⟨K,j * 4+2,none⟩) (show w.heap.size≤K by omega) _).setCell (p:=⟨K,j * 4+3,none⟩) (show w.heap.size≤K by omega) _
    case measure=>simp [intOf];omega
  · obtain rfl:j=xs.length:=by omega
    obtain ⟨_,u0,u1,u2,u3⟩:=blk4p HR.out
    have p0:=blk_frozen HR.out 0
    have p1:=blk_frozen HR.out 1
    have p2:=blk_frozen HR.out 2
    have p3:=blk_frozen HR.out 3
    clear hjl
    go_wp2
    refine post_gen (fun Wf=>Wf.heap[w.heap.size+1]?=some (.cells #[.int .u64 0,.slice none 0 0,.slice (some ⟨K,0,none⟩) xs.length xs.length,.bool true] 36 (0,0))∧Below w.heap.size w Wf∧Wf.ownsRow (w.heap.size+1+1) 36 4 (.slice (some ⟨K,0,none⟩) xs.length xs.length) xs.length (kvsCells l)∧KidsIn (rowS (w.heap.size+1+1) (.slice (some ⟨K,0,none⟩) xs.length xs.length)) Wf l) ⟨?_,?_,?_,?_⟩ ?_
    · exact blk_set4 (w:=wr) HR.out _ _ _ _
    · exact below_set4 HBW.out (Nat.le_succ _) _ _ _ _
    · exact own_set4 HROW.out (by omega) _ _ _ _
    · exact HKI.out.step (by simp [World.setCell]) (fun k hk hS=>⟨hS,set4_blk wr (by have:=(rowS_no.1 hS).1;omega) _ _ _ _⟩)
    · rintro Wf ⟨e1,e2,e3,e4⟩
      obtain ⟨_,d0,d1,d2,d3⟩:=blk4p e1
      have hxe:PV.mk 0 [] (l.map KV.v) true=x:=by
       have hm:l.map KV.v=x.kids:=by
        apply List.ext_getElem
        · rw [List.length_map,HLL.out,HLEN.out]
        · intro i h1 h2
          rw [List.getElem_map]
          exact HKV.out i (by simpa using h1) h2 (by have:=HLEN.out;omega)
       rw [hm,pv_eq x,HX0.out.1,HX0.out.2.1,HX0.out.2.2]
       rfl
      have hvh:=vh_kids (S':=newS w.heap.size) e3 e4 (fun k hS=>by have:=(rowS_no.1 hS).1;unfold newS;simp;omega) (fun k hk=>by unfold newS;simp;omega) true
      rw [hxe] at hvh
      exact bodyPost_ret (v:=.tuple #[.agg #[.int .u64 0,.slice none 0 0,.slice (some ⟨K,0,none⟩) xs.length xs.length,.bool true],.bool true]) (by simp [results,Tryd.results76,go_sem,d0,d1,d2,d3]) rfl ⟨⟨_,rfl,hvh⟩,e2⟩
end Go.Proofs.YtcfjjocmiheiaaaDoor
namespace Go.Proofs.YtcfjjocmiheiaaaDoor
open Go.ChangeShapes Go.WideShapes Go.ChangeAt Go.RowKit Go.Shelf
theorem skid_all {ss:List (CRec × Value)}{es:List (SCho × Value)}(hF:FldsOk ss)(hFew:∀ i (hi:i<ss.length),(ss[i]'hi).1.fields.length≤1000000):∀ room,room≤12→KidAtS ss es room
 | 0,h=>skidtree 0 h (sstructtree hF hFew 0 h (fun r e=>by omega)) (slisttree 0 h (fun r e=>by omega))
 | n+1,h =>
  have hn:∀ r,n+1=r+1→KidAtS ss es r:=fun r e=>by
   obtain rfl:n=r:=by omega
   exact skid_all hF hFew n (by omega)
  skidtree (n+1) h (sstructtree hF hFew (n+1) h hn) (slisttree (n+1) h hn)
theorem sstruct_all {ss:List (CRec × Value)}{es:List (SCho × Value)}(hF:FldsOk ss)(hFew:∀ i (hi:i<ss.length),(ss[i]'hi).1.fields.length≤1000000):StructAtS ss es 12:=
 sstructtree hF hFew 12 (Nat.le_refl _) (fun r e=>skid_all hF hFew r (by omega))
set_option maxRecDepth 100000 in
set_option maxHeartbeats 4000000 in
theorem stree_any (w:World){base:Nat}{ss:List (CRec × Value)}{es:List (SCho × Value)}{sv ev:Value}(root rec:Int)(h:CRows base w ss es sv ev)(hF:FldsOk ss)(hFew:∀ i (hi:i<ss.length),(ss[i]'hi).1.fields.length≤1000000)(v:PV)(vv:Value)(hsh:Shown (ss.map Prod.fst) 12 w vv 13 rec 0 v) :
  Calls Tryd.prog 48 #[.agg #[sv,ev,.int .i64 root],.int .i64 rec,vv] w fun e w'=>(∃ val',e=.returned val'∧VH (newS w.heap.size) w' v val')∧Below w.heap.size w w':=by
 obtain ⟨h0,h1,h2⟩:=two_start w #[sv,ev,.int .i64 root] #[.int .u64 0,.slice none 0 0,.slice none 0 0,.bool false] 30 36
 have HCALL:=Lib.hid (sstruct_all hF hFew _ base sv ev root 13 rec 0 v vv (h.below h0) rfl (hsh.later _ h0))
 have HB:=Lib.hid h0
 have Q2:=Lib.hid h2
 obtain ⟨_,s0,s1,s2,_⟩:=blk3 h1
 clear h0 h1 h2 h hsh hF hFew
 go_enter Tryd.func48,Tryd.ntmps48
 go_upto_region 1 with (fail)
 generalize (w.alloc (.cells #[sv,ev,.int .i64 root] 30)).alloc (.cells #[.int .u64 0,.slice none 0 0,.slice none 0 0,.bool false] 36)=W0 at *
 have HW0:Hid (w.heap.size+1<W0.heap.size):=Lib.hid (blk_lt Q2.out)
 go_wp2_with fail
 refine HCALL.out.mono ?_
 rintro e W1 ⟨⟨val1,rfl,hvh⟩,hb1⟩
 obtain ⟨ba,ka,bc,kc,rfl,_⟩:=IsV.form hvh
 have HB1:=Lib.hid (HB.out.trans (hb1.mono HB.out.size))
 have P2:=Lib.hid (blk_below Q2.out hb1 (blk_lt Q2.out))
 have HVH:=Lib.hid hvh
 clear hb1 hvh s0 s1 s2 HCALL HB Q2
 go_upto_region 2 with (fail)
 have hba:Below W1.heap.size W1 (W1.alloc (.cells #[.int .u64 v.num,.slice ba v.bytes.length bc,.slice ka v.kids.length kc,.bool v.has] 36)):=(Below.refl _ _).alloc (Nat.le_refl _) _
 have hn:=heap_alloc_new W1 (.cells #[.int .u64 v.num,.slice ba v.bytes.length bc,.slice ka v.kids.length kc,.bool v.has] 36)
 have HB2:=Lib.hid (HB1.out.trans (hba.mono HB1.out.size))
 have P3:=Lib.hid (blk_below P2.out hba (blk_lt P2.out))
 have HVH2:=Lib.hid (HVH.out.below hba)
 clear hba
 generalize W1.alloc (.cells #[.int .u64 v.num,.slice ba v.bytes.length bc,.slice ka v.kids.length kc,.bool v.has] 36)=W2 at *
 obtain ⟨_,y0,y1,y2,y3⟩:=blk4p hn
 obtain ⟨_,u0,u1,u2,u3⟩:=blk4p P3.out
 have p0:=blk_frozen P3.out 0
 have p1:=blk_frozen P3.out 1
 have p2:=blk_frozen P3.out 2
 have p3:=blk_frozen P3.out 3
 clear hn
 go_wp2
 refine post_gen (fun Wf=>Wf.heap[w.heap.size+1]?=some (.cells #[.int .u64 v.num,.slice ba v.bytes.length bc,.slice ka v.kids.length kc,.bool v.has] 36 (0,0))∧VH (newS w.heap.size) Wf v (.agg #[.int .u64 v.num,.slice ba v.bytes.length bc,.slice ka v.kids.length kc,.bool v.has])∧Below w.heap.size w Wf) ⟨?_,?_⟩ ?_
 · exact blk_set4 (w:=W2) P3.out _ _ _ _
 · exact tree_end HB2.out (by omega) HW0.out HVH2.out _ _ _ _
 · rintro Wf ⟨e1,e2,e3⟩
   obtain ⟨_,d0,d1,d2,d3⟩:=blk4p e1
   exact bodyPost_ret (v:=.agg #[.int .u64 v.num,.slice ba v.bytes.length bc,.slice ka v.kids.length kc,.bool v.has]) (by simp [results,Tryd.results48,go_sem,d0,d1,d2,d3]) rfl ⟨⟨_,rfl,e2⟩,e3⟩
end Go.Proofs.YtcfjjocmiheiaaaDoor
