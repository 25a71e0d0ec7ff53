/-
  The document's own Parse, whatever the text. Conditions: those that each theorem names; the library's tables hold what the row lists.
-/
import Derived.Test.YtokhnoogkdlidaaGreatDoorPkP46
namespace Go.Proofs.YtokhnoogkdlidaaGreatDoor
open Go.ChangeShapes Go.WideShapes Go.ChangeAt Go.RowKit Go.Shelf
theorem dparse_root2 {P g c A:Nat}{l:List Tok}{st:Sto}{w W Wp W4:World}{ss:List (RRec × Value)}{es:List (RCho × Value)}{ts:List Tok}{sv ev rv v4:Value}{t:Tok}
  (ha:RawAt A W ss es ts sv ev rv) (hr:DpS W P g c l st) (hz:W.heap[w.heap.size]?=some (.cells #[.slice none 0 0,.slice none 0 0,.slice none 0 0] 68 (0,0))) (hx:Below w.heap.size w W) (hwA:w.heap.size<A)
  (hb:Below W.heap.size W Wp) (hg4:Wp.grownBy W4 rv.ownBlock)
  (ho4:W4.ownsRow (A+1) 97 3 v4 (ts.length+1) (toksCells ts++tokCells t)) (hat:v4.ownBlock=rv.ownBlock∨∃ k,v4.ownBlock=some k∧Wp.heap.size≤k) (hP:P<A) (hg:g<A) :
  RawAt A (W4.setCell ⟨A,2,none⟩ v4) ss es (ts++[t]) sv ev v4∧DpS (W4.setCell ⟨A,2,none⟩ v4) P g c l st∧(W4.setCell ⟨A,2,none⟩ v4).heap[w.heap.size]?=some (.cells #[.slice none 0 0,.slice none 0 0,.slice none 0 0] 68 (0,0))∧Below w.heap.size w (W4.setCell ⟨A,2,none⟩ v4):=by
 obtain ⟨h1,h2,h3⟩:=dpart_deep hr hx (Nat.le_of_lt hwA) hb hg4 (fun k hk=>by have:=(ownsRow_lt ha.roots k hk).1;omega) hP hg (Nat.le_of_lt (blk_lt ha.blk)) 2 v4
 exact ⟨RawAt.root (ha.fell hb) hg4 ho4 hat,h1,(h3.block _ hwA).trans hz,h2⟩
set_option maxRecDepth 100000 in
set_option maxHeartbeats 16000000 in
theorem dparse_good (s:ByteArray)(w:World)(hT:Tabs w)(hs:s.size≤9223372036854775807)(l:List Tok)(p:Nat)(hr:toks okU (amg idlSigns) (bts s)=(l,0,p)) :
  Calls Tryz.prog 16 #[.string s] w (DParsePost w (rawT s)):=by
 have HX:Hid (rawT s=match (Sto.go l).rd (schemaL noRaw) with
  | .ok a _=>(a,0,0)
  | .no c q=>(noRaw,c,q)):=Lib.hid (by unfold rawT;rw [hr];rfl)
 obtain ⟨hend,hlen,hbyt⟩:=toks_good hr
 have HEND:=Lib.hid hend
 have HBYT:=Lib.hid hbyt
 have hbA:Below w.heap.size w (w.alloc (.cells #[.slice none 0 0,.slice none 0 0,.slice none 0 0] 68)):=(Below.refl _ _).alloc (Nat.le_refl _) _
 have HZ0:=Lib.hid (heap_alloc_new w (.cells #[.slice none 0 0,.slice none 0 0,.slice none 0 0] 68))
 have HL:=Lib.hid (refTokens_any s idlSigns _ (hT.below (Nat.le_refl _) hbA) hs (by decide))
 rw [hr] at HL
 have HB0:=Lib.hid hbA
 have hlt:w.heap.size<_:=blk_lt HZ0.out
 clear hbA hT hr hend hbyt
 go_enter Tryz.func16,Tryz.ntmps16
 go_upto_region 1 with (fail)
 generalize w.alloc (.cells #[.slice none 0 0,.slice none 0 0,.slice none 0 0] 68)=W0 at *
 go_wp2_with fail
 refine HL.out.mono ?_
 rintro e W1 ⟨v,rfl,ho,hb1⟩
 obtain ⟨g,c,rfl,hc,hgb,hg,hcells⟩:=ho.cells HEND.out.ne
 have hcm:c≤maxLen:=by
  rcases ho.2 with ⟨h,_⟩|⟨g',cap',cur,h,_,_,_,hm,_⟩
  · cases h
  · injection h with _ _ h
    subst h
    exact hm
 have HB1:=Lib.hid (HB0.out.trans (hb1.mono (by omega)))
 have HZ1:=Lib.hid (blk_below HZ0.out hb1 (blk_lt HZ0.out))
 have HR1:=Lib.hid (dp_start hg hcells hc hcm HEND.out HBYT.out hlen)
 clear hb1 ho hcells
 simp only
 go_upto_region 5 with (fail)
 have hg1:=hg
 have hlt1:w.heap.size<W1.heap.size:=blk_lt HZ1.out
 have HB2:=Lib.hid (HB1.out.alloc HB1.out.size (.cells #[.slice (some ⟨g,0,none⟩) l.length c,.int .i64 0,.int .i64 0,.int .i64 0] 94))
 have HZ2:=Lib.hid (blk_alloc HZ1.out (.cells #[.slice (some ⟨g,0,none⟩) l.length c,.int .i64 0,.int .i64 0,.int .i64 0] 94))
 have hP2:W1.heap.size<(W1.alloc (.cells #[.slice (some ⟨g,0,none⟩) l.length c,.int .i64 0,.int .i64 0,.int .i64 0] 94)).heap.size:=by simp
 clear HB1 HZ1
 generalize W1.alloc (.cells #[.slice (some ⟨g,0,none⟩) l.length c,.int .i64 0,.int .i64 0,.int .i64 0] 94)=W2 at *
 generalize W1.heap.size=P at *
 go_wp2_with fail
 have HA3:=Lib.hid (heap_alloc_new W2 (.cells #[.slice none 0 0,.slice none 0 0,.slice none 0 0] 68))
 have hbA3:Below W2.heap.size W2 (W2.alloc (.cells #[.slice none 0 0,.slice none 0 0,.slice none 0 0] 68)):=(Below.refl _ _).alloc (Nat.le_refl _) _
 have HR3:=Lib.hid (HR1.out.keep hbA3)
 have HZ3:=Lib.hid (blk_alloc HZ2.out (.cells #[.slice none 0 0,.slice none 0 0,.slice none 0 0] 68))
 have HB3:=Lib.hid (HB2.out.alloc HB2.out.size (.cells #[.slice none 0 0,.slice none 0 0,.slice none 0 0] 68))
 clear hbA3 HR1 HZ2 HB2
 generalize W2.alloc (.cells #[.slice none 0 0,.slice none 0 0,.slice none 0 0] 68)=W3 at *
 generalize W2.heap.size=A at *
 generalize hXX:(Sto.go l).rd (schemaL noRaw)=X at *
 have HXX:=Lib.hid hXX
 clear hXX
 go_loopw [] (fun wr=>DParseAt P g c l A w X wr) (fun wr=>dpM l P wr)
 case atStart=>exact ⟨[],[],[],_,_,_,.go l,⟨HA3.out,World.ownsRow_nil _ _ _ _,World.ownsRow_nil _ _ _ _,World.ownsRow_nil _ _ _ _,(fun q hq=>by cases hq),(fun q hq=>by cases hq),(fun q hq=>by cases hq)⟩,HR3.out,HZ3.out,HB3.out,by simp [Sto.left],HXX.out.symm⟩
 case round =>
  clear HA3 HR3 HZ3 HB3
  obtain ⟨ss,es,ts,sv,ev,rv,st1,ha,hr,hz,hx,hn,heq⟩:=hrel
  have HM:=Lib.hid (dpM_more hr)
  have HA:=Lib.hid ha
  have HR:=Lib.hid hr
  have HZ:=Lib.hid hz
  have HB:=Lib.hid hx
  have HEQ:=Lib.hid heq
  clear ha hr hz hx heq
  cases st1 with
  | fell cc pp =>
   obtain ⟨h0,r,hd'⟩:=HR.out
   obtain ⟨_,r0,r1,r2,r3,_⟩:=blk4 hd'.blk
   simp only at r2 r3
   have t0:(cc==0)=false:=by simp [h0]
   have t1:(cc != 0)=true:=by simp [h0]
   have HE:Hid (rawT s=(noRaw,cc,pp)):=Lib.hid (by rw [HX.out,HEQ.out];rfl)
   obtain ⟨_,z0,z1,z2,y0,y1,y2⟩:=blk3 HZ.out
   clear h0 hd'
   go_wp2_with fail
   go_region_with (fail)
   all_goals
    go_wp2
    refine post_gen (fun Wf=>Wf.heap[w.heap.size]?=some (.cells #[.slice none 0 0,.slice none 0 0,.slice none 0 0] 68 (0,0))∧Below w.heap.size w Wf) ⟨?_,?_⟩ ?_
    · exact blk_set3 HZ.out _ _ _
    · first
       | exact (((HB.out.setCell (p:=⟨w.heap.size,0,none⟩) (Nat.le_refl _) _).setCell (p:=⟨w.heap.size,1,none⟩) (Nat.le_refl _) _).setCell (p:=⟨w.heap.size,2,none⟩) (Nat.le_refl _) _).drew
       | exact (((HB.out.drew.setCell (p:=⟨w.heap.size,0,none⟩) (Nat.le_refl _) _).setCell (p:=⟨w.heap.size,1,none⟩) (Nat.le_refl _) _).setCell (p:=⟨w.heap.size,2,none⟩) (Nat.le_refl _) _)
    · rintro Wf ⟨e1,e3⟩
      obtain ⟨_,c0,c1,c2,_⟩:=blk3 e1
      exact bodyPost_ret (v:=.tuple #[.agg #[.slice none 0 0,.slice none 0 0,.slice none 0 0],.int .i64 cc,.int .i64 (pp:Nat)]) (by simp [results,Tryz.results16,go_sem,c0,c1,c2]) rfl (dparse_none HE.out e3)
  | go r =>
   have hd0:Dp wr P g c l r (0,0):=HR.out
   obtain ⟨_,r0,r1,r2,r3,_⟩:=blk4 hd0.blk
   simp only at r2 r3
   have HH:=Lib.hid (dhere_any wr P g c l r _ hd0)
   have HEND:=Lib.hid hd0.ends
   have hf:=fld0
   clear hd0
   by_cases hk:(hd r).kind=0
   · have tk:((hd r).kind != 0)=false:=by simp [hk]
     have HE:Hid (rawT s=(rawOf ss es ts,0,0)):=Lib.hid (by rw [HX.out,HEQ.out,sch_end HEND.out hk];rfl)
     obtain ⟨sa,sc,ea,ec,ra,rc,rfl,rfl,rfl⟩:=(HA.out.rows (Nat.le_refl _)).forms
     clear hk
     go_wp2_with fail
     refine HH.out.mono ?_
     rintro e W5 ⟨rfl,hb5⟩
     clear r0 r1 r2 r3
     have HA5:=Lib.hid (HA.out.fell hb5)
     have HZ5:=Lib.hid (blk_below HZ.out hb5 (blk_lt HZ.out))
     have HB5:=Lib.hid (HB.out.trans (hb5.mono HB.out.size))
     obtain ⟨_,r0,r1,r2,r3,_⟩:=blk4 (show Dp W5 P g c l r (0,0) from HR.out.keep hb5).blk
     simp only at r2 r3
     clear hb5 HA HR HZ HB
     obtain ⟨_,a0,a1,a2,_⟩:=blk3 HA5.out.blk
     obtain ⟨_,z0,z1,z2,y0,y1,y2⟩:=blk3 HZ5.out
     unfold tokV
     go_wp2
     refine post_gen (fun Wf=>Wf.heap[w.heap.size]?=some (.cells #[.slice sa ss.length sc,.slice ea es.length ec,.slice ra ts.length rc] 68 (0,0))∧Below w.heap.size w Wf∧RawRows w.heap.size Wf ss es ts (.slice sa ss.length sc) (.slice ea es.length ec) (.slice ra ts.length rc)) ⟨?_,?_,?_⟩ ?_
     · exact blk_set3 HZ5.out _ _ _
     · exact ((HB5.out.setCell (p:=⟨w.heap.size,0,none⟩) (Nat.le_refl _) _).setCell (p:=⟨w.heap.size,1,none⟩) (Nat.le_refl _) _).setCell (p:=⟨w.heap.size,2,none⟩) (Nat.le_refl _) _
     · exact ((HA5.out.rows (Nat.le_refl _)).exc (exc_set3 W5 w.heap.size _ _ _) (by omega)).base (by omega)
     · rintro Wf ⟨e1,e2,e3⟩
       obtain ⟨_,c0,c1,c2,_⟩:=blk3 e1
       exact bodyPost_ret (v:=.tuple #[.agg #[.slice sa ss.length sc,.slice ea es.length ec,.slice ra ts.length rc],.int .i64 0,.int .i64 0]) (by simp [results,Tryz.results16,go_sem,c0,c1,c2]) rfl ⟨ss,es,ts,_,_,_,by rw [HE.out];rfl,by rw [HE.out],e3,e2⟩
   · have tk:((hd r).kind != 0)=true:=by simp [hk]
     have HK:=Lib.hid hk
     clear hk
     go_wp2_with fail
     refine HH.out.mono ?_
     rintro e W5 ⟨rfl,hb5⟩
     clear r0 r1 r2 r3
     have HA5:=Lib.hid (HA.out.fell hb5)
     have HR5:=Lib.hid (HR.out.keep hb5)
     have HZ5:=Lib.hid (blk_below HZ.out hb5 (blk_lt HZ.out))
     have HB5:=Lib.hid (HB.out.trans (hb5.mono HB.out.size))
     clear hb5 HA HR HZ HB
     unfold tokV
     go_wp2_with fail
     refine (dis_any _ P g c l (.go r) 1 ⟨#[115,116,114,117,99,116]⟩ wStruct (by kernel_rfl) HR5.out).mono ?_
     rintro e W6 ⟨rfl,hb6⟩
     have HA6:=Lib.hid (HA5.out.fell hb6)
     have HR6:=Lib.hid (HR5.out.keep hb6)
     have HZ6:=Lib.hid (blk_below HZ5.out hb6 (blk_lt HZ5.out))
     have HB6:=Lib.hid (HB5.out.trans (hb6.mono HB5.out.size))
     clear hb6 HA5 HR5 HZ5 HB5
     generalize hi1:isS 1 wStruct (.go r)=b
     have HI1:=Lib.hid (show isT 1 wStruct r=b from hi1)
     clear hi1
     cases b
     · go_wp2_with fail
       refine (dis_any _ P g c l (.go r) 1 ⟨#[101,110,117,109]⟩ wEnum (by kernel_rfl) HR6.out).mono ?_
       rintro e W7 ⟨rfl,hb7⟩
       have HA7:=Lib.hid (HA6.out.fell hb7)
       have HR7:=Lib.hid (HR6.out.keep hb7)
       have HZ7:=Lib.hid (blk_below HZ6.out hb7 (blk_lt HZ6.out))
       have HB7:=Lib.hid (HB6.out.trans (hb7.mono HB6.out.size))
       clear hb7 HA6 HR6 HZ6 HB6
       generalize hi2:isS 1 wEnum (.go r)=b
       have HI2:=Lib.hid (show isT 1 wEnum r=b from hi2)
       clear hi2
       cases b
       · go_wp2_with fail
         refine (dis_any _ P g c l (.go r) 1 ⟨#[114,111,111,116]⟩ wRoot (by kernel_rfl) HR7.out).mono ?_
         rintro e W8 ⟨rfl,hb8⟩
         have HA8:=Lib.hid (HA7.out.fell hb8)
         have HR8:=Lib.hid (HR7.out.keep hb8)
         have HZ8:=Lib.hid (blk_below HZ7.out hb8 (blk_lt HZ7.out))
         have HB8:=Lib.hid (HB7.out.trans (hb8.mono HB7.out.size))
         clear hb8 HA7 HR7 HZ7 HB7
         generalize hi3:isS 1 wRoot (.go r)=b
         have HI3:=Lib.hid (show isT 1 wRoot r=b from hi3)
         clear hi3
         cases b
         · have HE:=Lib.hid (HEQ.out.trans (sch_bad (a:=rawOf ss es ts) HEND.out HK.out HI1.out HI2.out HI3.out))
           have HC:=Lib.hid (dbad_any W8 P g c l (.go r) 11 (by decide) HR8.out)
           have hPA:P<A:=by omega
           have hPw:w.heap.size≤P:=by omega
           go_wp2_with fail
           refine HC.out.mono ?_
           rintro e W9 ⟨rfl,hr9,hx9⟩
           have HR9:=Lib.hid hr9
           have HA9:=Lib.hid (HA8.out.stay hPA hx9)
           have HZ9:=Lib.hid (blk_exc HZ8.out hx9 (blk_lt HZ8.out) (by omega))
           have HB9:=Lib.hid (HB8.out.trans ((hx9.mono HB8.out.size).below hPw))
           clear hr9 hx9 HA8 HR8 HZ8 HB8
           go_wp2
           go_roundw
           case rel=>exact ⟨ss,es,ts,sv,ev,rv,_,HA9.out,HR9.out,HZ9.out,HB9.out,by have:=hn;simp only [badS,Sto.left] at this ⊢;omega,HE.out⟩
           case measure=>rw [dpM_more HR9.out,HM.out];simp [badS,Sto.more]
         · have hd6:Dp W8 P g c l r (0,0):=HR8.out
           obtain ⟨_,r0,r1,r2,r3,s1,s2,s3⟩:=blk4 hd6.blk
           have hfew:=hd6.few
           have hlenr:=hd6.len
           have hPA:P<A:=by omega
           have hPw:w.heap.size≤P:=by omega
           have HLR:=Lib.hid (show r.length=r.tail.length+1 from HEND.out.len)
           have HE0:=Lib.hid (fun s=>sch_root (a:=rawOf ss es ts) (t:=s) HEND.out HI1.out HI2.out HI3.out)
           have HEAT:=Lib.hid (step_left (name_eats (HEND.out.tail HK.out)) (by rw [(HEND.out.tail HK.out).len];omega))
           have HRt:Hid (DpS (W8.setCell ⟨P,1,none⟩ (.int .i64 (((l.length-r.length:Nat):Int)+1))) P g c l (.go r.tail)):=Lib.hid (dp_next hd6 HK.out)
           have hx7:Exc P W8.heap.size W8 (W8.setCell ⟨P,1,none⟩ (.int .i64 (((l.length-r.length:Nat):Int)+1))):=exc_set _ _ _ _
           have HAt:=Lib.hid (HA8.out.stay hPA hx7)
           have HZt:=Lib.hid (blk_exc HZ8.out hx7 (blk_lt HZ8.out) (by omega))
           have HBt:=Lib.hid (HB8.out.trans ((hx7.mono HB8.out.size).below hPw))
           obtain ⟨i0,hi0,hz0,hz1,hz2⟩:=info_parts tok_info
           have I1:=Lib.hid hi0
           have I2:=Lib.hid hz0
           have I3:=Lib.hid hz1
           have I4:=Lib.hid hz2
           clear hx7 hd6 HA8 HR8 HZ8 HB8 hi0 hz0 hz1 hz2
           go_upto_region 18 with (fail)
           clear r0 r1 r2 r3 s1 s2 s3
           generalize (W8.setCell ⟨P,1,none⟩ (.int .i64 (((l.length-r.length:Nat):Int)+1)))=Wt at *
           have hAt:A<Wt.heap.size:=blk_lt HAt.out.blk
           go_wp2_with fail
           refine (dname_any _ P g c l (.go r.tail) false HRt.out).mono ?_
           rintro e W9 ⟨s,rfl,hr9,hx9,hs9⟩
           unfold tokV
           have HR9:Hid (DpS W9 P g c l ((Sto.go r.tail).step nameR)):=Lib.hid hr9
           have HE1:=Lib.hid (HEQ.out.trans (HE0.out s hs9))
           have HA8:=Lib.hid (HAt.out.stay hPA hx9)
           have HZ8:=Lib.hid (blk_exc HZt.out hx9 (blk_lt HZt.out) (by omega))
           have HB8:=Lib.hid (HBt.out.trans ((hx9.mono HBt.out.size).below hPw))
           clear hr9 hx9 hs9 HAt HZt HBt HRt
           have HLE:=Lib.hid (show (((Sto.go r.tail).step nameR).step (wantR [59])).left+1≤r.tail.length from Nat.le_trans (Nat.succ_le_succ (stp_leaves (f:=wantR [59]) (fun r0 e=>(want_eats (DpS.ends (r:=r0) (e▸HR9.out))).keeps))) HEAT.out)
           generalize ((Sto.go r.tail).step nameR)=st9 at *
           go_upto_region 19 with (fail)
           have hbo:Below W9.heap.size W9 (W9.alloc (.cells #[.int .i64 s.kind,.string (strOfNums s.text),.int .i64 s.place] 97)):=(Below.refl _ _).alloc (Nat.le_refl _) _
           have HA9:=Lib.hid (HA8.out.fell hbo)
           have HR10:=Lib.hid (HR9.out.keep hbo)
           have HZ9:=Lib.hid (blk_below HZ8.out hbo (blk_lt HZ8.out))
           have HB9:=Lib.hid (HB8.out.trans (hbo.mono HB8.out.size))
           have HS9:=Lib.hid (heap_alloc_new W9 (.cells #[.int .i64 s.kind,.string (strOfNums s.text),.int .i64 s.place] 97))
           clear hbo HA8 HR9 HZ8 HB8
           generalize W9.alloc (.cells #[.int .i64 s.kind,.string (strOfNums s.text),.int .i64 s.place] 97)=W10 at *
           generalize W9.heap.size=BS at *
           obtain ⟨hA9,a0,a1,a2,b0,b1,b2⟩:=blk3 HA9.out.blk
           obtain ⟨_,x0,x1,x2,_⟩:=blk3 HS9.out
           have hcount:ts.length≤2048:=by have:=hn;simp only [Sto.left] at this;omega
           go_upto_region 20 with (at_builtin;refine wpList_append_lies _ rfl (.tmp 93) (.tmp 95) 66 rfl (A+1) 97 i0 _ 3 32 Tryz.underlying66 I1.out I2.out I3.out I4.out rfl (by decide) _ ts.length (toksCells ts) rfl (row_below ((Below.refl _ W10).alloc (Nat.le_refl _) _) HA9.out.roots) _ 1 1 [.int .i64 s.kind,.string (strOfNums s.text),.int .i64 s.place] rfl rfl (rec_new W10 _ _ _ _ rfl rfl rfl).1 (rec_new W10 _ _ _ 0 rfl rfl rfl).2 (by decide) (by unfold maxLen;omega) (by omega) (by simp;omega) _ rfl ?_;rintro g4 c4 W4 hown4 hg4 hat4 hlt4;have hv4:=(hg4.block A (by simp;omega) (fun e=>by have:=(ownsRow_lt HA9.out.roots A e.symm).1;omega)).trans (blk_alloc (w:=W10) HA9.out.blk _);obtain ⟨hA4,m0,m1,m2,n0,n1,n2⟩:=blk3 hv4;have HG4:=Lib.hid hg4;have HO4:=Lib.hid hown4;have HAT4:=Lib.hid hat4;clear hg4 hown4 hv4 hat4)
           obtain ⟨e1,e2,e3,e4⟩:=dparse_root2 (t:=s) HA9.out HR10.out HZ9.out HB9.out (by omega) ((Below.refl _ W10).alloc (Nat.le_refl _) _) HG4.out HO4.out (by
            rcases HAT4.out with h|h
            · exact .inl (Eq.symm h)
            · right;exact ⟨g4,rfl,by rw [h];exact Nat.le_refl _⟩) hPA (by omega)
           have HAn:=Lib.hid e1
           have HRn:=Lib.hid e2
           have HZn:=Lib.hid e3
           have HBn:=Lib.hid e4
           clear e1 e2 e3 e4 HA9 HR10 HZ9 HB9 HG4 HO4 HAT4 m0 m1 m2 n0 n1 n2 hA4 a0 a1 a2 b0 b1 b2 x0 x1 x2 HS9
           generalize W4.setCell ⟨A,2,none⟩ (.slice (some ⟨g4,0,none⟩) (ts.length+1) c4)=Wn at *
           go_wp2_with fail
           refine (dwant_any _ P g c l st9 ⟨#[59]⟩ [59] (by kernel_rfl) HRn.out).mono ?_
           rintro e Wf ⟨rfl,hrf,hxf⟩
           have HRf:=Lib.hid hrf
           have HAf:=Lib.hid (HAn.out.stay hPA hxf)
           have HZf:=Lib.hid (blk_exc HZn.out hxf (blk_lt HZn.out) (by omega))
           have HBf:=Lib.hid (HBn.out.trans ((hxf.mono HBn.out.size).below hPw))
           clear hrf hxf HAn HRn HZn HBn
           go_wp2
           go_roundw
           case rel=>exact ⟨ss,es,ts++[s],_,_,_,_,HAf.out,HRf.out,HZf.out,HBf.out,by have h1:ss.length+es.length+ts.length+r.length≤l.length:=hn;have h2:=HLE.out;have h3:=HLR.out;rw [List.length_append,List.length_singleton];omega,HE1.out⟩
           case measure =>
            rw [dpM_more HRf.out,HM.out]
            exact more_left (by have h2:=HLE.out;have h3:=HLR.out;omega)
       · have hd6:Dp W7 P g c l r (0,0):=HR7.out
         obtain ⟨_,r0,r1,r2,r3,s1,s2,s3⟩:=blk4 hd6.blk
         have hfew:=hd6.few
         have hlenr:=hd6.len
         have hPA:P<A:=by omega
         have hPw:w.heap.size≤P:=by omega
         have HLR:=Lib.hid (show r.length=r.tail.length+1 from HEND.out.len)
         have HE0:=Lib.hid (fun s=>sch_enum (a:=rawOf ss es ts) (s:=s) HEND.out HI1.out HI2.out)
         have HEAT:=Lib.hid (step_left (cho_eats (HEND.out.tail HK.out)) (by rw [(HEND.out.tail HK.out).len];omega))
         have HRt:Hid (DpS (W7.setCell ⟨P,1,none⟩ (.int .i64 (((l.length-r.length:Nat):Int)+1))) P g c l (.go r.tail)):=Lib.hid (dp_next hd6 HK.out)
         have hx7:Exc P W7.heap.size W7 (W7.setCell ⟨P,1,none⟩ (.int .i64 (((l.length-r.length:Nat):Int)+1))):=exc_set _ _ _ _
         have HAt:=Lib.hid (HA7.out.stay hPA hx7)
         have HZt:=Lib.hid (blk_exc HZ7.out hx7 (blk_lt HZ7.out) (by omega))
         have HBt:=Lib.hid (HB7.out.trans ((hx7.mono HB7.out.size).below hPw))
         obtain ⟨i0,hi0,hz0,hz1,hz2⟩:=info_parts cho_info
         have I1:=Lib.hid hi0
         have I2:=Lib.hid hz0
         have I3:=Lib.hid hz1
         have I4:=Lib.hid hz2
         clear hx7 hd6 HA7 HR7 HZ7 HB7 hi0 hz0 hz1 hz2
         go_upto_region 14 with (fail)
         clear r0 r1 r2 r3 s1 s2 s3
         generalize (W7.setCell ⟨P,1,none⟩ (.int .i64 (((l.length-r.length:Nat):Int)+1)))=Wt at *
         have hAt:A<Wt.heap.size:=blk_lt HAt.out.blk
         go_wp2_with fail
         refine (dchoice_any _ P g c l (.go r.tail) HRt.out).mono ?_
         rintro e W9 ⟨s,v,rfl,ho9,hr9,hx9,hs9⟩
         obtain ⟨va,vc,rfl⟩:=ownsRow_form ho9
         have HOV:=Lib.hid ho9
         have HR9:=Lib.hid hr9
         have HAP:=Lib.hid (fun k hk=>(ownsRow_lt HAt.out.roots k hk).2)
         have HE1:=Lib.hid (HEQ.out.trans (HE0.out s hs9))
         have HA8:=Lib.hid (HAt.out.stay hPA hx9)
         have HZ8:=Lib.hid (blk_exc HZt.out hx9 (blk_lt HZt.out) (by omega))
         have HB8:=Lib.hid (HBt.out.trans ((hx9.mono HBt.out.size).below hPw))
         clear hr9 hx9 hs9 HAt HZt HBt HRt ho9
         skip
         generalize ((Sto.go r.tail).step choR)=st9 at *
         go_upto_region 15 with (fail)
         have hbo:Below W9.heap.size W9 (W9.alloc (.cells #[.string (strOfNums s.name),.int .i64 s.place,.slice va s.names.length vc] 105)):=(Below.refl _ _).alloc (Nat.le_refl _) _
         have HA9:=Lib.hid (HA8.out.fell hbo)
         have HR10:=Lib.hid (HR9.out.keep hbo)
         have HZ9:=Lib.hid (blk_below HZ8.out hbo (blk_lt HZ8.out))
         have HB9:=Lib.hid (HB8.out.trans (hbo.mono HB8.out.size))
         have HOW:=Lib.hid (row_below hbo HOV.out)
         clear HOV
         have HS9:=Lib.hid (heap_alloc_new W9 (.cells #[.string (strOfNums s.name),.int .i64 s.place,.slice va s.names.length vc] 105))
         clear hbo HA8 HR9 HZ8 HB8
         generalize W9.alloc (.cells #[.string (strOfNums s.name),.int .i64 s.place,.slice va s.names.length vc] 105)=W10 at *
         generalize W9.heap.size=BS at *
         obtain ⟨hA9,a0,a1,a2,b0,b1,b2⟩:=blk3 HA9.out.blk
         obtain ⟨_,x0,x1,x2,_⟩:=blk3 HS9.out
         have hcount:es.length≤2048:=by have:=hn;simp only [Sto.left] at this;omega
         go_wp2_with (at_builtin;refine wpList_append_lies _ rfl (.tmp 74) (.tmp 76) 65 rfl (A+1) 105 i0 _ 3 48 Tryz.underlying65 I1.out I2.out I3.out I4.out rfl (by decide) _ es.length (chosCells es) rfl (row_below ((Below.refl _ W10).alloc (Nat.le_refl _) _) HA9.out.enums) _ 1 1 [.string (strOfNums s.name),.int .i64 s.place,.slice va s.names.length vc] rfl rfl (rec_new W10 _ _ _ _ rfl rfl rfl).1 (rec_new W10 _ _ _ 0 rfl rfl rfl).2 (by decide) (by unfold maxLen;omega) (by omega) (by simp;omega) _ rfl ?_;rintro g4 c4 W4 hown4 hg4 hat4 hlt4;have hv4:=(hg4.block A (by simp;omega) (fun e=>by have:=(ownsRow_lt HA9.out.enums A e.symm).1;omega)).trans (blk_alloc (w:=W10) HA9.out.blk _);obtain ⟨hA4,m0,m1,m2,n0,n1,n2⟩:=blk3 hv4;have HG4:=Lib.hid hg4;have HO4:=Lib.hid hown4;have HAT4:=Lib.hid hat4;clear hg4 hown4 hv4 hat4)
         go_roundw
         case rel=>exact dparse_enum (s:=s) HA9.out HAP.out HR10.out HZ9.out HB9.out (by omega) HOW.out hAt ((Below.refl _ W10).alloc (Nat.le_refl _) _) HG4.out HO4.out hPA (by omega) (by have h1:=hn;have h2:=HEAT.out;have h3:=HLR.out;simp only [Sto.left] at h1;omega) HE1.out
         case measure =>
          rw [dpM_more (dpart_deep HR10.out HB9.out (by omega) ((Below.refl _ W10).alloc (Nat.le_refl _) _) HG4.out (fun k hk=>by have:=(ownsRow_lt HA9.out.enums k hk).1;omega) hPA (by omega) (by omega) 1 _).1,HM.out]
          exact more_left (by have h2:=HEAT.out;have h3:=HLR.out;omega)
     · have hd6:Dp W6 P g c l r (0,0):=HR6.out
       obtain ⟨_,r0,r1,r2,r3,s1,s2,s3⟩:=blk4 hd6.blk
       have hfew:=hd6.few
       have hlenr:=hd6.len
       have hPA:P<A:=by omega
       have hPw:w.heap.size≤P:=by omega
       have HLR:=Lib.hid (show r.length=r.tail.length+1 from HEND.out.len)
       have HE0:=Lib.hid (fun s=>sch_struct (a:=rawOf ss es ts) (s:=s) HEND.out HI1.out)
       have HEAT:=Lib.hid (step_left (rec_eats (HEND.out.tail HK.out)) (by rw [(HEND.out.tail HK.out).len];omega))
       have HRt:Hid (DpS (W6.setCell ⟨P,1,none⟩ (.int .i64 (((l.length-r.length:Nat):Int)+1))) P g c l (.go r.tail)):=Lib.hid (dp_next hd6 HK.out)
       have hx7:Exc P W6.heap.size W6 (W6.setCell ⟨P,1,none⟩ (.int .i64 (((l.length-r.length:Nat):Int)+1))):=exc_set _ _ _ _
       have HAt:=Lib.hid (HA6.out.stay hPA hx7)
       have HZt:=Lib.hid (blk_exc HZ6.out hx7 (blk_lt HZ6.out) (by omega))
       have HBt:=Lib.hid (HB6.out.trans ((hx7.mono HB6.out.size).below hPw))
       obtain ⟨i0,hi0,hz0,hz1,hz2⟩:=info_parts rec_info
       have I1:=Lib.hid hi0
       have I2:=Lib.hid hz0
       have I3:=Lib.hid hz1
       have I4:=Lib.hid hz2
       clear hx7 hd6 HA6 HR6 HZ6 HB6 hi0 hz0 hz1 hz2
       go_upto_region 10 with (fail)
       clear r0 r1 r2 r3 s1 s2 s3
       generalize (W6.setCell ⟨P,1,none⟩ (.int .i64 (((l.length-r.length:Nat):Int)+1)))=Wt at *
       have hAt:A<Wt.heap.size:=blk_lt HAt.out.blk
       go_wp2_with fail
       refine (drecord_any _ P g c l (.go r.tail) HRt.out).mono ?_
       rintro e W9 ⟨s,v,rfl,ho9,hr9,hx9,hs9⟩
       obtain ⟨va,vc,rfl⟩:=ownsRow_form ho9
       have HOV:=Lib.hid ho9
       have HR9:=Lib.hid hr9
       have HE1:=Lib.hid (HEQ.out.trans (HE0.out s hs9))
       have HA8:=Lib.hid (HAt.out.stay hPA hx9)
       have HZ8:=Lib.hid (blk_exc HZt.out hx9 (blk_lt HZt.out) (by omega))
       have HB8:=Lib.hid (HBt.out.trans ((hx9.mono HBt.out.size).below hPw))
       clear hr9 hx9 hs9 HAt HZt HBt HRt ho9
       skip
       generalize ((Sto.go r.tail).step recR)=st9 at *
       go_upto_region 11 with (fail)
       have hbo:Below W9.heap.size W9 (W9.alloc (.cells #[.string (strOfNums s.name),.int .i64 s.place,.slice va s.fields.length vc] 102)):=(Below.refl _ _).alloc (Nat.le_refl _) _
       have HA9:=Lib.hid (HA8.out.fell hbo)
       have HR10:=Lib.hid (HR9.out.keep hbo)
       have HZ9:=Lib.hid (blk_below HZ8.out hbo (blk_lt HZ8.out))
       have HB9:=Lib.hid (HB8.out.trans (hbo.mono HB8.out.size))
       have HOW:=Lib.hid (row_below hbo HOV.out)
       clear HOV
       have HS9:=Lib.hid (heap_alloc_new W9 (.cells #[.string (strOfNums s.name),.int .i64 s.place,.slice va s.fields.length vc] 102))
       clear hbo HA8 HR9 HZ8 HB8
       generalize W9.alloc (.cells #[.string (strOfNums s.name),.int .i64 s.place,.slice va s.fields.length vc] 102)=W10 at *
       generalize W9.heap.size=BS at *
       obtain ⟨hA9,a0,a1,a2,b0,b1,b2⟩:=blk3 HA9.out.blk
       obtain ⟨_,x0,x1,x2,_⟩:=blk3 HS9.out
       have hcount:ss.length≤2048:=by have:=hn;simp only [Sto.left] at this;omega
       go_wp2_with (at_builtin;refine wpList_append_lies _ rfl (.tmp 55) (.tmp 57) 64 rfl (A+1) 102 i0 _ 3 48 Tryz.underlying64 I1.out I2.out I3.out I4.out rfl (by decide) _ ss.length (recsCells ss) rfl (row_below ((Below.refl _ W10).alloc (Nat.le_refl _) _) HA9.out.structs) _ 1 1 [.string (strOfNums s.name),.int .i64 s.place,.slice va s.fields.length vc] rfl rfl (rec_new W10 _ _ _ _ rfl rfl rfl).1 (rec_new W10 _ _ _ 0 rfl rfl rfl).2 (by decide) (by unfold maxLen;omega) (by omega) (by simp;omega) _ rfl ?_;rintro g4 c4 W4 hown4 hg4 hat4 hlt4;have hv4:=(hg4.block A (by simp;omega) (fun e=>by have:=(ownsRow_lt HA9.out.structs A e.symm).1;omega)).trans (blk_alloc (w:=W10) HA9.out.blk _);obtain ⟨hA4,m0,m1,m2,n0,n1,n2⟩:=blk3 hv4;have HG4:=Lib.hid hg4;have HO4:=Lib.hid hown4;have HAT4:=Lib.hid hat4;clear hg4 hown4 hv4 hat4)
       go_roundw
       case rel=>exact dparse_struct (s:=s) HA9.out HR10.out HZ9.out HB9.out (by omega) HOW.out hAt ((Below.refl _ W10).alloc (Nat.le_refl _) _) HG4.out HO4.out hPA (by omega) (by have h1:=hn;have h2:=HEAT.out;have h3:=HLR.out;simp only [Sto.left] at h1;omega) HE1.out
       case measure =>
        rw [dpM_more (dpart_deep HR10.out HB9.out (by omega) ((Below.refl _ W10).alloc (Nat.le_refl _) _) HG4.out (fun k hk=>by have:=(ownsRow_lt HA9.out.structs k hk).1;omega) hPA (by omega) (by omega) 0 _).1,HM.out]
        exact more_left (by have h2:=HEAT.out;have h3:=HLR.out;omega)
end Go.Proofs.YtokhnoogkdlidaaGreatDoor
namespace Go.Proofs.YtokhnoogkdlidaaGreatDoor
open Go.ChangeShapes Go.WideShapes Go.ChangeAt Go.RowKit Go.Shelf
theorem dparse_any (s:ByteArray)(w:World)(hT:Tabs w)(hs:s.size≤9223372036854775807) :
  Calls Tryz.prog 16 #[.string s] w (DParsePost w (rawT s)):=by
 obtain ⟨r,hr⟩:∃ r,toks okU (amg idlSigns) (bts s)=r:=⟨_,rfl⟩
 obtain ⟨l,code,p⟩:=r
 by_cases hc:code=0
 · subst hc
   exact dparse_good s w hT hs l p hr
 · exact dparse_fault s w hT hs l code p hr hc
end Go.Proofs.YtokhnoogkdlidaaGreatDoor
