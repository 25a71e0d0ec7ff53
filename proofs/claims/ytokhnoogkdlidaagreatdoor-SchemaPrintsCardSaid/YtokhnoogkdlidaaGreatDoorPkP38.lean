/-
  The document's own One, at a quoted text. Conditions: those that each theorem names; the library's tables hold what the row lists.
-/
import Derived.Test.YtokhnoogkdlidaaGreatDoorPkP32
import Derived.Test.YtokhnoogkdlidaaGreatDoorPkP37
namespace Go.Proofs.YtokhnoogkdlidaaGreatDoor
open Go.ChangeShapes Go.WideShapes Go.ChangeAt Go.RowKit Go.Shelf
def DChoPost (P g c:Nat)(l:List Tok)(w:World)(st:Sto)(e:Ending)(w':World):Prop:=
 ∃ (s:RCho) (v:Value),e=.returned (.agg #[.string (strOfNums s.name),.int .i64 s.place,v])∧w'.ownsRow w.heap.size 97 3 v s.names.length (toksCells s.names)∧DpS w' P g c l (st.step choR)∧Exc P w.heap.size w w'∧Got st choR s
theorem ownsRow_set3 {w:World}{base:Nat}{e:TypeId}{size:Nat}{v:Value}{n:Nat}{xs:List Value}(h:w.ownsRow base e size v n xs){Z:Nat}(hZ:Z<base)(x y z:Value):(((w.setCell ⟨Z,0,none⟩ x).setCell ⟨Z,1,none⟩ y).setCell ⟨Z,2,none⟩ z).ownsRow base e size v n xs:=
 ownsRow_setCell_below (ownsRow_setCell_below (ownsRow_setCell_below h (a:=⟨Z,0,none⟩) hZ x) (a:=⟨Z,1,none⟩) hZ y) (a:=⟨Z,2,none⟩) hZ z
set_option maxRecDepth 100000 in
set_option maxHeartbeats 4000000 in
theorem dchoice_any (w:World)(P g c:Nat)(l:List Tok)(st:Sto)(h:DpS w P g c l st) :
  Calls Tryz.prog 39 #[.pointer (some ⟨P,0,none⟩)] w (DChoPost P g c l w st):=by
 have HZ0:=Lib.hid (heap_alloc_new w (.cells #[.string ⟨#[]⟩,.int .i64 0,.slice none 0 0] 105))
 have hbA:Below w.heap.size w (w.alloc (.cells #[.string ⟨#[]⟩,.int .i64 0,.slice none 0 0] 105)):=(Below.refl _ _).alloc (Nat.le_refl _) _
 have HXA:=Lib.hid (Exc.of_below (R:=P) hbA)
 have HD:=Lib.hid (h.keep hbA)
 obtain ⟨hP,hg,hgP⟩:=h.facts
 have hll:l.length≤2048:=by obtain ⟨r,F,hd',_⟩:=h.form;exact hd'.few
 obtain ⟨i0,hi0,hz0,hz1,hz2⟩:=info_parts tok_info
 have I1:=Lib.hid hi0
 have I2:=Lib.hid hz0
 have I3:=Lib.hid hz1
 have I4:=Lib.hid hz2
 have hA:w.heap.size<(w.alloc (.cells #[.string ⟨#[]⟩,.int .i64 0,.slice none 0 0] 105)).heap.size:=by simp
 have HST:=Lib.hid h
 clear h hbA hi0 hz0 hz1 hz2
 go_enter Tryz.func39,Tryz.ntmps39
 go_upto_region 1 with (fail)
 generalize w.alloc (.cells #[.string ⟨#[]⟩,.int .i64 0,.slice none 0 0] 105)=W0 at *
 go_wp2_with fail
 refine (dname_any _ P g c l st false HD.out).mono ?_
 rintro e W1 ⟨a,rfl,hr1,hx1,hs1⟩
 have hW1:W0.heap.size≤W1.heap.size:=hx1.size
 have HR1:Hid (DpS W1 P g c l (st.step nameR)):=Lib.hid hr1
 have HX1:=Lib.hid (HXA.out.thenB (Nat.le_refl _) hx1)
 have HZ1:=Lib.hid (blk_exc HZ0.out hx1 hA (by omega))
 have HXX:=Lib.hid (cho_start (t:=a) hs1)
 have HL:Hid ((st.step nameR).left≤l.length):=Lib.hid (by
  obtain ⟨r,F,hd',hf'⟩:=hr1.form
  have e1:st.step (nmR false)=st.step nameR:=rfl
  rw [e1] at hf'
  rcases hf' with ⟨hf',_⟩|⟨hf',_⟩
  · rw [hf'];exact hd'.len
  · rw [hf'];exact Nat.zero_le _)
 clear hr1 hx1 hs1 HD HXA HZ0
 unfold tokV
 go_upto_region 2 with (fail)
 have HR2:=Lib.hid (HR1.out.alloc (.cells #[.int .i64 a.kind,.string (strOfNums a.text),.int .i64 a.place] 97))
 have HX2:=Lib.hid (HX1.out.alloc HX1.out.size (.cells #[.int .i64 a.kind,.string (strOfNums a.text),.int .i64 a.place] 97))
 have HZ2:=Lib.hid (blk_alloc HZ1.out (.cells #[.int .i64 a.kind,.string (strOfNums a.text),.int .i64 a.place] 97))
 have HT2:=Lib.hid (heap_alloc_new W1 (.cells #[.int .i64 a.kind,.string (strOfNums a.text),.int .i64 a.place] 97))
 have hs2:W1.heap.size+1≤(W1.alloc (.cells #[.int .i64 a.kind,.string (strOfNums a.text),.int .i64 a.place] 97)).heap.size:=Nat.le_of_eq (World.size_alloc ..).symm
 clear HR1 HX1 HZ1
 generalize hW2:W1.alloc (.cells #[.int .i64 a.kind,.string (strOfNums a.text),.int .i64 a.place] 97)=W2 at *
 clear hW2
 generalize hBT:W1.heap.size=BT at *
 clear hBT
 obtain ⟨_,x0,x1,x2,_⟩:=blk3 HT2.out
 go_upto_region 3 with (fail)
 have HR3:=Lib.hid (HR2.out.alloc (.cells #[.string (strOfNums a.text),.int .i64 a.place,.slice none 0 0] 105))
 have HX3:=Lib.hid (HX2.out.alloc HX2.out.size (.cells #[.string (strOfNums a.text),.int .i64 a.place,.slice none 0 0] 105))
 have HZ3:=Lib.hid (blk_alloc HZ2.out (.cells #[.string (strOfNums a.text),.int .i64 a.place,.slice none 0 0] 105))
 have HO3:=Lib.hid (heap_alloc_new W2 (.cells #[.string (strOfNums a.text),.int .i64 a.place,.slice none 0 0] 105))
 have hs3:W2.heap.size+1≤(W2.alloc (.cells #[.string (strOfNums a.text),.int .i64 a.place,.slice none 0 0] 105)).heap.size:=Nat.le_of_eq (World.size_alloc ..).symm
 clear HR2 HX2 HZ2 HT2 x0 x1 x2
 generalize hW3:W2.alloc (.cells #[.string (strOfNums a.text),.int .i64 a.place,.slice none 0 0] 105)=W3 at *
 clear hW3
 generalize hO:W2.heap.size=O at *
 clear hO
 generalize st.step nameR=st1 at *
 go_wp2_with fail
 refine (dwant_any _ P g c l st1 ⟨#[123]⟩ [123] (by kernel_rfl) HR3.out).mono ?_
 rintro e W4 ⟨rfl,hr4,hx4⟩
 have HR4:=Lib.hid hr4
 have HX4:=Lib.hid (HX3.out.thenB (Nat.le_refl _) hx4)
 have HZ4:=Lib.hid (blk_exc HZ3.out hx4 (blk_lt HZ3.out) (by omega))
 have HO4:=Lib.hid (blk_exc HO3.out hx4 (blk_lt HO3.out) (by omega))
 have HL4:=Lib.hid (Nat.le_trans (stp_leaves (f:=wantR [123]) (st:=st1) (fun r e=>(want_eats (s:=[123]) (by subst e;exact HR3.out.ends)).keeps)) HL.out)
 clear hr4 hx4 HR3 HX3 HZ3 HO3 HL
 generalize st1.step (wantR [123])=st2 at *
 generalize hX:st.rd choR=X at *
 have HX':=Lib.hid hX
 clear hX
 go_wp2_with fail
 go_loopw [] (fun wr=>DChoAt P g c l w O a X wr) (fun wr=>dpM l P wr)
 case atStart=>exact ⟨[],st2,.slice none 0 0,HR4.out,HO4.out,World.ownsRow_nil _ _ _ _,HZ4.out,HX4.out,by simpa using HL4.out,HXX.out⟩
 case round =>
  clear HR4 HX4 HZ4 HO4 HL4 HXX
  obtain ⟨acc,st3,v,hr,ho,hrow,hz,hx,hn,heq⟩:=hrel
  have hOw:O<wr.heap.size:=blk_lt ho
  have HM:=Lib.hid (dpM_more hr)
  have HR:=Lib.hid hr
  have HO:=Lib.hid ho
  have HROW:=Lib.hid hrow
  have HZ:=Lib.hid hz
  have HX:=Lib.hid hx
  have HEQ:=Lib.hid heq
  clear hr ho hrow hz hx heq
  cases st3 with
  | fell cc pp =>
   obtain ⟨h0,r,hd'⟩:=HR.out
   obtain ⟨_,r0,r1,r2,r3,_⟩:=blk4 hd'.blk
   simp only at r2 r3
   have t0:(cc==0)=false:=by simp [h0]
   have H0:=Lib.hid h0
   have HE:=Lib.hid (step_bad (c:=cc) (p:=pp) (HX'.out.trans HEQ.out) (⟨a.text,a.place,acc⟩:RCho))
   obtain ⟨va,vc,rfl⟩:=ownsRow_form HROW.out
   obtain ⟨_,o0,o1,o2,_⟩:=blk3 HO.out
   obtain ⟨_,z0,z1,z2,y0,y1,y2⟩:=blk3 HZ.out
   clear h0 hd'
   go_wp2
   refine post_gen (fun Wf=>Wf.heap[w.heap.size]?=some (.cells #[.string (strOfNums a.text),.int .i64 a.place,.slice va acc.length vc] 105 (0,0))∧Wf.ownsRow w.heap.size 97 3 (.slice va acc.length vc) acc.length (toksCells acc)∧Exc P w.heap.size w Wf∧DpS Wf P g c l (.fell cc pp)) ⟨?_,?_,?_,?_⟩ ?_
   · exact blk_set3 HZ.out _ _ _
   · exact ownsRow_base (ownsRow_set3 HROW.out (by omega) _ _ _) (by omega)
   · exact HX.out.set3 (Nat.le_refl _) _ _ _
   · exact HR.out.set3 (by omega) (by omega) _ _ _
   · rintro Wf ⟨f1,f2,f3,f4⟩
     obtain ⟨_,c0,c1,c2,_⟩:=blk3 f1
     exact bodyPost_ret (v:=.agg #[.string (strOfNums a.text),.int .i64 a.place,.slice va acc.length vc]) (by simp [results,Tryz.results39,go_sem,c0,c1,c2]) rfl ⟨⟨a.text,a.place,acc⟩,_,rfl,f2,by rw [HE.out.1];exact f4,f3,HE.out.2⟩
  | go r =>
   have HIS:=Lib.hid (dis_any wr P g c l (.go r) 4 ⟨#[125]⟩ [125] (by kernel_rfl) HR.out)
   have HEND:=Lib.hid (show Ends r from HR.out.ends)
   obtain ⟨_,r0,r1,r2,r3,_⟩:=blk4 (show Dp wr P g c l r (0,0) from HR.out).blk
   simp only at r2 r3
   go_wp2_with fail
   refine HIS.out.mono ?_
   rintro e W5 ⟨rfl,hb5⟩
   clear r0 r1 r2 r3
   have HR5:=Lib.hid (HR.out.keep hb5)
   have HO5:=Lib.hid (blk_below HO.out hb5 hOw)
   have HROW5:=Lib.hid (exc_row HROW.out (by omega:P<O) (.of_below hb5))
   have HZ5:=Lib.hid (blk_below HZ.out hb5 (by omega))
   have HX5:=Lib.hid (HX.out.bel (Nat.le_refl _) hb5)
   have hO5:O<W5.heap.size:=Nat.lt_of_lt_of_le hOw hb5.size
   clear hb5 HR HO HROW HZ HX HIS
   generalize hi:isS 4 [125] (.go r)=b
   have HI:=Lib.hid (show isT 4 [125] r=b from hi)
   clear hi
   cases b
   · have HE0:=Lib.hid (fun t:Tok=>cho_round (t:=a) (a:=t) (acc:=acc) HEND.out HI.out)
     have HEAT:=Lib.hid (step_left (name_eats HEND.out) (by rw [HEND.out.len];omega))
     go_wp2_with fail
     refine (dname_any _ P g c l (.go r) false HR5.out).mono ?_
     rintro e W6 ⟨t,rfl,hr6,hx6,hs6⟩
     have HR6:Hid (DpS W6 P g c l ((Sto.go r).step nameR)):=Lib.hid hr6
     have HX6:=Lib.hid (HX5.out.thenB (Nat.le_refl _) hx6)
     have HZ6:=Lib.hid (blk_exc HZ5.out hx6 (blk_lt HZ5.out) (by omega))
     have HO6:=Lib.hid (blk_exc HO5.out hx6 (blk_lt HO5.out) (by omega))
     have HROW6:=Lib.hid (exc_row HROW5.out (by omega:P<O) hx6)
     have hO6:O<W6.heap.size:=blk_lt HO6.out
     have HE1:=Lib.hid (HEQ.out.trans (HE0.out t hs6))
     clear hr6 hx6 hs6 HR5 HX5 HZ5 HO5 HROW5 HE0 HEQ
     generalize (Sto.go r).step nameR=st4 at *
     unfold tokV
     go_upto_region 6 with (fail)
     have HR7:=Lib.hid (HR6.out.alloc (.cells #[.int .i64 t.kind,.string (strOfNums t.text),.int .i64 t.place] 97))
     have HX7:=Lib.hid (HX6.out.alloc HX6.out.size (.cells #[.int .i64 t.kind,.string (strOfNums t.text),.int .i64 t.place] 97))
     have HZ7:=Lib.hid (blk_alloc HZ6.out (.cells #[.int .i64 t.kind,.string (strOfNums t.text),.int .i64 t.place] 97))
     have HO7:=Lib.hid (blk_alloc HO6.out (.cells #[.int .i64 t.kind,.string (strOfNums t.text),.int .i64 t.place] 97))
     have HF7:=Lib.hid (heap_alloc_new W6 (.cells #[.int .i64 t.kind,.string (strOfNums t.text),.int .i64 t.place] 97))
     have HROW7:=Lib.hid (exc_row HROW6.out (by omega:P<O) ((Exc.refl _ _ _).alloc (Nat.le_refl _) (.cells #[.int .i64 t.kind,.string (strOfNums t.text),.int .i64 t.place] 97)))
     clear HR6 HX6 HZ6 HO6 HROW6
     generalize hW7:W6.alloc (.cells #[.int .i64 t.kind,.string (strOfNums t.text),.int .i64 t.place] 97)=W7 at *
     clear hW7
     generalize W6.heap.size=BF at *
     obtain ⟨hf2,f0,f1,f2,_⟩:=blk3 HF7.out
     obtain ⟨va,vc,rfl⟩:=ownsRow_form HROW7.out
     obtain ⟨_,o0,o1,o2,q0,q1,q2⟩:=blk3 HO7.out
     have hacc:acc.length≤2048:=by omega
     go_upto_region 7 with (at_builtin;refine wpList_append_own _ rfl (.tmp 28) (.tmp 30) 66 rfl (O+1) 97 i0 _ 3 32 Tryz.underlying66 I1.out I2.out I3.out I4.out rfl (by decide) _ acc.length (toksCells acc) rfl (exc_row HROW7.out (by omega:P<O) ((Exc.refl _ _ _).alloc (Nat.le_refl _) (.cells #[.int .i64 t.kind,.string (strOfNums t.text),.int .i64 t.place] 97))) ⟨W7.heap.size,0,none⟩ 1 1 (tokCells t) rfl rfl (tokCells_new W7 t _ rfl) (tokCells_one t) (by unfold maxLen;omega) (by omega) (by simp;omega) ?_;intro v4 W8 hown4 hg4 hx;clear hx;have HG8:=Lib.hid hg4;obtain ⟨a4,c4,rfl⟩:=ownsRow_form hown4;have HROW8:=Lib.hid hown4;have HO8:=Lib.hid (grown_keeps hg4 HROW7.out (Nat.lt_succ_self O) HO7.out);obtain ⟨_,oa,ob,oc,qa,qb,qc⟩:=blk3 HO8.out;clear hown4 hg4)
     have hb:Below O W7 (W8.setCell ⟨O,2,none⟩ (.slice a4 (acc.length+1) c4)):=(((Below.refl O W7).alloc (by omega) _).grown HG8.out (by simp;omega) (fun k hk=>by have:=(ownsRow_lt HROW7.out k hk).1;omega)).setCell (Nat.le_refl _) _
     have HO9:=Lib.hid (show (W8.setCell ⟨O,2,none⟩ (.slice a4 (acc.length+1) c4)).heap[O]?=some (.cells #[.string (strOfNums a.text),.int .i64 a.place,.slice a4 (acc.length+1) c4] 105 (0,0)) from (blk_set HO8.out 2 _).trans rfl)
     have HROW9:=Lib.hid (show (W8.setCell ⟨O,2,none⟩ (.slice a4 (acc.length+1) c4)).ownsRow (O+1) 97 3 (.slice a4 (acc.length+1) c4) (acc++[t]).length (toksCells (acc++[t])) by rw [toksCells_snoc,List.length_append];exact ownsRow_setCell_below HROW8.out (a:=⟨O,2,none⟩) (Nat.lt_succ_self O) (.slice a4 (acc.length+1) c4))
     have HR9:=Lib.hid (HR7.out.deep hb (by omega) (by omega))
     have HX9:=Lib.hid (HX7.out.trans (Exc.of_below (hb.mono (by omega:w.heap.size≤O))))
     have HZ9:=Lib.hid (blk_below HZ7.out hb (by omega))
     clear hb HG8 HROW8 HO8 oa ob oc qa qb qc HR7 HX7 HZ7 HO7 HROW7 o0 o1 o2 q0 q1 q2 f0 f1 f2 hf2 HF7
     generalize W8.setCell ⟨O,2,none⟩ (.slice a4 (acc.length+1) c4)=W9 at *
     have HLE:=Lib.hid (show (st4.step commaR).left+1≤r.length from Nat.le_trans (Nat.succ_le_succ (stp_leaves (f:=commaR) (st:=st4) (fun r e=>comma_keeps (by subst e;exact HR9.out.ends)))) HEAT.out)
     go_wp2_with fail
     refine (dis_any _ P g c l st4 4 ⟨#[44]⟩ [44] (by kernel_rfl) HR9.out).mono ?_
     rintro e Wa ⟨rfl,hb⟩
     have HRa:=Lib.hid (HR9.out.keep hb)
     have HOa:=Lib.hid (blk_below HO9.out hb (blk_lt HO9.out))
     have HROWa:=Lib.hid (exc_row HROW9.out (by omega:P<O) (.of_below hb))
     have HZa:=Lib.hid (blk_below HZ9.out hb (blk_lt HZ9.out))
     have HXa:=Lib.hid (HX9.out.bel (Nat.le_refl _) hb)
     clear hb HR9 HO9 HROW9 HZ9 HX9
     generalize hi4:isS 4 [44] st4=b
     cases b
     · go_wp2_with fail
       refine (dis_any _ P g c l st4 4 ⟨#[125]⟩ [125] (by kernel_rfl) HRa.out).mono ?_
       rintro e Wb ⟨rfl,hb⟩
       have HRb:=Lib.hid (HRa.out.keep hb)
       have HOb:=Lib.hid (blk_below HOa.out hb (blk_lt HOa.out))
       have HROWb:=Lib.hid (exc_row HROWa.out (by omega:P<O) (.of_below hb))
       have HZb:=Lib.hid (blk_below HZa.out hb (blk_lt HZa.out))
       have HXb:=Lib.hid (HXa.out.bel (Nat.le_refl _) hb)
       clear hb HRa HOa HROWa HZa HXa
       generalize hi5:isS 4 [125] st4=b
       cases b
       · have HS5:=Lib.hid (comma_bad hi4 hi5)
         have HB:=Lib.hid (dbad_any Wb P g c l st4 11 (by decide) HRb.out)
         clear hi4 hi5
         go_wp2_with fail
         refine HB.out.mono ?_
         rintro e Wc ⟨rfl,hrc,hx⟩
         have HRf:=Lib.hid hrc
         clear hrc HB
         have HOf:=Lib.hid (blk_exc HOb.out hx (blk_lt HOb.out) (by omega))
         have HROWf:=Lib.hid (exc_row HROWb.out (by omega:P<O) hx)
         have HZf:=Lib.hid (blk_exc HZb.out hx (blk_lt HZb.out) (by omega))
         have HXf:=Lib.hid (HXb.out.thenB (Nat.le_refl _) hx)
         clear hx HRb HOb HROWb HZb HXb
         go_wp2
         go_roundw
         case rel=>exact ⟨acc++[t],badS 11 st4,_,HRf.out,HOf.out,HROWf.out,HZf.out,HXf.out,by have:=HLE.out;rw [HS5.out] at this;simp only [List.length_append,List.length_singleton];have h2:=hn;simp only [Sto.left] at h2 this ⊢;omega,by rw [←HS5.out];exact HE1.out⟩
         case measure=>rw [dpM_more HRf.out,HM.out];exact more_left (by rw [←HS5.out];exact HLE.out)
       · obtain ⟨r4,rfl,hw⟩:=is_word hi5
         have HS5:=Lib.hid (comma_brace hw)
         have HRf:=HRb
         have HOf:=HOb
         have HROWf:=HROWb
         have HZf:=HZb
         have HXf:=HXb
         clear hi4 hi5 hw HRb HOb HROWb HZb HXb
         go_wp2
         go_roundw
         case rel=>exact ⟨acc++[t],.go r4,_,HRf.out,HOf.out,HROWf.out,HZf.out,HXf.out,by have:=HLE.out;rw [HS5.out] at this;simp only [List.length_append,List.length_singleton];have h2:=hn;simp only [Sto.left] at h2 this ⊢;omega,by rw [←HS5.out];exact HE1.out⟩
         case measure=>rw [dpM_more HRf.out,HM.out];exact more_left (by rw [←HS5.out];exact HLE.out)
     · obtain ⟨r4,rfl,hw⟩:=is_word hi4
       have HS5:=Lib.hid (comma_takes hw)
       have HK:=Lib.hid (show (hd r4).kind≠0 by rw [(isT_kind hw).1];decide)
       have hda:Dp Wa P g c l r4 (0,0):=HRa.out
       obtain ⟨_,r0,r1,r2,r3,s1,s2,s3⟩:=blk4 hda.blk
       have hfew:=hda.few
       have hlen:=hda.len
       have HRf:Hid (DpS (Wa.setCell ⟨P,1,none⟩ (.int .i64 (((l.length-r4.length:Nat):Int)+1))) P g c l (.go r4.tail)):=Lib.hid (dp_next hda HK.out)
       have hx:Exc P Wa.heap.size Wa (Wa.setCell ⟨P,1,none⟩ (.int .i64 (((l.length-r4.length:Nat):Int)+1))):=exc_set _ _ _ _
       clear hi4 hw hda
       have HOf:=Lib.hid (blk_exc HOa.out hx (blk_lt HOa.out) (by omega))
       have HROWf:=Lib.hid (exc_row HROWa.out (by omega:P<O) hx)
       have HZf:=Lib.hid (blk_exc HZa.out hx (blk_lt HZa.out) (by omega))
       have HXf:=Lib.hid (HXa.out.thenB (Nat.le_refl _) hx)
       clear hx HRa HOa HROWa HZa HXa
       go_wp2
       go_roundw
       case rel=>exact ⟨acc++[t],.go r4.tail,_,HRf.out,HOf.out,HROWf.out,HZf.out,HXf.out,by have:=HLE.out;rw [HS5.out] at this;simp only [List.length_append,List.length_singleton];have h2:=hn;simp only [Sto.left] at h2 this ⊢;omega,by rw [←HS5.out];exact HE1.out⟩
       case measure=>rw [dpM_more HRf.out,HM.out];exact more_left (by rw [←HS5.out];exact HLE.out)
   · have HE:=Lib.hid (step_of (HX'.out.trans (HEQ.out.trans (cho_stop HEND.out HI.out))))
     have HK:=Lib.hid (show (hd r).kind≠0 by rw [(isT_kind HI.out).1];decide)
     obtain ⟨va,vc,rfl⟩:=ownsRow_form HROW5.out
     have hd5:Dp W5 P g c l r (0,0):=HR5.out
     obtain ⟨_,r0,r1,r2,r3,s1,s2,s3⟩:=blk4 hd5.blk
     simp only at r2 r3
     have hfew:=hd5.few
     have hlen:=hd5.len
     have HR6:=Lib.hid (dp_next hd5 HK.out)
     have hx6:Exc P W5.heap.size W5 (W5.setCell ⟨P,1,none⟩ (.int .i64 (((l.length-r.length:Nat):Int)+1))):=exc_set _ _ _ _
     have HX6:=Lib.hid (HX5.out.thenB (Nat.le_refl _) hx6)
     have HZ6:=Lib.hid (blk_exc HZ5.out hx6 (blk_lt HZ5.out) (by omega))
     have HO6:=Lib.hid (blk_exc HO5.out hx6 (blk_lt HO5.out) (by omega))
     have HROW6:=Lib.hid (exc_row HROW5.out (by omega:P<O) hx6)
     clear hx6 hd5
     go_upto_region 13 with (fail)
     clear r0 r1 r2 r3 s1 s2 s3 HR5 HX5 HZ5 HO5 HROW5
     generalize W5.setCell ⟨P,1,none⟩ (.int .i64 (((l.length-r.length:Nat):Int)+1))=W6 at *
     obtain ⟨_,o0,o1,o2,_⟩:=blk3 HO6.out
     obtain ⟨_,z0,z1,z2,y0,y1,y2⟩:=blk3 HZ6.out
     go_wp2
     refine post_gen (fun Wf=>Wf.heap[w.heap.size]?=some (.cells #[.string (strOfNums a.text),.int .i64 a.place,.slice va acc.length vc] 105 (0,0))∧Wf.ownsRow w.heap.size 97 3 (.slice va acc.length vc) acc.length (toksCells acc)∧Exc P w.heap.size w Wf∧DpS Wf P g c l (.go r.tail)) ⟨?_,?_,?_,?_⟩ ?_
     · exact blk_set3 HZ6.out _ _ _
     · exact ownsRow_base (ownsRow_set3 HROW6.out (by omega) _ _ _) (by omega)
     · exact HX6.out.set3 (Nat.le_refl _) _ _ _
     · exact DpS.set3 (st:=.go r.tail) HR6.out (by omega) (by omega) _ _ _
     · rintro Wf ⟨f1,f2,f3,f4⟩
       obtain ⟨_,c0,c1,c2,_⟩:=blk3 f1
       exact bodyPost_ret (v:=.agg #[.string (strOfNums a.text),.int .i64 a.place,.slice va acc.length vc]) (by simp [results,Tryz.results39,go_sem,c0,c1,c2]) rfl ⟨⟨a.text,a.place,acc⟩,_,rfl,f2,by rw [HE.out.1];exact f4,f3,HE.out.2⟩
end Go.Proofs.YtokhnoogkdlidaaGreatDoor
namespace Go.Proofs.YtokhnoogkdlidaaGreatDoor
open Go.ChangeShapes Go.WideShapes Go.ChangeAt Go.RowKit Go.Shelf
def TokBlk (g:Nat)(p:Int)(W:World):Prop:=W.heap[g]?=some (.cells #[.int .i64 0,.string ⟨#[]⟩,.int .i64 p] 97 (0,0))
theorem TokBlk.below {g B:Nat}{p:Int}{W W':World}(h:TokBlk g p W)(hb:Below B W W')(hg:g<B):TokBlk g p W':=(hb.block g hg).trans h
theorem TokBlk.facts {g:Nat}{p:Int}{W:World}(h:TokBlk g p W):W.cell? ⟨g,0,none⟩=some (.int .i64 0)∧W.cell? ⟨g,1,none⟩=some (.string ⟨#[]⟩)∧W.cell? ⟨g,2,none⟩=some (.int .i64 p)∧W.frozen? ⟨g,0,none⟩=false∧W.frozen? ⟨g,1,none⟩=false∧W.frozen? ⟨g,2,none⟩=false:=by
 refine ⟨?_,?_,?_,?_,?_,?_⟩
 · rw [cell_of_row W g 0 _ _ (0,0) h];rfl
 · rw [cell_of_row W g 1 _ _ (0,0) h];rfl
 · rw [cell_of_row W g 2 _ _ (0,0) h];rfl
 · simp [World.frozen?,show W.heap[g]?=_ from h]
 · simp [World.frozen?,show W.heap[g]?=_ from h]
 · simp [World.frozen?,show W.heap[g]?=_ from h]
theorem two_blocks (w:World)(i:Nat)(S:ByteArray) :
  Below w.heap.size w (Lib.bytesWorld ((w.alloc (.cells #[.int .i64 0,.string ⟨#[]⟩,.int .i64 0] 97)).alloc (.cells #[.int .i64 0,.string ⟨#[]⟩,.int .i64 (i:Nat)] 97)) 5 S) ∧
  TokBlk w.heap.size 0 (Lib.bytesWorld ((w.alloc (.cells #[.int .i64 0,.string ⟨#[]⟩,.int .i64 0] 97)).alloc (.cells #[.int .i64 0,.string ⟨#[]⟩,.int .i64 (i:Nat)] 97)) 5 S) ∧
  TokBlk (w.heap.size+1) (i:Nat) (Lib.bytesWorld ((w.alloc (.cells #[.int .i64 0,.string ⟨#[]⟩,.int .i64 0] 97)).alloc (.cells #[.int .i64 0,.string ⟨#[]⟩,.int .i64 (i:Nat)] 97)) 5 S) ∧
  w.heap.size+1<(Lib.bytesWorld ((w.alloc (.cells #[.int .i64 0,.string ⟨#[]⟩,.int .i64 0] 97)).alloc (.cells #[.int .i64 0,.string ⟨#[]⟩,.int .i64 (i:Nat)] 97)) 5 S).heap.size:=by
 refine ⟨below_bytesWorld (two_new w _ _) (by rw [World.size_alloc,World.size_alloc];omega) _ _,?_,?_,?_⟩
 · unfold TokBlk
   rw [Lib.bytesWorld_at_old _ _ _ _ (by rw [World.size_alloc,World.size_alloc];omega),Below.heap_alloc _ _ _ (by rw [World.size_alloc];omega)]
   exact heap_alloc_new w _
 · unfold TokBlk
   rw [Lib.bytesWorld_at_old _ _ _ _ (by rw [World.size_alloc,World.size_alloc];omega),show w.heap.size+1=(w.alloc (.cells #[.int .i64 0,.string ⟨#[]⟩,.int .i64 0] 97)).heap.size from (World.size_alloc ..).symm]
   exact heap_alloc_new _ _
 · rw [Lib.bytesWorld_size,World.size_alloc,World.size_alloc]
   omega
set_option maxRecDepth 100000 in
set_option maxHeartbeats 2000000 in
theorem one_quo (s sg:ByteArray)(x:Int)(i:Nat)(w:World)(hT:Tabs w)(hx:x=i)(hs:s.size≤281474976710656)(h1:stA (bts s) (isC 34) i=true) :
  Calls Tryz.prog 61 #[.string s,.string sg,.int .i64 x] w fun e w'=>OneVal (if quoBad okU (bts s) i=true then none else some (⟨3,sub (bts s) (i+1) (quoEnd (bts s) i),i⟩,quoEnd (bts s) i+1)) e∧Below w.heap.size w w':=by
 subst hx
 have hi:i<s.size:=by have:=stA_lt h1;rwa [bts_length] at this
 have hc:(s[i].toNat:Int)=34:=by rw [←bts_get hi];exact of_decide_eq_true (stA_p h1)
 have hup:=runTo_le (bts s) isPlain (i+1) (by rw [bts_length];omega)
 have hlo:=runTo_ge (bts s) isPlain (i+1)
 rw [bts_length] at hup
 have HB:=Lib.hid (show quoBad okU (bts s) i=(!stA (bts s) (isC 34) (runTo (bts s) isPlain (i+1)) || !okU (sub (bts s) (i+1) (runTo (bts s) isPlain (i+1)))) from rfl)
 have hNE:quoEnd (bts s) i=runTo (bts s) isPlain (i+1):=rfl
 rw [hNE]
 obtain ⟨E,hE⟩:∃ E,runTo (bts s) isPlain (i+1)=E:=⟨_,rfl⟩
 rw [hE] at hup hlo HB ⊢
 obtain ⟨r,hr⟩:∃ r,(if quoBad okU (bts s) i=true then none else some ((⟨3,sub (bts s) (i+1) E,i⟩:Tok),E+1))=r:=⟨_,rfl⟩
 have HRR:=Lib.hid hr
 rw [hr]
 have HE:=Lib.hid hE
 have HT:=Lib.hid hT
 clear hr hE hNE h1 hT
 go_enter Tryz.func61,Tryz.ntmps61
 go_wp2_with fail
 refine (rletter_any _ _).mono ?_
 rintro e w1 ⟨rfl,rfl⟩
 rw [show isLet 34=false from rfl]
 go_wp2_with fail
 refine (rdigit_any _ _).mono ?_
 rintro e w1 ⟨rfl,rfl⟩
 rw [show isDig 34=false from rfl]
 go_wp2
 go_loop [10] (fun j=>∃ k:Nat,i+1≤k∧k≤E∧j=.int .i64 k∧runTo (bts s) isPlain k=E) (fun j=>E-(intOf j).toNat)
 case atStart=>exact ⟨i+1,Nat.le_refl _,hlo,by go_num,HE.out⟩
 case round =>
  obtain ⟨k,hik,hkE,rfl,hj⟩:=hrel
  have HJ:=Lib.hid hj
  have HAT:=Lib.hid (fun W=>at_any s k k W rfl)
  clear hj
  by_cases hkl:k<s.size
  · obtain ⟨z,hz⟩:∃ z,(bts s).getD k 0=z:=⟨_,rfl⟩
    have hz0:=bts_bd s k
    rw [hz] at HAT hz0
    have hzk:(s[k].toNat:Int)=z:=by rw [←bts_get hkl];exact hz
    by_cases g1:32≤z
    · by_cases g2:z=34
      · have HST:=Lib.hid (show stA (bts s) isPlain k=false by rw [stA_of (by rw [bts_length];exact hkl),hz];exact decide_eq_false (by omega))
        have HQ:=Lib.hid (show stA (bts s) (isC 34) k=true by rw [stA_of (by rw [bts_length];exact hkl),hz];exact decide_eq_true g2)
        have hkk:k=E:=by
         rw [←HJ.out]
         exact (runTo_stop HST.out).symm
        subst hkk
        subst g2
        obtain ⟨S,hS⟩:∃ S,S=s.extract (i+1) k:=⟨_,rfl⟩
        have kc:=fun W=>Lib.run_convert_string_bytes (P:=Tryz.prog) W 9 22 5 S Tryz.underlying9 Tryz.underlying22 Tryz.underlying5
        have hSZ:S.size=k-(i+1):=by rw [hS,ByteArray.size_extract];omega
        have HSB:=Lib.hid (show bts S=sub (bts s) (i+1) k from by rw [hS];exact bts_part s (i+1) k)
        have HSX:=Lib.hid (show S=strOfNums (sub (bts s) (i+1) k) from by rw [hS];exact ext_str s (i+1) k)
        have hS':=hS.symm
        clear hz HST hS
        go_wp2_with fail
        refine (HAT.out _).mono ?_
        rintro e w2 ⟨rfl,rfl⟩
        go_wp2_with fail
        have hcap:=grownCap_ge ((w.alloc (.cells #[.int .i64 0,.string ⟨#[]⟩,.int .i64 0] 97)).alloc (.cells #[.int .i64 0,.string ⟨#[]⟩,.int .i64 (i:Nat)] 97)) (k-(i+1)) 0 5
        have hz0:=bytes_of_bytesWorld ((w.alloc (.cells #[.int .i64 0,.string ⟨#[]⟩,.int .i64 0] 97)).alloc (.cells #[.int .i64 0,.string ⟨#[]⟩,.int .i64 (i:Nat)] 97)) S
        obtain ⟨hb0,hR,hTk,hsz⟩:=two_blocks w i S
        simp only [World.size_alloc] at hz0
        generalize grownCap ((w.alloc (.cells #[.int .i64 0,.string ⟨#[]⟩,.int .i64 0] 97)).alloc (.cells #[.int .i64 0,.string ⟨#[]⟩,.int .i64 (i:Nat)] 97)) (k-(i+1)) 0 5 = cap at hcap ⊢
        generalize Lib.bytesWorld ((w.alloc (.cells #[.int .i64 0,.string ⟨#[]⟩,.int .i64 0] 97)).alloc (.cells #[.int .i64 0,.string ⟨#[]⟩,.int .i64 (i:Nat)] 97)) 5 S=W0 at hb0 hR hTk hsz hz0 ⊢
        have HZ:=Lib.hid (rtext_any (some ⟨w.heap.size+1+1,0,none⟩) cap (k-(i+1)) (bts S) W0 (Tabs.below HT.out (Nat.le_refl _) hb0) hz0 (by rw [bts_length];exact hSZ) (by omega) (by omega))
        rw [HSB.out] at HZ
        refine HZ.out.mono ?_
        rintro e W2 ⟨rfl,hb2⟩
        have HBW:=Lib.hid (hb0.trans (hb2.mono hb0.size))
        have HRB:=Lib.hid (hR.below hb2 (by omega))
        have HTK:=Lib.hid (hTk.below hb2 (by omega))
        have hs2:w.heap.size+1<W2.heap.size:=Nat.lt_of_lt_of_le hsz hb2.size
        clear hb0 hR hTk hz0 hcap HZ hb2 hsz kc
        obtain ⟨r0,r1,r2,r3,r4,r5⟩:=HRB.out.facts
        obtain ⟨t0,t1,t2,t3,t4,t5⟩:=HTK.out.facts
        cases ho:okU (sub (bts s) (i+1) k)
        · have HBB:=Lib.hid (show quoBad okU (bts s) i=true by rw [HB.out,ho];simp)
          clear ho
          go_wp2
          exact bodyPost_ret (v:=.tuple #[.agg #[.int .i64 0,.string ⟨#[]⟩,.int .i64 i],.int .i64 k,.bool false]) (by simp [results,Tryz.results61,go_sem,r0,r1,r2]) rfl ⟨(show r=none by rw [←HRR.out,HBB.out];rfl)▸⟨_,_,_,_,rfl⟩,((HBW.out.setCell (Nat.le_refl _) _).setCell (Nat.le_refl _) _).setCell (Nat.le_refl _) _⟩
        · have HBB:=Lib.hid (show quoBad okU (bts s) i=false by rw [HB.out,HQ.out,ho];rfl)
          clear ho
          go_wp2
          obtain rfl:=HSX.out
          exact bodyPost_ret (v:=.tuple #[.agg #[.int .i64 3,.string (strOfNums (sub (bts s) (i+1) k)),.int .i64 i],.int .i64 (k+1:Nat),.bool true]) (by simp [results,Tryz.results61,go_sem,r0,r1,r2]) rfl ⟨(show r=some ((⟨3,sub (bts s) (i+1) k,i⟩:Tok),k+1) by rw [←HRR.out,HBB.out];rfl)▸rfl,((((HBW.out.setCell (Nat.le_succ _) _).setCell (Nat.le_succ _) _).setCell (Nat.le_refl _) _).setCell (Nat.le_refl _) _).setCell (Nat.le_refl _) _⟩
      · by_cases g3:z=92
        · have b1:(z != 34)=true:=bne_iff_ne.2 g2
          have b2:(z != 92)=false:=by rw [g3];rfl
          have HST:=Lib.hid (show stA (bts s) isPlain k=false by rw [stA_of (by rw [bts_length];exact hkl),hz];exact decide_eq_false (by omega))
          have HQ:=Lib.hid (show stA (bts s) (isC 34) k=false by rw [stA_of (by rw [bts_length];exact hkl),hz];exact decide_eq_false (by omega))
          have n34:(z != 34)=true:=bne_iff_ne.2 (by omega)
          clear hz g2 g3
          have hkk:k=E:=by
           rw [←HJ.out]
           exact (runTo_stop HST.out).symm
          subst hkk
          have HBB:=Lib.hid (show quoBad okU (bts s) i=true by rw [HB.out,HQ.out];rfl)
          go_wp2_with fail
          refine (HAT.out _).mono ?_
          rintro e w2 ⟨rfl,rfl⟩
          go_wp2
          exact bodyPost_ret (v:=.tuple #[.agg #[.int .i64 0,.string ⟨#[]⟩,.int .i64 i],.int .i64 k,.bool false]) (by simp [results,Tryz.results61,go_sem]) rfl ⟨(show r=none by rw [←HRR.out,HBB.out];rfl)▸⟨_,_,_,_,rfl⟩,two_new w _ _⟩
        · by_cases g4:z=127
          · have b1:(z != 34)=true:=bne_iff_ne.2 g2
            have b2:(z != 92)=true:=bne_iff_ne.2 g3
            have b3:(z != 127)=false:=by rw [g4];rfl
            have HST:=Lib.hid (show stA (bts s) isPlain k=false by rw [stA_of (by rw [bts_length];exact hkl),hz];exact decide_eq_false (by omega))
            have HQ:=Lib.hid (show stA (bts s) (isC 34) k=false by rw [stA_of (by rw [bts_length];exact hkl),hz];exact decide_eq_false (by omega))
            have n34:(z != 34)=true:=bne_iff_ne.2 (by omega)
            clear hz g2 g3 g4
            have hkk:k=E:=by
             rw [←HJ.out]
             exact (runTo_stop HST.out).symm
            subst hkk
            have HBB:=Lib.hid (show quoBad okU (bts s) i=true by rw [HB.out,HQ.out];rfl)
            go_wp2_with fail
            refine (HAT.out _).mono ?_
            rintro e w2 ⟨rfl,rfl⟩
            go_wp2
            exact bodyPost_ret (v:=.tuple #[.agg #[.int .i64 0,.string ⟨#[]⟩,.int .i64 i],.int .i64 k,.bool false]) (by simp [results,Tryz.results61,go_sem]) rfl ⟨(show r=none by rw [←HRR.out,HBB.out];rfl)▸⟨_,_,_,_,rfl⟩,two_new w _ _⟩
          · have b1:(z != 34)=true:=bne_iff_ne.2 g2
            have b2:(z != 92)=true:=bne_iff_ne.2 g3
            have b3:(z != 127)=true:=bne_iff_ne.2 g4
            have hst:stA (bts s) isPlain k=true:=by rw [stA_of (by rw [bts_length];exact hkl),hz];exact decide_eq_true (by omega)
            have HN:=Lib.hid (HJ.out▸(runTo_step hst).symm)
            have hlt:k+1≤E:=by have:=runTo_ge (bts s) isPlain (k+1);rw [HN.out] at this;exact this
            clear hst hz g2 g3 g4
            go_wp2
            go_round
            case rel=>exact ⟨k+1,by omega,hlt,by go_num,HN.out⟩
            case measure=>simp [intOf];omega
    · have HST:=Lib.hid (show stA (bts s) isPlain k=false by rw [stA_of (by rw [bts_length];exact hkl),hz];exact decide_eq_false (by omega))
      have HQ:=Lib.hid (show stA (bts s) (isC 34) k=false by rw [stA_of (by rw [bts_length];exact hkl),hz];exact decide_eq_false (by omega))
      have n34:(z != 34)=true:=bne_iff_ne.2 (by omega)
      clear hz
      have hkk:k=E:=by
       rw [←HJ.out]
       exact (runTo_stop HST.out).symm
      subst hkk
      have HBB:=Lib.hid (show quoBad okU (bts s) i=true by rw [HB.out,HQ.out];rfl)
      go_wp2_with fail
      refine (HAT.out _).mono ?_
      rintro e w2 ⟨rfl,rfl⟩
      go_wp2
      exact bodyPost_ret (v:=.tuple #[.agg #[.int .i64 0,.string ⟨#[]⟩,.int .i64 i],.int .i64 k,.bool false]) (by simp [results,Tryz.results61,go_sem]) rfl ⟨(show r=none by rw [←HRR.out,HBB.out];rfl)▸⟨_,_,_,_,rfl⟩,two_new w _ _⟩
  · have HST:=Lib.hid (stA_ge (zs:=bts s) (p:=isPlain) (i:=k) (by rw [bts_length];omega))
    have HQ:=Lib.hid (stA_ge (zs:=bts s) (p:=isC 34) (i:=k) (by rw [bts_length];omega))
    rw [bts_end (by omega)] at HAT
    have hkk:k=E:=by
     rw [←HJ.out]
     exact (runTo_stop HST.out).symm
    subst hkk
    have HBB:=Lib.hid (show quoBad okU (bts s) i=true by rw [HB.out,HQ.out];rfl)
    go_wp2_with fail
    refine (HAT.out _).mono ?_
    rintro e w2 ⟨rfl,rfl⟩
    go_wp2
    exact bodyPost_ret (v:=.tuple #[.agg #[.int .i64 0,.string ⟨#[]⟩,.int .i64 i],.int .i64 k,.bool false]) (by simp [results,Tryz.results61,go_sem]) rfl ⟨(show r=none by rw [←HRR.out,HBB.out];rfl)▸⟨_,_,_,_,rfl⟩,two_new w _ _⟩
end Go.Proofs.YtokhnoogkdlidaaGreatDoor
