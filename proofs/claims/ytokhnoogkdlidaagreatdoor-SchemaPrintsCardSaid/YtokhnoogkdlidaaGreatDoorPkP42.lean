/-
  The document's own parser: a struct, the walk. Conditions: those that each theorem names.
-/
import Derived.Test.YtokhnoogkdlidaaGreatDoorPkP32
import Derived.Test.YtokhnoogkdlidaaGreatDoorPkP38
namespace Go.Proofs.YtokhnoogkdlidaaGreatDoor
open Go.ChangeShapes Go.WideShapes Go.ChangeAt Go.RowKit Go.Shelf
theorem exc_set234 (w:World)(g:Nat)(x y z:Value):Exc g w.heap.size w (((w.setCell ⟨g,2,none⟩ x).setCell ⟨g,3,none⟩ y).setCell ⟨g,4,none⟩ z):=
 ((exc_set w g 2 x).setCell (p:=⟨g,3,none⟩) (.inl rfl) y).setCell (p:=⟨g,4,none⟩) (.inl rfl) z
theorem blk_set234 {w:World}{g:Nat}{a b c d e f g' h:Value}{t:TypeId}(hb:w.heap[g]?=some (.cells #[a,b,c,d,e,f,g',h] t (0,0)))(x y z:Value) :
  (((w.setCell ⟨g,2,none⟩ x).setCell ⟨g,3,none⟩ y).setCell ⟨g,4,none⟩ z).heap[g]?=some (.cells #[a,b,x,y,z,f,g',h] t (0,0)):=by
 have k0:(w.setCell ⟨g,2,none⟩ x).heap[g]?=some (.cells #[a,b,x,d,e,f,g',h] t (0,0)):=(blk_set hb 2 x).trans rfl
 have k1:((w.setCell ⟨g,2,none⟩ x).setCell ⟨g,3,none⟩ y).heap[g]?=some (.cells #[a,b,x,y,e,f,g',h] t (0,0)):=(blk_set k0 3 y).trans rfl
 exact (blk_set k1 4 z).trans rfl
set_option maxRecDepth 100000 in
set_option maxHeartbeats 16000000 in
theorem drecord_any (w:World)(P g c:Nat)(l:List Tok)(st:Sto)(h:DpS w P g c l st) :
  Calls Tryz.prog 38 #[.pointer (some ⟨P,0,none⟩)] w (DRecPost P g c l w st):=by
 have HZ0:=Lib.hid (heap_alloc_new w (.cells #[.string ⟨#[]⟩,.int .i64 0,.slice none 0 0] 102))
 have hbA:Below w.heap.size w (w.alloc (.cells #[.string ⟨#[]⟩,.int .i64 0,.slice none 0 0] 102)):=(Below.refl _ _).alloc (Nat.le_refl _) _
 have HXA:=Lib.hid (Exc.of_below (R:=P) hbA)
 have HD:=Lib.hid (h.keep hbA)
 obtain ⟨hP,hg,hgP⟩:=h.facts
 have hll:l.length≤2048:=by obtain ⟨r,F,hd',_⟩:=h.form;exact hd'.few
 obtain ⟨i0,hi0,hz0,hz1,hz2⟩:=info_parts field_info
 have I1:=Lib.hid hi0
 have I2:=Lib.hid hz0
 have I3:=Lib.hid hz1
 have I4:=Lib.hid hz2
 have hA:w.heap.size<(w.alloc (.cells #[.string ⟨#[]⟩,.int .i64 0,.slice none 0 0] 102)).heap.size:=by simp
 have HST:=Lib.hid h
 clear h hbA hi0 hz0 hz1 hz2
 go_enter Tryz.func38,Tryz.ntmps38
 go_upto_region 1 with (fail)
 generalize w.alloc (.cells #[.string ⟨#[]⟩,.int .i64 0,.slice none 0 0] 102)=W0 at *
 go_wp2_with fail
 refine (dname_any _ P g c l st false HD.out).mono ?_
 rintro e W1 ⟨a,rfl,hr1,hx1,hs1⟩
 have hW1:W0.heap.size≤W1.heap.size:=hx1.size
 have HR1:Hid (DpS W1 P g c l (st.step nameR)):=Lib.hid hr1
 have HX1:=Lib.hid (HXA.out.thenB (Nat.le_refl _) hx1)
 have HZ1:=Lib.hid (blk_exc HZ0.out hx1 hA (by omega))
 have HXX:=Lib.hid (rec_start (t:=a) hs1)
 have HL:Hid ((st.step nameR).left≤l.length):=Lib.hid (by
  obtain ⟨r,F,hd',hf'⟩:=hr1.form
  have e1:st.step (nmR false)=st.step nameR:=rfl
  rw [e1] at hf'
  rcases hf' with ⟨hf',_⟩|⟨hf',_⟩
  · rw [hf'];exact hd'.len
  · rw [hf'];exact Nat.zero_le _)
 clear hr1 hx1 hs1 HD HXA HZ0
 unfold tokV
 go_upto_region 2 with (fail)
 have HR2:=Lib.hid (HR1.out.alloc (.cells #[.int .i64 a.kind,.string (strOfNums a.text),.int .i64 a.place] 97))
 have HX2:=Lib.hid (HX1.out.alloc HX1.out.size (.cells #[.int .i64 a.kind,.string (strOfNums a.text),.int .i64 a.place] 97))
 have HZ2:=Lib.hid (blk_alloc HZ1.out (.cells #[.int .i64 a.kind,.string (strOfNums a.text),.int .i64 a.place] 97))
 have HT2:=Lib.hid (heap_alloc_new W1 (.cells #[.int .i64 a.kind,.string (strOfNums a.text),.int .i64 a.place] 97))
 have hs2:W1.heap.size+1≤(W1.alloc (.cells #[.int .i64 a.kind,.string (strOfNums a.text),.int .i64 a.place] 97)).heap.size:=Nat.le_of_eq (World.size_alloc ..).symm
 clear HR1 HX1 HZ1
 generalize hW2:W1.alloc (.cells #[.int .i64 a.kind,.string (strOfNums a.text),.int .i64 a.place] 97)=W2 at *
 clear hW2
 generalize hBT:W1.heap.size=BT at *
 clear hBT
 obtain ⟨_,x0,x1,x2,_⟩:=blk3 HT2.out
 go_upto_region 3 with (fail)
 have HR3:=Lib.hid (HR2.out.alloc (.cells #[.string (strOfNums a.text),.int .i64 a.place,.slice none 0 0] 102))
 have HX3:=Lib.hid (HX2.out.alloc HX2.out.size (.cells #[.string (strOfNums a.text),.int .i64 a.place,.slice none 0 0] 102))
 have HZ3:=Lib.hid (blk_alloc HZ2.out (.cells #[.string (strOfNums a.text),.int .i64 a.place,.slice none 0 0] 102))
 have HO3:=Lib.hid (heap_alloc_new W2 (.cells #[.string (strOfNums a.text),.int .i64 a.place,.slice none 0 0] 102))
 have hs3:W2.heap.size+1≤(W2.alloc (.cells #[.string (strOfNums a.text),.int .i64 a.place,.slice none 0 0] 102)).heap.size:=Nat.le_of_eq (World.size_alloc ..).symm
 clear HR2 HX2 HZ2 HT2 x0 x1 x2
 generalize hW3:W2.alloc (.cells #[.string (strOfNums a.text),.int .i64 a.place,.slice none 0 0] 102)=W3 at *
 clear hW3
 generalize hO:W2.heap.size=O at *
 clear hO
 generalize st.step nameR=st1 at *
 go_wp2_with fail
 refine (dwant_any _ P g c l st1 ⟨#[123]⟩ [123] (by kernel_rfl) HR3.out).mono ?_
 rintro e W4 ⟨rfl,hr4,hx4⟩
 have HR4:=Lib.hid hr4
 have HX4:=Lib.hid (HX3.out.thenB (Nat.le_refl _) hx4)
 have HZ4:=Lib.hid (blk_exc HZ3.out hx4 (blk_lt HZ3.out) (by omega))
 have HO4:=Lib.hid (blk_exc HO3.out hx4 (blk_lt HO3.out) (by omega))
 have HL4:=Lib.hid (Nat.le_trans (stp_leaves (f:=wantR [123]) (st:=st1) (fun r e=>(want_eats (s:=[123]) (by subst e;exact HR3.out.ends)).keeps)) HL.out)
 clear hr4 hx4 HR3 HX3 HZ3 HO3 HL
 generalize st1.step (wantR [123])=st2 at *
 generalize hX:st.rd recR=X at *
 have HX':=Lib.hid hX
 clear hX
 go_wp2_with fail
 go_loopw [] (fun wr=>DRecAt P g c l w O a X wr) (fun wr=>dpM l P wr)
 case atStart=>exact ⟨[],st2,.slice none 0 0,HR4.out,HO4.out,World.ownsRow_nil _ _ _ _,HZ4.out,HX4.out,by simpa using HL4.out,HXX.out⟩
 case round =>
  clear HR4 HX4 HZ4 HO4 HL4 HXX
  obtain ⟨acc,st3,v,hr,ho,hrow,hz,hx,hn,heq⟩:=hrel
  have hOw:O<wr.heap.size:=blk_lt ho
  have HM:=Lib.hid (dpM_more hr)
  have HR:=Lib.hid hr
  have HO:=Lib.hid ho
  have HROW:=Lib.hid hrow
  have HZ:=Lib.hid hz
  have HX:=Lib.hid hx
  have HEQ:=Lib.hid heq
  clear hr ho hrow hz hx heq
  cases st3 with
  | fell cc pp =>
   obtain ⟨h0,r,hd'⟩:=HR.out
   obtain ⟨_,r0,r1,r2,r3,_⟩:=blk4 hd'.blk
   simp only at r2 r3
   have t0:(cc==0)=false:=by simp [h0]
   have H0:=Lib.hid h0
   have HE:=Lib.hid (step_bad (c:=cc) (p:=pp) (HX'.out.trans HEQ.out) (⟨a.text,a.place,acc⟩:RRec))
   obtain ⟨va,vc,rfl⟩:=ownsRow_form HROW.out
   obtain ⟨_,o0,o1,o2,_⟩:=blk3 HO.out
   obtain ⟨_,z0,z1,z2,y0,y1,y2⟩:=blk3 HZ.out
   clear h0 hd'
   go_wp2
   refine post_gen (fun Wf=>Wf.heap[w.heap.size]?=some (.cells #[.string (strOfNums a.text),.int .i64 a.place,.slice va acc.length vc] 102 (0,0))∧Wf.ownsRow w.heap.size 114 8 (.slice va acc.length vc) acc.length (fieldsCells acc)∧Exc P w.heap.size w Wf∧DpS Wf P g c l (.fell cc pp)) ⟨?_,?_,?_,?_⟩ ?_
   · exact blk_set3 HZ.out _ _ _
   · exact ownsRow_base (ownsRow_set3 HROW.out (by omega) _ _ _) (by omega)
   · exact HX.out.set3 (Nat.le_refl _) _ _ _
   · exact HR.out.set3 (by omega) (by omega) _ _ _
   · rintro Wf ⟨f1,f2,f3,f4⟩
     obtain ⟨_,c0,c1,c2,_⟩:=blk3 f1
     exact bodyPost_ret (v:=.agg #[.string (strOfNums a.text),.int .i64 a.place,.slice va acc.length vc]) (by simp [results,Tryz.results38,go_sem,c0,c1,c2]) rfl ⟨⟨a.text,a.place,acc⟩,_,rfl,f2,by rw [HE.out.1];exact f4,f3,HE.out.2⟩
  | go r =>
   have HIS:=Lib.hid (dis_any wr P g c l (.go r) 4 ⟨#[125]⟩ [125] (by kernel_rfl) HR.out)
   have HEND:=Lib.hid (show Ends r from HR.out.ends)
   obtain ⟨_,r0,r1,r2,r3,_⟩:=blk4 (show Dp wr P g c l r (0,0) from HR.out).blk
   simp only at r2 r3
   go_wp2_with fail
   refine HIS.out.mono ?_
   rintro e W5 ⟨rfl,hb5⟩
   clear r0 r1 r2 r3
   have HR5:=Lib.hid (HR.out.keep hb5)
   have HO5:=Lib.hid (blk_below HO.out hb5 hOw)
   have HROW5:=Lib.hid (exc_row HROW.out (by omega:P<O) (.of_below hb5))
   have HZ5:=Lib.hid (blk_below HZ.out hb5 (by omega))
   have HX5:=Lib.hid (HX.out.bel (Nat.le_refl _) hb5)
   have hO5:O<W5.heap.size:=Nat.lt_of_lt_of_le hOw hb5.size
   clear hb5 HR HO HROW HZ HX HIS
   generalize hi:isS 4 [125] (.go r)=b
   have HI:=Lib.hid (show isT 4 [125] r=b from hi)
   clear hi
   cases b
   · have HE0:=Lib.hid (fun (t d:Tok) (ty:RTy)=>rec_round (a:=a) (t:=t) (d:=d) (ty:=ty) (acc:=acc) HEND.out HI.out)
     have HEAT:=Lib.hid (step_left (label_eats HEND.out) (by rw [HEND.out.len];omega))
     go_wp2_with fail
     refine (dname_any _ P g c l (.go r) true HR5.out).mono ?_
     rintro e W6 ⟨t,rfl,hr6,hx,hs6⟩
     have HR6:Hid (DpS W6 P g c l ((Sto.go r).step labelR)):=Lib.hid hr6
     have HO6:=Lib.hid (blk_exc HO5.out hx (blk_lt HO5.out) (by omega))
     have HROW6:=Lib.hid (exc_row HROW5.out (by omega:P<O) hx)
     have HZ6:=Lib.hid (blk_exc HZ5.out hx (blk_lt HZ5.out) (by omega))
     have HX6:=Lib.hid (HX5.out.thenB (Nat.le_refl _) hx)
     clear hx HR5 HO5 HROW5 HZ5 HX5
     have HS6:Hid (Got (.go r) labelR t):=Lib.hid hs6
     have hO6:O<W6.heap.size:=blk_lt HO6.out
     clear hr6 hs6
     generalize hq4:(Sto.go r).step labelR=st4 at *
     have HRQ4:=HR6
     unfold tokV
     go_upto_region 6 with (fail)
     have HT7:=Lib.hid (heap_alloc_new W6 (.cells #[.int .i64 t.kind,.string (strOfNums t.text),.int .i64 t.place] 97))
     have HR7:=Lib.hid (HR6.out.alloc (.cells #[.int .i64 t.kind,.string (strOfNums t.text),.int .i64 t.place] 97))
     have HX7:=Lib.hid (HX6.out.alloc HX6.out.size (.cells #[.int .i64 t.kind,.string (strOfNums t.text),.int .i64 t.place] 97))
     have HZ7:=Lib.hid (blk_alloc HZ6.out (.cells #[.int .i64 t.kind,.string (strOfNums t.text),.int .i64 t.place] 97))
     have HO7:=Lib.hid (blk_alloc HO6.out (.cells #[.int .i64 t.kind,.string (strOfNums t.text),.int .i64 t.place] 97))
     have HROW7:=Lib.hid (exc_row HROW6.out (by omega:P<O) ((Exc.refl _ _ _).alloc (Nat.le_refl _) (.cells #[.int .i64 t.kind,.string (strOfNums t.text),.int .i64 t.place] 97)))
     clear HR6 HX6 HZ6 HO6 HROW6
     have hs7:W6.heap.size+1≤(W6.alloc (.cells #[.int .i64 t.kind,.string (strOfNums t.text),.int .i64 t.place] 97)).heap.size:=Nat.le_of_eq (World.size_alloc ..).symm
     generalize hW7:W6.alloc (.cells #[.int .i64 t.kind,.string (strOfNums t.text),.int .i64 t.place] 97)=W7 at *
     clear hW7
     generalize W6.heap.size=BT at *
     obtain ⟨_,x0,x1,x2,_⟩:=blk3 HT7.out
     have HVN:=Lib.hid (fun k hk=>(ownsRow_lt HROW7.out k hk).2)
     go_upto_region 7 with (fail)
     have HF8:=Lib.hid (heap_alloc_new W7 (.cells #[.string (strOfNums t.text),.int .i64 t.place,.string ⟨#[]⟩,.int .i64 0,.int .i64 0,.int .i64 0,.string ⟨#[]⟩,.int .i64 0] 114))
     have HR8:=Lib.hid (HR7.out.alloc (.cells #[.string (strOfNums t.text),.int .i64 t.place,.string ⟨#[]⟩,.int .i64 0,.int .i64 0,.int .i64 0,.string ⟨#[]⟩,.int .i64 0] 114))
     have HX8:=Lib.hid (HX7.out.alloc HX7.out.size (.cells #[.string (strOfNums t.text),.int .i64 t.place,.string ⟨#[]⟩,.int .i64 0,.int .i64 0,.int .i64 0,.string ⟨#[]⟩,.int .i64 0] 114))
     have HZ8:=Lib.hid (blk_alloc HZ7.out (.cells #[.string (strOfNums t.text),.int .i64 t.place,.string ⟨#[]⟩,.int .i64 0,.int .i64 0,.int .i64 0,.string ⟨#[]⟩,.int .i64 0] 114))
     have HO8:=Lib.hid (blk_alloc HO7.out (.cells #[.string (strOfNums t.text),.int .i64 t.place,.string ⟨#[]⟩,.int .i64 0,.int .i64 0,.int .i64 0,.string ⟨#[]⟩,.int .i64 0] 114))
     have HROW8:=Lib.hid (exc_row HROW7.out (by omega:P<O) ((Exc.refl _ _ _).alloc (Nat.le_refl _) (.cells #[.string (strOfNums t.text),.int .i64 t.place,.string ⟨#[]⟩,.int .i64 0,.int .i64 0,.int .i64 0,.string ⟨#[]⟩,.int .i64 0] 114)))
     clear HR7 HX7 HZ7 HO7 HROW7
     have hs8:W7.heap.size+1≤(W7.alloc (.cells #[.string (strOfNums t.text),.int .i64 t.place,.string ⟨#[]⟩,.int .i64 0,.int .i64 0,.int .i64 0,.string ⟨#[]⟩,.int .i64 0] 114)).heap.size:=Nat.le_of_eq (World.size_alloc ..).symm
     have hvb:v.ownBlock≠some W7.heap.size:=fun e=>by have:=HVN.out _ e;omega
     have HVB:=Lib.hid hvb
     clear x0 x1 x2 HT7 hvb HVN
     generalize hW8:W7.alloc (.cells #[.string (strOfNums t.text),.int .i64 t.place,.string ⟨#[]⟩,.int .i64 0,.int .i64 0,.int .i64 0,.string ⟨#[]⟩,.int .i64 0] 114)=W8 at *
     clear hW8
     generalize W7.heap.size=BF at *
     go_wp2_with fail
     refine (dwant_any _ P g c l st4 ⟨#[58]⟩ [58] (by kernel_rfl) HR8.out).mono ?_
     rintro e W9 ⟨rfl,hr9,hx⟩
     have HR9:=Lib.hid hr9
     clear hr9
     have HO9:=Lib.hid (blk_exc HO8.out hx (blk_lt HO8.out) (by omega))
     have HROW9:=Lib.hid (exc_row HROW8.out (by omega:P<O) hx)
     have HZ9:=Lib.hid (blk_exc HZ8.out hx (blk_lt HZ8.out) (by omega))
     have HX9:=Lib.hid (HX8.out.thenB (Nat.le_refl _) hx)
     have HF9:=Lib.hid (blk_exc HF8.out hx (blk_lt HF8.out) (by omega))
     clear hx HR8 HO8 HROW8 HZ8 HX8 HF8
     generalize hq5:st4.step (wantR [58])=st5 at *
     have HRQ5:=HR9
     go_wp2_with fail
     refine (dkind_any _ P g c l st5 HR9.out).mono ?_
     rintro e W10 ⟨ty,rfl,hr10,hx,hs10⟩
     have HR10:=Lib.hid hr10
     have HS10:=Lib.hid hs10
     clear hr10 hs10
     have HO10:=Lib.hid (blk_exc HO9.out hx (blk_lt HO9.out) (by omega))
     have HROW10:=Lib.hid (exc_row HROW9.out (by omega:P<O) hx)
     have HZ10:=Lib.hid (blk_exc HZ9.out hx (blk_lt HZ9.out) (by omega))
     have HX10:=Lib.hid (HX9.out.thenB (Nat.le_refl _) hx)
     have HF10:=Lib.hid (blk_exc HF9.out hx (blk_lt HF9.out) (by omega))
     clear hx HR9 HO9 HROW9 HZ9 HX9 HF9
     generalize hq6:st5.step tyR=st6 at *
     unfold tyV
     obtain ⟨_,⟨k0,k1,k2,k3,k4,k5,k6,k7⟩,⟨q0,q1,q2,q3,q4,q5,q6,q7⟩⟩:=blk8 HF10.out
     have hx:Exc BF W10.heap.size W10 (((W10.setCell ⟨BF,2,none⟩ (.string (strOfNums ty.name))).setCell ⟨BF,3,none⟩ (.int .i64 ty.lists)).setCell ⟨BF,4,none⟩ (.int .i64 ty.place)):=exc_set234 W10 BF (.string (strOfNums ty.name)) (.int .i64 ty.lists) (.int .i64 ty.place)
     have HFe:=Lib.hid (blk_set234 HF10.out (.string (strOfNums ty.name)) (.int .i64 ty.lists) (.int .i64 ty.place))
     have HRe:=Lib.hid (HR10.out.other hx (by omega) (by omega))
     have HOe:=Lib.hid (blk_exc HO10.out hx (blk_lt HO10.out) (by omega))
     have HROWe:=Lib.hid (hx.ownsRow HROW10.out HVB.out)
     have HZe:=Lib.hid (blk_exc HZ10.out hx (blk_lt HZ10.out) (by omega))
     have HXe:=Lib.hid (((HX10.out.set1 (g:=BF) (by omega) 2 (.string (strOfNums ty.name))).set1 (g:=BF) (by omega) 3 (.int .i64 ty.lists)).set1 (g:=BF) (by omega) 4 (.int .i64 ty.place))
     have HL6:=Lib.hid (show st6.left+1≤r.length from Nat.le_trans (Nat.succ_le_succ (by rw [←hq6];exact Nat.le_trans (stp_leaves (f:=tyR) (st:=st5) (fun r e=>ty_keeps (by subst e;exact HRQ5.out.ends))) (by rw [←hq5];exact stp_leaves (f:=wantR [58]) (st:=st4) (fun r e=>(want_eats (by subst e;exact HRQ4.out.ends)).keeps)))) HEAT.out)
     go_upto_region 9 with (fail)
     clear hx HR10 HO10 HROW10 HZ10 HX10 HF10 k0 k1 k2 k3 k4 k5 k6 k7 q0 q1 q2 q3 q4 q5 q6 q7
     generalize (((W10.setCell ⟨BF,2,none⟩ (.string (strOfNums ty.name))).setCell ⟨BF,3,none⟩ (.int .i64 ty.lists)).setCell ⟨BF,4,none⟩ (.int .i64 ty.place))=We at *
     have HIS:=Lib.hid (dis_any We P g c l st6 4 ⟨#[61]⟩ [61] (by kernel_rfl) HRe.out)
     go_wp2_with fail
     refine HIS.out.mono ?_
     rintro e Wf ⟨rfl,hb⟩
     have HRf:=Lib.hid (HRe.out.keep hb)
     have HOf:=Lib.hid (blk_below HOe.out hb (blk_lt HOe.out))
     have HROWf:=Lib.hid (exc_row HROWe.out (by omega:P<O) (.of_below hb))
     have HZf:=Lib.hid (blk_below HZe.out hb (blk_lt HZe.out))
     have HXf:=Lib.hid (HXe.out.bel (Nat.le_refl _) hb)
     have HFf:=Lib.hid (blk_below HFe.out hb (blk_lt HFe.out))
     clear hb HOe HROWe HZe HXe HFe
     clear HIS
     generalize hi6:isS 4 [61] st6=b
     cases b
     · have HSD:=Lib.hid (dflt_none hi6)
       clear hi6
       have hls:(st6).left≤(st6).left:=by
        have h1:=stp_leaves (f:=dfltR) (st:=st6) (fun r e=>dflt_keeps (by cases e;exact HRe.out.ends))
        rw [HSD.out.1] at h1
        exact h1
       have HLE:=Lib.hid (show ((st6).step (wantR [59])).left+1≤r.length from Nat.le_trans (Nat.succ_le_succ (Nat.le_trans (stp_leaves (f:=wantR [59]) (st:=st6) (fun r e=>(want_eats (by cases e<;>exact HRf.out.ends)).keeps)) hls)) HL6.out)
       clear hls
       have HE:=Lib.hid (HEQ.out.trans ((HE0.out t noTok ty HS6.out HS10.out HSD.out.2).trans (by rw [HSD.out.1])))
       go_wp2_with fail
       refine (dwant_any _ P g c l (st6) ⟨#[59]⟩ [59] (by kernel_rfl) HRf.out).mono ?_
       rintro e Wt ⟨rfl,hrt,hx⟩
       have HRt:=Lib.hid hrt
       clear hrt
       have HOt:=Lib.hid (blk_exc HOf.out hx (blk_lt HOf.out) (by omega))
       have HROWt:=Lib.hid (exc_row HROWf.out (by omega:P<O) hx)
       have HZt:=Lib.hid (blk_exc HZf.out hx (blk_lt HZf.out) (by omega))
       have HXt:=Lib.hid (HXf.out.thenB (Nat.le_refl _) hx)
       have HFt:=Lib.hid (blk_exc HFf.out hx (blk_lt HFf.out) (by omega))
       clear hx HRf HOf HROWf HZf HXf HFf
       generalize (st6).step (wantR [59])=st9 at *
       obtain ⟨_,⟨k0,k1,k2,k3,k4,k5,k6,k7⟩,⟨q0,q1,q2,q3,q4,q5,q6,q7⟩⟩:=blk8 HFt.out
       obtain ⟨va,vc,rfl⟩:=ownsRow_form HROWt.out
       obtain ⟨_,o0,o1,o2,p0,p1,p2⟩:=blk3 HOt.out
       have hacc:acc.length≤2048:=by omega
       have hOt:O<Wt.heap.size:=blk_lt HOt.out
       go_wp2_with (at_builtin;refine wpList_append_own _ rfl (.tmp 74) (.tmp 76) 100 rfl (O+1) 114 i0 _ 8 88 Tryz.underlying100 I1.out I2.out I3.out I4.out rfl (by decide) _ acc.length (fieldsCells acc) rfl (exc_row HROWt.out (by omega:P<O) ((Exc.refl _ _ _).alloc (Nat.le_refl _) (.cells #[.string (strOfNums t.text),.int .i64 t.place,.string (strOfNums ty.name),.int .i64 ty.lists,.int .i64 ty.place,.int .i64 noTok.kind,.string (strOfNums noTok.text),.int .i64 noTok.place] 114))) ⟨Wt.heap.size,0,none⟩ 1 1 (fieldCells (fld4 t ty noTok)) rfl rfl (fieldCells_new Wt (fld4 t ty noTok)) (fieldCells_one (fld4 t ty noTok)) (by unfold maxLen;omega) (by omega) (by simp;omega) ?_;intro v4 W8 hown4 hg4 hx;clear hx;have HG8:=Lib.hid hg4;obtain ⟨a4,c4,rfl⟩:=ownsRow_form hown4;have HROW8:=Lib.hid hown4;have HO8:=Lib.hid (grown_keeps hg4 HROWt.out (Nat.lt_succ_self O) HOt.out);obtain ⟨_,oa,ob,oc,qa,qb,qc⟩:=blk3 HO8.out;clear hown4 hg4)
       have hb:Below O Wt (W8.setCell ⟨O,2,none⟩ (.slice a4 (acc.length+1) c4)):=(((Below.refl O Wt).alloc (by omega) _).grown HG8.out (by simp;omega) (fun k hk=>by have:=(ownsRow_lt HROWt.out k hk).1;omega)).setCell (Nat.le_refl _) _
       have HO9:=Lib.hid (show (W8.setCell ⟨O,2,none⟩ (.slice a4 (acc.length+1) c4)).heap[O]?=some (.cells #[.string (strOfNums a.text),.int .i64 a.place,.slice a4 (acc.length+1) c4] 102 (0,0)) from (blk_set HO8.out 2 _).trans rfl)
       have HROW9:=Lib.hid (show (W8.setCell ⟨O,2,none⟩ (.slice a4 (acc.length+1) c4)).ownsRow (O+1) 114 8 (.slice a4 (acc.length+1) c4) (acc++[fld4 t ty noTok]).length (fieldsCells (acc++[fld4 t ty noTok])) by rw [fieldsCells_snoc,List.length_append];exact ownsRow_setCell_below HROW8.out (a:=⟨O,2,none⟩) (Nat.lt_succ_self O) (.slice a4 (acc.length+1) c4))
       have HR9:=Lib.hid (HRt.out.deep hb (by omega) (by omega))
       have HX9:=Lib.hid (HXt.out.trans (Exc.of_below (hb.mono (by omega:w.heap.size≤O))))
       have HZ9:=Lib.hid (blk_below HZt.out hb (by omega))
       go_roundw
       case rel=>exact ⟨acc++[fld4 t ty noTok],st9,_,HR9.out,HO9.out,HROW9.out,HZ9.out,HX9.out,by have:=HLE.out;simp only [List.length_append,List.length_singleton];have h2:=hn;simp only [Sto.left] at h2 this ⊢;omega,HE.out⟩
       case measure=>rw [dpM_more HR9.out,HM.out];exact more_left HLE.out
     · obtain ⟨r6,rfl,hw⟩:=is_word hi6
       have HW:=Lib.hid hw
       have HK:=Lib.hid (show (hd r6).kind≠0 by rw [(isT_kind hw).1];decide)
       clear hi6 hw
       obtain ⟨r7,hr7⟩:∃ r7,r6.tail=r7:=⟨_,rfl⟩
       have HR7:=Lib.hid hr7
       clear hr7
       have hdf:Dp Wf P g c l r6 (0,0):=HRf.out
       obtain ⟨_,m0,m1,m2,m3,s1,s2,s3⟩:=blk4 hdf.blk
       simp only at m2 m3
       have hfew:=hdf.few
       have hlen:=hdf.len
       have HRg:Hid (DpS (Wf.setCell ⟨P,1,none⟩ (.int .i64 (((l.length-r6.length:Nat):Int)+1))) P g c l (.go r7)):=Lib.hid (by rw [←HR7.out];exact dp_next hdf HK.out)
       have hx:Exc P Wf.heap.size Wf (Wf.setCell ⟨P,1,none⟩ (.int .i64 (((l.length-r6.length:Nat):Int)+1))):=exc_set _ _ _ _
       clear hdf
       have HOg:=Lib.hid (blk_exc HOf.out hx (blk_lt HOf.out) (by omega))
       have HROWg:=Lib.hid (exc_row HROWf.out (by omega:P<O) hx)
       have HZg:=Lib.hid (blk_exc HZf.out hx (blk_lt HZf.out) (by omega))
       have HXg:=Lib.hid (HXf.out.thenB (Nat.le_refl _) hx)
       have HFg:=Lib.hid (blk_exc HFf.out hx (blk_lt HFf.out) (by omega))
       clear hx HRf HOf HROWf HZf HXf HFf
       go_upto_region 11 with (fail)
       clear m0 m1 m2 m3 s1 s2 s3 hfew hlen
       generalize Wf.setCell ⟨P,1,none⟩ (.int .i64 (((l.length-r6.length:Nat):Int)+1))=Wg at *
       go_wp2_with fail
       refine (dhere_any _ P g c l r7 (0,0) HRg.out).mono ?_
       rintro e Wh ⟨rfl,hb⟩
       have HRh:=Lib.hid (HRg.out.keep hb)
       have HOh:=Lib.hid (blk_below HOg.out hb (blk_lt HOg.out))
       have HROWh:=Lib.hid (exc_row HROWg.out (by omega:P<O) (.of_below hb))
       have HZh:=Lib.hid (blk_below HZg.out hb (blk_lt HZg.out))
       have HXh:=Lib.hid (HXg.out.bel (Nat.le_refl _) hb)
       have HFh:=Lib.hid (blk_below HFg.out hb (blk_lt HFg.out))
       clear hb HRg HOg HROWg HZg HXg HFg
       obtain ⟨d,hdd⟩:∃ d,hd r7=d:=⟨_,rfl⟩
       have HDD:=Lib.hid hdd
       rw [hdd]
       clear hdd
       unfold tokV
       obtain ⟨_,⟨k0,k1,k2,k3,k4,k5,k6,k7⟩,⟨q0,q1,q2,q3,q4,q5,q6,q7⟩⟩:=blk8 HFh.out
       have hx:Exc BF Wh.heap.size Wh (((Wh.setCell ⟨BF,5,none⟩ (.int .i64 d.kind)).setCell ⟨BF,6,none⟩ (.string (strOfNums d.text))).setCell ⟨BF,7,none⟩ (.int .i64 d.place)):=exc_set567 Wh BF (.int .i64 d.kind) (.string (strOfNums d.text)) (.int .i64 d.place)
       have HFi:=Lib.hid (blk_set567 HFh.out (.int .i64 d.kind) (.string (strOfNums d.text)) (.int .i64 d.place))
       have HRi:=Lib.hid (HRh.out.other hx (by omega) (by omega))
       have HOi:=Lib.hid (blk_exc HOh.out hx (blk_lt HOh.out) (by omega))
       have HROWi:=Lib.hid (hx.ownsRow HROWh.out HVB.out)
       have HZi:=Lib.hid (blk_exc HZh.out hx (blk_lt HZh.out) (by omega))
       have HXi:=Lib.hid (((HXh.out.set1 (g:=BF) (by omega) 5 (.int .i64 d.kind)).set1 (g:=BF) (by omega) 6 (.string (strOfNums d.text))).set1 (g:=BF) (by omega) 7 (.int .i64 d.place))
       go_upto_region 12 with (fail)
       clear hx HRh HOh HROWh HZh HXh HFh k0 k1 k2 k3 k4 k5 k6 k7 q0 q1 q2 q3 q4 q5 q6 q7
       generalize (((Wh.setCell ⟨BF,5,none⟩ (.int .i64 d.kind)).setCell ⟨BF,6,none⟩ (.string (strOfNums d.text))).setCell ⟨BF,7,none⟩ (.int .i64 d.place))=Wi at *
       obtain ⟨_,⟨k0,k1,k2,k3,k4,k5,k6,k7⟩,⟨q0,q1,q2,q3,q4,q5,q6,q7⟩⟩:=blk8 HFi.out
       by_cases hk:d.kind=1∨d.kind=2
       · have HSD:=Lib.hid (dflt_good HW.out (by rw [HR7.out,HDD.out];exact hk))
         rw [HR7.out,HDD.out] at HSD
         have hdi:Dp Wi P g c l r7 (0,0):=HRi.out
         obtain ⟨_,m0,m1,m2,m3,s1,s2,s3⟩:=blk4 hdi.blk
         simp only at m2 m3
         have hfew:=hdi.few
         have hlen:=hdi.len
         have HRj:Hid (DpS (Wi.setCell ⟨P,1,none⟩ (.int .i64 (((l.length-r7.length:Nat):Int)+1))) P g c l (.go r7.tail)):=Lib.hid (dp_next hdi (by rw [HDD.out];omega))
         have hx:Exc P Wi.heap.size Wi (Wi.setCell ⟨P,1,none⟩ (.int .i64 (((l.length-r7.length:Nat):Int)+1))):=exc_set _ _ _ _
         clear hdi
         have t12:(d.kind != 1)=false∨((d.kind != 1)=true∧(d.kind != 2)=false):=by
          by_cases h1:d.kind=1
          · left;simp [h1]
          · right;exact ⟨by simp [h1],by have:d.kind=2:=by omega
                                         simp [this]⟩
         clear hk
         have HDI:Hid (d=d):=Lib.hid rfl
         rcases t12 with t1|⟨t1,t2⟩
         all_goals
          have HOj:=Lib.hid (blk_exc HOi.out hx (blk_lt HOi.out) (by omega))
          have HROWj:=Lib.hid (exc_row HROWi.out (by omega:P<O) hx)
          have HZj:=Lib.hid (blk_exc HZi.out hx (blk_lt HZi.out) (by omega))
          have HXj:=Lib.hid (HXi.out.thenB (Nat.le_refl _) hx)
          have HFj:=Lib.hid (blk_exc HFi.out hx (blk_lt HFi.out) (by omega))
          clear hx HRi HOi HROWi HZi HXi HFi
          go_upto_region 15 with (fail)
          clear m0 m1 m2 m3 s1 s2 s3 hfew hlen k0 k1 k2 k3 k4 k5 k6 k7 q0 q1 q2 q3 q4 q5 q6 q7
          generalize Wi.setCell ⟨P,1,none⟩ (.int .i64 (((l.length-r7.length:Nat):Int)+1))=Wj at *
          have hls:(Sto.go r7.tail).left≤(Sto.go r6).left:=by
           have h1:=stp_leaves (f:=dfltR) (st:=Sto.go r6) (fun r e=>dflt_keeps (by cases e;exact HRe.out.ends))
           rw [HSD.out.1] at h1
           exact h1
          have HLE:=Lib.hid (show ((Sto.go r7.tail).step (wantR [59])).left+1≤r.length from Nat.le_trans (Nat.succ_le_succ (Nat.le_trans (stp_leaves (f:=wantR [59]) (st:=Sto.go r7.tail) (fun r e=>(want_eats (by cases e<;>exact HRj.out.ends)).keeps)) hls)) HL6.out)
          clear hls
          have HE:=Lib.hid (HEQ.out.trans ((HE0.out t d ty HS6.out HS10.out HSD.out.2).trans (by rw [HSD.out.1])))
          go_wp2_with fail
          refine (dwant_any _ P g c l (Sto.go r7.tail) ⟨#[59]⟩ [59] (by kernel_rfl) HRj.out).mono ?_
          rintro e Wt ⟨rfl,hrt,hx⟩
          have HRt:=Lib.hid hrt
          clear hrt
          have HOt:=Lib.hid (blk_exc HOj.out hx (blk_lt HOj.out) (by omega))
          have HROWt:=Lib.hid (exc_row HROWj.out (by omega:P<O) hx)
          have HZt:=Lib.hid (blk_exc HZj.out hx (blk_lt HZj.out) (by omega))
          have HXt:=Lib.hid (HXj.out.thenB (Nat.le_refl _) hx)
          have HFt:=Lib.hid (blk_exc HFj.out hx (blk_lt HFj.out) (by omega))
          clear hx HRj HOj HROWj HZj HXj HFj
          generalize (Sto.go r7.tail).step (wantR [59])=st9 at *
          obtain ⟨_,⟨k0,k1,k2,k3,k4,k5,k6,k7⟩,⟨q0,q1,q2,q3,q4,q5,q6,q7⟩⟩:=blk8 HFt.out
          obtain ⟨va,vc,rfl⟩:=ownsRow_form HROWt.out
          obtain ⟨_,o0,o1,o2,p0,p1,p2⟩:=blk3 HOt.out
          have hacc:acc.length≤2048:=by omega
          have hOt:O<Wt.heap.size:=blk_lt HOt.out
          go_wp2_with (at_builtin;refine wpList_append_own _ rfl (.tmp 74) (.tmp 76) 100 rfl (O+1) 114 i0 _ 8 88 Tryz.underlying100 I1.out I2.out I3.out I4.out rfl (by decide) _ acc.length (fieldsCells acc) rfl (exc_row HROWt.out (by omega:P<O) ((Exc.refl _ _ _).alloc (Nat.le_refl _) (.cells #[.string (strOfNums t.text),.int .i64 t.place,.string (strOfNums ty.name),.int .i64 ty.lists,.int .i64 ty.place,.int .i64 d.kind,.string (strOfNums d.text),.int .i64 d.place] 114))) ⟨Wt.heap.size,0,none⟩ 1 1 (fieldCells (fld4 t ty d)) rfl rfl (fieldCells_new Wt (fld4 t ty d)) (fieldCells_one (fld4 t ty d)) (by unfold maxLen;omega) (by omega) (by simp;omega) ?_;intro v4 W8 hown4 hg4 hx;clear hx;have HG8:=Lib.hid hg4;obtain ⟨a4,c4,rfl⟩:=ownsRow_form hown4;have HROW8:=Lib.hid hown4;have HO8:=Lib.hid (grown_keeps hg4 HROWt.out (Nat.lt_succ_self O) HOt.out);obtain ⟨_,oa,ob,oc,qa,qb,qc⟩:=blk3 HO8.out;clear hown4 hg4)
          have hb:Below O Wt (W8.setCell ⟨O,2,none⟩ (.slice a4 (acc.length+1) c4)):=(((Below.refl O Wt).alloc (by omega) _).grown HG8.out (by simp;omega) (fun k hk=>by have:=(ownsRow_lt HROWt.out k hk).1;omega)).setCell (Nat.le_refl _) _
          have HO9:=Lib.hid (show (W8.setCell ⟨O,2,none⟩ (.slice a4 (acc.length+1) c4)).heap[O]?=some (.cells #[.string (strOfNums a.text),.int .i64 a.place,.slice a4 (acc.length+1) c4] 102 (0,0)) from (blk_set HO8.out 2 _).trans rfl)
          have HROW9:=Lib.hid (show (W8.setCell ⟨O,2,none⟩ (.slice a4 (acc.length+1) c4)).ownsRow (O+1) 114 8 (.slice a4 (acc.length+1) c4) (acc++[fld4 t ty d]).length (fieldsCells (acc++[fld4 t ty d])) by rw [fieldsCells_snoc,List.length_append];exact ownsRow_setCell_below HROW8.out (a:=⟨O,2,none⟩) (Nat.lt_succ_self O) (.slice a4 (acc.length+1) c4))
          have HR9:=Lib.hid (HRt.out.deep hb (by omega) (by omega))
          have HX9:=Lib.hid (HXt.out.trans (Exc.of_below (hb.mono (by omega:w.heap.size≤O))))
          have HZ9:=Lib.hid (blk_below HZt.out hb (by omega))
          go_roundw
          case rel=>exact ⟨acc++[fld4 t ty d],st9,_,HR9.out,HO9.out,HROW9.out,HZ9.out,HX9.out,by have:=HLE.out;simp only [List.length_append,List.length_singleton];have h2:=hn;simp only [Sto.left] at h2 this ⊢;omega,HE.out⟩
          case measure=>rw [dpM_more HR9.out,HM.out];exact more_left HLE.out
       · have HSD:=Lib.hid (dflt_bad HW.out (by rw [HR7.out,HDD.out];exact hk) d)
         rw [HR7.out,HDD.out] at HSD
         have t1:(d.kind != 1)=true:=by simp;omega
         have t2:(d.kind != 2)=true:=by simp;omega
         clear hk
         have HB:=Lib.hid (dbad_any Wi P g c l (.go r7) 11 (by decide) HRi.out)
         go_wp2_with fail
         refine HB.out.mono ?_
         rintro e Wj ⟨rfl,hrj,hx⟩
         have HRj:Hid (DpS Wj P g c l (.fell 11 d.place)):=Lib.hid (by rw [←HDD.out];exact hrj)
         clear hrj HB k0 k1 k2 k3 k4 k5 k6 k7 q0 q1 q2 q3 q4 q5 q6 q7
         have HOj:=Lib.hid (blk_exc HOi.out hx (blk_lt HOi.out) (by omega))
         have HROWj:=Lib.hid (exc_row HROWi.out (by omega:P<O) hx)
         have HZj:=Lib.hid (blk_exc HZi.out hx (blk_lt HZi.out) (by omega))
         have HXj:=Lib.hid (HXi.out.thenB (Nat.le_refl _) hx)
         have HFj:=Lib.hid (blk_exc HFi.out hx (blk_lt HFi.out) (by omega))
         clear hx HRi HOi HROWi HZi HXi HFi
         have hls:(Sto.fell 11 d.place).left≤(Sto.go r6).left:=by
          have h1:=stp_leaves (f:=dfltR) (st:=Sto.go r6) (fun r e=>dflt_keeps (by cases e;exact HRe.out.ends))
          rw [HSD.out.1] at h1
          exact h1
         have HLE:=Lib.hid (show ((Sto.fell 11 d.place).step (wantR [59])).left+1≤r.length from Nat.le_trans (Nat.succ_le_succ (Nat.le_trans (stp_leaves (f:=wantR [59]) (st:=Sto.fell 11 d.place) (fun r e=>(want_eats (by cases e<;>exact HRj.out.ends)).keeps)) hls)) HL6.out)
         clear hls
         have HE:=Lib.hid (HEQ.out.trans ((HE0.out t d ty HS6.out HS10.out HSD.out.2).trans (by rw [HSD.out.1])))
         go_wp2_with fail
         refine (dwant_any _ P g c l (Sto.fell 11 d.place) ⟨#[59]⟩ [59] (by kernel_rfl) HRj.out).mono ?_
         rintro e Wt ⟨rfl,hrt,hx⟩
         have HRt:=Lib.hid hrt
         clear hrt
         have HOt:=Lib.hid (blk_exc HOj.out hx (blk_lt HOj.out) (by omega))
         have HROWt:=Lib.hid (exc_row HROWj.out (by omega:P<O) hx)
         have HZt:=Lib.hid (blk_exc HZj.out hx (blk_lt HZj.out) (by omega))
         have HXt:=Lib.hid (HXj.out.thenB (Nat.le_refl _) hx)
         have HFt:=Lib.hid (blk_exc HFj.out hx (blk_lt HFj.out) (by omega))
         clear hx HRj HOj HROWj HZj HXj HFj
         generalize (Sto.fell 11 d.place).step (wantR [59])=st9 at *
         obtain ⟨_,⟨k0,k1,k2,k3,k4,k5,k6,k7⟩,⟨q0,q1,q2,q3,q4,q5,q6,q7⟩⟩:=blk8 HFt.out
         obtain ⟨va,vc,rfl⟩:=ownsRow_form HROWt.out
         obtain ⟨_,o0,o1,o2,p0,p1,p2⟩:=blk3 HOt.out
         have hacc:acc.length≤2048:=by omega
         have hOt:O<Wt.heap.size:=blk_lt HOt.out
         go_wp2_with (at_builtin;refine wpList_append_own _ rfl (.tmp 74) (.tmp 76) 100 rfl (O+1) 114 i0 _ 8 88 Tryz.underlying100 I1.out I2.out I3.out I4.out rfl (by decide) _ acc.length (fieldsCells acc) rfl (exc_row HROWt.out (by omega:P<O) ((Exc.refl _ _ _).alloc (Nat.le_refl _) (.cells #[.string (strOfNums t.text),.int .i64 t.place,.string (strOfNums ty.name),.int .i64 ty.lists,.int .i64 ty.place,.int .i64 d.kind,.string (strOfNums d.text),.int .i64 d.place] 114))) ⟨Wt.heap.size,0,none⟩ 1 1 (fieldCells (fld4 t ty d)) rfl rfl (fieldCells_new Wt (fld4 t ty d)) (fieldCells_one (fld4 t ty d)) (by unfold maxLen;omega) (by omega) (by simp;omega) ?_;intro v4 W8 hown4 hg4 hx;clear hx;have HG8:=Lib.hid hg4;obtain ⟨a4,c4,rfl⟩:=ownsRow_form hown4;have HROW8:=Lib.hid hown4;have HO8:=Lib.hid (grown_keeps hg4 HROWt.out (Nat.lt_succ_self O) HOt.out);obtain ⟨_,oa,ob,oc,qa,qb,qc⟩:=blk3 HO8.out;clear hown4 hg4)
         have hb:Below O Wt (W8.setCell ⟨O,2,none⟩ (.slice a4 (acc.length+1) c4)):=(((Below.refl O Wt).alloc (by omega) _).grown HG8.out (by simp;omega) (fun k hk=>by have:=(ownsRow_lt HROWt.out k hk).1;omega)).setCell (Nat.le_refl _) _
         have HO9:=Lib.hid (show (W8.setCell ⟨O,2,none⟩ (.slice a4 (acc.length+1) c4)).heap[O]?=some (.cells #[.string (strOfNums a.text),.int .i64 a.place,.slice a4 (acc.length+1) c4] 102 (0,0)) from (blk_set HO8.out 2 _).trans rfl)
         have HROW9:=Lib.hid (show (W8.setCell ⟨O,2,none⟩ (.slice a4 (acc.length+1) c4)).ownsRow (O+1) 114 8 (.slice a4 (acc.length+1) c4) (acc++[fld4 t ty d]).length (fieldsCells (acc++[fld4 t ty d])) by rw [fieldsCells_snoc,List.length_append];exact ownsRow_setCell_below HROW8.out (a:=⟨O,2,none⟩) (Nat.lt_succ_self O) (.slice a4 (acc.length+1) c4))
         have HR9:=Lib.hid (HRt.out.deep hb (by omega) (by omega))
         have HX9:=Lib.hid (HXt.out.trans (Exc.of_below (hb.mono (by omega:w.heap.size≤O))))
         have HZ9:=Lib.hid (blk_below HZt.out hb (by omega))
         go_roundw
         case rel=>exact ⟨acc++[fld4 t ty d],st9,_,HR9.out,HO9.out,HROW9.out,HZ9.out,HX9.out,by have:=HLE.out;simp only [List.length_append,List.length_singleton];have h2:=hn;simp only [Sto.left] at h2 this ⊢;omega,HE.out⟩
         case measure=>rw [dpM_more HR9.out,HM.out];exact more_left HLE.out
   · have HE:=Lib.hid (step_of (HX'.out.trans (HEQ.out.trans (rec_stop HEND.out HI.out))))
     have HK:=Lib.hid (show (hd r).kind≠0 by rw [(isT_kind HI.out).1];decide)
     obtain ⟨va,vc,rfl⟩:=ownsRow_form HROW5.out
     have hd5:Dp W5 P g c l r (0,0):=HR5.out
     obtain ⟨_,r0,r1,r2,r3,s1,s2,s3⟩:=blk4 hd5.blk
     simp only at r2 r3
     have hfew:=hd5.few
     have hlen:=hd5.len
     have HR6:=Lib.hid (dp_next hd5 HK.out)
     have hx6:Exc P W5.heap.size W5 (W5.setCell ⟨P,1,none⟩ (.int .i64 (((l.length-r.length:Nat):Int)+1))):=exc_set _ _ _ _
     have HX6:=Lib.hid (HX5.out.thenB (Nat.le_refl _) hx6)
     have HZ6:=Lib.hid (blk_exc HZ5.out hx6 (blk_lt HZ5.out) (by omega))
     have HO6:=Lib.hid (blk_exc HO5.out hx6 (blk_lt HO5.out) (by omega))
     have HROW6:=Lib.hid (exc_row HROW5.out (by omega:P<O) hx6)
     clear hx6 hd5
     go_upto_region 19 with (fail)
     clear r0 r1 r2 r3 s1 s2 s3 HR5 HX5 HZ5 HO5 HROW5
     generalize W5.setCell ⟨P,1,none⟩ (.int .i64 (((l.length-r.length:Nat):Int)+1))=W6 at *
     obtain ⟨_,o0,o1,o2,_⟩:=blk3 HO6.out
     obtain ⟨_,z0,z1,z2,y0,y1,y2⟩:=blk3 HZ6.out
     go_wp2
     refine post_gen (fun Wf=>Wf.heap[w.heap.size]?=some (.cells #[.string (strOfNums a.text),.int .i64 a.place,.slice va acc.length vc] 102 (0,0))∧Wf.ownsRow w.heap.size 114 8 (.slice va acc.length vc) acc.length (fieldsCells acc)∧Exc P w.heap.size w Wf∧DpS Wf P g c l (.go r.tail)) ⟨?_,?_,?_,?_⟩ ?_
     · exact blk_set3 HZ6.out _ _ _
     · exact ownsRow_base (ownsRow_set3 HROW6.out (by omega) _ _ _) (by omega)
     · exact HX6.out.set3 (Nat.le_refl _) _ _ _
     · exact DpS.set3 (st:=.go r.tail) HR6.out (by omega) (by omega) _ _ _
     · rintro Wf ⟨f1,f2,f3,f4⟩
       obtain ⟨_,c0,c1,c2,_⟩:=blk3 f1
       exact bodyPost_ret (v:=.agg #[.string (strOfNums a.text),.int .i64 a.place,.slice va acc.length vc]) (by simp [results,Tryz.results38,go_sem,c0,c1,c2]) rfl ⟨⟨a.text,a.place,acc⟩,_,rfl,f2,by rw [HE.out.1];exact f4,f3,HE.out.2⟩
end Go.Proofs.YtokhnoogkdlidaaGreatDoor
