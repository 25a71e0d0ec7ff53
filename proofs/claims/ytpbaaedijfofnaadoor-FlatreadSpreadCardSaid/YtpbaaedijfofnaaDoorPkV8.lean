/-
  Spans, plain: what stands in a struct, in words, in a table, in a row, stands apart from all else. No run of the program stands in this text. Conditions: those that each theorem names.
-/
import Derived.Test.YtpbaaedijfofnaaDoorPkV1
import Derived.Test.YtpbaaedijfofnaaDoorPkV2
import Derived.Test.YtpbaaedijfofnaaDoorPkV3
import Derived.Test.YtpbaaedijfofnaaDoorPkV4
import Derived.Test.YtpbaaedijfofnaaDoorPkV5
import Derived.Test.YtpbaaedijfofnaaDoorPkV6
import Derived.IntWalk
import Derived.Deep.Cut
import Derived.BigQuiet
import Derived.OwnWalk
namespace Go.Proofs.YtpbaaedijfofnaaDoor
open Go.ChangeShapes Go.WideShapes Go.ChangeAt Go.RowKit Go.Shelf
theorem sorts_any (k:Nat)(ref lists:Int)(w:World) :
  Calls Tryd.prog 63 #[.agg #[.int .u8 k,.int .i64 ref,.int .i64 lists]] w fun e w'=>e=.returned (.int .i64 (sortP k lists:Nat))∧Below w.heap.size w w':=by
 have h0:=heap_alloc_new w (.cells #[.int .u8 k,.int .i64 ref,.int .i64 lists] 62)
 have HB:=Lib.hid ((Below.refl w.heap.size w).alloc (Nat.le_refl _) (.cells #[.int .u8 k,.int .i64 ref,.int .i64 lists] 62))
 obtain ⟨_,x0,x1,x2,_⟩:=blk3 h0
 obtain ⟨o,ho⟩:∃ o,sortP k lists=o:=⟨_,rfl⟩
 have HO:=Lib.hid ho
 rw [ho]
 clear h0 ho
 by_cases h1:0<lists
 · have HE:Hid (o=3):=Lib.hid (by rw [←HO.out];unfold sortP;rw [if_pos h1])
   obtain rfl:=HE.out
   go_enter Tryd.func63,Tryd.ntmps63
   go_wp2
   go_ret
   exact ⟨rfl,HB.out⟩
 by_cases h2:lists<0
 · have HE:Hid (o=0):=Lib.hid (by rw [←HO.out];unfold sortP;rw [if_neg h1,if_pos h2])
   obtain rfl:=HE.out
   go_enter Tryd.func63,Tryd.ntmps63
   go_wp2
   go_ret
   exact ⟨rfl,HB.out⟩
 have hz:Hid (sortP k lists=if 0<kSize k then 1 else if k=11∨k=12 then 2 else if k=13 then 4 else 0):=Lib.hid (by unfold sortP;rw [if_neg h1,if_neg h2])
 go_enter Tryd.func63,Tryd.ntmps63
 go_wp2_with fail
 refine (wsize_any (k:Int) _).mono ?_
 rintro e W1 ⟨rfl,rfl⟩
 by_cases h3:0<kSize (k:Int)
 · have HE:Hid (o=1):=Lib.hid (by rw [←HO.out,hz.out,if_pos h3])
   obtain rfl:=HE.out
   generalize kSize (k:Int)=z at *
   go_wp2
   go_ret
   exact ⟨rfl,HB.out⟩
 have hz2:Hid (o=if k=11∨k=12 then 2 else if k=13 then 4 else 0):=Lib.hid (by rw [←HO.out,hz.out,if_neg h3])
 generalize kSize (k:Int)=z at *
 by_cases h11:k=11
 · have HE:Hid (o=2):=Lib.hid (by rw [hz2.out,if_pos (.inl h11)])
   obtain rfl:=HE.out
   subst h11
   go_wp2
   go_ret
   exact ⟨rfl,HB.out⟩
 have t11:((k:Int)==11)=false:=by simp;omega
 by_cases h12:k=12
 · have HE:Hid (o=2):=Lib.hid (by rw [hz2.out,if_pos (.inr h12)])
   obtain rfl:=HE.out
   subst h12
   go_wp2
   go_ret
   exact ⟨rfl,HB.out⟩
 have t12:((k:Int)==12)=false:=by simp;omega
 by_cases h13:k=13
 · have HE:Hid (o=4):=Lib.hid (by rw [hz2.out,if_neg (by omega),if_pos h13])
   obtain rfl:=HE.out
   subst h13
   go_wp2
   go_ret
   exact ⟨rfl,HB.out⟩
 have t13:((k:Int)==13)=false:=by simp;omega
 have HE:Hid (o=0):=Lib.hid (by rw [hz2.out,if_neg (by omega),if_neg h13])
 obtain rfl:=HE.out
 clear h11 h12 h13
 go_wp2
 go_ret
 exact ⟨rfl,HB.out⟩
theorem element_any (k:Nat)(ref lists:Int)(hl : -9223372036854775807≤lists∧lists≤9223372036854775807)(w:World) :
  Calls Tryd.prog 89 #[.agg #[.int .u8 k,.int .i64 ref,.int .i64 lists]] w fun e w'=>e=.returned (.agg #[.int .u8 k,.int .i64 ref,.int .i64 (lists-1)])∧Below w.heap.size w w':=by
 obtain ⟨hb,hq1,hq2⟩:=two_start w #[.int .u8 k,.int .i64 ref,.int .i64 lists] #[.int .u8 0,.int .i64 0,.int .i64 0] 62 62
 have HB:=Lib.hid hb
 have HQ1:=Lib.hid hq1
 have HQ2:=Lib.hid hq2
 have hw:=IntWalk.i64_in (lists-1) (by omega)
 clear hb hq1 hq2
 go_enter Tryd.func89,Tryd.ntmps89
 go_upto_region 1 with (fail)
 generalize (w.alloc (.cells #[.int .u8 k,.int .i64 ref,.int .i64 lists] 62)).alloc (.cells #[.int .u8 0,.int .i64 0,.int .i64 0] 62)=W1 at *
 have hAB:w.heap.size≠w.heap.size+1:=by omega
 have HAB:=Lib.hid hAB
 generalize hBe:w.heap.size+1=B at *
 have hBl:w.heap.size≤B:=by omega
 have HBL:=Lib.hid hBl
 clear hBe hBl
 obtain ⟨_,a0,a1,a2,f0,f1,f2⟩:=blk3 HQ1.out
 have HQ3:=Lib.hid ((blk_set HQ1.out 2 (.int .i64 (lists-1))).trans rfl)
 have HQ4:=Lib.hid (blk_set_ne HQ2.out (p:=⟨w.heap.size,2,none⟩) HAB.out (.int .i64 (lists-1)))
 have HB3:=Lib.hid (HB.out.setCell (p:=⟨w.heap.size,2,none⟩) (Nat.le_refl _) (.int .i64 (lists-1)))
 go_upto_region 2 with (fail)
 generalize W1.setCell ⟨w.heap.size,2,none⟩ (.int .i64 (lists-1))=W2 at *
 clear a0 a1 a2 f0 f1 f2 hAB
 obtain ⟨_,a0,a1,a2,_⟩:=blk3 HQ3.out
 obtain ⟨_,b0,b1,b2,f0,f1,f2⟩:=blk3 HQ4.out
 go_wp2
 refine post_gen (fun Wf=>Wf.heap[B]?=some (.cells #[.int .u8 k,.int .i64 ref,.int .i64 (lists-1)] 62 (0,0))∧Below w.heap.size w Wf) ⟨blk_set3 HQ4.out _ _ _,((HB3.out.setCell (p:=⟨B,0,none⟩) HBL.out _).setCell (p:=⟨B,1,none⟩) HBL.out _).setCell (p:=⟨B,2,none⟩) HBL.out _⟩ ?_
 rintro Wf ⟨e1,e2⟩
 obtain ⟨_,c0,c1,c2,_⟩:=blk3 e1
 exact bodyPost_ret (v:=.agg #[.int .u8 k,.int .i64 ref,.int .i64 (lists-1)]) (by simp [results,Tryd.results89,go_sem,c0,c1,c2]) rfl ⟨rfl,e2⟩
end Go.Proofs.YtpbaaedijfofnaaDoor
namespace Go.Proofs.YtpbaaedijfofnaaDoor
open Go.ChangeShapes Go.WideShapes Go.ChangeAt Go.RowKit Go.Shelf
def VFPost (ss:List (CRec × Value))(rec:Int)(w:World)(e:Ending)(w':World):Prop:=
 Below w.heap.size w w'∧((¬(0≤rec∧rec<ss.length)∧e=.returned (.tuple #[.slice none 0 0,.bool false]))∨(∃ (i:Nat) (hi:i<ss.length),rec=i∧e=.returned (.tuple #[(ss[i]'hi).2,.bool true])))
theorem vfields_any (w:World){base:Nat}{ss:List (CRec × Value)}{es:List (SCho × Value)}{sv ev:Value}(root rec:Int)(h:CRows base w ss es sv ev) :
  Calls Tryd.prog 83 #[.agg #[sv,ev,.int .i64 root],.int .i64 rec] w (VFPost ss rec w):=by
 obtain ⟨sa,sc,ea,ec,rfl,rfl⟩:=h.forms
 have h0:=heap_alloc_new w (.cells #[.slice sa ss.length sc,.slice ea es.length ec,.int .i64 root] 30)
 have hb:=(Below.refl w.heap.size w).alloc (Nat.le_refl _) (.cells #[.slice sa ss.length sc,.slice ea es.length ec,.int .i64 root] 30)
 have HB:=Lib.hid hb
 have HC:=Lib.hid (h.below hb)
 obtain ⟨_,x0,x1,x2,_⟩:=blk3 h0
 have hfew:=row_few h.structs
 clear h0 hb h
 by_cases hlo:rec<0
 · go_enter Tryd.func83,Tryd.ntmps83
   go_wp2
   exact bodyPost_ret (v:=.tuple #[.slice none 0 0,.bool false]) (by simp [results,Tryd.results83,go_sem]) rfl (by unfold VFPost;exact ⟨HB.out,.inl ⟨by omega,rfl⟩⟩)
 obtain ⟨i,rfl⟩:=Int.eq_ofNat_of_zero_le (by omega:0≤rec)
 by_cases hhi:ss.length≤i
 · have t0:(ss.length:Int)≤(i:Int):=by omega
   go_enter Tryd.func83,Tryd.ntmps83
   go_wp2
   exact bodyPost_ret (v:=.tuple #[.slice none 0 0,.bool false]) (by simp [results,Tryd.results83,go_sem]) rfl (by unfold VFPost;exact ⟨HB.out,.inl ⟨by omega,rfl⟩⟩)
 · have hil:i<ss.length:=by omega
   have t0:¬(ss.length:Int)≤(i:Int):=by omega
   have hib:(i:Int)<ss.length:=by omega
   have hib0:(0:Int)≤(i:Int):=by omega
   obtain ⟨g,cc,hv,hcc,hgl,hcell⟩:=row_el crecCells 2 (fun _=>rfl) HC.out.structs i hil
   obtain ⟨rfl,rfl⟩:=slice_inj hv
   have y1:(w.alloc (.cells #[.slice (some ⟨g,0,none⟩) ss.length sc,.slice ea es.length ec,.int .i64 root] 30)).cell? ⟨g,i * 2+1,none⟩=some ss[i].2:=hcell 1 (by omega)
   have hsl:=HC.out.fields _ (List.getElem_mem hil)
   obtain ⟨fa,fc,hf⟩:=ownsRow_form hsl
   have HF:=Lib.hid hf
   rw [hf] at y1
   clear hcell hv hsl hf
   generalize ss[i].1.fields.length=fl at *
   go_enter Tryd.func83,Tryd.ntmps83
   go_wp2
   exact bodyPost_ret (v:=.tuple #[.slice fa fl fc,.bool true]) (by simp [results,Tryd.results83,go_sem]) rfl (by unfold VFPost;exact ⟨HB.out,.inr ⟨i,hil,rfl,by rw [HF.out]⟩⟩)
def FldsOk (ss:List (CRec × Value)):Prop:=∀ q ∈ ss,∀ f ∈ q.1.fields,f.kind≤255 ∧ -9223372036854775800≤f.lists∧f.lists≤9223372036854775807∧f.dflt≤18446744073709551615
def KidsAt (w:World)(ks:List PV)(ka:Option Addr):Prop:=∀ i (hi:i<ks.length),∃ (kb ko:Nat) (u0 u1 u2 u3:Value),ka=some ⟨kb,ko,none⟩∧w.cell? ⟨kb,ko+i * 4,none⟩=some u0∧w.cell? ⟨kb,ko+i * 4+1,none⟩=some u1∧w.cell? ⟨kb,ko+i * 4+2,none⟩=some u2∧w.cell? ⟨kb,ko+i * 4+3,none⟩=some u3∧IsV w (ks[i]'hi) (.agg #[u0,u1,u2,u3])
theorem KidsAt.later {w W:World}{ks:List PV}{ka:Option Addr}(h:KidsAt w ks ka)(hb:Below w.heap.size w W):KidsAt W ks ka:=fun i hi=>by
 obtain ⟨kb,ko,u0,u1,u2,u3,h1,h2,h3,h4,h5,h6⟩:=h i hi
 exact ⟨kb,ko,u0,u1,u2,u3,h1,cell_stays hb h2,cell_stays hb h3,cell_stays hb h4,cell_stays hb h5,h6.later hb⟩
def kidOk (ss:List CRec)(es:List SCho)(room k:Nat)(ref lists:Int)(q:PV):Bool := !decide (room=0)&&(!(decide (sortP k lists=4) && !q.has)&&fitsP ss es (room-1) k ref lists q)
end Go.Proofs.YtpbaaedijfofnaaDoor
namespace Go.Proofs.YtpbaaedijfofnaaDoor
open Go.ChangeShapes Go.WideShapes Go.ChangeAt Go.RowKit Go.Shelf
structure WState (w:World)(wk m mt:Nat)(out:Bool)(left ml:Int)(mo:Bool):Prop where
 walk:w.heap[wk]?=some (.cells #[.pointer (some ⟨m,0,none⟩),.pointer (some ⟨mt,0,none⟩),.bool out,.int .i64 left] 126 (0,0))
 meter:w.heap[mt]?=some (.cells #[.int .i64 ml,.bool mo] 114 (0,0))
theorem WState.below {w W:World}{wk m mt:Nat}{out mo:Bool}{left ml:Int}(h:WState w wk m mt out left ml mo)(hb:Below w.heap.size w W):WState W wk m mt out left ml mo:=
 ⟨blk_below h.walk hb (blk_lt h.walk),blk_below h.meter hb (blk_lt h.meter)⟩
theorem WState.apart {w:World}{wk m mt:Nat}{out mo:Bool}{left ml:Int}(h:WState w wk m mt out left ml mo):wk≠mt:=fun e=>by
 have h1:=h.walk
 have h2:=h.meter
 rw [e,h2] at h1
 injection h1 with h1
 injection h1 with h1 _ _
 have h3:=congrArg Array.size h1
 simp at h3
theorem blk4w {w:World}{g:Nat}{x y z u:Value}{t:TypeId}(h:w.heap[g]?=some (.cells #[x,y,z,u] t (0,0))) :
  g<w.heap.size∧w.cell? ⟨g,0,none⟩=some x∧w.cell? ⟨g,1,none⟩=some y∧w.cell? ⟨g,2,none⟩=some z∧w.cell? ⟨g,3,none⟩=some u:=
 ⟨blk_lt h,(blk_cell h 0).trans rfl,(blk_cell h 1).trans rfl,(blk_cell h 2).trans rfl,(blk_cell h 3).trans rfl⟩
set_option maxHeartbeats 4000000 in
theorem freach_any (w:World){wk m mt:Nat}{out mo:Bool}{left ml:Int}(h:WState w wk m mt out left ml mo)(size:Int)(hb : -9000000000000000000≤left-size∧left-size≤9000000000000000000) :
  Calls Tryd.prog 110 #[.pointer (some ⟨wk,0,none⟩),.int .i64 size] w fun e w'=>e=.returned (.bool (decide (0≤left-size)))∧WState w' wk m mt out (left-size) ml mo∧Exw wk mt w.heap.size w w':=by
 obtain ⟨_,c0,c1,c2,c3⟩:=blk4w h.walk
 obtain ⟨l,hl0⟩:∃ l,left-size=l:=⟨_,rfl⟩
 have hw:IntKind.i64.wrap (left-size)=l:=by rw [←hl0];exact IntWalk.i64_in (left-size) (by omega)
 rw [hl0]
 have f3:=blk_frozen h.walk 3
 have HW:=Lib.hid ((blk_set h.walk 3 (.int .i64 l)).trans rfl)
 have HM:=Lib.hid (blk_set_ne h.meter (p:=⟨wk,3,none⟩) h.apart (.int .i64 l))
 have HX:=Lib.hid ((Exw.refl wk mt w.heap.size w).setCell (p:=⟨wk,3,none⟩) (.inl rfl) (.int .i64 l))
 clear h hl0
 by_cases hl:0≤l
 · have hd:decide (0≤l)=true:=decide_eq_true hl
   rw [hd]
   go_enter Tryd.func110,Tryd.ntmps110
   go_wp2
   go_ret
   exact ⟨rfl,⟨HW.out,HM.out⟩,HX.out⟩
 · have hd:decide (0≤l)=false:=decide_eq_false hl
   rw [hd]
   go_enter Tryd.func110,Tryd.ntmps110
   go_wp2
   go_ret
   exact ⟨rfl,⟨HW.out,HM.out⟩,HX.out⟩
theorem WState.isMeter {w:World}{wk m mt:Nat}{out mo:Bool}{left ml:Int}(h:WState w wk m mt out left ml mo):IsMeter w mt ml mo:=
 ⟨(blk_cell h.meter 0).trans rfl,(blk_cell h.meter 1).trans rfl,blk_frozen h.meter 0,blk_frozen h.meter 1⟩
set_option maxHeartbeats 4000000 in
theorem fpay_yes (w:World){wk m mt:Nat}{left ml:Int}(h:WState w wk m mt false left ml false)(n:Int)(h0:0≤n)(h1:n≤ml)(h2:ml≤9223372036854775807) :
  Calls Tryd.prog 111 #[.pointer (some ⟨wk,0,none⟩),.int .i64 n] w fun e w'=>e=.returned (.bool true)∧WState w' wk m mt false left (ml-n) false∧Exw wk mt w.heap.size w w':=by
 obtain ⟨_,c0,c1,c2,c3⟩:=blk4w h.walk
 have hap:=h.apart
 have HT:=Lib.hid (take_yes mt ml n w h.isMeter h0 h1 h2)
 have hW:=blk_set_ne h.walk (p:=⟨mt,0,none⟩) (fun e=>hap e.symm) (.int .i64 (ml-n))
 have hM:=(blk_set h.meter 0 (.int .i64 (ml-n))).trans rfl
 have hX:=(Exw.refl wk mt w.heap.size w).setCell (p:=⟨mt,0,none⟩) (.inr (.inl rfl)) (.int .i64 (ml-n))
 have HW:=Lib.hid ((blk_set hW 2 (.bool false)).trans rfl)
 have HM:=Lib.hid (blk_set_ne hM (p:=⟨wk,2,none⟩) hap (.bool false))
 have HX:=Lib.hid (hX.setCell (p:=⟨wk,2,none⟩) (.inl rfl) (.bool false))
 have HW0:=Lib.hid hW
 clear h hW hM hX
 go_enter Tryd.func111,Tryd.ntmps111
 go_wp2_with fail
 refine HT.out.mono ?_
 rintro e W1 ⟨rfl,rfl⟩
 generalize w.setCell ⟨mt,0,none⟩ (.int .i64 (ml-n))=W1 at *
 clear c0 c1 c2 c3
 obtain ⟨_,c0,c1,c2,c3⟩:=blk4w HW0.out
 have f2:=blk_frozen HW0.out 2
 go_wp2
 go_ret
 exact ⟨rfl,⟨HW.out,HM.out⟩,HX.out⟩
set_option maxHeartbeats 4000000 in
theorem fpay_no (w:World){wk m mt:Nat}{left ml:Int}(h:WState w wk m mt false left ml false)(n:Int)(h0:0≤n)(h1:ml<n) :
  Calls Tryd.prog 111 #[.pointer (some ⟨wk,0,none⟩),.int .i64 n] w fun e w'=>e=.returned (.bool false)∧WState w' wk m mt true left 0 true∧Exw wk mt w.heap.size w w':=by
 obtain ⟨_,c0,c1,c2,c3⟩:=blk4w h.walk
 have hap:=h.apart
 have HT:=Lib.hid (take_over mt ml n w h.isMeter h0 h1)
 have hW:=blk_set_ne (blk_set_ne h.walk (p:=⟨mt,0,none⟩) (fun e=>hap e.symm) (.int .i64 0)) (p:=⟨mt,1,none⟩) (fun e=>hap e.symm) (.bool true)
 have hM:=(blk_set ((blk_set h.meter 0 (.int .i64 0)).trans rfl:_=some (Obj.cells #[.int .i64 0,.bool false] 114 (0,0))) 1 (.bool true)).trans rfl
 have hX:=((Exw.refl wk mt w.heap.size w).setCell (p:=⟨mt,0,none⟩) (.inr (.inl rfl)) (.int .i64 0)).setCell (p:=⟨mt,1,none⟩) (.inr (.inl rfl)) (.bool true)
 have HW:=Lib.hid ((blk_set hW 2 (.bool true)).trans rfl)
 have HM:=Lib.hid (blk_set_ne hM (p:=⟨wk,2,none⟩) hap (.bool true))
 have HX:=Lib.hid (hX.setCell (p:=⟨wk,2,none⟩) (.inl rfl) (.bool true))
 have HW0:=Lib.hid hW
 clear h hW hM hX
 go_enter Tryd.func111,Tryd.ntmps111
 go_wp2_with fail
 refine HT.out.mono ?_
 rintro e W1 ⟨rfl,rfl⟩
 generalize (w.setCell ⟨mt,0,none⟩ (.int .i64 0)).setCell ⟨mt,1,none⟩ (.bool true)=W1 at *
 clear c0 c1 c2 c3
 obtain ⟨_,c0,c1,c2,c3⟩:=blk4w HW0.out
 have f2:=blk_frozen HW0.out 2
 go_wp2
 go_ret
 exact ⟨rfl,⟨HW.out,HM.out⟩,HX.out⟩
def RPost (res:Option (PV × Int))(wk m mt:Nat)(left ml:Int)(w:World)(e:Ending)(w':World):Prop:=
 Exw wk mt w.heap.size w w' ∧
 ((∃ v l' ml',res=some (v,l')∧(0≤l'∧l'≤left)∧e=.returned (.bool true)∧WState w' wk m mt false l' ml' false∧(0≤ml'∧ml'≤ml)∧(3 * left≤ml→3 * l'≤ml')) ∨
  (e=.returned (.bool false)∧∃ o l' ml' mo,WState w' wk m mt o l' ml' mo∧(o=false→res=none)∧(o=true→ml<3 * left)))
end Go.Proofs.YtpbaaedijfofnaaDoor
namespace Go.Proofs.YtpbaaedijfofnaaDoor
open Go.ChangeShapes Go.WideShapes Go.ChangeAt Go.RowKit Go.Shelf
def inlP (f:SFld):Int:=if isNumP f.kind f.lists=true then kSize f.kind else 4
structure TabSt where
 pl:List Int
 size:Int
 al:Int
def tabStep (z:Int)(b:Bool)(f:SFld)(k:Nat)(s:TabSt):TabSt:=
 if b=true∧inlP f=z then ⟨s.pl.set k (multI s.size z),multI s.size z+z,max s.al z⟩ else s
def tabUp (z:Int)(fs:List SFld)(th:List Bool)(s:TabSt):Nat→TabSt
 | 0=>s
 | k+1=>tabStep z (th.getD k false) (fs.getD k noSF) k (tabUp z fs th s k)
def inlinesL:List Int:=[8,4,2,1]
def tabAll (fs:List SFld)(th:List Bool):Nat→TabSt
 | 0=>⟨List.replicate fs.length 0,4,4⟩
 | z+1=>tabUp (inlinesL.getD z 0) fs th (tabAll fs th z) fs.length
theorem inlines_is (z:Nat)(h:z<4):inlinesL.getD z 0=8∨inlinesL.getD z 0=4∨inlinesL.getD z 0=2∨inlinesL.getD z 0=1:=by
 have:z=0∨z=1∨z=2∨z=3:=by omega
 rcases this with rfl|rfl|rfl|rfl<;>decide
theorem mult_bd {n z:Int}(hz:z=8∨z=4∨z=2∨z=1)(_h:0≤n):n≤multI n z∧multI n z≤n+7:=by
 unfold multI
 rcases hz with rfl|rfl|rfl|rfl<;>omega
theorem mult_up {n c z:Int}(hz:z=8∨z=4∨z=2∨z=1)(h1:n≤c)(h2:c≤multI n z)(h3:¬c % z=0):c+1≤multI n z:=by
 unfold multI at *
 rcases hz with rfl|rfl|rfl|rfl<;>omega
theorem mult_end {n c z:Int}(hz:z=8∨z=4∨z=2∨z=1)(h1:n≤c)(h2:c≤multI n z)(h3:c % z=0):c=multI n z:=by
 unfold multI at *
 rcases hz with rfl|rfl|rfl|rfl<;>omega
theorem tabUp_step {z:Int}{fs:List SFld}{th:List Bool}{s:TabSt}{k:Nat}(hk:k<fs.length)(ht:k<th.length):tabUp z fs th s (k+1)=tabStep z th[k] fs[k] k (tabUp z fs th s k):=by
 show tabStep z (th.getD k false) (fs.getD k noSF) k _=_
 rw [List.getD,List.getElem?_eq_getElem ht,List.getD,List.getElem?_eq_getElem hk,Option.getD_some,Option.getD_some]
theorem tabUp_facts {z:Int}(hz:z=8∨z=4∨z=2∨z=1)(fs:List SFld)(th:List Bool)(s:TabSt)(h0:4≤s.size)(h4:4≤s.al)(h8:s.al≤8):∀ k:Nat,(tabUp z fs th s k).pl.length=s.pl.length∧4≤(tabUp z fs th s k).size∧(tabUp z fs th s k).size≤s.size+15 * k∧4≤(tabUp z fs th s k).al∧(tabUp z fs th s k).al≤8
 | 0=>by simp [tabUp];omega
 | k+1=>by
  obtain ⟨h1,h2,h3,h5,h6⟩:=tabUp_facts hz fs th s h0 h4 h8 k
  have hm:=mult_bd hz (show 0≤(tabUp z fs th s k).size by omega)
  unfold tabUp tabStep
  split
  · simp only [List.length_set]
    refine ⟨h1,?_,?_,?_,?_⟩
    · omega
    · omega
    · omega
    · omega
  · omega
theorem tabAll_facts (fs:List SFld)(th:List Bool):∀ z:Nat,z≤4→(tabAll fs th z).pl.length=fs.length∧4≤(tabAll fs th z).size∧(tabAll fs th z).size≤4+15 * (fs.length * z:Nat)∧4≤(tabAll fs th z).al∧(tabAll fs th z).al≤8
 | 0,_=>by simp [tabAll]
 | z+1,hz=>by
  obtain ⟨h1,h2,h3,h5,h6⟩:=tabAll_facts fs th z (by omega)
  have hu:=tabUp_facts (inlines_is z (by omega)) fs th (tabAll fs th z) h2 h5 h6 fs.length
  rw [Nat.mul_succ]
  unfold tabAll
  obtain ⟨g1,g2,g3,g4,g5⟩:=hu
  refine ⟨g1.trans h1,g2,?_,g4,g5⟩
  generalize fs.length * z=q at *
  omega
theorem tabStep_yes {z:Int}{b:Bool}{f:SFld}{k:Nat}{s:TabSt}(hb:b=true)(hi:inlP f=z):tabStep z b f k s=⟨s.pl.set k (multI s.size z),multI s.size z+z,max s.al z⟩:=if_pos ⟨hb,hi⟩
theorem tabStep_no {z:Int}{b:Bool}{f:SFld}{k:Nat}{s:TabSt}(h:b=false∨¬inlP f=z):tabStep z b f k s=s:=by
 refine if_neg (fun hc=>?_)
 rcases h with h|h
 · rw [h] at hc;exact absurd hc.1 (by decide)
 · exact h hc.2
theorem inlP_num {fn:ByteArray}{fk fr fl fd:Nat}(h:isNumP fk fl=true):inlP ⟨fn,fk,fr,fl,fd⟩=kSize fk:=if_pos h
theorem inlP_no {fn:ByteArray}{fk fr fl fd:Nat}(h:isNumP fk fl=false):inlP ⟨fn,fk,fr,fl,fd⟩=4:=if_neg (by rw [h];decide)
theorem inlP_bd (f:SFld):0≤inlP f∧inlP f≤8:=by
 unfold inlP
 split
 · exact kSize_bd _
 · omega
theorem linline_any (fn:ByteArray)(fk fr fl fd:Nat)(w:World) :
  Calls Tryd.prog 80 #[.agg #[.string fn,.int .u8 fk,.int .i64 fr,.int .i64 fl,.int .u64 fd]] w fun e w'=>e=.returned (.int .i64 (inlP ⟨fn,fk,fr,fl,fd⟩))∧Below w.heap.size w w':=by
 have hq:=heap_alloc_new w (.cells #[.string fn,.int .u8 fk,.int .i64 fr,.int .i64 fl,.int .u64 fd] 64)
 have HB:=Lib.hid ((Below.refl w.heap.size w).alloc (Nat.le_refl _) (.cells #[.string fn,.int .u8 fk,.int .i64 fr,.int .i64 fl,.int .u64 fd] 64))
 go_enter Tryd.func80,Tryd.ntmps80
 go_upto_region 1 with (fail)
 generalize w.alloc (.cells #[.string fn,.int .u8 fk,.int .i64 fr,.int .i64 fl,.int .u64 fd] 64)=W1 at *
 have hlt:=blk_lt hq
 have y1:=(blk_cell hq 1).trans rfl
 have y2:=(blk_cell hq 2).trans rfl
 have y3:=(blk_cell hq 3).trans rfl
 have HQ:=Lib.hid hq
 clear hq
 go_wp2_with fail
 refine (lnumber_any fk fr fl W1).mono ?_
 rintro e W2 ⟨rfl,hb2⟩
 have HB2:=Lib.hid (HB.out.trans (hb2.mono HB.out.size))
 have z1:=(blk_cell (blk_below HQ.out hb2 hlt) 1).trans rfl
 clear hb2 y1 y2 y3
 cases hnum:isNumP fk fl
 · have HE:=Lib.hid (inlP_no (fn:=fn) (fr:=fr) (fd:=fd) hnum)
   clear hnum
   go_wp2
   go_ret
   exact ⟨ret_int HE.out.symm,HB2.out⟩
 · have HE:=Lib.hid (inlP_num (fn:=fn) (fr:=fr) (fd:=fd) hnum)
   clear hnum
   go_wp2_with fail
   refine (wsize_any (fk:Int) W2).mono ?_
   rintro e W3 ⟨rfl,rfl⟩
   go_wp2
   go_ret
   exact ⟨ret_int HE.out.symm,HB2.out⟩
def boolCell (b:Bool):List Value:=[.bool b]
def boolCells (l:List Bool):List Value:=l.flatMap boolCell
theorem row_bool {w:World}{base:Nat}{v:Value}{l:List Bool}(h:w.ownsRow base 4 1 v l.length (boolCells l))(k:Nat)(hk:k<l.length) :
  ∃ g c,v=.slice (some ⟨g,0,none⟩) l.length c∧l.length≤c∧g<w.heap.size∧w.cell? ⟨g,k,none⟩=some (.bool l[k]):=by
 obtain ⟨g,c,hv,hc,hg,hcell⟩:=row_el boolCell 1 (fun _=>rfl) h k hk
 have h0:=hcell 0 (by omega)
 rw [Nat.mul_one,Nat.add_zero] at h0
 exact ⟨g,c,hv,hc,hg,h0⟩
end Go.Proofs.YtpbaaedijfofnaaDoor
namespace Go.Proofs.YtpbaaedijfofnaaDoor
open Go.ChangeShapes Go.WideShapes Go.ChangeAt Go.RowKit Go.Shelf
theorem rinline_any (fn:ByteArray)(fk fr fl fd:Nat)(w:World)(hk:fk≤255) :
  Calls Tryd.prog 101 #[.agg #[.string fn,.int .u8 fk,.int .i64 fr,.int .i64 fl,.int .u64 fd]] w fun e w'=>e=.returned (.int .i64 (inlP ⟨fn,fk,fr,fl,fd⟩))∧Below w.heap.size w w':=by
 have hq:=heap_alloc_new w (.cells #[.string fn,.int .u8 fk,.int .i64 fr,.int .i64 fl,.int .u64 fd] 64)
 have HB:=Lib.hid ((Below.refl w.heap.size w).alloc (Nat.le_refl _) (.cells #[.string fn,.int .u8 fk,.int .i64 fr,.int .i64 fl,.int .u64 fd] 64))
 have hw:=IntWalk.i64_in (fk:Int) (by omega)
 go_enter Tryd.func101,Tryd.ntmps101
 go_upto_region 1 with (fail)
 generalize w.alloc (.cells #[.string fn,.int .u8 fk,.int .i64 fr,.int .i64 fl,.int .u64 fd] 64)=W1 at *
 have hlt:=blk_lt hq
 have y1:=(blk_cell hq 1).trans rfl
 have y2:=(blk_cell hq 2).trans rfl
 have y3:=(blk_cell hq 3).trans rfl
 have HQ:=Lib.hid hq
 clear hq
 go_wp2_with fail
 refine (isnum_any fk fr fl W1 hk).mono ?_
 rintro e W2 ⟨rfl,hb2⟩
 have HB2:=Lib.hid (HB.out.trans (hb2.mono HB.out.size))
 have z1:=(blk_cell (blk_below HQ.out hb2 hlt) 1).trans rfl
 clear hb2 y1 y2 y3
 cases hnum:isNumP fk fl
 · have HE:=Lib.hid (inlP_no (fn:=fn) (fr:=fr) (fd:=fd) hnum)
   clear hnum
   go_wp2
   go_ret
   exact ⟨ret_int HE.out.symm,HB2.out⟩
 · have HE:=Lib.hid (inlP_num (fn:=fn) (fr:=fr) (fd:=fd) hnum)
   clear hnum
   go_wp2_with fail
   refine (rsize_any (fk:Int) W2).mono ?_
   rintro e W3 ⟨rfl,rfl⟩
   go_wp2
   go_ret
   exact ⟨ret_int HE.out.symm,HB2.out⟩
end Go.Proofs.YtpbaaedijfofnaaDoor
namespace Go.Proofs.YtpbaaedijfofnaaDoor
open Go.ChangeShapes Go.WideShapes Go.ChangeAt Go.RowKit Go.Shelf
theorem getD_set_at (pl:List Int)(k i:Nat)(p:Int)(hk:k<pl.length):(pl.set k p).getD i 0=if k=i then p else pl.getD i 0:=by
 simp only [List.getD,List.getElem?_set]
 by_cases h:k=i
 · subst h
   simp [hk]
 · simp [h]
structure Spans (pl:List Int)(W:Nat→Int)(S:Nat→Prop)(lo cur:Int)(al cv:Prop):Prop where
 inn:∀ i,S i→i<pl.length∧lo≤pl.getD i 0∧pl.getD i 0+W i≤cur
 apart:∀ i j,S i→S j→i≠j→pl.getD i 0+W i≤pl.getD j 0∨pl.getD j 0+W j≤pl.getD i 0
 mult:al→∀ i,S i→pl.getD i 0 % W i=0
 cover:cv→∀ c,lo≤c→c<cur→∃ i,S i∧pl.getD i 0≤c∧c<pl.getD i 0+W i
theorem Spans.put {pl:List Int}{W:Nat→Int}{S:Nat→Prop}{lo cur:Int}{al cv:Prop}(h:Spans pl W S lo cur al cv)(k:Nat)(p:Int)(hk:k<pl.length)(hS:¬S k)(hp:cur≤p)(hlo:lo≤p)(hw:0≤W k)(hm:al→p % W k=0)(hc:cv→p=cur) :
  Spans (pl.set k p) W (fun i=>S i∨i=k) lo (p+W k) al cv:=by
 have hne:∀ i,S i→¬k=i:=fun i hi e=>hS (e▸hi)
 refine ⟨?_,?_,?_,?_⟩
 · intro i hi
   rw [getD_set_at pl k i p hk,List.length_set]
   rcases hi with hi|rfl
   · rw [if_neg (hne i hi)]
     have:=h.inn i hi
     exact ⟨this.1,this.2.1,by omega⟩
   · rw [if_pos rfl]
     exact ⟨hk,hlo,Int.le_refl _⟩
 · intro i j hi hj hij
   rw [getD_set_at pl k i p hk,getD_set_at pl k j p hk]
   rcases hi with hi|rfl
   · rw [if_neg (hne i hi)]
     rcases hj with hj|rfl
     · rw [if_neg (hne j hj)]
       exact h.apart i j hi hj hij
     · rw [if_pos rfl]
       have:=(h.inn i hi).2.2
       exact .inl (by omega)
   · rw [if_pos rfl]
     rcases hj with hj|rfl
     · rw [if_neg (hne j hj)]
       have:=(h.inn j hj).2.2
       exact .inr (by omega)
     · exact absurd rfl hij
 · intro ha i hi
   rw [getD_set_at pl k i p hk]
   rcases hi with hi|rfl
   · rw [if_neg (hne i hi)]
     exact h.mult ha i hi
   · rw [if_pos rfl]
     exact hm ha
 · intro hv c h1 h2
   have hpc:=hc hv
   by_cases hcc:c<cur
   · obtain ⟨i,hi,h3,h4⟩:=h.cover hv c h1 hcc
     refine ⟨i,.inl hi,?_⟩
     rw [getD_set_at pl k i p hk,if_neg (hne i hi)]
     exact ⟨h3,h4⟩
   · refine ⟨k,.inr rfl,?_⟩
     rw [getD_set_at pl k k p hk,if_pos rfl]
     omega
theorem Spans.same {pl:List Int}{W:Nat→Int}{S S':Nat→Prop}{lo cur:Int}{al cv:Prop}(h:Spans pl W S lo cur al cv)(hS:∀ i,S' i ↔ S i):Spans pl W S' lo cur al cv:=by
 refine ⟨fun i hi=>h.inn i ((hS i).1 hi),fun i j hi hj=>h.apart i j ((hS i).1 hi) ((hS j).1 hj),fun ha i hi=>h.mult ha i ((hS i).1 hi),fun hv c h1 h2=>?_⟩
 obtain ⟨i,hi,h3⟩:=h.cover hv c h1 h2
 exact ⟨i,(hS i).2 hi,h3⟩
theorem spans_nil (pl:List Int)(W:Nat→Int)(S:Nat→Prop)(lo:Int)(al cv:Prop)(hS:∀ i,¬S i):Spans pl W S lo lo al cv:=
 ⟨fun i hi=>absurd hi (hS i),fun i _ hi=>absurd hi (hS i),fun _ i hi=>absurd hi (hS i),fun _ c h1 h2=>absurd h1 (by omega)⟩
/-! ### in words -/
def fldAt (fs:List SFld)(i:Nat):SFld:=fs.getD i noSF
/-! ### in a row -/
def ksAt (fs:List SFld)(i:Nat):Int:=inlP (fldAt fs i)
/-! ### in a table -/
def thAt (th:List Bool)(i:Nat):Prop:=th.getD i false=true
theorem mult_zero {n z:Int}(hz:z=8∨z=4∨z=2∨z=1):multI n z % z=0:=by
 unfold multI
 rcases hz with rfl|rfl|rfl|rfl<;>omega
theorem tabUp_spans {z:Int}(hz:z=8∨z=4∨z=2∨z=1)(fs:List SFld)(th:List Bool)(s:TabSt)(S:Nat→Prop)(hl:s.pl.length=fs.length)(h:Spans s.pl (ksAt fs) S 4 s.size True False)(h4:4≤s.size)(hS:∀ i,S i→ksAt fs i≠z) :
  ∀ k,k≤fs.length→Spans (tabUp z fs th s k).pl (ksAt fs) (fun i=>S i∨(i<k∧thAt th i∧ksAt fs i=z)) 4 (tabUp z fs th s k).size True False∧(tabUp z fs th s k).pl.length=fs.length∧4≤(tabUp z fs th s k).size
 | 0,_=>⟨h.same (fun i=>⟨fun hi=>by rcases hi with hi|hi;exact hi;exact absurd hi.1 (Nat.not_lt_zero _),fun hi=>.inl hi⟩),hl,h4⟩
 | k+1,hk=>by
  obtain ⟨ih,ihl,ih4⟩:=tabUp_spans hz fs th s S hl h h4 hS k (by omega)
  have hm:=mult_bd hz (show 0≤(tabUp z fs th s k).size by omega)
  unfold tabUp tabStep
  split
  · rename_i he
    have he':ksAt fs k=z:=he.2
    refine ⟨?_,by simp only [List.length_set];exact ihl,by simp only;omega⟩
    have hp:=ih.put k (multI (tabUp z fs th s k).size z) (by omega) (fun hc=>by rcases hc with hc|hc;exact hS k hc he';exact absurd hc.1 (Nat.lt_irrefl _)) hm.1 (by omega) (by omega) (fun _=>by rw [he'];exact mult_zero hz) (fun hf=>hf.elim)
    rw [he'] at hp
    refine hp.same (fun i=>⟨fun hi=>?_,fun hi=>?_⟩)
    · rcases hi with hi|⟨hi,h2⟩
      · exact .inl (.inl hi)
      · by_cases e:i=k
        · exact .inr e
        · exact .inl (.inr ⟨by omega,h2⟩)
    · rcases hi with (hi|⟨hi,h2⟩)|rfl
      · exact .inl hi
      · exact .inr ⟨by omega,h2⟩
      · exact .inr ⟨by omega,he.1,he'⟩
  · rename_i he
    refine ⟨ih.same (fun i=>⟨fun hi=>?_,fun hi=>?_⟩),ihl,ih4⟩
    · rcases hi with hi|⟨hi,h2⟩
      · exact .inl hi
      · by_cases e:i=k
        · subst e
          exact absurd h2 he
        · exact .inr ⟨by omega,h2⟩
    · rcases hi with hi|⟨hi,h2⟩
      · exact .inl hi
      · exact .inr ⟨by omega,h2⟩
theorem inlP_is (f:SFld):∃ y,y<4∧inlP f=inlinesL.getD y 0:=by
 unfold inlP
 split
 · rename_i h
   have hk:0<kSize f.kind:=by
    unfold isNumP at h
    simp only [Bool.and_eq_true,decide_eq_true_eq] at h
    exact h.2
   generalize (f.kind:Int)=k at *
   unfold kSize at *
   split
   · exact ⟨3,by omega,rfl⟩
   split
   · exact ⟨2,by omega,rfl⟩
   split
   · exact ⟨1,by omega,rfl⟩
   split
   · exact ⟨0,by omega,rfl⟩
   · rename_i q1 q2 q3 q4
     rw [if_neg q1,if_neg q2,if_neg q3,if_neg q4] at hk
     exact absurd hk (by decide)
 · exact ⟨1,by omega,rfl⟩
theorem inlines_at (z:Nat)(h:z<4):(z=0∧inlinesL.getD z 0=8)∨(z=1∧inlinesL.getD z 0=4)∨(z=2∧inlinesL.getD z 0=2)∨(z=3∧inlinesL.getD z 0=1):=by
 have:z=0∨z=1∨z=2∨z=3:=by omega
 rcases this with rfl|rfl|rfl|rfl<;>decide
theorem t_spans (fs:List SFld)(th:List Bool):∀ z,z≤4→Spans (tabAll fs th z).pl (ksAt fs) (fun i=>i<fs.length∧thAt th i∧∃ y,y<z∧ksAt fs i=inlinesL.getD y 0) 4 (tabAll fs th z).size True False∧(tabAll fs th z).pl.length=fs.length∧4≤(tabAll fs th z).size
 | 0,_=>⟨spans_nil _ _ _ _ _ _ (fun i hi=>by obtain ⟨_,_,y,hy,_⟩:=hi;omega),by simp [tabAll],Int.le_refl _⟩
 | z+1,hz=>by
  obtain ⟨ih,ihl,ih4⟩:=t_spans fs th z (by omega)
  obtain ⟨h1,h2,h3⟩:=tabUp_spans (inlines_is z (by omega)) fs th (tabAll fs th z) _ ihl ih ih4 (fun i hi e=>by
   obtain ⟨_,_,y,hy,hf⟩:=hi
   have hzz:=inlines_at z (by omega)
   have hyy:=inlines_at y (by omega)
   omega) fs.length (Nat.le_refl _)
  unfold tabAll
  refine ⟨h1.same (fun i=>⟨fun hi=>?_,fun hi=>?_⟩),h2,h3⟩
  · obtain ⟨hi,ht,y,hy,hf⟩:=hi
    by_cases e:y=z
    · exact .inr ⟨hi,ht,e▸hf⟩
    · exact .inl ⟨hi,ht,y,by omega,hf⟩
  · rcases hi with ⟨hi,ht,y,hy,hf⟩|⟨hi,ht,hf⟩
    · exact ⟨hi,ht,y,by omega,hf⟩
    · exact ⟨hi,ht,z,by omega,hf⟩
theorem tab_spans (fs:List SFld)(th:List Bool):Spans (tabAll fs th 4).pl (ksAt fs) (fun i=>i<fs.length∧thAt th i) 4 (tabAll fs th 4).size True False∧4≤(tabAll fs th 4).size:=by
 obtain ⟨h,_,h4⟩:=t_spans fs th 4 (Nat.le_refl _)
 exact ⟨h.same (fun i=>⟨fun hi=>⟨hi.1,hi.2,inlP_is _⟩,fun hi=>⟨hi.1,hi.2.1⟩⟩),h4⟩
/-! ### what is taken -/
end Go.Proofs.YtpbaaedijfofnaaDoor
