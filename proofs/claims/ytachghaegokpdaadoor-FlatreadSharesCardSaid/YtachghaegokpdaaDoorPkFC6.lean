/-
  What wire.Part hands back, by a walk of its text. Conditions: those that each theorem names.
-/
import Derived.Test.YtachghaegokpdaaDoorPkFC1
import Derived.Test.YtachghaegokpdaaDoorPkFC3
import Derived.Test.YtachghaegokpdaaDoorPkFC4
import Derived.IntWalk
import Derived.Deep.Cut
import Derived.BigQuiet
import Derived.OwnWalk
namespace Go.Proofs.YtachghaegokpdaaDoor
open Go.ChangeShapes Go.WideShapes Go.ChangeAt Go.RowKit Go.Shelf
def sortP (k:Nat)(lists:Int):Nat:=if 0<lists then 3 else if lists<0 then 0 else if 0<kSize k then 1 else if k=11∨k=12 then 2 else if k=13 then 4 else 0
end Go.Proofs.YtachghaegokpdaaDoor
namespace Go.Proofs.YtachghaegokpdaaDoor
open Go.ChangeShapes Go.WideShapes Go.ChangeAt Go.RowKit Go.Shelf
theorem sorts_any (k:Nat)(ref lists:Int)(w:World) :
  Calls Tryd.prog 53 #[.agg #[.int .u8 k,.int .i64 ref,.int .i64 lists]] w fun e w'=>e=.returned (.int .i64 (sortP k lists:Nat))∧Below w.heap.size w w':=by
 have h0:=heap_alloc_new w (.cells #[.int .u8 k,.int .i64 ref,.int .i64 lists] 58)
 have HB:=Lib.hid ((Below.refl w.heap.size w).alloc (Nat.le_refl _) (.cells #[.int .u8 k,.int .i64 ref,.int .i64 lists] 58))
 obtain ⟨_,x0,x1,x2,_⟩:=blk3 h0
 obtain ⟨o,ho⟩:∃ o,sortP k lists=o:=⟨_,rfl⟩
 have HO:=Lib.hid ho
 rw [ho]
 clear h0 ho
 by_cases h1:0<lists
 · have HE:Hid (o=3):=Lib.hid (by rw [←HO.out];unfold sortP;rw [if_pos h1])
   obtain rfl:=HE.out
   go_enter Tryd.func53,Tryd.ntmps53
   go_wp2
   go_ret
   exact ⟨rfl,HB.out⟩
 by_cases h2:lists<0
 · have HE:Hid (o=0):=Lib.hid (by rw [←HO.out];unfold sortP;rw [if_neg h1,if_pos h2])
   obtain rfl:=HE.out
   go_enter Tryd.func53,Tryd.ntmps53
   go_wp2
   go_ret
   exact ⟨rfl,HB.out⟩
 have hz:Hid (sortP k lists=if 0<kSize k then 1 else if k=11∨k=12 then 2 else if k=13 then 4 else 0):=Lib.hid (by unfold sortP;rw [if_neg h1,if_neg h2])
 go_enter Tryd.func53,Tryd.ntmps53
 go_wp2_with fail
 refine (wsize_any (k:Int) _).mono ?_
 rintro e W1 ⟨rfl,rfl⟩
 by_cases h3:0<kSize (k:Int)
 · have HE:Hid (o=1):=Lib.hid (by rw [←HO.out,hz.out,if_pos h3])
   obtain rfl:=HE.out
   generalize kSize (k:Int)=z at *
   go_wp2
   go_ret
   exact ⟨rfl,HB.out⟩
 have hz2:Hid (o=if k=11∨k=12 then 2 else if k=13 then 4 else 0):=Lib.hid (by rw [←HO.out,hz.out,if_neg h3])
 generalize kSize (k:Int)=z at *
 by_cases h11:k=11
 · have HE:Hid (o=2):=Lib.hid (by rw [hz2.out,if_pos (.inl h11)])
   obtain rfl:=HE.out
   subst h11
   go_wp2
   go_ret
   exact ⟨rfl,HB.out⟩
 have t11:((k:Int)==11)=false:=by simp;omega
 by_cases h12:k=12
 · have HE:Hid (o=2):=Lib.hid (by rw [hz2.out,if_pos (.inr h12)])
   obtain rfl:=HE.out
   subst h12
   go_wp2
   go_ret
   exact ⟨rfl,HB.out⟩
 have t12:((k:Int)==12)=false:=by simp;omega
 by_cases h13:k=13
 · have HE:Hid (o=4):=Lib.hid (by rw [hz2.out,if_neg (by omega),if_pos h13])
   obtain rfl:=HE.out
   subst h13
   go_wp2
   go_ret
   exact ⟨rfl,HB.out⟩
 have t13:((k:Int)==13)=false:=by simp;omega
 have HE:Hid (o=0):=Lib.hid (by rw [hz2.out,if_neg (by omega),if_neg h13])
 obtain rfl:=HE.out
 clear h11 h12 h13
 go_wp2
 go_ret
 exact ⟨rfl,HB.out⟩
theorem element_any (k:Nat)(ref lists:Int)(hl : -9223372036854775807≤lists∧lists≤9223372036854775807)(w:World) :
  Calls Tryd.prog 68 #[.agg #[.int .u8 k,.int .i64 ref,.int .i64 lists]] w fun e w'=>e=.returned (.agg #[.int .u8 k,.int .i64 ref,.int .i64 (lists-1)])∧Below w.heap.size w w':=by
 obtain ⟨hb,hq1,hq2⟩:=two_start w #[.int .u8 k,.int .i64 ref,.int .i64 lists] #[.int .u8 0,.int .i64 0,.int .i64 0] 58 58
 have HB:=Lib.hid hb
 have HQ1:=Lib.hid hq1
 have HQ2:=Lib.hid hq2
 have hw:=IntWalk.i64_in (lists-1) (by omega)
 clear hb hq1 hq2
 go_enter Tryd.func68,Tryd.ntmps68
 go_upto_region 1 with (fail)
 generalize (w.alloc (.cells #[.int .u8 k,.int .i64 ref,.int .i64 lists] 58)).alloc (.cells #[.int .u8 0,.int .i64 0,.int .i64 0] 58)=W1 at *
 have hAB:w.heap.size≠w.heap.size+1:=by omega
 have HAB:=Lib.hid hAB
 generalize hBe:w.heap.size+1=B at *
 have hBl:w.heap.size≤B:=by omega
 have HBL:=Lib.hid hBl
 clear hBe hBl
 obtain ⟨_,a0,a1,a2,f0,f1,f2⟩:=blk3 HQ1.out
 have HQ3:=Lib.hid ((blk_set HQ1.out 2 (.int .i64 (lists-1))).trans rfl)
 have HQ4:=Lib.hid (blk_set_ne HQ2.out (p:=⟨w.heap.size,2,none⟩) HAB.out (.int .i64 (lists-1)))
 have HB3:=Lib.hid (HB.out.setCell (p:=⟨w.heap.size,2,none⟩) (Nat.le_refl _) (.int .i64 (lists-1)))
 go_upto_region 2 with (fail)
 generalize W1.setCell ⟨w.heap.size,2,none⟩ (.int .i64 (lists-1))=W2 at *
 clear a0 a1 a2 f0 f1 f2 hAB
 obtain ⟨_,a0,a1,a2,_⟩:=blk3 HQ3.out
 obtain ⟨_,b0,b1,b2,f0,f1,f2⟩:=blk3 HQ4.out
 go_wp2
 refine post_gen (fun Wf=>Wf.heap[B]?=some (.cells #[.int .u8 k,.int .i64 ref,.int .i64 (lists-1)] 58 (0,0))∧Below w.heap.size w Wf) ⟨blk_set3 HQ4.out _ _ _,((HB3.out.setCell (p:=⟨B,0,none⟩) HBL.out _).setCell (p:=⟨B,1,none⟩) HBL.out _).setCell (p:=⟨B,2,none⟩) HBL.out _⟩ ?_
 rintro Wf ⟨e1,e2⟩
 obtain ⟨_,c0,c1,c2,_⟩:=blk3 e1
 exact bodyPost_ret (v:=.agg #[.int .u8 k,.int .i64 ref,.int .i64 (lists-1)]) (by simp [results,Tryd.results68,go_sem,c0,c1,c2]) rfl ⟨rfl,e2⟩
end Go.Proofs.YtachghaegokpdaaDoor
namespace Go.Proofs.YtachghaegokpdaaDoor
open Go.ChangeShapes Go.WideShapes Go.ChangeAt Go.RowKit Go.Shelf
def VFPost (ss:List (CRec × Value))(rec:Int)(w:World)(e:Ending)(w':World):Prop:=
 Below w.heap.size w w'∧((¬(0≤rec∧rec<ss.length)∧e=.returned (.tuple #[.slice none 0 0,.bool false]))∨(∃ (i:Nat) (hi:i<ss.length),rec=i∧e=.returned (.tuple #[(ss[i]'hi).2,.bool true])))
theorem vfields_any (w:World){base:Nat}{ss:List (CRec × Value)}{es:List (SCho × Value)}{sv ev:Value}(root rec:Int)(h:CRows base w ss es sv ev) :
  Calls Tryd.prog 84 #[.agg #[sv,ev,.int .i64 root],.int .i64 rec] w (VFPost ss rec w):=by
 obtain ⟨sa,sc,ea,ec,rfl,rfl⟩:=h.forms
 have h0:=heap_alloc_new w (.cells #[.slice sa ss.length sc,.slice ea es.length ec,.int .i64 root] 33)
 have hb:=(Below.refl w.heap.size w).alloc (Nat.le_refl _) (.cells #[.slice sa ss.length sc,.slice ea es.length ec,.int .i64 root] 33)
 have HB:=Lib.hid hb
 have HC:=Lib.hid (h.below hb)
 obtain ⟨_,x0,x1,x2,_⟩:=blk3 h0
 have hfew:=row_few h.structs
 clear h0 hb h
 by_cases hlo:rec<0
 · go_enter Tryd.func84,Tryd.ntmps84
   go_wp2
   exact bodyPost_ret (v:=.tuple #[.slice none 0 0,.bool false]) (by simp [results,Tryd.results84,go_sem]) rfl (by unfold VFPost;exact ⟨HB.out,.inl ⟨by omega,rfl⟩⟩)
 obtain ⟨i,rfl⟩:=Int.eq_ofNat_of_zero_le (by omega:0≤rec)
 by_cases hhi:ss.length≤i
 · have t0:(ss.length:Int)≤(i:Int):=by omega
   go_enter Tryd.func84,Tryd.ntmps84
   go_wp2
   exact bodyPost_ret (v:=.tuple #[.slice none 0 0,.bool false]) (by simp [results,Tryd.results84,go_sem]) rfl (by unfold VFPost;exact ⟨HB.out,.inl ⟨by omega,rfl⟩⟩)
 · have hil:i<ss.length:=by omega
   have t0:¬(ss.length:Int)≤(i:Int):=by omega
   have hib:(i:Int)<ss.length:=by omega
   have hib0:(0:Int)≤(i:Int):=by omega
   obtain ⟨g,cc,hv,hcc,hgl,hcell⟩:=row_el crecCells 2 (fun _=>rfl) HC.out.structs i hil
   obtain ⟨rfl,rfl⟩:=slice_inj hv
   have y1:(w.alloc (.cells #[.slice (some ⟨g,0,none⟩) ss.length sc,.slice ea es.length ec,.int .i64 root] 33)).cell? ⟨g,i * 2+1,none⟩=some ss[i].2:=hcell 1 (by omega)
   have hsl:=HC.out.fields _ (List.getElem_mem hil)
   obtain ⟨fa,fc,hf⟩:=ownsRow_form hsl
   have HF:=Lib.hid hf
   rw [hf] at y1
   clear hcell hv hsl hf
   generalize ss[i].1.fields.length=fl at *
   go_enter Tryd.func84,Tryd.ntmps84
   go_wp2
   exact bodyPost_ret (v:=.tuple #[.slice fa fl fc,.bool true]) (by simp [results,Tryd.results84,go_sem]) rfl (by unfold VFPost;exact ⟨HB.out,.inr ⟨i,hil,rfl,by rw [HF.out]⟩⟩)
def FldsOk (ss:List (CRec × Value)):Prop:=∀ q ∈ ss,∀ f ∈ q.1.fields,f.kind≤255 ∧ -9223372036854775800≤f.lists∧f.lists≤9223372036854775807∧f.dflt≤18446744073709551615
def KidsAt (w:World)(ks:List PV)(ka:Option Addr):Prop:=∀ i (hi:i<ks.length),∃ (kb ko:Nat) (u0 u1 u2 u3:Value),ka=some ⟨kb,ko,none⟩∧w.cell? ⟨kb,ko+i * 4,none⟩=some u0∧w.cell? ⟨kb,ko+i * 4+1,none⟩=some u1∧w.cell? ⟨kb,ko+i * 4+2,none⟩=some u2∧w.cell? ⟨kb,ko+i * 4+3,none⟩=some u3∧IsV w (ks[i]'hi) (.agg #[u0,u1,u2,u3])
theorem KidsAt.later {w W:World}{ks:List PV}{ka:Option Addr}(h:KidsAt w ks ka)(hb:Below w.heap.size w W):KidsAt W ks ka:=fun i hi=>by
 obtain ⟨kb,ko,u0,u1,u2,u3,h1,h2,h3,h4,h5,h6⟩:=h i hi
 exact ⟨kb,ko,u0,u1,u2,u3,h1,cell_stays hb h2,cell_stays hb h3,cell_stays hb h4,cell_stays hb h5,h6.later hb⟩
end Go.Proofs.YtachghaegokpdaaDoor
namespace Go.Proofs.YtachghaegokpdaaDoor
open Go.ChangeShapes Go.WideShapes Go.ChangeAt Go.RowKit
theorem wsigned_any (n s:Int)(w:World) :
  Calls Tryd.prog 89 #[.int .u64 n,.int .i64 s] w fun e w'=>e=.returned (.int .u64 (sgnOf n s))∧w=w':=by
 by_cases e1:s=1
 · subst e1
   have E:IntKind.u64.wrap (IntKind.i8.wrap n)=sgnOf n 1:=by
    rw [sgnOf_1]
    split<;>(simp only [IntKind.wrap,IntKind.bits,IntKind.signed];simp;omega)
   have H:=Lib.hid E
   clear E
   go_enter Tryd.func89,Tryd.ntmps89
   go_wp2
   go_ret
   exact ⟨ret_int H.out,rfl⟩
 by_cases e2:s=2
 · subst e2
   have E:IntKind.u64.wrap (IntKind.i16.wrap n)=sgnOf n 2:=by
    rw [sgnOf_2]
    split<;>(simp only [IntKind.wrap,IntKind.bits,IntKind.signed];simp;omega)
   have H:=Lib.hid E
   clear E
   go_enter Tryd.func89,Tryd.ntmps89
   go_wp2
   go_ret
   exact ⟨ret_int H.out,rfl⟩
 by_cases e4:s=4
 · subst e4
   have E:IntKind.u64.wrap (wrap32 n)=sgnOf n 4:=by
    rw [sgnOf_4,←IntWalk.i32_left]
    split<;>(simp only [IntKind.wrap,IntKind.bits,IntKind.signed];simp;omega)
   have H:=Lib.hid E
   clear E
   go_enter Tryd.func89,Tryd.ntmps89
   go_wp2
   go_ret
   exact ⟨ret_int H.out,rfl⟩
 have H:=Lib.hid (sgnOf_else n s e1 e2 e4)
 have hs1:(s==1)=false:=by simp;omega
 have hs2:(s==2)=false:=by simp;omega
 have hs4:(s==4)=false:=by simp;omega
 clear e1 e2 e4
 rw [H.out]
 go_enter Tryd.func89,Tryd.ntmps89
 go_wp2
 go_ret
 exact ⟨rfl,rfl⟩
end Go.Proofs.YtachghaegokpdaaDoor
namespace Go.Proofs.YtachghaegokpdaaDoor
open Go.ChangeShapes Go.WideShapes Go.ChangeAt Go.RowKit
def PartIs (g off a n:Nat)(e:Ending):Prop:=∃ o,e=.returned (.tuple #[.slice (some ⟨g,o,none⟩) n n,.bool true])∧(0<n→o=off+a)
theorem ret_part {g o m m':Nat}(h:m=m'):Ending.returned (.tuple #[.slice (some ⟨g,o,none⟩) m m,.bool true])=.returned (.tuple #[.slice (some ⟨g,o,none⟩) m' m',.bool true]):=by rw [h]
theorem part_yes (g off len cap:Nat)(a n:Int)(w:World)(hl:(len:Int)≤9223372036854775807)(hcap:len≤cap)(h0:0≤a)(h1:0≤n)(h2:a≤len)(h3:n≤len-a) :
  Calls Tryd.prog 125 #[.slice (some ⟨g,off,none⟩) len cap,.int .i64 a,.int .i64 n] w fun e w'=>PartIs g off a.toNat n.toNat e∧w=w':=by
 have e1:(a+n).toNat-a.toNat=n.toNat:=by omega
 have E:=Lib.hid e1
 clear e1
 go_enter Tryd.func125,Tryd.ntmps125
 go_wp2_with (go_at_call 112;refine (next_yes a n len _ h0 h1 h2 h3 hl).mono ?_;rintro e w' ⟨rfl,rfl⟩)
 · go_ret2
   exact ⟨⟨_,ret_part (show 0=n.toNat by omega),fun hn=>by omega⟩,rfl⟩
 · go_ret2
   exact ⟨⟨_,ret_part E.out,fun _=>rfl⟩,rfl⟩
theorem part_no (p:Option Addr)(len cap:Nat)(a n:Int)(w:World)(hl:(len:Int)≤9223372036854775807)(h:a<0∨n<0∨(len:Int)<a∨len-a<n) :
  Calls Tryd.prog 125 #[.slice p len cap,.int .i64 a,.int .i64 n] w fun e w'=>e=.returned (.tuple #[.slice none 0 0,.bool false])∧w=w':=by
 go_enter Tryd.func125,Tryd.ntmps125
 go_wp2_with (go_at_call 112;refine (next_no a n len _ h hl).mono ?_;rintro e w' ⟨rfl,rfl⟩)
 go_ret2
 exact ⟨rfl,rfl⟩
end Go.Proofs.YtachghaegokpdaaDoor
