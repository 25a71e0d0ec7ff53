/-
  The default of a struct of a made schema, plain: it fits, it is the document's, its fields are empty; the fields of a value that fits. Conditions: those that each theorem names.
-/
import Derived.Test.YtachghaegokpdaaDoorPkFC1
import Derived.Test.YtachghaegokpdaaDoorPkFC2
import Derived.Test.YtachghaegokpdaaDoorPkFC3
import Derived.Test.YtachghaegokpdaaDoorPkFC4
import Derived.Test.YtachghaegokpdaaDoorPkFC5
import Derived.Test.YtachghaegokpdaaDoorPkFC6
import Derived.Test.YtachghaegokpdaaDoorPkFC8
import Derived.Test.YtachghaegokpdaaDoorPkFC9
import Derived.Deep.Cut
import Derived.Deep.RegionHeld3
import Derived.StillTailTactics
import Derived.Maps.AppendAt
namespace Go.Proofs.YtachghaegokpdaaDoor
open Go.RowKit
def seqD (f:Nat→Int→Option (PV × Int))(l:Int):Nat→Option (List PV × Int)
 | 0=>some ([],l)
 | j+1=>match seqD f l j with
  | none=>none
  | some (vs,l1)=>match f j l1 with
   | none=>none
   | some (v,l2)=>some (vs++[v],l2)
def numZ (es:List SCho)(zs:List Int)(k:Nat)(ref at' left:Int):Option (PV × Int):=
 if inZ (lenZ zs) at' (kSize k)=true then
  (if fitsT es k ref 0 (if kSign k=true then sgnOf (leAt zs at'.toNat (kSize k).toNat) (kSize k) else leAt zs at'.toNat (kSize k).toNat).toNat=true then
   some (numV (if kSign k=true then sgnOf (leAt zs at'.toNat (kSize k).toNat) (kSize k) else leAt zs at'.toNat (kSize k).toNat).toNat,left) else none)
 else none
def bytesAtZ (zs:List Int)(k:Nat)(to left:Int):Option (PV × Int):=
 if inZ (lenZ zs) to 4=true then
  (if inZ (lenZ zs) to (4+leAt zs to.toNat 4+(if k=11 then 1 else 0))=true∧0≤left-(4+leAt zs to.toNat 4+(if k=11 then 1 else 0)) ∧
      (k=11→zs.getD (to.toNat+4+(leAt zs to.toNat 4).toNat) 0=0∧u8At (partZ zs (to.toNat+4) (leAt zs to.toNat 4).toNat) 0<0)
   then some (.mk 0 (partZ zs (to.toNat+4) (leAt zs to.toNat 4).toNat) [] false,left-(4+leAt zs to.toNat 4+(if k=11 then 1 else 0))) else none)
 else none
def stepZ (k:Nat)(lists:Int):Int:=if numTB k lists=true then kSize k else 4
abbrev NextD:=Nat→Int→Int→Int→Int→Option (PV × Int)
def listAtZ (zs:List Int)(nx:Option NextD)(k:Nat)(ref lists to left:Int):Option (PV × Int):=
 if inZ (lenZ zs) to 4=true then
  (if inZ (lenZ zs) to (4+leAt zs to.toNat 4 * stepZ k lists)=true∧0≤left-(4+leAt zs to.toNat 4 * stepZ k lists) then
   (match nx with
    | none=>if leAt zs to.toNat 4=0 then some (.mk 0 [] [] false,left-(4+leAt zs to.toNat 4 * stepZ k lists)) else none
    | some f=>match seqD (fun j l=>f k ref lists (to+4+j * stepZ k lists) l) (left-(4+leAt zs to.toNat 4 * stepZ k lists)) (leAt zs to.toNat 4).toNat with
     | none=>none
     | some (ks,l)=>some (.mk 0 [] ks false,l)) else none)
 else none
def fieldZ (zs:List Int)(f:NextD)(fs:List CFld)(to:Int)(t:TabZ)(j:Nat)(l:Int):Option (PV × Int):=
 match fs[j]? with
 | none=>none
 | some x =>
  if offZ zs t j=0 then some (numV x.dflt,l)
  else if offZ zs t j<4∨t.own<offZ zs t j+inlC x.kind x.lists then none
  else f x.kind x.ref x.lists (to+offZ zs t j) l
def recC (ss:List CRec)(ref:Int):CRec:=ss.getD ref.toNat ⟨⟨#[]⟩,[]⟩
def structAtZ (ss:List CRec)(zs:List Int)(nx:Option NextD)(ref to left:Int):Option (PV × Int):=
 match tabZ zs to with
 | none=>none
 | some t=>match nx with
  | none=>none
  | some f =>
   if left-(t.size+t.own)<0 then none else
   match seqD (fieldZ zs f (recC ss ref).fields to t) (left-(t.size+t.own)) (recC ss ref).fields.length with
   | none=>none
   | some (ks,l)=>some (.mk 0 [] ks true,l)
def pointZ (zs:List Int)(at':Int)(g:Int→Option (PV × Int)):Option (PV × Int):=
 match jumpZ zs at' with
 | none=>none
 | some to=>g to
def valZ (ss:List CRec)(es:List SCho)(zs:List Int)(nx:Option NextD)(k:Nat)(ref lists at' left:Int):Option (PV × Int):=
 if sortP k lists=1 then numZ es zs k ref at' left
 else if sortP k lists=2 then pointZ zs at' fun to=>bytesAtZ zs k to left
 else if sortP k lists=3 then pointZ zs at' fun to=>listAtZ zs nx k ref (lists-1) to left
 else if sortP k lists=4 then pointZ zs at' fun to=>structAtZ ss zs nx ref to left
 else none
def flatZ (ss:List CRec)(es:List SCho)(zs:List Int):Nat→NextD
 | 0=>valZ ss es zs none
 | r+1=>valZ ss es zs (some (flatZ ss es zs r))
def nextZ (ss:List CRec)(es:List SCho)(zs:List Int):Nat→Option NextD
 | 0=>none
 | r+1=>some (flatZ ss es zs r)
theorem flatZ_eq (ss:List CRec)(es:List SCho)(zs:List Int)(room k:Nat)(ref lists at' left:Int):flatZ ss es zs room k ref lists at' left=valZ ss es zs (nextZ ss es zs room) k ref lists at' left:=by
 cases room<;>rfl
theorem seqD_le {f:Nat→Int→Option (PV × Int)}{l:Int}:∀ {n j:Nat},j≤n→seqD f l j=none→seqD f l n=none
 | 0,j,h,hn=>by
  obtain rfl:j=0:=by omega
  exact hn
 | n+1,j,h,hn=>by
  rcases Nat.lt_or_ge n j with h1|h1
  · obtain rfl:j=n+1:=by omega
    exact hn
  · show (match seqD f l n with|none=>none|some (vs,l1)=>match f n l1 with|none=>none|some (v,l2)=>some (vs++[v],l2))=none
    rw [seqD_le h1 hn]
theorem seqD_succ {f:Nat→Int→Option (PV × Int)}{l l1:Int}{j:Nat}{vs:List PV}(h:seqD f l j=some (vs,l1)):seqD f l (j+1)=match f j l1 with|none=>none|some (v,l2)=>some (vs++[v],l2):=by
 show (match seqD f l j with|none=>none|some (vs,l1)=>match f j l1 with|none=>none|some (v,l2)=>some (vs++[v],l2))=_
 rw [h]
theorem seqD_length {f:Nat→Int→Option (PV × Int)}{l:Int}:∀ {n:Nat} {vs:List PV} {l1:Int},seqD f l n=some (vs,l1)→vs.length=n
 | 0,vs,l1,h=>by
  injection h with h
  injection h with h _
  subst h
  rfl
 | n+1,vs,l1,h=>by
  cases h1:seqD f l n with
  | none=>rw [seqD_le (Nat.le_succ n) h1] at h;cases h
  | some p =>
   obtain ⟨us,l2⟩:=p
   rw [seqD_succ h1] at h
   cases h2:f n l2 with
   | none=>rw [h2] at h;cases h
   | some q =>
    obtain ⟨v,l3⟩:=q
    rw [h2] at h
    injection h with h
    injection h with h _
    subst h
    rw [List.length_append,seqD_length h1]
    rfl
theorem seqD_at {f:Nat→Int→Option (PV × Int)}{l:Int}:∀ {n:Nat} {vs:List PV} {l1:Int},seqD f l n=some (vs,l1)→∀ j (hj:j<vs.length),∃ l2 l3,f j l2=some (vs[j],l3)
 | 0,vs,l1,h,j,hj=>by
  injection h with h
  injection h with h _
  subst h
  exact absurd hj (Nat.not_lt_zero _)
 | n+1,vs,l1,h,j,hj=>by
  cases h1:seqD f l n with
  | none=>rw [seqD_le (Nat.le_succ n) h1] at h;cases h
  | some p =>
   obtain ⟨us,l2⟩:=p
   rw [seqD_succ h1] at h
   cases h2:f n l2 with
   | none=>rw [h2] at h;cases h
   | some q =>
    obtain ⟨v,l3⟩:=q
    rw [h2] at h
    injection h with h
    injection h with h _
    subst h
    have hl:=seqD_length h1
    rcases Nat.lt_or_ge j us.length with h3|h3
    · obtain ⟨a,b,hab⟩:=seqD_at h1 j h3
      exact ⟨a,b,by rw [hab,List.getElem_append_left h3]⟩
    · obtain rfl:j=n:=by rw [List.length_append] at hj;simp at hj;omega
      exact ⟨l2,l3,by rw [h2,List.getElem_append_right h3];simp [hl]⟩
end Go.Proofs.YtachghaegokpdaaDoor
namespace Go.Proofs.YtachghaegokpdaaDoor
open Go.ChangeShapes Go.WideShapes Go.ChangeAt Go.RowKit Go.Shelf
structure WState (w:World)(wk m mt:Nat)(out:Bool)(left ml:Int)(mo:Bool):Prop where
 walk:w.heap[wk]?=some (.cells #[.pointer (some ⟨m,0,none⟩),.pointer (some ⟨mt,0,none⟩),.bool out,.int .i64 left] 131 (0,0))
 meter:w.heap[mt]?=some (.cells #[.int .i64 ml,.bool mo] 140 (0,0))
theorem WState.below {w W:World}{wk m mt:Nat}{out mo:Bool}{left ml:Int}(h:WState w wk m mt out left ml mo)(hb:Below w.heap.size w W):WState W wk m mt out left ml mo:=
 ⟨blk_below h.walk hb (blk_lt h.walk),blk_below h.meter hb (blk_lt h.meter)⟩
theorem WState.apart {w:World}{wk m mt:Nat}{out mo:Bool}{left ml:Int}(h:WState w wk m mt out left ml mo):wk≠mt:=fun e=>by
 have h1:=h.walk
 have h2:=h.meter
 rw [e,h2] at h1
 injection h1 with h1
 injection h1 with h1 _ _
 have h3:=congrArg Array.size h1
 simp at h3
theorem blk4w {w:World}{g:Nat}{x y z u:Value}{t:TypeId}(h:w.heap[g]?=some (.cells #[x,y,z,u] t (0,0))) :
  g<w.heap.size∧w.cell? ⟨g,0,none⟩=some x∧w.cell? ⟨g,1,none⟩=some y∧w.cell? ⟨g,2,none⟩=some z∧w.cell? ⟨g,3,none⟩=some u:=
 ⟨blk_lt h,(blk_cell h 0).trans rfl,(blk_cell h 1).trans rfl,(blk_cell h 2).trans rfl,(blk_cell h 3).trans rfl⟩
set_option maxHeartbeats 4000000 in
theorem freach_any (w:World){wk m mt:Nat}{out mo:Bool}{left ml:Int}(h:WState w wk m mt out left ml mo)(size:Int)(hb : -9000000000000000000≤left-size∧left-size≤9000000000000000000) :
  Calls Tryd.prog 101 #[.pointer (some ⟨wk,0,none⟩),.int .i64 size] w fun e w'=>e=.returned (.bool (decide (0≤left-size)))∧WState w' wk m mt out (left-size) ml mo∧Exw wk mt w.heap.size w w':=by
 obtain ⟨_,c0,c1,c2,c3⟩:=blk4w h.walk
 obtain ⟨l,hl0⟩:∃ l,left-size=l:=⟨_,rfl⟩
 have hw:IntKind.i64.wrap (left-size)=l:=by rw [←hl0];exact IntWalk.i64_in (left-size) (by omega)
 rw [hl0]
 have f3:=blk_frozen h.walk 3
 have HW:=Lib.hid ((blk_set h.walk 3 (.int .i64 l)).trans rfl)
 have HM:=Lib.hid (blk_set_ne h.meter (p:=⟨wk,3,none⟩) h.apart (.int .i64 l))
 have HX:=Lib.hid ((Exw.refl wk mt w.heap.size w).setCell (p:=⟨wk,3,none⟩) (.inl rfl) (.int .i64 l))
 clear h hl0
 by_cases hl:0≤l
 · have hd:decide (0≤l)=true:=decide_eq_true hl
   rw [hd]
   go_enter Tryd.func101,Tryd.ntmps101
   go_wp2
   go_ret
   exact ⟨rfl,⟨HW.out,HM.out⟩,HX.out⟩
 · have hd:decide (0≤l)=false:=decide_eq_false hl
   rw [hd]
   go_enter Tryd.func101,Tryd.ntmps101
   go_wp2
   go_ret
   exact ⟨rfl,⟨HW.out,HM.out⟩,HX.out⟩
theorem WState.isMeter {w:World}{wk m mt:Nat}{out mo:Bool}{left ml:Int}(h:WState w wk m mt out left ml mo):IsMeter w mt ml mo:=
 ⟨(blk_cell h.meter 0).trans rfl,(blk_cell h.meter 1).trans rfl,blk_frozen h.meter 0,blk_frozen h.meter 1⟩
set_option maxHeartbeats 4000000 in
theorem fpay_yes (w:World){wk m mt:Nat}{left ml:Int}(h:WState w wk m mt false left ml false)(n:Int)(h0:0≤n)(h1:n≤ml)(h2:ml≤9223372036854775807) :
  Calls Tryd.prog 102 #[.pointer (some ⟨wk,0,none⟩),.int .i64 n] w fun e w'=>e=.returned (.bool true)∧WState w' wk m mt false left (ml-n) false∧Exw wk mt w.heap.size w w':=by
 obtain ⟨_,c0,c1,c2,c3⟩:=blk4w h.walk
 have hap:=h.apart
 have HT:=Lib.hid (take_yes mt ml n w h.isMeter h0 h1 h2)
 have hW:=blk_set_ne h.walk (p:=⟨mt,0,none⟩) (fun e=>hap e.symm) (.int .i64 (ml-n))
 have hM:=(blk_set h.meter 0 (.int .i64 (ml-n))).trans rfl
 have hX:=(Exw.refl wk mt w.heap.size w).setCell (p:=⟨mt,0,none⟩) (.inr (.inl rfl)) (.int .i64 (ml-n))
 have HW:=Lib.hid ((blk_set hW 2 (.bool false)).trans rfl)
 have HM:=Lib.hid (blk_set_ne hM (p:=⟨wk,2,none⟩) hap (.bool false))
 have HX:=Lib.hid (hX.setCell (p:=⟨wk,2,none⟩) (.inl rfl) (.bool false))
 have HW0:=Lib.hid hW
 clear h hW hM hX
 go_enter Tryd.func102,Tryd.ntmps102
 go_wp2_with fail
 refine HT.out.mono ?_
 rintro e W1 ⟨rfl,rfl⟩
 generalize w.setCell ⟨mt,0,none⟩ (.int .i64 (ml-n))=W1 at *
 clear c0 c1 c2 c3
 obtain ⟨_,c0,c1,c2,c3⟩:=blk4w HW0.out
 have f2:=blk_frozen HW0.out 2
 go_wp2
 go_ret
 exact ⟨rfl,⟨HW.out,HM.out⟩,HX.out⟩
set_option maxHeartbeats 4000000 in
theorem fpay_no (w:World){wk m mt:Nat}{left ml:Int}(h:WState w wk m mt false left ml false)(n:Int)(h0:0≤n)(h1:ml<n) :
  Calls Tryd.prog 102 #[.pointer (some ⟨wk,0,none⟩),.int .i64 n] w fun e w'=>e=.returned (.bool false)∧WState w' wk m mt true left 0 true∧Exw wk mt w.heap.size w w':=by
 obtain ⟨_,c0,c1,c2,c3⟩:=blk4w h.walk
 have hap:=h.apart
 have HT:=Lib.hid (take_over mt ml n w h.isMeter h0 h1)
 have hW:=blk_set_ne (blk_set_ne h.walk (p:=⟨mt,0,none⟩) (fun e=>hap e.symm) (.int .i64 0)) (p:=⟨mt,1,none⟩) (fun e=>hap e.symm) (.bool true)
 have hM:=(blk_set ((blk_set h.meter 0 (.int .i64 0)).trans rfl:_=some (Obj.cells #[.int .i64 0,.bool false] 140 (0,0))) 1 (.bool true)).trans rfl
 have hX:=((Exw.refl wk mt w.heap.size w).setCell (p:=⟨mt,0,none⟩) (.inr (.inl rfl)) (.int .i64 0)).setCell (p:=⟨mt,1,none⟩) (.inr (.inl rfl)) (.bool true)
 have HW:=Lib.hid ((blk_set hW 2 (.bool true)).trans rfl)
 have HM:=Lib.hid (blk_set_ne hM (p:=⟨wk,2,none⟩) hap (.bool true))
 have HX:=Lib.hid (hX.setCell (p:=⟨wk,2,none⟩) (.inl rfl) (.bool true))
 have HW0:=Lib.hid hW
 clear h hW hM hX
 go_enter Tryd.func102,Tryd.ntmps102
 go_wp2_with fail
 refine HT.out.mono ?_
 rintro e W1 ⟨rfl,rfl⟩
 generalize (w.setCell ⟨mt,0,none⟩ (.int .i64 0)).setCell ⟨mt,1,none⟩ (.bool true)=W1 at *
 clear c0 c1 c2 c3
 obtain ⟨_,c0,c1,c2,c3⟩:=blk4w HW0.out
 have f2:=blk_frozen HW0.out 2
 go_wp2
 go_ret
 exact ⟨rfl,⟨HW.out,HM.out⟩,HX.out⟩
def RPost (res:Option (PV × Int))(wk m mt:Nat)(left ml:Int)(w:World)(e:Ending)(w':World):Prop:=
 Exw wk mt w.heap.size w w' ∧
 ((∃ v l' ml',res=some (v,l')∧(0≤l'∧l'≤left)∧e=.returned (.bool true)∧WState w' wk m mt false l' ml' false∧(0≤ml'∧ml'≤ml)∧(3 * left≤ml→3 * l'≤ml')) ∨
  (e=.returned (.bool false)∧∃ o l' ml' mo,WState w' wk m mt o l' ml' mo∧(o=false→res=none)∧(o=true→ml<3 * left)))
end Go.Proofs.YtachghaegokpdaaDoor
namespace Go.Proofs.YtachghaegokpdaaDoor
open Go.ChangeShapes Go.WideShapes Go.ChangeAt Go.RowKit Go.Shelf
structure TyM (n:Nat)(es:List SCho)(k r l:Nat):Prop where
 lo:1≤k
 hi:k≤13
 li:l≤3
 en:k=10→r<es.length∧1≤cntE es r
 st:k=13→r<n
def SchM (ss:List (SRec × Value))(es:List SCho):Prop:=ss.length≤16∧∀ q ∈ ss,q.1.fields.length≤16∧∀ f ∈ q.1.fields,TyM ss.length es f.kind f.ref f.lists∧(f.dflt:Int)≤18446744073709551615∧(f.lists=0→f.kind≤10→fitsT es f.kind f.ref 0 f.dflt=true)
def newS (B:Nat):Nat→Bool:=fun k=>decide (k<B)
inductive SmallV:PV→Prop
 | mk (n:Nat) (bs:List Int) (ks:List PV) (h:Bool) (hb:bs.length≤100) (hk:ks.length≤100) (hs:∀ q ∈ ks,SmallV q):SmallV (.mk n bs ks h)
theorem vh_num (S:Nat→Bool)(w:World)(n:Nat)(hn:(n:Int)≤18446744073709551615):VH S w (numV n) (.agg #[.int .u64 n,.slice none 0 0,.slice none 0 0,.bool false]):=isV_num _ n (by omega)
theorem k_size {k:Nat}(h1:1≤k)(h2:k≤10):0<kSize k:=by
 have hk:k=1∨k=2∨k=3∨k=4∨k=5∨k=6∨k=7∨k=8∨k=9∨k=10:=by omega
 rcases hk with rfl|rfl|rfl|rfl|rfl|rfl|rfl|rfl|rfl|rfl<;>decide
theorem exc_put4 {g B R:Nat}{a w:World}(h:Exc g B a w)(hR:B≤R)(x y z u:Value):Exc g B a (set4 w R x y z u):=
 ((((h.setCell (p:=⟨R,0,none⟩) (.inr hR) x).setCell (p:=⟨R,1,none⟩) (.inr hR) y).setCell (p:=⟨R,2,none⟩) (.inr hR) z).setCell (p:=⟨R,3,none⟩) (.inr hR) u)
theorem Src.at {g:Nat}{a:Option Addr}{bs:List Int}{bc:Nat}{w W Wf:World}{i j:Nat}(h:Src g a bs bc w i)(hx:Exc g w.heap.size w Wf)(h2:Src g a bs bc W j)(hb:Wf.heap[g]?=W.heap[g]?):Src g a bs bc Wf j:=
 ⟨hb.trans h2.blk,h2.le,h.byt.exc hx (Nat.le_refl _) h.low,h.low,h.len,h.cap⟩
theorem set4_blk {g R:Nat}(w:World)(hR:g≠R)(x y z u:Value):(set4 w R x y z u).heap[g]?=w.heap[g]?:=
 (Below.heap_setCell _ _ _ _ hR).trans ((Below.heap_setCell _ _ _ _ hR).trans ((Below.heap_setCell _ _ _ _ hR).trans (Below.heap_setCell _ _ _ _ hR)))
theorem stepV {g O B sz n m:Nat}{w0 wr W2 W8:World}{cs:Array Value}{t e:TypeId}{v v4:Value}{xs xs':List Value}(j:Nat)(hx:Exc g B w0 wr)(hB:B≤O)(hO:wr.heap[O]?=some (.cells cs t (0,0)))(hrow:wr.ownsRow (O+1) e sz v n xs)(h2:Below wr.heap.size wr W2)
  (hg:W2.grownBy W8 v.ownBlock) (ho:W8.ownsRow (O+1) e sz v4 m xs') :
  Exc g B w0 (W8.setCell ⟨O,j,none⟩ v4)∧(W8.setCell ⟨O,j,none⟩ v4).heap[O]?=some (.cells (cs.setIfInBounds j v4) t (0,0))∧(W8.setCell ⟨O,j,none⟩ v4).ownsRow (O+1) e sz v4 m xs'∧W8.heap[O]?=some (.cells cs t (0,0))∧∀ k,k<O→(W8.setCell ⟨O,j,none⟩ v4).heap[k]?=wr.heap[k]?:=by
 have hlt:=blk_lt hO
 have hrest:∀ k,k≤O→W8.heap[k]?=wr.heap[k]?:=fun k hk=>(hg.block k (Nat.lt_of_lt_of_le (by omega) h2.size) (fun e=>by have:=(ownsRow_lt hrow k e.symm).1;omega)).trans (h2.block k (by omega))
 have hO8:W8.heap[O]?=some (.cells cs t (0,0)):=(hrest O (Nat.le_refl _)).trans hO
 exact ⟨((hx.trans ((Exc.of_below h2).mono (by omega))).grown hg (by have:=h2.size;omega) (fun k hk=>by have:=(ownsRow_lt hrow k hk).1;omega)).setCell (p:=⟨O,j,none⟩) (.inr hB) v4,blk_set hO8 j v4,ownsRow_setCell_below ho (Nat.lt_succ_self O) v4,hO8,fun k hk=>(Below.heap_setCell _ _ _ _ (by show k≠O;omega)).trans (hrest k (by omega))⟩
def u8Cells (zs:List Int):List Value:=zs.map (.int .u8)
theorem bytes_own {S:Nat→Bool}{W:World}{base n:Nat}{A:Option Addr}{cap:Nat}{zs:List Int}(h:W.ownsRow base 5 1 (.slice A n cap) n (u8Cells zs))(hz:∀ z ∈ zs,0≤z∧z≤255)(hS:∀ k,base≤k→S k=false):Bytes (hideW S W) A zs∧zs.length=n:=by
 have hl:zs.length=n:=by have:=h.1;unfold u8Cells at this;rw [List.length_map] at this;omega
 refine ⟨⟨fun i=>?_,fun hne=>?_⟩,hl⟩
 · rcases Nat.lt_or_ge i zs.length with hi|hi
   · rw [List.getD,List.getElem?_eq_getElem hi,Option.getD_some]
     exact hz _ (List.getElem_mem hi)
   · rw [List.getD,List.getElem?_eq_none hi]
     exact ⟨by decide,by decide⟩
 · have h0:0<n:=by rw [←hl];exact List.length_pos_iff.2 hne
   obtain ⟨g,c,hv,hnc,hb,hgl,hcell⟩:=row_at h h0
   injection hv with hA _ _
   subst hA
   refine ⟨g,0,rfl,by rw [hide_size];exact hgl,fun i hi=>?_⟩
   rw [hide_cell S W _ (hS g hb),Nat.zero_add,hcell i (by omega)]
   unfold u8Cells
   rw [List.getElem?_map,List.getElem?_eq_getElem hi,List.getD,List.getElem?_eq_getElem hi]
   rfl
theorem row_cap {W:World}{base n sz cap:Nat}{e:TypeId}{A:Option Addr}{xs:List Value}(h:W.ownsRow base e sz (.slice A n cap) n xs):n≤cap:=by
 rcases h.2 with ⟨h1,h0⟩|⟨g,cap',cur,h1,hb,hg,hnc,hm,hs,ht⟩
 · injection h1;omega
 · injection h1;omega
theorem vh_bytes {S:Nat→Bool}{W:World}{base n cap:Nat}{A:Option Addr}{zs:List Int}(h:W.ownsRow base 5 1 (.slice A n cap) n (u8Cells zs))(hz:∀ z ∈ zs,0≤z∧z≤255)(hS:∀ k,base≤k→S k=false) :
  VH S W (.mk 0 zs [] false) (.agg #[.int .u64 0,.slice A n cap,.slice none 0 0,.bool false]):=by
 obtain ⟨hb,hl⟩:=bytes_own h hz hS
 have hc:=row_cap h
 have hf:=row_few h
 subst hl
 exact .mk 0 zs [] false A none cap 0 0 0 (fun _=>.bool false) (fun _=>.bool false) (fun _=>.bool false) (fun _=>.bool false) (by decide) hb hc (by omega) (Nat.le_refl _) (by decide) (fun h=>absurd rfl h) (fun i hi=>absurd hi (Nat.not_lt_zero i)) (fun i hi=>absurd hi (Nat.not_lt_zero i))
theorem own_set4 {W:World}{base sz n R:Nat}{e:TypeId}{v:Value}{xs:List Value}(h:W.ownsRow base e sz v n xs)(hR:R<base)(x y z u:Value):(set4 W R x y z u).ownsRow base e sz v n xs:=
 ownsRow_setCell_below (a:=⟨R,3,none⟩) (ownsRow_setCell_below (a:=⟨R,2,none⟩) (ownsRow_setCell_below (a:=⟨R,1,none⟩) (ownsRow_setCell_below (a:=⟨R,0,none⟩) h hR x) hR y) hR z) hR u
theorem row_other {W:World}{base P n sz:Nat}{e t:TypeId}{v:Value}{xs:List Value}{cs:Array Value}(h:W.ownsRow base e sz v n xs)(hP:W.heap[P]?=some (.cells cs t (0,0)))(hne:t≠e):v.ownBlock≠some P:=by
 rcases h.2 with ⟨rfl,_⟩|⟨k,cap,cur,rfl,hb,hk,_⟩
 · exact fun h=>by cases h
 · intro h
   injection h with h
   subst h
   rw [hk] at hP
   injection hP with hP
   injection hP with _ h2 _
   exact hne h2.symm
theorem keep4 {w:World}{g:Nat}{p:Addr}{v x0 x1 x2 x3:Value}(h:w.cell? p=some v)(hp:p.block≠g) :
  ((((w.setCell ⟨g,0,none⟩ x0).setCell ⟨g,1,none⟩ x1).setCell ⟨g,2,none⟩ x2).setCell ⟨g,3,none⟩ x3).cell? p=some v:=by
 have e:∀ (w:World) (i:Nat) (x:Value),(w.setCell ⟨g,i,none⟩ x).cell? p=w.cell? p:=fun w i x=>World.cell?_of_block (Below.heap_setCell _ _ _ _ hp)
 rw [e,e,e,e,h]
theorem vh_new {w W:World}{v:PV}{val:Value}{B B':Nat}(h:VH (newS B) w v val)(hB:B'≤B)(hs:w.heap.size≤W.heap.size)(hb:∀ k,k<w.heap.size→B≤k→W.heap[k]?=w.heap[k]?):VH (newS B') W v val:=
 h.step hs (fun k hk hS=>by
  have h1:B≤k:=by unfold newS at hS;simpa using hS
  exact ⟨by unfold newS;simp;omega,hb k hk h1⟩)
end Go.Proofs.YtachghaegokpdaaDoor
namespace Go.Proofs.YtachghaegokpdaaDoor
open Go.ChangeShapes Go.WideShapes Go.ChangeAt Go.RowKit Go.Shelf
structure KV where
 v:PV
 c0:Value
 c1:Value
 c2:Value
 c3:Value
def kvCells (q:KV):List Value:=[q.c0,q.c1,q.c2,q.c3]
def kvsCells (l:List KV):List Value:=l.flatMap kvCells
theorem kvsCells_snoc (l:List KV)(q:KV):kvsCells (l++[q])=kvsCells l++kvCells q:=by simp [kvsCells]
def rowS (B:Nat)(v:Value):Nat→Bool:=fun k=>decide (k<B)||decide (v.ownBlock=some k)
theorem rowS_no {B:Nat}{v:Value}{k:Nat}:rowS B v k=false ↔ B≤k∧v.ownBlock≠some k:=by
 unfold rowS
 rw [Bool.or_eq_false_iff,decide_eq_false_iff_not,decide_eq_false_iff_not]
 constructor
 · exact fun h=>⟨by omega,h.2⟩
 · exact fun h=>⟨by omega,h.2⟩
def KidsIn (S:Nat→Bool)(W:World)(l:List KV):Prop:=∀ q ∈ l,VH S W q.v (.agg #[q.c0,q.c1,q.c2,q.c3])
theorem KidsIn.step {S S':Nat→Bool}{w W:World}{l:List KV}(h:KidsIn S w l)(hs:w.heap.size≤W.heap.size)(hb:∀ k,k<w.heap.size→S k=false→S' k=false∧W.heap[k]?=w.heap[k]?):KidsIn S' W l:=
 fun q hq=>(h q hq).step hs hb
theorem kids_step {g O:Nat}{wr W6 W7 W8:World}{v v':Value}{l:List KV}{q:KV}{N:Nat}(hK:KidsIn (rowS (O+1) v) wr l)(hx:Exc g wr.heap.size wr W6)(hgO:g≤O)(hO:O<wr.heap.size)(hv:∀ k,v.ownBlock=some k→k<wr.heap.size)
  (hq:VH (newS wr.heap.size) W6 q.v (.agg #[q.c0,q.c1,q.c2,q.c3])) (h7:Below W6.heap.size W6 W7) (hg:W7.grownBy W8 v.ownBlock) (hv':v'.ownBlock=v.ownBlock∨v'.ownBlock=some N) (hN:W7.heap.size≤N) (j:Nat) (x:Value) :
  KidsIn (rowS (O+1) v') (W8.setCell ⟨O,j,none⟩ x) (l++[q]):=by
 have hs6:=hx.size
 have hs7:=h7.size
 have hs8:=hg.size
 have hs9:(W8.setCell ⟨O,j,none⟩ x).heap.size=W8.heap.size:=by simp [World.setCell]
 have hheap:∀ k,k<W6.heap.size→O+1≤k→v.ownBlock≠some k→(W8.setCell ⟨O,j,none⟩ x).heap[k]?=W6.heap[k]?:=fun k hk hOk hne =>
  (Below.heap_setCell _ _ _ _ (by show k≠O;omega)).trans ((hg.block k (by omega) (fun e=>hne e.symm)).trans (h7.block k hk))
 have hrow:∀ k,k<W6.heap.size→O+1≤k→v.ownBlock≠some k→rowS (O+1) v' k=false:=fun k hk hOk hne=>rowS_no.2 ⟨hOk,by
  rcases hv' with e|e
  · rw [e];exact hne
  · rw [e];intro h;injection h with h;omega⟩
 intro p hp
 rcases List.mem_append.1 hp with h|h
 · refine (hK p h).step (by omega) (fun k hk hS=>?_)
   obtain ⟨h1,h2⟩:=rowS_no.1 hS
   exact ⟨hrow k (by omega) h1 h2,(hheap k (by omega) h1 h2).trans (hx.block k hk (by omega))⟩
 · rw [List.mem_singleton.1 h]
   refine hq.step (by omega) (fun k hk hS=>?_)
   have h1:wr.heap.size≤k:=by unfold newS at hS;simpa using hS
   have h2:v.ownBlock≠some k:=fun e=>by have:=hv k e;omega
   exact ⟨hrow k hk (by omega) h2,hheap k hk (by omega) h2⟩
theorem kv_len {W:World}{base n cap:Nat}{A:Option Addr}{l:List KV}(h:W.ownsRow base 49 4 (.slice A n cap) n (kvsCells l)):l.length=n:=by
 have:=h.1
 have e:∀ l:List KV,(kvsCells l).length=l.length * 4:=fun l=>by
  induction l with
  | nil=>rfl
  | cons q t ih=>show (kvCells q++kvsCells t).length=_;rw [List.length_append,ih,List.length_cons];show 4+_=_;omega
 rw [e] at this
 omega
theorem vh_kids {S S':Nat→Bool}{W:World}{base n cap:Nat}{A:Option Addr}{l:List KV}(h:W.ownsRow base 49 4 (.slice A n cap) n (kvsCells l))(hk:KidsIn S W l)(hS:∀ k,S k=false→S' k=false)(hb:∀ k,base≤k→S' k=false)(has:Bool) :
  VH S' W (.mk 0 [] (l.map KV.v) has) (.agg #[.int .u64 0,.slice none 0 0,.slice A n cap,.bool has]):=by
 have hl:=kv_len h
 have hc:=row_cap h
 have hf:=row_few h
 subst hl
 have hlm:(l.map KV.v).length=l.length:=List.length_map _
 rcases Nat.eq_zero_or_pos l.length with h0|h0
 · have hnil:l=[]:=List.eq_nil_of_length_eq_zero h0
   subst hnil
   exact .mk 0 [] [] has none A 0 cap 0 0 (fun _=>.bool false) (fun _=>.bool false) (fun _=>.bool false) (fun _=>.bool false) (by decide) (bytes_nil _) (Nat.le_refl _) (by decide) (Nat.zero_le _) (by decide) (fun h=>absurd rfl h) (fun i hi=>absurd hi (Nat.not_lt_zero i)) (fun i hi=>absurd hi (Nat.not_lt_zero i))
 · obtain ⟨gk,c,hv,_,hbk,hgl,hcell⟩:=row_at h h0
   injection hv with hA _ _
   subst hA
   have hvis:S' gk=false:=hb gk hbk
   have hat:∀ i (hi:i<l.length) (j:Nat),j<4→W.cell? ⟨gk,i * 4+j,none⟩=(kvCells l[i])[j]?:=fun i hi j hj=>by
    rw [hcell _ (by omega)]
    exact flat_at kvCells 4 (fun _=>rfl) l i hi j hj
   have hcells:∀ i (hi:i<l.length) (j:Nat) (u:Value),j<4→(kvCells l[i])[j]?=some u→(hideW S' W).cell? ⟨gk,0+i * 4+j,none⟩=some u:=fun i hi j u hj hu=>by
    rw [hide_cell S' W _ hvis,Nat.zero_add,hat i hi j hj]
    exact hu
   suffices z:VH S' W (.mk 0 [] (l.map KV.v) has) (.agg #[.int .u64 0,.slice none 0 0,.slice (some ⟨gk,0,none⟩) (l.map KV.v).length cap,.bool has]) by
    rw [hlm] at z
    exact z
   refine .mk 0 [] (l.map KV.v) has none (some ⟨gk,0,none⟩) 0 cap gk 0 (fun i=>(l.getD i ⟨nilV,.bool false,.bool false,.bool false,.bool false⟩).c0) (fun i=>(l.getD i ⟨nilV,.bool false,.bool false,.bool false,.bool false⟩).c1) (fun i=>(l.getD i ⟨nilV,.bool false,.bool false,.bool false,.bool false⟩).c2) (fun i=>(l.getD i ⟨nilV,.bool false,.bool false,.bool false,.bool false⟩).c3) (by decide) (bytes_nil _) (Nat.le_refl _) (by decide) (by rw [hlm];exact hc) (by rw [hlm];omega) (fun _=>rfl) (fun i hi=>?_) (fun i hi=>?_)
   · rw [hlm] at hi
     have e:l.getD i ⟨nilV,.bool false,.bool false,.bool false,.bool false⟩=l[i]:=by rw [List.getD,List.getElem?_eq_getElem hi,Option.getD_some]
     simp only [e]
     exact ⟨hcells i hi 0 _ (by decide) rfl,hcells i hi 1 _ (by decide) rfl,hcells i hi 2 _ (by decide) rfl,hcells i hi 3 _ (by decide) rfl⟩
   · have hi':i<l.length:=by rw [hlm] at hi;exact hi
     have e:l.getD i ⟨nilV,.bool false,.bool false,.bool false,.bool false⟩=l[i]:=by rw [List.getD,List.getElem?_eq_getElem hi',Option.getD_some]
     simp only [e,List.getElem_map]
     exact (hk l[i] (List.getElem_mem hi')).step (Nat.le_refl _) (fun k _ hSk=>⟨hS k hSk,rfl⟩)
def KidsSmall (l:List KV):Prop:=∀ q ∈ l,SmallV q.v
theorem KidsSmall.val {l:List KV}(h:KidsSmall l)(hl:l.length≤100)(has:Bool):SmallV (.mk 0 [] (l.map KV.v) has):=.mk 0 [] _ has (by decide) (by rw [List.length_map];exact hl) (fun v hv=>by obtain ⟨q,hq,rfl⟩:=List.mem_map.1 hv;exact h q hq)
end Go.Proofs.YtachghaegokpdaaDoor
namespace Go.Proofs.YtachghaegokpdaaDoor
open Go.ChangeShapes Go.WideShapes Go.ChangeAt Go.RowKit Go.Shelf
theorem src_bytes {W W':World}{a:Option Addr}{zs:List Int}(h:Bytes W a zs)(hw:∀ p x,W.cell? p=some x→W'.cell? p=some x)(c:Nat):Go.Src Tryd.prog 1 22 (.slice a zs.length c) zs.length (u8Cells zs) W':=by
 have hl:(u8Cells zs).length=zs.length * 1:=by simp [u8Cells]
 have h1:∀ u ∈ u8Cells zs,u.oneCell'=true:=fun u hu=>by
  obtain ⟨z,_,rfl⟩:=List.mem_map.1 hu
  rfl
 cases a with
 | none =>
  have:zs=[]:=by
   rcases h0:zs with _|⟨z,t⟩
   · rfl
   · obtain ⟨b,off,e,_⟩:=h.2 (by rw [h0];exact List.cons_ne_nil _ _)
     cases e
  subst this
  exact Go.Src.ofNil W' Tryd.underlying22 c
 | some p =>
  refine Go.Src.ofSlice W' Tryd.underlying22 p zs.length c _ hl (fun j u hu=>?_) h1
  have hj:j<zs.length:=by
   have:=(List.getElem?_eq_some_iff.1 hu).1
   simpa [u8Cells] using this
  obtain ⟨b,off,e,hlt,hc⟩:=h.2 (fun h0=>by rw [h0] at hj;exact Nat.not_lt_zero _ hj)
  injection e with e
  subst e
  refine hw _ _ ?_
  rw [Addr.add_lit,hc j hj,←hu]
  simp [u8Cells,List.getElem?_map,List.getElem?_eq_getElem hj,List.getD]
def oldS (S:Nat→Bool)(B T:Nat):Nat→Bool:=fun k=>S k||decide (B≤k∧k<T)
theorem oldS_no {S:Nat→Bool}{B T k:Nat}:oldS S B T k=false ↔ S k=false∧¬(B≤k∧k<T):=by
 unfold oldS
 rw [Bool.or_eq_false_iff,decide_eq_false_iff_not]
theorem KidsIn.old {S:Nat→Bool}{w W:World}{l:List KV}(h:KidsIn S w l)(hb:Below w.heap.size w W)(T:Nat):KidsIn (oldS S w.heap.size T) W l:=
 h.step hb.size (fun k hk hs=>⟨oldS_no.2 ⟨hs,by omega⟩,hb.block k hk⟩)
theorem bytes_all {W:World}{a:Option Addr}{zs:List Int}(h:Bytes W a zs):∀ z ∈ zs,0≤z∧z≤255:=fun z hz=>by
 obtain ⟨i,hi,rfl⟩:=List.getElem_of_mem hz
 have:=h.1 i
 rwa [List.getD,List.getElem?_eq_getElem hi,Option.getD_some] at this
end Go.Proofs.YtachghaegokpdaaDoor
namespace Go.Proofs.YtachghaegokpdaaDoor
open Go.ChangeShapes Go.WideShapes Go.ChangeAt Go.RowKit Go.Shelf
set_option maxRecDepth 100000 in
set_option maxHeartbeats 4000000 in
theorem nothing_any (w:World)(name:ByteArray)(k:Nat)(ref lists:Int)(d:Nat) :
  Calls Tryd.prog 54 #[.agg #[.string name,.int .u8 k,.int .i64 ref,.int .i64 lists,.int .u64 d]] w fun e w'=>e=.returned (.agg #[.int .u64 d,.slice none 0 0,.slice none 0 0,.bool false])∧Below w.heap.size w w':=by
 obtain ⟨hb,hq1,hq2⟩:=two_start w #[.string name,.int .u8 k,.int .i64 ref,.int .i64 lists,.int .u64 d] #[.int .u64 0,.slice none 0 0,.slice none 0 0,.bool false] 60 49
 have HB:=Lib.hid hb
 have HQ2:=Lib.hid hq2
 obtain ⟨_,y0,y1,y2,y3,y4,_⟩:=blk5 hq1
 obtain ⟨_,z0,z1,z2,z3⟩:=blk4p hq2
 have z4:=blk_frozen hq2 0
 have z5:=blk_frozen hq2 1
 have z6:=blk_frozen hq2 2
 have z7:=blk_frozen hq2 3
 clear hb hq1 hq2
 go_enter Tryd.func54,Tryd.ntmps54
 go_upto_region 1 with (fail)
 generalize (w.alloc (.cells #[.string name,.int .u8 k,.int .i64 ref,.int .i64 lists,.int .u64 d] 60)).alloc (.cells #[.int .u64 0,.slice none 0 0,.slice none 0 0,.bool false] 49)=W0 at *
 go_wp2
 refine post_gen (fun Wf=>Wf.heap[w.heap.size+1]?=some (.cells #[.int .u64 d,.slice none 0 0,.slice none 0 0,.bool false] 49 (0,0))∧Below w.heap.size w Wf) ⟨?_,?_⟩ ?_
 · exact blk_set4 HQ2.out _ _ _ _
 · exact below_set4 HB.out (Nat.le_succ _) _ _ _ _
 · rintro Wf ⟨e1,e2⟩
   obtain ⟨_,d0,d1,d2,d3⟩:=blk4p e1
   exact bodyPost_ret (v:=.agg #[.int .u64 d,.slice none 0 0,.slice none 0 0,.bool false]) (by simp [results,Tryd.results54,go_sem,d0,d1,d2,d3]) rfl ⟨rfl,e2⟩
end Go.Proofs.YtachghaegokpdaaDoor
namespace Go.Proofs.YtachghaegokpdaaDoor
open Go.ChangeShapes Go.WideShapes Go.ChangeAt Go.RowKit Go.Shelf
theorem cell_other {W:World}{a b:Nat}{i j:Nat}{u:Value}(h:a≠b):(W.setCell ⟨a,i,none⟩ u).cell? ⟨b,j,none⟩=W.cell? ⟨b,j,none⟩:=World.cell?_of_block (w:=W) (a:=⟨b,j,none⟩) (Below.heap_setCell _ _ _ _ (fun e=>h e.symm))
end Go.Proofs.YtachghaegokpdaaDoor
namespace Go.Proofs.YtachghaegokpdaaDoor
open Go.ChangeShapes Go.WideShapes Go.ChangeAt Go.RowKit Go.Shelf
theorem u8_info4:(Tryd.prog.info? 5).map (fun i=>(i.zero,i.size,i.bytes))=some (some (.int .u8 0),1,1):=by kernel_rfl
end Go.Proofs.YtachghaegokpdaaDoor
namespace Go.Proofs.YtachghaegokpdaaDoor
open Go.ChangeShapes Go.WideShapes Go.ChangeAt Go.RowKit Go.Shelf
theorem nil_yes (c:Nat)(W:World):(binOp .eql 22 (.slice none 0 c) (.slice none 0 0)).run Tryd.prog W=.ok (.bool true) W:=by kernel_rfl
theorem nil_no (q:Addr)(n c:Nat)(W:World):(binOp .eql 22 (.slice (some q) n c) (.slice none 0 0)).run Tryd.prog W=.ok (.bool false) W:=by kernel_rfl
set_option maxRecDepth 100000 in
set_option maxHeartbeats 8000000 in
theorem bclone_any (w:World)(p:Option Addr)(zs:List Int)(c:Nat)(h:Bytes w p zs)(hl:zs.length≤1000000) :
  Calls Tryd.prog 106 #[.slice p zs.length c] w fun e w'=>(∃ v,e=.returned v∧w'.ownsRow w.heap.size 5 1 v zs.length (u8Cells zs))∧Below w.heap.size w w':=by
 have HBB:=Lib.hid h
 cases p with
 | none =>
  have hz:zs=[]:=by
   rcases h0:zs with _|⟨z,t⟩
   · rfl
   · obtain ⟨b,o,hh,_⟩:=h.2 (by rw [h0];exact List.cons_ne_nil _ _)
     cases hh
  subst hz
  clear h HBB
  have e0:=nil_yes c
  go_enter Tryd.func106,Tryd.ntmps106
  go_wp2
  go_ret
  exact ⟨⟨_,rfl,World.ownsRow_nil _ _ _ _⟩,Below.refl _ _⟩
 | some q =>
  clear h
  have e0:=nil_no q zs.length c
  go_enter Tryd.func106,Tryd.ntmps106
  have HOWN0:=Lib.hid (own_blk (base:=w.heap.size) (n:=0) (size:=1) (heap_alloc_new w (.cells #[] 5)) (Nat.le_refl _) (by decide) rfl)
  have HA0:=Lib.hid ((Below.refl w.heap.size w).alloc (Nat.le_refl _) (.cells #[] 5))
  have HSRC:=Lib.hid (src_bytes HBB.out (fun p x hp=>cell_stays HA0.out hp) c)
  obtain ⟨i0,hi0,hzz0,hzz1,hzz2⟩:=info_parts u8_info4
  have I1:=Lib.hid hi0
  have I2:=Lib.hid hzz0
  have I3:=Lib.hid hzz1
  have I4:=Lib.hid hzz2
  clear hi0 hzz0 hzz1 hzz2
  go_wp2_with (at_builtin;refine wpList_append_first _ rfl (.tmp 5) (.tmp 6) 22 22 rfl w.heap.size 5 i0 _ 1 Tryd.underlying22 I1.out I2.out I3.out rfl _ rfl HOWN0.out _ zs.length (u8Cells zs) rfl HSRC.out (by unfold maxLen;omega) (by rw [I4.out];omega) (by simp) ?_;intro v4 W4 hown4 hg4 hat4;clear hat4;have HO4:=Lib.hid hown4;have HB4:=Lib.hid (HA0.out.grown hg4 (by simp) (fun k hk=>(ownsRow_lt HOWN0.out k hk).1));clear hown4 hg4)
  go_ret
  exact ⟨⟨_,rfl,HO4.out⟩,HB4.out⟩
end Go.Proofs.YtachghaegokpdaaDoor
namespace Go.Proofs.YtachghaegokpdaaDoor
open Go.ChangeShapes Go.WideShapes Go.ChangeAt Go.RowKit Go.Shelf
theorem own_put {W:World}{base sz n c K:Nat}{e:TypeId}{xs:List Value}(h:W.ownsRow base e sz (.slice (some ⟨K,0,none⟩) n c) n xs)(k:Nat)(u:Value):(W.setCell ⟨K,k,none⟩ u).ownsRow base e sz (.slice (some ⟨K,0,none⟩) n c) n (xs.set k u):=by
 obtain ⟨hl,h'⟩:=h
 refine ⟨by rw [List.length_set];exact hl,?_⟩
 rcases h' with ⟨h1,_⟩|⟨g,cap,cur,hv,hb,hg,hnc,hm,hs,ht⟩
 · cases h1
 · injection hv with h1 h2 h3
   injection h1 with h1
   injection h1 with h1 _ _
   subst h1 h3
   refine .inr ⟨K,c,cur.setIfInBounds k u,rfl,hb,blk_set hg k u,hnc,hm,by rw [Array.size_setIfInBounds];exact hs,?_⟩
   rw [Array.toList_setIfInBounds,List.take_set,ht]
theorem kvs_set:∀ (l:List KV) (i:Nat) (q:KV),i<l.length→((((kvsCells l).set (i * 4) q.c0).set (i * 4+1) q.c1).set (i * 4+2) q.c2).set (i * 4+3) q.c3=kvsCells (l.set i q)
 | [],_,_,h=>absurd h (Nat.not_lt_zero _)
 | p::l,0,q,_=>rfl
 | p::l,i+1,q,h=>by
  have ih:=kvs_set l i q (by simpa using h)
  have e:∀ k,(i+1) * 4+k=(i * 4+k)+4:=fun k=>by omega
  have e0:(i+1) * 4=i * 4+4:=by omega
  show ((((p.c0::p.c1::p.c2::p.c3::kvsCells l).set ((i+1) * 4) q.c0).set ((i+1) * 4+1) q.c1).set ((i+1) * 4+2) q.c2).set ((i+1) * 4+3) q.c3=p.c0::p.c1::p.c2::p.c3::kvsCells (l.set i q)
  rw [e0,show i * 4+4+1=i * 4+1+4 by omega,show i * 4+4+2=i * 4+2+4 by omega,show i * 4+4+3=i * 4+3+4 by omega]
  simp only [List.set_cons_succ]
  rw [ih]
end Go.Proofs.YtachghaegokpdaaDoor
namespace Go.Proofs.YtachghaegokpdaaDoor
open Go.ChangeShapes Go.WideShapes Go.ChangeAt Go.RowKit Go.Shelf
theorem blk_one {w:World}{g:Nat}{x:Value}{t:TypeId}(h:w.heap[g]?=some (.cells #[x] t (0,0))):g<w.heap.size∧w.cell? ⟨g,0,none⟩=some x∧w.frozen? ⟨g,0,none⟩=false:=
 ⟨blk_lt h,(blk_cell h 0).trans rfl,blk_frozen h 0⟩
def TreePost (w:World)(q:PV)(e:Ending)(w':World):Prop:=(∃ val,e=.returned (.tuple #[val,.bool true])∧VH (newS w.heap.size) w' q val)∧Below w.heap.size w w'
theorem pv_eq (q:PV):q=.mk q.num q.bytes q.kids q.has:=by cases q;rfl
theorem tree_end {w W:World}{q:PV}{val:Value}{R N:Nat}(hB:Below w.heap.size w W)(hR:w.heap.size≤R)(hN:R<N)(hv:VH (newS N) W q val)(x y z u:Value):VH (newS w.heap.size) (set4 W R x y z u) q val∧Below w.heap.size w (set4 W R x y z u):=
 ⟨hv.step (by rw [set4_size];exact Nat.le_refl _) (fun k hk hS=>by
  have h1:N≤k:=by unfold newS at hS;simpa using hS
  exact ⟨by unfold newS;simp;omega,set4_blk W (by omega) _ _ _ _⟩),below_set4 hB hR _ _ _ _⟩
theorem rowB_bytes {W:World}{base n cap:Nat}{A:Option Addr}{zs:List Int}(h:W.ownsRow base 5 1 (.slice A n cap) n (u8Cells zs))(hz:∀ z ∈ zs,0≤z∧z≤255):Bytes W A zs∧zs.length=n:=by
 obtain ⟨h1,h2⟩:=bytes_own (S:=fun _=>false) h hz (fun _ _=>rfl)
 exact ⟨Bytes.mono (by rw [hide_size];exact Nat.le_refl _) (fun p x hp=>(hide_some hp).2) h1,h2⟩
theorem bytes_mem {w:World}{p:Option Addr}{zs:List Int}(h:Bytes w p zs):∀ z ∈ zs,0≤z∧z≤255:=fun z hz=>by
 obtain ⟨i,hi,rfl⟩:=List.mem_iff_getElem.1 hz
 have h1:=h.1 i
 rw [List.getD,List.getElem?_eq_getElem hi,Option.getD_some] at h1
 exact h1
theorem val_infoT:(Tryd.prog.info? 49).map (fun i=>(i.zero,i.size,i.bytes))=some (some (.agg #[.int .u64 0,.slice none 0 0,.slice none 0 0,.bool false]),4,64):=by kernel_rfl
def nilKV:KV:=⟨nilV,.int .u64 0,.slice none 0 0,.slice none 0 0,.bool false⟩
theorem rowN_kv (n:Nat):rowN (List.replicate n 0)=kvsCells (List.replicate n nilKV):=by
 induction n with
 | zero=>rfl
 | succ n ih =>
  rw [List.replicate_succ,List.replicate_succ]
  show cellN 0++rowN (List.replicate n 0)=kvCells nilKV++kvsCells (List.replicate n nilKV)
  rw [ih]
  rfl
end Go.Proofs.YtachghaegokpdaaDoor
namespace Go.Proofs.YtachghaegokpdaaDoor
open Go.ChangeShapes Go.WideShapes Go.ChangeAt Go.RowKit Go.Shelf
def DfltsOk (es:List SCho)(fs:List CFld):Prop:=∀ f ∈ fs,(1≤f.kind∧f.kind≤13∧0≤f.lists)∧(sortP f.kind f.lists=1→fitsT es f.kind f.ref f.lists f.dflt=true)∧(sortP f.kind f.lists≠1→f.dflt=0)
end Go.Proofs.YtachghaegokpdaaDoor
