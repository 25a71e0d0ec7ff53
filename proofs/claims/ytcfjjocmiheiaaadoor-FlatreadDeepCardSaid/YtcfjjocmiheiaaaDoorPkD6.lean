/-
  A row of so many zeros that is made. Conditions: those that each theorem names.
-/
import Derived.Test.YtcfjjocmiheiaaaDoorPkD2
import Derived.Test.YtcfjjocmiheiaaaDoorPkD3
import Derived.Test.YtcfjjocmiheiaaaDoorPkD4
import Derived.Deep.Cut
import Derived.BigQuiet
import Derived.OwnWalk
import Derived.Deep.RegionHeld3
import Derived.Laws.MakeOwn
import Derived.StillTailTactics
namespace Go.Proofs.YtcfjjocmiheiaaaDoor
open Go.ChangeShapes Go.WideShapes Go.ChangeAt Go.RowKit Go.Shelf
def VFPost (ss:List (CRec × Value))(rec:Int)(w:World)(e:Ending)(w':World):Prop:=
 Below w.heap.size w w'∧((¬(0≤rec∧rec<ss.length)∧e=.returned (.tuple #[.slice none 0 0,.bool false]))∨(∃ (i:Nat) (hi:i<ss.length),rec=i∧e=.returned (.tuple #[(ss[i]'hi).2,.bool true])))
theorem vfields_any (w:World){base:Nat}{ss:List (CRec × Value)}{es:List (SCho × Value)}{sv ev:Value}(root rec:Int)(h:CRows base w ss es sv ev) :
  Calls Tryd.prog 107 #[.agg #[sv,ev,.int .i64 root],.int .i64 rec] w (VFPost ss rec w):=by
 obtain ⟨sa,sc,ea,ec,rfl,rfl⟩:=h.forms
 have h0:=heap_alloc_new w (.cells #[.slice sa ss.length sc,.slice ea es.length ec,.int .i64 root] 30)
 have hb:=(Below.refl w.heap.size w).alloc (Nat.le_refl _) (.cells #[.slice sa ss.length sc,.slice ea es.length ec,.int .i64 root] 30)
 have HB:=Lib.hid hb
 have HC:=Lib.hid (h.below hb)
 obtain ⟨_,x0,x1,x2,_⟩:=blk3 h0
 have hfew:=row_few h.structs
 clear h0 hb h
 by_cases hlo:rec<0
 · go_enter Tryd.func107,Tryd.ntmps107
   go_wp2
   exact bodyPost_ret (v:=.tuple #[.slice none 0 0,.bool false]) (by simp [results,Tryd.results107,go_sem]) rfl (by unfold VFPost;exact ⟨HB.out,.inl ⟨by omega,rfl⟩⟩)
 obtain ⟨i,rfl⟩:=Int.eq_ofNat_of_zero_le (by omega:0≤rec)
 by_cases hhi:ss.length≤i
 · have t0:(ss.length:Int)≤(i:Int):=by omega
   go_enter Tryd.func107,Tryd.ntmps107
   go_wp2
   exact bodyPost_ret (v:=.tuple #[.slice none 0 0,.bool false]) (by simp [results,Tryd.results107,go_sem]) rfl (by unfold VFPost;exact ⟨HB.out,.inl ⟨by omega,rfl⟩⟩)
 · have hil:i<ss.length:=by omega
   have t0:¬(ss.length:Int)≤(i:Int):=by omega
   have hib:(i:Int)<ss.length:=by omega
   have hib0:(0:Int)≤(i:Int):=by omega
   obtain ⟨g,cc,hv,hcc,hgl,hcell⟩:=row_el crecCells 2 (fun _=>rfl) HC.out.structs i hil
   obtain ⟨rfl,rfl⟩:=slice_inj hv
   have y1:(w.alloc (.cells #[.slice (some ⟨g,0,none⟩) ss.length sc,.slice ea es.length ec,.int .i64 root] 30)).cell? ⟨g,i * 2+1,none⟩=some ss[i].2:=hcell 1 (by omega)
   have hsl:=HC.out.fields _ (List.getElem_mem hil)
   obtain ⟨fa,fc,hf⟩:=ownsRow_form hsl
   have HF:=Lib.hid hf
   rw [hf] at y1
   clear hcell hv hsl hf
   generalize ss[i].1.fields.length=fl at *
   go_enter Tryd.func107,Tryd.ntmps107
   go_wp2
   exact bodyPost_ret (v:=.tuple #[.slice fa fl fc,.bool true]) (by simp [results,Tryd.results107,go_sem]) rfl (by unfold VFPost;exact ⟨HB.out,.inr ⟨i,hil,rfl,by rw [HF.out]⟩⟩)
def FldsOk (ss:List (CRec × Value)):Prop:=∀ q ∈ ss,∀ f ∈ q.1.fields,f.kind≤255 ∧ -9223372036854775800≤f.lists∧f.lists≤9223372036854775807∧f.dflt≤18446744073709551615
def KidsAt (w:World)(ks:List PV)(ka:Option Addr):Prop:=∀ i (hi:i<ks.length),∃ (kb ko:Nat) (u0 u1 u2 u3:Value),ka=some ⟨kb,ko,none⟩∧w.cell? ⟨kb,ko+i * 4,none⟩=some u0∧w.cell? ⟨kb,ko+i * 4+1,none⟩=some u1∧w.cell? ⟨kb,ko+i * 4+2,none⟩=some u2∧w.cell? ⟨kb,ko+i * 4+3,none⟩=some u3∧IsV w (ks[i]'hi) (.agg #[u0,u1,u2,u3])
theorem KidsAt.later {w W:World}{ks:List PV}{ka:Option Addr}(h:KidsAt w ks ka)(hb:Below w.heap.size w W):KidsAt W ks ka:=fun i hi=>by
 obtain ⟨kb,ko,u0,u1,u2,u3,h1,h2,h3,h4,h5,h6⟩:=h i hi
 exact ⟨kb,ko,u0,u1,u2,u3,h1,cell_stays hb h2,cell_stays hb h3,cell_stays hb h4,cell_stays hb h5,h6.later hb⟩
def kidOk (ss:List CRec)(es:List SCho)(room k:Nat)(ref lists:Int)(q:PV):Bool := !decide (room=0)&&(!(decide (sortP k lists=4) && !q.has)&&fitsP ss es (room-1) k ref lists q)
end Go.Proofs.YtcfjjocmiheiaaaDoor
namespace Go.Proofs.YtcfjjocmiheiaaaDoor
open Go.ChangeShapes Go.WideShapes Go.ChangeAt Go.RowKit Go.Shelf
theorem blk5 {w:World}{g:Nat}{x0 x1 x2 x3 x4:Value}{t:TypeId}(h:w.heap[g]?=some (.cells #[x0,x1,x2,x3,x4] t (0,0))) :
  g<w.heap.size∧w.cell? ⟨g,0,none⟩=some x0∧w.cell? ⟨g,1,none⟩=some x1∧w.cell? ⟨g,2,none⟩=some x2∧w.cell? ⟨g,3,none⟩=some x3∧w.cell? ⟨g,4,none⟩=some x4 ∧
   w.frozen? ⟨g,0,none⟩=false∧w.frozen? ⟨g,1,none⟩=false∧w.frozen? ⟨g,2,none⟩=false∧w.frozen? ⟨g,3,none⟩=false∧w.frozen? ⟨g,4,none⟩=false:=
 ⟨blk_lt h,(blk_cell h 0).trans rfl,(blk_cell h 1).trans rfl,(blk_cell h 2).trans rfl,(blk_cell h 3).trans rfl,(blk_cell h 4).trans rfl,blk_frozen h 0,blk_frozen h 1,blk_frozen h 2,blk_frozen h 3,blk_frozen h 4⟩
end Go.Proofs.YtcfjjocmiheiaaaDoor
namespace Go.Proofs.YtcfjjocmiheiaaaDoor
open Go.ChangeShapes Go.WideShapes Go.ChangeAt Go.RowKit Go.Shelf
def structP (ss:List CRec)(es:List SCho)(room:Nat)(rec:Int)(ks:List PV):Bool:=
 decide (0≤rec∧rec<ss.length)&&(!decide (room=0)&&(decide (ks.length=(ss.getD rec.toNat ⟨⟨#[]⟩,[]⟩).fields.length)&&fieldsP (fitsP ss es (room-1)) (ss.getD rec.toNat ⟨⟨#[]⟩,[]⟩).fields ks))
end Go.Proofs.YtcfjjocmiheiaaaDoor
namespace Go.Proofs.YtcfjjocmiheiaaaDoor
open Go.ChangeShapes Go.WideShapes Go.ChangeAt Go.RowKit Go.Shelf
theorem three_start (w:World)(a b c:Array Value)(s t u:TypeId):Below w.heap.size w (((w.alloc (.cells a s)).alloc (.cells b t)).alloc (.cells c u))∧(((w.alloc (.cells a s)).alloc (.cells b t)).alloc (.cells c u)).heap[w.heap.size]?=some (.cells a s (0,0))∧(((w.alloc (.cells a s)).alloc (.cells b t)).alloc (.cells c u)).heap[w.heap.size+1]?=some (.cells b t (0,0))∧(((w.alloc (.cells a s)).alloc (.cells b t)).alloc (.cells c u)).heap[w.heap.size+1+1]?=some (.cells c u (0,0)):=by
 obtain ⟨h1,h2,h3⟩:=two_start w a b s t
 refine ⟨h1.alloc (by simp only [World.size_alloc];omega) _,blk_alloc h2 _,blk_alloc h3 _,?_⟩
 have h:=heap_alloc_new ((w.alloc (.cells a s)).alloc (.cells b t)) (.cells c u)
 rw [World.size_alloc,World.size_alloc] at h
 exact h
theorem fitsP_eq (ss:List CRec)(es:List SCho)(room k:Nat)(ref lists:Int)(v:PV):fitsP ss es room k ref lists v=(bareP (sortP k lists) v &&
  (if sortP k lists=1 then fitsT es k ref lists v.num else if sortP k lists=2 then decide (k=12)||decide (u8At v.bytes 0<0)
   else if sortP k lists=3 then v.kids.all (kidOk ss es room k ref (lists-1)) else if sortP k lists=4 then !v.has||structP ss es room ref v.kids else false)):=by
 cases room with
 | zero =>
  show fitsV1 ss es none k ref lists v=_
  unfold fitsV1
  congr 1
  have h1:decide (v.kids.length=0)=v.kids.all (kidOk ss es 0 k ref (lists-1)):=by
   cases v.kids with
   | nil=>rfl
   | cons a l=>simp [kidOk]
  have h2:structP ss es 0 ref v.kids=false:=by unfold structP;simp
  rw [h2,←h1]
 | succ r =>
  have h2:structP ss es (r+1) ref v.kids=(decide (0≤ref∧ref<ss.length)&&(decide (v.kids.length=(ss.getD ref.toNat ⟨⟨#[]⟩,[]⟩).fields.length)&&fieldsP (fitsP ss es r) (ss.getD ref.toNat ⟨⟨#[]⟩,[]⟩).fields v.kids)):=by unfold structP;simp
  show fitsV1 ss es (some (fitsP ss es r)) k ref lists v=_
  unfold fitsV1
  rw [h2]
  rfl
end Go.Proofs.YtcfjjocmiheiaaaDoor
namespace Go.Proofs.YtcfjjocmiheiaaaDoor
open Go.ChangeShapes Go.WideShapes Go.ChangeAt Go.RowKit Go.Shelf
theorem vtext_any (a:Option Addr)(cap n:Nat)(zs:List Int)(w:World)(hT:Tabs w)(hz:Bytes w a zs)(hn:zs.length=n)(hl:(n:Int)≤9223372036854775807)(hcap:n≤cap) :
  Calls Tryd.prog 84 #[.slice a n cap] w fun e w'=>e=.returned (.bool (decide (u8At zs 0<0)))∧Below w.heap.size w w':=by
 have HU:=Lib.hid (rutf8_gen a cap n zs w hT hz hn hl hcap)
 have hr:=u8At_range zs 0
 generalize u8At zs 0=z at *
 clear hT hz hn hl hcap
 go_enter Tryd.func84,Tryd.ntmps84
 go_wp2_with fail
 refine HU.out.mono ?_
 rintro e W1 ⟨rfl,hb⟩
 have HB:=Lib.hid hb
 clear hb
 go_wp2
 go_ret
 exact ⟨rfl,HB.out⟩
end Go.Proofs.YtcfjjocmiheiaaaDoor
namespace Go.Proofs.YtcfjjocmiheiaaaDoor
open Go.ChangeShapes Go.WideShapes Go.ChangeAt Go.RowKit Go.Shelf
theorem own_blk {w:World}{base g n size:Nat}{e:TypeId}{cs:Array Value}(hg:w.heap[g]?=some (.cells cs e (0,0)))(hb:base≤g)(hm:n≤maxLen)(hs:cs.size=n * size):w.ownsRow base e size (.slice (some ⟨g,0,none⟩) n n) n cs.toList:=
 ⟨by simpa using hs,.inr ⟨g,n,cs,rfl,hb,hg,Nat.le_refl _,hm,hs,List.take_of_length_le (by rw [Array.length_toList,hs];exact Nat.le_refl _)⟩⟩
theorem four_blk (w:World)(a b c d:Array Value)(r s t u:TypeId):Below w.heap.size w ((((w.alloc (.cells a r)).alloc (.cells b s)).alloc (.cells c t)).alloc (.cells d u)) ∧
  ((((w.alloc (.cells a r)).alloc (.cells b s)).alloc (.cells c t)).alloc (.cells d u)).heap[w.heap.size]?=some (.cells a r (0,0)) ∧
  ((((w.alloc (.cells a r)).alloc (.cells b s)).alloc (.cells c t)).alloc (.cells d u)).heap[w.heap.size+1]?=some (.cells b s (0,0)) ∧
  ((((w.alloc (.cells a r)).alloc (.cells b s)).alloc (.cells c t)).alloc (.cells d u)).heap[w.heap.size+2]?=some (.cells c t (0,0)) ∧
  ((((w.alloc (.cells a r)).alloc (.cells b s)).alloc (.cells c t)).alloc (.cells d u)).heap[w.heap.size+3]?=some (.cells d u (0,0)):=by
 obtain ⟨h1,h2,h3⟩:=two_start w a b r s
 obtain ⟨h4,h5,h6⟩:=two_start ((w.alloc (.cells a r)).alloc (.cells b s)) c d t u
 have e:((w.alloc (.cells a r)).alloc (.cells b s)).heap.size=w.heap.size+2:=by simp
 rw [e] at h5 h6
 exact ⟨h1.trans (h4.mono h1.size),blk_below h2 h4 (blk_lt h2),blk_below h3 h4 (blk_lt h3),h5,h6⟩
end Go.Proofs.YtcfjjocmiheiaaaDoor
namespace Go.Proofs.YtcfjjocmiheiaaaDoor
open Go.ChangeShapes Go.WideShapes Go.ChangeAt Go.RowKit Go.Shelf
def deepV (lists:Bool):Nat→PV
 | 0=>.mk 0 [] [nilV] true
 | k+1=>if lists=true then .mk 0 [] [.mk 0 [] [deepV lists k] false] true else .mk 0 [] [deepV lists k] true
def deepF (l:Int):List CFld:=[⟨⟨#[120]⟩,13,0,l,0⟩]
theorem five_blk (w:World)(a b c d e:Array Value)(r s t u x:TypeId):Below w.heap.size w (((((w.alloc (.cells a r)).alloc (.cells b s)).alloc (.cells c t)).alloc (.cells d u)).alloc (.cells e x)) ∧
  (((((w.alloc (.cells a r)).alloc (.cells b s)).alloc (.cells c t)).alloc (.cells d u)).alloc (.cells e x)).heap[w.heap.size]?=some (.cells a r (0,0)) ∧
  (((((w.alloc (.cells a r)).alloc (.cells b s)).alloc (.cells c t)).alloc (.cells d u)).alloc (.cells e x)).heap[w.heap.size+1]?=some (.cells b s (0,0)) ∧
  (((((w.alloc (.cells a r)).alloc (.cells b s)).alloc (.cells c t)).alloc (.cells d u)).alloc (.cells e x)).heap[w.heap.size+1+1]?=some (.cells c t (0,0)) ∧
  (((((w.alloc (.cells a r)).alloc (.cells b s)).alloc (.cells c t)).alloc (.cells d u)).alloc (.cells e x)).heap[w.heap.size+1+1+1]?=some (.cells d u (0,0)) ∧
  (((((w.alloc (.cells a r)).alloc (.cells b s)).alloc (.cells c t)).alloc (.cells d u)).alloc (.cells e x)).heap[w.heap.size+1+1+1+1]?=some (.cells e x (0,0)) ∧
  w.heap.size+1+1+1+1+1=(((((w.alloc (.cells a r)).alloc (.cells b s)).alloc (.cells c t)).alloc (.cells d u)).alloc (.cells e x)).heap.size:=by
 obtain ⟨h0,h1,h2,h3,h4⟩:=four_blk w a b c d r s t u
 have hs:((((w.alloc (.cells a r)).alloc (.cells b s)).alloc (.cells c t)).alloc (.cells d u)).heap.size=w.heap.size+1+1+1+1:=by simp
 have h5:=heap_alloc_new ((((w.alloc (.cells a r)).alloc (.cells b s)).alloc (.cells c t)).alloc (.cells d u)) (.cells e x)
 rw [hs] at h5
 exact ⟨h0.alloc h0.size _,blk_alloc h1 _,blk_alloc h2 _,blk_alloc h3 _,blk_alloc h4 _,h5,by simp⟩
theorem exc_set4 (w:World)(g:Nat)(x y z u:Value):Exc g w.heap.size w ((((w.setCell ⟨g,0,none⟩ x).setCell ⟨g,1,none⟩ y).setCell ⟨g,2,none⟩ z).setCell ⟨g,3,none⟩ u):=
 (((((Exc.refl g _ w).setCell (p:=⟨g,0,none⟩) (.inl rfl) x).setCell (p:=⟨g,1,none⟩) (.inl rfl) y).setCell (p:=⟨g,2,none⟩) (.inl rfl) z).setCell (p:=⟨g,3,none⟩) (.inl rfl) u)
def VDAt (m V:Nat)(W4:World)(lists:Bool)(x:Value)(W:World):Prop:=∃ j M:Nat,j≤m∧x=.int .i64 j∧W.heap[V]?=some (.cells #[.int .u64 0,.slice none 0 0,.slice (some ⟨M,0,none⟩) 1 1,.bool true] 36 (0,0)) ∧
 VH (fun k=>k==V) W (deepV lists j) (.agg #[.int .u64 0,.slice none 0 0,.slice (some ⟨M,0,none⟩) 1 1,.bool true])∧Exc V W4.heap.size W4 W
theorem vd_start (m:Nat){V M:Nat}{W:World}{lists:Bool}(hV:W.heap[V]?=some (.cells #[.int .u64 0,.slice none 0 0,.slice (some ⟨M,0,none⟩) 1 1,.bool true] 36 (0,0)))(hM:W.heap[M]?=some (.cells #[.int .u64 0,.slice none 0 0,.slice none 0 0,.bool false] 36 (0,0)))(hne:M≠V):VDAt m V W lists (.int .i64 ((0:Nat):Int)) W:=
 ⟨0,M,Nat.zero_le _,rfl,hV,vh_box (vh_nil _ W) hM (by simp [hne]) true,Exc.refl _ _ _⟩
def set4 (w:World)(g:Nat)(x y z u:Value):World:=(((w.setCell ⟨g,0,none⟩ x).setCell ⟨g,1,none⟩ y).setCell ⟨g,2,none⟩ z).setCell ⟨g,3,none⟩ u
theorem set4_size (w:World)(g:Nat)(x y z u:Value):(set4 w g x y z u).heap.size=w.heap.size:=by simp [set4,World.setCell]
theorem vd_next {m V j M:Nat}{W4 wr:World}(hj:j+1≤m)(h4:W4.heap.size≤wr.heap.size)(hV:wr.heap[V]?=some (.cells #[.int .u64 0,.slice none 0 0,.slice (some ⟨M,0,none⟩) 1 1,.bool true] 36 (0,0)))
  (hvh:VH (fun k=>k==V) wr (deepV false j) (.agg #[.int .u64 0,.slice none 0 0,.slice (some ⟨M,0,none⟩) 1 1,.bool true])) (hb:Exc V W4.heap.size W4 wr) :
  VDAt m V W4 false (.int .i64 ((j+1:Nat):Int)) ((set4 wr V (.int .u64 0) (.slice none 0 0) (.slice (some ⟨wr.heap.size,0,none⟩) 1 1) (.bool true)).alloc (.cells #[.int .u64 0,.slice none 0 0,.slice (some ⟨M,0,none⟩) 1 1,.bool true] 36)):=by
 have hlt:=blk_lt hV
 have hs:=exc_set4 wr V (.int .u64 0) (.slice none 0 0) (.slice (some ⟨wr.heap.size,0,none⟩) 1 1) (.bool true)
 have hn:=heap_alloc_new (set4 wr V (.int .u64 0) (.slice none 0 0) (.slice (some ⟨wr.heap.size,0,none⟩) 1 1) (.bool true)) (.cells #[.int .u64 0,.slice none 0 0,.slice (some ⟨M,0,none⟩) 1 1,.bool true] 36)
 rw [set4_size] at hn
 refine ⟨j+1,wr.heap.size,hj,rfl,blk_alloc (blk_set4 hV _ _ _ _) _,?_,(hb.thenB (Nat.le_refl _) hs).alloc (Nat.le_trans h4 hs.size) _⟩
 exact vh_box (S:=fun k=>k==V) ((hvh.exc hs (by simp)).alloc _) hn (by simp;omega) true
theorem vd_nextL {m V j M:Nat}{W4 wr:World}(hj:j+1≤m)(h4:W4.heap.size≤wr.heap.size)(hV:wr.heap[V]?=some (.cells #[.int .u64 0,.slice none 0 0,.slice (some ⟨M,0,none⟩) 1 1,.bool true] 36 (0,0)))
  (hvh:VH (fun k=>k==V) wr (deepV true j) (.agg #[.int .u64 0,.slice none 0 0,.slice (some ⟨M,0,none⟩) 1 1,.bool true])) (hb:Exc V W4.heap.size W4 wr) :
  VDAt m V W4 true (.int .i64 ((j+1:Nat):Int)) (((set4 wr V (.int .u64 0) (.slice none 0 0) (.slice (some ⟨wr.heap.size+1,0,none⟩) 1 1) (.bool true)).alloc (.cells #[.int .u64 0,.slice none 0 0,.slice (some ⟨M,0,none⟩) 1 1,.bool true] 36)).alloc (.cells #[.int .u64 0,.slice none 0 0,.slice (some ⟨wr.heap.size,0,none⟩) 1 1,.bool false] 36)):=by
 have hlt:=blk_lt hV
 have hs:=exc_set4 wr V (.int .u64 0) (.slice none 0 0) (.slice (some ⟨wr.heap.size+1,0,none⟩) 1 1) (.bool true)
 have hn:=heap_alloc_new (set4 wr V (.int .u64 0) (.slice none 0 0) (.slice (some ⟨wr.heap.size+1,0,none⟩) 1 1) (.bool true)) (.cells #[.int .u64 0,.slice none 0 0,.slice (some ⟨M,0,none⟩) 1 1,.bool true] 36)
 have hn2:=heap_alloc_new ((set4 wr V (.int .u64 0) (.slice none 0 0) (.slice (some ⟨wr.heap.size+1,0,none⟩) 1 1) (.bool true)).alloc (.cells #[.int .u64 0,.slice none 0 0,.slice (some ⟨M,0,none⟩) 1 1,.bool true] 36)) (.cells #[.int .u64 0,.slice none 0 0,.slice (some ⟨wr.heap.size,0,none⟩) 1 1,.bool false] 36)
 rw [set4_size] at hn
 rw [World.size_alloc,set4_size] at hn2
 have hz:=Nat.le_trans h4 hs.size
 refine ⟨j+1,wr.heap.size+1,hj,rfl,blk_alloc (blk_alloc (blk_set4 hV _ _ _ _) _) _,?_,((hb.thenB (Nat.le_refl _) hs).alloc hz _).alloc (by rw [World.size_alloc];exact Nat.le_succ_of_le hz) _⟩
 exact vh_box (S:=fun k=>k==V) ((vh_box (S:=fun k=>k==V) ((hvh.exc hs (by simp)).alloc _) hn (by simp;omega) false).alloc _) hn2 (by simp;omega) true
end Go.Proofs.YtcfjjocmiheiaaaDoor
namespace Go.Proofs.YtcfjjocmiheiaaaDoor
open Go.ChangeShapes Go.WideShapes Go.ChangeAt Go.RowKit Go.Shelf
def numV (n:Nat):PV:=.mk n [] [] false
def dfltN (f:CFld):Nat:=if sortP f.kind f.lists=1 then f.dflt else 0
def cellN (n:Nat):List Value:=[.int .u64 n,.slice none 0 0,.slice none 0 0,.bool false]
def rowN (l:List Nat):List Value:=l.flatMap cellN
theorem rowN_at (l:List Nat)(k:Nat)(hk:k<l.length)(j:Nat)(hj:j<4):(rowN l)[k * 4+j]?=(cellN l[k])[j]?:=flat_at cellN 4 (fun _=>rfl) l k hk j hj
theorem rowN_len (l:List Nat):(rowN l).length=l.length * 4:=by
 induction l with
 | nil=>rfl
 | cons a r ih =>
  have e:rowN (a::r)=cellN a++rowN r:=rfl
  have e4:(cellN a).length=4:=rfl
  rw [e,List.length_append,ih,e4,List.length_cons]
  omega
theorem isV_num (w:World)(n:Nat)(h:n≤18446744073709551615):IsV w (numV n) (.agg #[.int .u64 n,.slice none 0 0,.slice none 0 0,.bool false]):=
 .mk n [] [] false none none 0 0 0 0 (fun _=>.bool false) (fun _=>.bool false) (fun _=>.bool false) (fun _=>.bool false) h (bytes_nil w) (Nat.le_refl _) (by decide) (Nat.le_refl _) (by decide) (fun h=>absurd rfl h) (fun i hi=>absurd hi (Nat.not_lt_zero i)) (fun i hi=>absurd hi (Nat.not_lt_zero i))
theorem val_info:(Tryd.prog.info? 36).map (fun i=>(i.zero,i.size,i.bytes))=some (some (.agg #[.int .u64 0,.slice none 0 0,.slice none 0 0,.bool false]),4,64):=by kernel_rfl
theorem made_vals (n:Nat):madeCells (Value.agg #[.int .u64 0,.slice none 0 0,.slice none 0 0,.bool false]).cells (n * 4)=(rowN (List.replicate n 0)).toArray:=by
 apply Array.ext'
 apply List.ext_getElem?
 intro k
 have hrow:(rowN (List.replicate n 0)).length=n * 4:=by rw [rowN_len,List.length_replicate]
 simp only [madeCells,Array.toList_map,Array.toList_range,List.getElem?_map]
 by_cases hk:k<n * 4
 · have h1:(rowN (List.replicate n 0))[(k / 4) * 4+k % 4]?=_:=rowN_at (List.replicate n 0) (k / 4) (by rw [List.length_replicate];omega) (k % 4) (by omega)
   rw [show (k / 4) * 4+k % 4=k by omega,List.getElem_replicate] at h1
   rw [List.getElem?_range hk,Option.map_some,h1]
   show some ((#[Value.int .u64 0,.slice none 0 0,.slice none 0 0,.bool false])[k % 4]!)=_
   have h4:k % 4=0∨k % 4=1∨k % 4=2∨k % 4=3:=by omega
   rcases h4 with h|h|h|h<;>rw [h]<;>rfl
 · rw [List.getElem?_eq_none (by rw [List.length_range];omega),List.getElem?_eq_none (by rw [hrow];omega)]
   rfl
theorem make_vals (n:Nat)(hn:n≤1000000)(W:World):(Instr.makeSlice 34 (.int .i64 (n:Int)) (.int .i64 (n:Int))).run Tryd.prog W=.ok (.slice (some ⟨W.heap.size,0,none⟩) n n) (W.alloc (.cells (rowN (List.replicate n 0)).toArray 36)):=by
 obtain ⟨i,hi,hz,hs,hb⟩:=info_parts val_info
 have h:=run_make W 34 36 i (.agg #[.int .u64 0,.slice none 0 0,.slice none 0 0,.bool false]) Tryd.underlying34 hi hz .i64 .i64 n n (by omega) (Int.le_refl _) (by rw [hb];omega) (by omega)
 rw [hs,Int.toNat_natCast,made_vals] at h
 exact h
theorem take_set (fs:List CFld)(j d:Nat)(hj:j<fs.length):((fs.take j).map dfltN++List.replicate (fs.length-j) 0).set j d=(fs.take j).map dfltN++d::List.replicate (fs.length-(j+1)) 0:=by
 have hl:((fs.take j).map dfltN).length=j:=by rw [List.length_map,List.length_take];omega
 rw [List.set_append_right _ _ (by rw [hl];exact Nat.le_refl _),hl,Nat.sub_self,show fs.length-j=(fs.length-(j+1))+1 by omega,List.replicate_succ,List.set_cons_zero]
end Go.Proofs.YtcfjjocmiheiaaaDoor
namespace Go.Proofs.YtcfjjocmiheiaaaDoor
open Go.ChangeShapes Go.WideShapes Go.ChangeAt Go.RowKit Go.Shelf
def noSF:SFld:=⟨⟨#[]⟩,0,0,0,0⟩
theorem i64_set (l:List Int)(k:Nat)(z:Int):(i64Cells l).toArray.setIfInBounds k (.int .i64 z)=(i64Cells (l.set k z)).toArray:=by
 rw [i64Cells_map,i64Cells_map,List.map_set]
 simp
theorem i64_zeros (n:Nat):(i64Cells (List.replicate n 0))=List.replicate n (.int .i64 0):=by rw [i64Cells_map];simp
end Go.Proofs.YtcfjjocmiheiaaaDoor
namespace Go.Proofs.YtcfjjocmiheiaaaDoor
open Go.ChangeShapes Go.WideShapes Go.ChangeAt Go.RowKit Go.Shelf
def crow (ss:List (SRec × Value)):List (CRec × Value):=ss.map fun q=>(cR q.1,q.2)
theorem crow_length (ss:List (SRec × Value)):(crow ss).length=ss.length:=List.length_map _
theorem crow_fst (ss:List (SRec × Value)):(crow ss).map Prod.fst=(ss.map Prod.fst).map cR:=by
 unfold crow
 rw [List.map_map,List.map_map]
 rfl
end Go.Proofs.YtcfjjocmiheiaaaDoor
namespace Go.Proofs.YtcfjjocmiheiaaaDoor
open Go.ChangeShapes Go.WideShapes Go.ChangeAt Go.RowKit Go.Shelf
theorem int_info:(Tryd.prog.info? 3).map (fun i=>(i.zero,i.size,i.bytes))=some (some (.int .i64 0),1,8):=by kernel_rfl
theorem made_zerosI (n:Nat):madeCells (Value.int .i64 0).cells (n * 1)=(i64Cells (List.replicate n 0)).toArray:=by
 rw [i64_zeros]
 apply Array.ext'
 apply List.ext_getElem?
 intro k
 simp only [madeCells,Array.toList_map,Array.toList_range,Nat.mul_one,List.getElem?_map,List.getElem?_replicate]
 by_cases hk:k<n
 · rw [List.getElem?_range hk,if_pos hk,Option.map_some]
   show some (#[Value.int .i64 0][k % 1]!)=_
   rw [Nat.mod_one]
   rfl
 · rw [List.getElem?_eq_none (by simp;omega),if_neg hk]
   rfl
theorem make_ints (n:Nat)(hn:n≤1000000)(W:World):(Instr.makeSlice 63 (.int .i64 (n:Int)) (.int .i64 (n:Int))).run Tryd.prog W=.ok (.slice (some ⟨W.heap.size,0,none⟩) n n) (W.alloc (.cells (i64Cells (List.replicate n 0)).toArray 3)):=by
 obtain ⟨i,hi,hz,hs,hb⟩:=info_parts int_info
 have h:=run_make W 63 3 i (.int .i64 0) Tryd.underlying63 hi hz .i64 .i64 n n (by omega) (Int.le_refl _) (by rw [hb];omega) (by omega)
 rw [hs,Int.toNat_natCast,made_zerosI] at h
 exact h
end Go.Proofs.YtcfjjocmiheiaaaDoor
