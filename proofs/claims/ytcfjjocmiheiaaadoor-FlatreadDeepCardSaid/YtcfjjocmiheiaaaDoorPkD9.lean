/-
  The document's Default: of a struct in memory. Conditions: those that each theorem names.
-/
import Derived.Test.YtcfjjocmiheiaaaDoorPkD2
import Derived.Test.YtcfjjocmiheiaaaDoorPkD3
import Derived.Test.YtcfjjocmiheiaaaDoorPkD5
import Derived.Test.YtcfjjocmiheiaaaDoorPkD6
import Derived.BigQuiet
import Derived.Test.YtcfjjocmiheiaaaDoorRows
import Derived.WalkKit
import Derived.ProofKit
import Derived.OpenShut
import Derived.ShutString
import Derived.ChangeOld
import Derived.Below
import Derived.WalkLawsBesides
import Derived.WalkSpells
import Derived.Lib.Hide
import Derived.Outline
import Derived.Handy
import Derived.Deep.Cut
import Derived.Deep.RegionHeld3
import Derived.StillTailTactics
namespace Go.Proofs.YtcfjjocmiheiaaaDoor
open Go.ChangeShapes Go.WideShapes Go.ChangeAt Go.RowKit Go.Shelf
structure Src (g:Nat)(a:Option Addr)(bs:List Int)(bc:Nat)(W:World)(i:Nat):Prop where
 blk:W.heap[g]?=some (.cells #[.slice a bs.length bc,.int .i64 i] 92 (0,0))
 le:i≤bs.length
 byt:Bytes W a bs
 low:bs≠[]→∀ b off,a=some ⟨b,off,none⟩→b≠g
 len:(bs.length:Int)≤9223372036854775807
 cap:bs.length≤bc
theorem Src.below {g:Nat}{a:Option Addr}{bs:List Int}{bc:Nat}{W W':World}{i:Nat}(h:Src g a bs bc W i)(hb:Below W.heap.size W W'):Src g a bs bc W' i:=
 ⟨blk_below h.blk hb (blk_lt h.blk),h.le,h.byt.below (Nat.le_refl _) hb,h.low,h.len,h.cap⟩
theorem Bytes.exc {w w':World}{R B:Nat}{a:Option Addr}{bs:List Int}(h:Bytes w a bs)(hb:Exc R B w w')(hB:w.heap.size≤B)(hR:bs≠[]→∀ b off,a=some ⟨b,off,none⟩→b≠R):Bytes w' a bs:=by
 refine ⟨h.1,fun hne=>?_⟩
 obtain ⟨b,off,rfl,hlt,hc⟩:=h.2 hne
 exact ⟨b,off,rfl,Nat.lt_of_lt_of_le hlt hb.size,fun i hi=>(hb.cell (p:=⟨b,off+i,none⟩) (Nat.lt_of_lt_of_le hlt hB) (hR hne b off rfl)).trans (hc i hi)⟩
theorem Src.put {g:Nat}{a:Option Addr}{bs:List Int}{bc:Nat}{W:World}{i:Nat}(h:Src g a bs bc W i)(hi:i<bs.length):Src g a bs bc (W.setCell ⟨g,1,none⟩ (.int .i64 ((i:Int)+1))) (i+1):=
 ⟨blk_set h.blk 1 _,hi,h.byt.exc (exc_set W g 1 _) (Nat.le_refl _) h.low,h.low,h.len,h.cap⟩
end Go.Proofs.YtcfjjocmiheiaaaDoor
namespace Go.Proofs.YtcfjjocmiheiaaaDoor
open Go.ChangeShapes Go.WideShapes Go.ChangeAt Go.RowKit Go.Shelf
structure TyM (n:Nat)(es:List SCho)(k r l:Nat):Prop where
 lo:1≤k
 hi:k≤13
 li:l≤3
 en:k=10→r<es.length∧1≤cntE es r
 st:k=13→r<n
def SchM (ss:List (SRec × Value))(es:List SCho):Prop:=ss.length≤16∧∀ q ∈ ss,q.1.fields.length≤16∧∀ f ∈ q.1.fields,TyM ss.length es f.kind f.ref f.lists∧(f.dflt:Int)≤18446744073709551615∧(f.lists=0→f.kind≤10→fitsT es f.kind f.ref 0 f.dflt=true)
def newS (B:Nat):Nat→Bool:=fun k=>decide (k<B)
inductive SmallV:PV→Prop
 | mk (n:Nat) (bs:List Int) (ks:List PV) (h:Bool) (hb:bs.length≤100) (hk:ks.length≤100) (hs:∀ q ∈ ks,SmallV q):SmallV (.mk n bs ks h)
inductive Wt:PV→Nat→Prop
 | mk (n:Nat) (bs:List Int) (ks:List PV) (h:Bool) (ms:List Nat) (hl:ms.length=ks.length) (hs:∀ j (hj:j<ks.length),Wt ks[j] (ms.getD j 0)) (m:Nat) (hm:1+bs.length+ms.sum≤m):Wt (.mk n bs ks h) m
theorem Wt.mono {v:PV}{m m':Nat}(h:Wt v m)(hm:m≤m'):Wt v m':=by
 cases h with
 | mk n bs ks h ms hl hs _ hb=>exact .mk n bs ks h ms hl hs _ (by omega)
def WtL (ks:List PV)(m:Nat):Prop:=∃ ms:List Nat,ms.length=ks.length∧(∀ j (hj:j<ks.length),Wt ks[j] (ms.getD j 0))∧ms.sum≤m
theorem WtL.nil:WtL [] 0:=⟨[],rfl,fun _ hj=>absurd hj (Nat.not_lt_zero _),Nat.le_refl _⟩
theorem WtL.val {ks:List PV}{m:Nat}(h:WtL ks m)(n:Nat)(bs:List Int)(has:Bool):Wt (.mk n bs ks has) (1+bs.length+m):=by
 obtain ⟨ms,hl,hs,hm⟩:=h
 exact .mk n bs ks has ms hl hs _ (by omega)
def WtIn (sure:Bool)(n i i':Nat)(v:PV):Prop:=∃ m,Wt v m∧m≤1700+1700 * (i'-i)∧(sure=false∨i<n→m≤101+1700 * (i'-i))
theorem WtIn.bytes {sure:Bool}{n i i' k:Nat}{zs:List Int}{h:Bool}(hz:zs.length≤100):WtIn sure n i i' (.mk k zs [] h):=⟨1+zs.length+0,WtL.nil.val k zs h,by omega,fun _=>by omega⟩
theorem vh_num (S:Nat→Bool)(w:World)(n:Nat)(hn:(n:Int)≤18446744073709551615):VH S w (numV n) (.agg #[.int .u64 n,.slice none 0 0,.slice none 0 0,.bool false]):=isV_num _ n (by omega)
theorem k_size {k:Nat}(h1:1≤k)(h2:k≤10):0<kSize k:=by
 have hk:k=1∨k=2∨k=3∨k=4∨k=5∨k=6∨k=7∨k=8∨k=9∨k=10:=by omega
 rcases hk with rfl|rfl|rfl|rfl|rfl|rfl|rfl|rfl|rfl|rfl<;>decide
theorem exc_put4 {g B R:Nat}{a w:World}(h:Exc g B a w)(hR:B≤R)(x y z u:Value):Exc g B a (set4 w R x y z u):=
 ((((h.setCell (p:=⟨R,0,none⟩) (.inr hR) x).setCell (p:=⟨R,1,none⟩) (.inr hR) y).setCell (p:=⟨R,2,none⟩) (.inr hR) z).setCell (p:=⟨R,3,none⟩) (.inr hR) u)
theorem Src.at {g:Nat}{a:Option Addr}{bs:List Int}{bc:Nat}{w W Wf:World}{i j:Nat}(h:Src g a bs bc w i)(hx:Exc g w.heap.size w Wf)(h2:Src g a bs bc W j)(hb:Wf.heap[g]?=W.heap[g]?):Src g a bs bc Wf j:=
 ⟨hb.trans h2.blk,h2.le,h.byt.exc hx (Nat.le_refl _) h.low,h.low,h.len,h.cap⟩
theorem set4_blk {g R:Nat}(w:World)(hR:g≠R)(x y z u:Value):(set4 w R x y z u).heap[g]?=w.heap[g]?:=
 (Below.heap_setCell _ _ _ _ hR).trans ((Below.heap_setCell _ _ _ _ hR).trans ((Below.heap_setCell _ _ _ _ hR).trans (Below.heap_setCell _ _ _ _ hR)))
theorem stepV {g O B sz n m:Nat}{w0 wr W2 W8:World}{cs:Array Value}{t e:TypeId}{v v4:Value}{xs xs':List Value}(j:Nat)(hx:Exc g B w0 wr)(hB:B≤O)(hO:wr.heap[O]?=some (.cells cs t (0,0)))(hrow:wr.ownsRow (O+1) e sz v n xs)(h2:Below wr.heap.size wr W2)
  (hg:W2.grownBy W8 v.ownBlock) (ho:W8.ownsRow (O+1) e sz v4 m xs') :
  Exc g B w0 (W8.setCell ⟨O,j,none⟩ v4)∧(W8.setCell ⟨O,j,none⟩ v4).heap[O]?=some (.cells (cs.setIfInBounds j v4) t (0,0))∧(W8.setCell ⟨O,j,none⟩ v4).ownsRow (O+1) e sz v4 m xs'∧W8.heap[O]?=some (.cells cs t (0,0))∧∀ k,k<O→(W8.setCell ⟨O,j,none⟩ v4).heap[k]?=wr.heap[k]?:=by
 have hlt:=blk_lt hO
 have hrest:∀ k,k≤O→W8.heap[k]?=wr.heap[k]?:=fun k hk=>(hg.block k (Nat.lt_of_lt_of_le (by omega) h2.size) (fun e=>by have:=(ownsRow_lt hrow k e.symm).1;omega)).trans (h2.block k (by omega))
 have hO8:W8.heap[O]?=some (.cells cs t (0,0)):=(hrest O (Nat.le_refl _)).trans hO
 exact ⟨((hx.trans ((Exc.of_below h2).mono (by omega))).grown hg (by have:=h2.size;omega) (fun k hk=>by have:=(ownsRow_lt hrow k hk).1;omega)).setCell (p:=⟨O,j,none⟩) (.inr hB) v4,blk_set hO8 j v4,ownsRow_setCell_below ho (Nat.lt_succ_self O) v4,hO8,fun k hk=>(Below.heap_setCell _ _ _ _ (by show k≠O;omega)).trans (hrest k (by omega))⟩
def u8Cells (zs:List Int):List Value:=zs.map (.int .u8)
theorem bytes_own {S:Nat→Bool}{W:World}{base n:Nat}{A:Option Addr}{cap:Nat}{zs:List Int}(h:W.ownsRow base 5 1 (.slice A n cap) n (u8Cells zs))(hz:∀ z ∈ zs,0≤z∧z≤255)(hS:∀ k,base≤k→S k=false):Bytes (hideW S W) A zs∧zs.length=n:=by
 have hl:zs.length=n:=by have:=h.1;unfold u8Cells at this;rw [List.length_map] at this;omega
 refine ⟨⟨fun i=>?_,fun hne=>?_⟩,hl⟩
 · rcases Nat.lt_or_ge i zs.length with hi|hi
   · rw [List.getD,List.getElem?_eq_getElem hi,Option.getD_some]
     exact hz _ (List.getElem_mem hi)
   · rw [List.getD,List.getElem?_eq_none hi]
     exact ⟨by decide,by decide⟩
 · have h0:0<n:=by rw [←hl];exact List.length_pos_iff.2 hne
   obtain ⟨g,c,hv,hnc,hb,hgl,hcell⟩:=row_at h h0
   injection hv with hA _ _
   subst hA
   refine ⟨g,0,rfl,by rw [hide_size];exact hgl,fun i hi=>?_⟩
   rw [hide_cell S W _ (hS g hb),Nat.zero_add,hcell i (by omega)]
   unfold u8Cells
   rw [List.getElem?_map,List.getElem?_eq_getElem hi,List.getD,List.getElem?_eq_getElem hi]
   rfl
theorem row_cap {W:World}{base n sz cap:Nat}{e:TypeId}{A:Option Addr}{xs:List Value}(h:W.ownsRow base e sz (.slice A n cap) n xs):n≤cap:=by
 rcases h.2 with ⟨h1,h0⟩|⟨g,cap',cur,h1,hb,hg,hnc,hm,hs,ht⟩
 · injection h1;omega
 · injection h1;omega
theorem vh_bytes {S:Nat→Bool}{W:World}{base n cap:Nat}{A:Option Addr}{zs:List Int}(h:W.ownsRow base 5 1 (.slice A n cap) n (u8Cells zs))(hz:∀ z ∈ zs,0≤z∧z≤255)(hS:∀ k,base≤k→S k=false) :
  VH S W (.mk 0 zs [] false) (.agg #[.int .u64 0,.slice A n cap,.slice none 0 0,.bool false]):=by
 obtain ⟨hb,hl⟩:=bytes_own h hz hS
 have hc:=row_cap h
 have hf:=row_few h
 subst hl
 exact .mk 0 zs [] false A none cap 0 0 0 (fun _=>.bool false) (fun _=>.bool false) (fun _=>.bool false) (fun _=>.bool false) (by decide) hb hc (by omega) (Nat.le_refl _) (by decide) (fun h=>absurd rfl h) (fun i hi=>absurd hi (Nat.not_lt_zero i)) (fun i hi=>absurd hi (Nat.not_lt_zero i))
theorem own_set4 {W:World}{base sz n R:Nat}{e:TypeId}{v:Value}{xs:List Value}(h:W.ownsRow base e sz v n xs)(hR:R<base)(x y z u:Value):(set4 W R x y z u).ownsRow base e sz v n xs:=
 ownsRow_setCell_below (a:=⟨R,3,none⟩) (ownsRow_setCell_below (a:=⟨R,2,none⟩) (ownsRow_setCell_below (a:=⟨R,1,none⟩) (ownsRow_setCell_below (a:=⟨R,0,none⟩) h hR x) hR y) hR z) hR u
theorem row_other {W:World}{base P n sz:Nat}{e t:TypeId}{v:Value}{xs:List Value}{cs:Array Value}(h:W.ownsRow base e sz v n xs)(hP:W.heap[P]?=some (.cells cs t (0,0)))(hne:t≠e):v.ownBlock≠some P:=by
 rcases h.2 with ⟨rfl,_⟩|⟨k,cap,cur,rfl,hb,hk,_⟩
 · exact fun h=>by cases h
 · intro h
   injection h with h
   subst h
   rw [hk] at hP
   injection hP with hP
   injection hP with _ h2 _
   exact hne h2.symm
theorem keep4 {w:World}{g:Nat}{p:Addr}{v x0 x1 x2 x3:Value}(h:w.cell? p=some v)(hp:p.block≠g) :
  ((((w.setCell ⟨g,0,none⟩ x0).setCell ⟨g,1,none⟩ x1).setCell ⟨g,2,none⟩ x2).setCell ⟨g,3,none⟩ x3).cell? p=some v:=by
 have e:∀ (w:World) (i:Nat) (x:Value),(w.setCell ⟨g,i,none⟩ x).cell? p=w.cell? p:=fun w i x=>World.cell?_of_block (Below.heap_setCell _ _ _ _ hp)
 rw [e,e,e,e,h]
theorem vh_new {w W:World}{v:PV}{val:Value}{B B':Nat}(h:VH (newS B) w v val)(hB:B'≤B)(hs:w.heap.size≤W.heap.size)(hb:∀ k,k<w.heap.size→B≤k→W.heap[k]?=w.heap[k]?):VH (newS B') W v val:=
 h.step hs (fun k hk hS=>by
  have h1:B≤k:=by unfold newS at hS;simpa using hS
  exact ⟨by unfold newS;simp;omega,hb k hk h1⟩)
end Go.Proofs.YtcfjjocmiheiaaaDoor
namespace Go.Proofs.YtcfjjocmiheiaaaDoor
open Go.ChangeShapes Go.WideShapes Go.ChangeAt Go.RowKit Go.Shelf
set_option maxRecDepth 100000 in
set_option maxHeartbeats 4000000 in
theorem nothing_any (w:World)(name:ByteArray)(k:Nat)(ref lists:Int)(d:Nat) :
  Calls Tryd.prog 57 #[.agg #[.string name,.int .u8 k,.int .i64 ref,.int .i64 lists,.int .u64 d]] w fun e w'=>e=.returned (.agg #[.int .u64 d,.slice none 0 0,.slice none 0 0,.bool false])∧Below w.heap.size w w':=by
 obtain ⟨hb,hq1,hq2⟩:=two_start w #[.string name,.int .u8 k,.int .i64 ref,.int .i64 lists,.int .u64 d] #[.int .u64 0,.slice none 0 0,.slice none 0 0,.bool false] 52 36
 have HB:=Lib.hid hb
 have HQ2:=Lib.hid hq2
 obtain ⟨_,y0,y1,y2,y3,y4,_⟩:=blk5 hq1
 obtain ⟨_,z0,z1,z2,z3⟩:=blk4p hq2
 have z4:=blk_frozen hq2 0
 have z5:=blk_frozen hq2 1
 have z6:=blk_frozen hq2 2
 have z7:=blk_frozen hq2 3
 clear hb hq1 hq2
 go_enter Tryd.func57,Tryd.ntmps57
 go_upto_region 1 with (fail)
 generalize (w.alloc (.cells #[.string name,.int .u8 k,.int .i64 ref,.int .i64 lists,.int .u64 d] 52)).alloc (.cells #[.int .u64 0,.slice none 0 0,.slice none 0 0,.bool false] 36)=W0 at *
 go_wp2
 refine post_gen (fun Wf=>Wf.heap[w.heap.size+1]?=some (.cells #[.int .u64 d,.slice none 0 0,.slice none 0 0,.bool false] 36 (0,0))∧Below w.heap.size w Wf) ⟨?_,?_⟩ ?_
 · exact blk_set4 HQ2.out _ _ _ _
 · exact below_set4 HB.out (Nat.le_succ _) _ _ _ _
 · rintro Wf ⟨e1,e2⟩
   obtain ⟨_,d0,d1,d2,d3⟩:=blk4p e1
   exact bodyPost_ret (v:=.agg #[.int .u64 d,.slice none 0 0,.slice none 0 0,.bool false]) (by simp [results,Tryd.results57,go_sem,d0,d1,d2,d3]) rfl ⟨rfl,e2⟩
end Go.Proofs.YtcfjjocmiheiaaaDoor
namespace Go.Proofs.YtcfjjocmiheiaaaDoor
open Go.ChangeShapes Go.WideShapes Go.ChangeAt Go.RowKit Go.Shelf
theorem cell_other {W:World}{a b:Nat}{i j:Nat}{u:Value}(h:a≠b):(W.setCell ⟨a,i,none⟩ u).cell? ⟨b,j,none⟩=W.cell? ⟨b,j,none⟩:=World.cell?_of_block (w:=W) (a:=⟨b,j,none⟩) (Below.heap_setCell _ _ _ _ (fun e=>h e.symm))
end Go.Proofs.YtcfjjocmiheiaaaDoor
