/-
  Defaults, plain: they fit; a value that fits is its default just if it is empty; what Made makes has defaults for numbers alone. Conditions: those that each theorem names.
-/
import Derived.Test.YtpbaaiilfkacnaaDoorPkQ14
import Derived.Maps.AppendAt
namespace Go.Proofs.YtpbaaiilfkacnaaDoor
open Go.ChangeShapes Go.WideShapes Go.ChangeAt Go.RowKit Go.Shelf
set_option maxRecDepth 100000
set_option maxHeartbeats 16000000
structure oN (n:Nat)(es:List aX)(k r l:Nat):Prop where
 lo:1≤k
 hi:k≤13
 li:l≤3
 en:k=10→r<es.length∧1≤qC es r
 st:k=13→r<n
def jP (ss:List (bK × Value))(es:List aX):Prop:=ss.length≤16∧∀ q ∈ ss,q.1.fields.length≤16∧∀ f ∈ q.1.fields,oN ss.length es f.kind f.ref f.lists∧(f.dflt:Int)≤18446744073709551615∧(f.lists=0→f.kind≤10→dV es f.kind f.ref 0 f.dflt=true)
theorem uA (es:List aX)(k r:Nat)(h:uO es k r):dV es k r 0 0=true:=by
 have:=tY h (n:=0) (by decide);have e:gM (qC es r) k 0=0:=by
  unfold gM;split
  · rfl
  split
  · exact Nat.zero_mod _
  · have hm:(if aP k<8 then 0 % 2 ^ (8 * (aP k).toNat) else 0:Nat)=0:=by split<;>simp
    simp only [hm];have hs:cG ((0:Nat):Int) (aP k)=0:=by unfold cG oU;simp
    rw [hs];simp
 rwa [e] at this
def cW (B:Nat):Nat→Bool:=fun k=>decide (k<B)
inductive fY:PV→Prop
 | mk (n:Nat) (bs:List Int) (ks:List PV) (h:Bool) (hb:bs.length≤100) (hk:ks.length≤100) (hs:∀ q ∈ ks,fY q):fY (.mk n bs ks h)
theorem aAy:fY gO:=.mk 0 [] [] false (by decide) (by decide) (fun q hq=>by cases hq)
theorem aAJ (n:Nat):fY (dY n):=.mk n [] [] false (by decide) (by decide) (fun q hq=>by cases hq)
theorem wZ {zs:List Int}(h:zs.length≤100):fY (.mk 0 zs [] false):=.mk 0 zs [] false h (by decide) (fun q hq=>by cases hq)
inductive Wt:PV→Nat→Prop
 | mk (n:Nat) (bs:List Int) (ks:List PV) (h:Bool) (ms:List Nat) (hl:ms.length=ks.length) (hs:∀ j (hj:j<ks.length),Wt ks[j] (ms.getD j 0)) (m:Nat) (hm:1+bs.length+ms.sum≤m):Wt (.mk n bs ks h) m
theorem Wt.mono {v:PV}{m m':Nat}(h:Wt v m)(hm:m≤m'):Wt v m':=by
 cases h with
 | mk n bs ks h ms hl hs _ hb=>exact .mk n bs ks h ms hl hs _ (by omega)
def WtL (ks:List PV)(m:Nat):Prop:=∃ ms:List Nat,ms.length=ks.length∧(∀ j (hj:j<ks.length),Wt ks[j] (ms.getD j 0))∧ms.sum≤m
theorem WtL.nil:WtL [] 0:=⟨[],rfl,fun _ hj=>absurd hj (Nat.not_lt_zero _),Nat.le_refl _⟩
theorem WtL.snoc {ks:List PV}{m m1 m2:Nat}{v:PV}(h:WtL ks m)(hv:Wt v m1)(h2:m+m1≤m2):WtL (ks++[v]) m2:=by
 obtain ⟨ms,hl,hs,hm⟩:=h;refine ⟨ms++[m1],by simp [hl],fun j hj=>?_,by rw [List.sum_append];simp;omega⟩;rcases Nat.lt_or_ge j ks.length with h1|h1
 · rw [List.getElem_append_left h1];have:(ms++[m1]).getD j 0=ms.getD j 0:=by simp [List.getD,List.getElem?_append_left (show j<ms.length by omega)]
   rw [this];exact hs j h1
 · have hj':j=ks.length:=by simp at hj;omega
   subst hj';rw [List.getElem_append_right h1];have:(ms++[m1]).getD ks.length 0=m1:=by rw [←hl];simp
   rw [this];simpa using hv
theorem WtL.val {ks:List PV}{m:Nat}(h:WtL ks m)(n:Nat)(bs:List Int)(has:Bool):Wt (.mk n bs ks has) (1+bs.length+m):=by obtain ⟨ms,hl,hs,hm⟩:=h;exact .mk n bs ks has ms hl hs _ (by omega)
def WtIn (sure:Bool)(n i i':Nat)(v:PV):Prop:=∃ m,Wt v m∧m≤1700+1700 * (i'-i)∧(sure=false∨i<n→m≤101+1700 * (i'-i))
theorem WtIn.bytes {sure:Bool}{n i i' k:Nat}{zs:List Int}{h:Bool}(hz:zs.length≤100):WtIn sure n i i' (.mk k zs [] h):=⟨1+zs.length+0,WtL.nil.val k zs h,by omega,fun _=>by omega⟩
theorem aFL {sure:Bool}{N i i':Nat}(n:Nat):fY (dY n)∧WtIn sure N i i' (dY n):=⟨aAJ n,WtIn.bytes (zs:=[]) (by decide)⟩
theorem aAv {sure:Bool}{N i i':Nat}:fY gO∧WtIn sure N i i' gO:=⟨aAy,WtIn.bytes (zs:=[]) (by decide)⟩
theorem zK {sure:Bool}{N i i':Nat}{zs:List Int}(h:zs.length≤100):fY (.mk 0 zs [] false)∧WtIn sure N i i' (.mk 0 zs [] false):=⟨wZ h,WtIn.bytes h⟩
def lC (g:Nat)(a:Option Addr)(bs:List Int)(bc i:Nat)(w:World)(ss:List cO)(es:List aX)(left k r l:Nat)(sure:Bool)(e:Ending)(w':World):Prop:=
 ∃ (v:PV) (val:Value) (i':Nat),e=.returned val∧VH (cW w.heap.size) w' v val∧(cZ ss es left k r l v=true∧fY v∧WtIn sure bs.length i i' v)∧(k=13→l=0→sure=true→1≤left→v.has=true)∧i≤i'∧Src g a bs bc w' i'∧Exc g w.heap.size w w'
def uH (left:Nat):Prop:=∀ (k r l d fk:Nat) (fr fl:Int) (nm:ByteArray) (sure:Bool) (b g i bc:Nat) (a:Option Addr) (bs:List Int) (ss:List (bK × Value)) (es:List (aX × Value)) (sv ev:Value) (root:Int) (w:World),
 oN ss.length (es.map Prod.fst) k r l→jP ss (es.map Prod.fst)→Src g a bs bc w i→(∀ W,Exc g w.heap.size w W→SchRows b W ss es sv ev)→(d:Int)≤18446744073709551615→(l=0→k≤10→dV (es.map Prod.fst) k r 0 d=true) →
 Calls Tryd.prog 41 #[.agg #[sv,ev,.int .i64 root],.agg #[.int .u8 k,.int .i64 r,.int .i64 l],.pointer (some ⟨g,0,none⟩),.int .i64 left,.agg #[.string nm,.int .u8 fk,.int .i64 fr,.int .i64 fl,.int .u64 d],.bool sure] w (lC g a bs bc i w ((fF ss).map Prod.fst) (es.map Prod.fst) left k r l sure)
theorem qQ (S:Nat→Bool)(w:World)(n:Nat)(hn:(n:Int)≤18446744073709551615):VH S w (dY n) (.agg #[.int .u64 n,.slice none 0 0,.slice none 0 0,.bool false]):=aBK _ n (by omega)
theorem aD4 {ss:List cO}{es:List aX}{left k r n:Nat}(hk:0<aP k)(h:dV es k r 0 n=true):cZ ss es left k r 0 (dY n)=true:=by
 have hs:aT k 0=1:=by unfold aT;rw [if_neg (by decide),if_neg (by decide),bG hk]
 rw [fL,hs];show (nS 1 (dY n)&&dV es k r 0 n)=true;rw [h];simp [nS,dY,PV.num,PV.bytes,PV.kids,PV.has]
theorem vY {k:Nat}(h1:1≤k)(h2:k≤10):0<aP k:=by
 have hk:k=1∨k=2∨k=3∨k=4∨k=5∨k=6∨k=7∨k=8∨k=9∨k=10:=by omega
 rcases hk with rfl|rfl|rfl|rfl|rfl|rfl|rfl|rfl|rfl|rfl<;>decide
theorem yO {g B O R:Nat}{a w:World}(h:Exc g B a w)(hR:B≤R)(hO:B≤O)(j:Nat)(v x y z u:Value):Exc g B a (eS (w.setCell ⟨O,j,none⟩ v) R x y z u):=
 (((((h.setCell (p:=⟨O,j,none⟩) (.inr hO) v).setCell (p:=⟨R,0,none⟩) (.inr hR) x).setCell (p:=⟨R,1,none⟩) (.inr hR) y).setCell (p:=⟨R,2,none⟩) (.inr hR) z).setCell (p:=⟨R,3,none⟩) (.inr hR) u)
theorem dL {g B R:Nat}{a w:World}(h:Exc g B a w)(hR:B≤R)(x y z u:Value):Exc g B a (eS w R x y z u):=
 ((((h.setCell (p:=⟨R,0,none⟩) (.inr hR) x).setCell (p:=⟨R,1,none⟩) (.inr hR) y).setCell (p:=⟨R,2,none⟩) (.inr hR) z).setCell (p:=⟨R,3,none⟩) (.inr hR) u)
theorem Src.at {g:Nat}{a:Option Addr}{bs:List Int}{bc:Nat}{w W Wf:World}{i j:Nat}(h:Src g a bs bc w i)(hx:Exc g w.heap.size w Wf)(h2:Src g a bs bc W j)(hb:Wf.heap[g]?=W.heap[g]?):Src g a bs bc Wf j:=
 ⟨hb.trans h2.blk,h2.le,h.byt.exc hx bD h.low,h.low,h.len,h.cap⟩
theorem aQ {g R:Nat}(w:World)(hR:g≠R)(x y z u:Value):(eS w R x y z u).heap[g]?=w.heap[g]?:=
 (oG _ _ _ _ hR).trans ((oG _ _ _ _ hR).trans ((oG _ _ _ _ hR).trans (oG _ _ _ _ hR)))
theorem aC7 {g O R:Nat}(w:World)(hO:g≠O)(hR:g≠R)(j:Nat)(v x y z u:Value):(eS (w.setCell ⟨O,j,none⟩ v) R x y z u).heap[g]?=w.heap[g]?:=
 (aQ _ hR x y z u).trans (oG _ _ _ _ hO)
theorem rT {g O B sz n m:Nat}{w0 wr W2 W8:World}{cs:Array Value}{t e:TypeId}{v v4:Value}{xs xs':List Value}(j:Nat)(hx:Exc g B w0 wr)(hB:B≤O)(hO:wr.heap[O]?=some (.cells cs t (0,0)))(hrow:wr.ownsRow (O+1) e sz v n xs)(h2:Below wr.heap.size wr W2)
  (hg:W2.grownBy W8 v.ownBlock) (ho:W8.ownsRow (O+1) e sz v4 m xs') :
  Exc g B w0 (W8.setCell ⟨O,j,none⟩ v4)∧(W8.setCell ⟨O,j,none⟩ v4).heap[O]?=some (.cells (cs.setIfInBounds j v4) t (0,0))∧(W8.setCell ⟨O,j,none⟩ v4).ownsRow (O+1) e sz v4 m xs'∧W8.heap[O]?=some (.cells cs t (0,0))∧∀ k,k<O→(W8.setCell ⟨O,j,none⟩ v4).heap[k]?=wr.heap[k]?:=by
 have hlt:=aD hO;have hrest:∀ k,k≤O→W8.heap[k]?=wr.heap[k]?:=fun k hk=>(hg.block k (Nat.lt_of_lt_of_le (by omega) h2.size) (fun e=>by have:=(aV hrow k e.symm).1;omega)).trans (h2.block k (by omega));have hO8:W8.heap[O]?=some (.cells cs t (0,0)):=(hrest O bD).trans hO;exact ⟨((hx.trans ((Exc.of_below h2).mono (by omega))).grown hg (by have:=h2.size;omega) (fun k hk=>by have:=(aV hrow k hk).1;omega)).setCell (p:=⟨O,j,none⟩) (.inr hB) v4,aN hO8 j v4,ownsRow_setCell_below ho (Nat.lt_succ_self O) v4,hO8,fun k hk=>(oG _ _ _ _ (by show k≠O;omega)).trans (hrest k (by omega))⟩
def bW (zs:List Int):List Value:=zs.map (.int .u8)
theorem kB {S:Nat→Bool}{W:World}{base n:Nat}{A:Option Addr}{cap:Nat}{zs:List Int}(h:W.ownsRow base 5 1 (.slice A n cap) n (bW zs))(hz:∀ z ∈ zs,0≤z∧z≤255)(hS:∀ k,base≤k→S k=false):Bytes (nL S W) A zs∧zs.length=n:=by
 have hl:zs.length=n:=by have:=h.1;unfold bW at this;rw [List.length_map] at this;omega
 refine ⟨⟨fun i=>?_,fun hne=>?_⟩,hl⟩
 · rcases Nat.lt_or_ge i zs.length with hi|hi
   · rw [List.getD,iO hi,Option.getD_some];exact hz _ (jK hi)
   · rw [List.getD,List.getElem?_eq_none hi];exact ⟨by decide,by decide⟩
 · have h0:0<n:=by rw [←hl];exact List.length_pos_iff.2 hne
   obtain ⟨g,c,hv,hnc,hb,hgl,hcell⟩:=wI h h0;injection hv with hA _ _;subst hA;refine ⟨g,0,rfl,by rw [jC];exact hgl,fun i hi=>?_⟩;rw [oD S W _ (hS g hb),cX,hcell i (by omega)];unfold bW;rw [List.getElem?_map,iO hi,List.getD,iO hi];rfl
theorem pT {W:World}{base n sz cap:Nat}{e:TypeId}{A:Option Addr}{xs:List Value}(h:W.ownsRow base e sz (.slice A n cap) n xs):n≤cap:=by
 rcases h.2 with ⟨h1,h0⟩|⟨g,cap',cur,h1,hb,hg,hnc,hm,hs,ht⟩
 · injection h1;omega
 · injection h1;omega
theorem nP {S:Nat→Bool}{W:World}{base n cap:Nat}{A:Option Addr}{zs:List Int}(h:W.ownsRow base 5 1 (.slice A n cap) n (bW zs))(hz:∀ z ∈ zs,0≤z∧z≤255)(hS:∀ k,base≤k→S k=false) :
  VH S W (.mk 0 zs [] false) (.agg #[.int .u64 0,.slice A n cap,.slice none 0 0,.bool false]):=by
 obtain ⟨hb,hl⟩:=kB h hz hS;have hc:=pT h;have hf:=iG h;subst hl;exact .mk 0 zs [] false A none cap 0 0 0 (fun _=>.bool false) (fun _=>.bool false) (fun _=>.bool false) (fun _=>.bool false) (by decide) hb hc (by omega) bD (by decide) (fun h=>absurd rfl h) (fun i hi=>absurd hi (Nat.not_lt_zero i)) (fun i hi=>absurd hi (Nat.not_lt_zero i))
theorem aCh {ss:List cO}{es:List aX}{left r:Nat}{zs:List Int}:cZ ss es left 12 r 0 (.mk 0 zs [] false)=true:=by rw [fL,show aT 12 0=2 from rfl];simp [nS,PV.num,PV.bytes,PV.kids,PV.has]
theorem aCP {ss:List cO}{es:List aX}{left r:Nat}{zs:List Int}(h:fU zs 0<0):cZ ss es left 11 r 0 (.mk 0 zs [] false)=true:=by rw [fL,show aT 11 0=2 from rfl];simp [nS,PV.num,PV.bytes,PV.kids,PV.has,h]
theorem wM (zs:List Int)(z:Int):bW (zs++[z])=bW zs++[.int .u8 z]:=by simp [bW]
theorem fN {W:World}{base sz n R:Nat}{e:TypeId}{v:Value}{xs:List Value}(h:W.ownsRow base e sz v n xs)(hR:R<base)(x y z u:Value):(eS W R x y z u).ownsRow base e sz v n xs:=
 ownsRow_setCell_below (a:=⟨R,3,none⟩) (ownsRow_setCell_below (a:=⟨R,2,none⟩) (ownsRow_setCell_below (a:=⟨R,1,none⟩) (ownsRow_setCell_below (a:=⟨R,0,none⟩) h hR x) hR y) hR z) hR u
theorem gH {W:World}{base P n sz:Nat}{e t:TypeId}{v:Value}{xs:List Value}{cs:Array Value}(h:W.ownsRow base e sz v n xs)(hP:W.heap[P]?=some (.cells cs t (0,0)))(hne:t≠e):v.ownBlock≠some P:=by
 rcases h.2 with ⟨rfl,_⟩|⟨k,cap,cur,rfl,hb,hk,_⟩
 · exact fun h=>by cases h
 · intro h;injection h with h;subst h;rw [hk] at hP;injection hP with hP;injection hP with _ h2 _;exact hne h2.symm
theorem oQ {w:World}{g:Nat}{p:Addr}{v x0 x1 x2 x3:Value}(h:w.cell? p=some v)(hp:p.block≠g) :
  ((((w.setCell ⟨g,0,none⟩ x0).setCell ⟨g,1,none⟩ x1).setCell ⟨g,2,none⟩ x2).setCell ⟨g,3,none⟩ x3).cell? p=some v:=by
 have e:∀ (w:World) (i:Nat) (x:Value),(w.setCell ⟨g,i,none⟩ x).cell? p=w.cell? p:=fun w i x=>World.cell?_of_block (oG _ _ _ _ hp);rw [e,e,e,e,h]
theorem aE9 {g:Nat}{W W3:World}{o:Obj}(hb:Exc g (W.alloc o).heap.size (W.alloc o) W3):Exc g W.heap.size W W3:=((Exc.refl g _ W).alloc bD o).trans (hb.mono (by simp))
theorem tP {g:Nat}{W W3:World}(hb:Exc g W.drew.heap.size W.drew W3):Exc g W.heap.size W W3:=(Exc.refl g _ W).drew.trans hb
theorem qL {g:Nat}{W W3:World}{o:Obj}(hb:Exc g (W.alloc o).drew.heap.size (W.alloc o).drew W3):Exc g W.heap.size W W3:=((Exc.refl g _ W).alloc bD o).drew.trans (hb.mono (by show _≤(W.alloc _).heap.size;simp))
theorem aGk {g:Nat}{W W3:World}{cs:Array Value}{t:TypeId}(hb:Exc g (W.alloc (.cells cs t)).heap.size (W.alloc (.cells cs t)) W3)(hg:W.heap.size≠g):W3.heap[W.heap.size]?=some (.cells cs t (0,0)):=(hb.block _ (by simp) hg).trans (cN W _)
theorem aCf {g:Nat}{W W3:World}{cs:Array Value}{t:TypeId}(hb:Exc g (W.alloc (.cells cs t)).drew.heap.size (W.alloc (.cells cs t)).drew W3)(hg:W.heap.size≠g):W3.heap[W.heap.size]?=some (.cells cs t (0,0)):=(hb.block _ (by show _<(W.alloc _).heap.size;simp) hg).trans (cN W _)
theorem nC {w W:World}{v:PV}{val:Value}{B B':Nat}(h:VH (cW B) w v val)(hB:B'≤B)(hs:w.heap.size≤W.heap.size)(hb:∀ k,k<w.heap.size→B≤k→W.heap[k]?=w.heap[k]?):VH (cW B') W v val:=
 h.step hs (fun k hk hS=>by
  have h1:B≤k:=by unfold cW at hS;simpa using hS
  exact ⟨by unfold cW;simp;omega,hb k hk h1⟩)
structure KV where
 v:PV
 c0:Value
 c1:Value
 c2:Value
 c3:Value
def jW (q:KV):List Value:=[q.c0,q.c1,q.c2,q.c3]
def bU (l:List KV):List Value:=l.flatMap jW
theorem fH (l:List KV)(q:KV):bU (l++[q])=bU l++jW q:=by simp [bU]
def lK (B:Nat)(v:Value):Nat→Bool:=fun k=>decide (k<B)||decide (v.ownBlock=some k)
theorem dX {B:Nat}{v:Value}{k:Nat}:lK B v k=false ↔ B≤k∧v.ownBlock≠some k:=by
 unfold lK;rw [Bool.or_eq_false_iff,decide_eq_false_iff_not,decide_eq_false_iff_not];constructor
 · exact fun h=>⟨by omega,h.2⟩
 · exact fun h=>⟨by omega,h.2⟩
def KidsIn (S:Nat→Bool)(W:World)(l:List KV):Prop:=∀ q ∈ l,VH S W q.v (.agg #[q.c0,q.c1,q.c2,q.c3])
theorem KidsIn.step {S S':Nat→Bool}{w W:World}{l:List KV}(h:KidsIn S w l)(hs:w.heap.size≤W.heap.size)(hb:∀ k,k<w.heap.size→S k=false→S' k=false∧W.heap[k]?=w.heap[k]?):KidsIn S' W l:=
 fun q hq=>(h q hq).step hs hb
theorem jE {g O:Nat}{wr W6 W7 W8:World}{v v':Value}{l:List KV}{q:KV}{N:Nat}(hK:KidsIn (lK (O+1) v) wr l)(hx:Exc g wr.heap.size wr W6)(hgO:g≤O)(hO:O<wr.heap.size)(hv:∀ k,v.ownBlock=some k→k<wr.heap.size)
  (hq:VH (cW wr.heap.size) W6 q.v (.agg #[q.c0,q.c1,q.c2,q.c3])) (h7:Below W6.heap.size W6 W7) (hg:W7.grownBy W8 v.ownBlock) (hv':v'.ownBlock=v.ownBlock∨v'.ownBlock=some N) (hN:W7.heap.size≤N) (j:Nat) (x:Value) :
  KidsIn (lK (O+1) v') (W8.setCell ⟨O,j,none⟩ x) (l++[q]):=by
 have hs6:=hx.size;have hs7:=h7.size;have hs8:=hg.size;have hs9:(W8.setCell ⟨O,j,none⟩ x).heap.size=W8.heap.size:=by simp [World.setCell]
 have hheap:∀ k,k<W6.heap.size→O+1≤k→v.ownBlock≠some k→(W8.setCell ⟨O,j,none⟩ x).heap[k]?=W6.heap[k]?:=fun k hk hOk hne =>
  (oG _ _ _ _ (by show k≠O;omega)).trans ((hg.block k (by omega) (fun e=>hne e.symm)).trans (h7.block k hk))
 have hrow:∀ k,k<W6.heap.size→O+1≤k→v.ownBlock≠some k→lK (O+1) v' k=false:=fun k hk hOk hne=>dX.2 ⟨hOk,by
  rcases hv' with e|e
  · rw [e];exact hne
  · rw [e];intro h;injection h with h;omega⟩
 intro p hp;rcases List.mem_append.1 hp with h|h
 · refine (hK p h).step (by omega) (fun k hk hS=>?_);obtain ⟨h1,h2⟩:=dX.1 hS;exact ⟨hrow k (by omega) h1 h2,(hheap k (by omega) h1 h2).trans (hx.block k hk (by omega))⟩
 · rw [List.mem_singleton.1 h];refine hq.step (by omega) (fun k hk hS=>?_);have h1:wr.heap.size≤k:=by unfold cW at hS;simpa using hS
   have h2:v.ownBlock≠some k:=fun e=>by have:=hv k e;omega
   exact ⟨hrow k hk (by omega) h2,hheap k hk (by omega) h2⟩
theorem oZ {W:World}{base n cap:Nat}{A:Option Addr}{l:List KV}(h:W.ownsRow base 38 4 (.slice A n cap) n (bU l)):l.length=n:=by
 have:=h.1;have e:∀ l:List KV,(bU l).length=l.length * 4:=fun l=>by
  induction l with
  | nil=>rfl
  | cons q t ih=>show (jW q++bU t).length=_;rw [List.length_append,ih,List.length_cons];show 4+_=_;omega
 rw [e] at this;omega
theorem jU {S S':Nat→Bool}{W:World}{base n cap:Nat}{A:Option Addr}{l:List KV}(h:W.ownsRow base 38 4 (.slice A n cap) n (bU l))(hk:KidsIn S W l)(hS:∀ k,S k=false→S' k=false)(hb:∀ k,base≤k→S' k=false)(has:Bool) :
  VH S' W (.mk 0 [] (l.map KV.v) has) (.agg #[.int .u64 0,.slice none 0 0,.slice A n cap,.bool has]):=by
 have hl:=oZ h;have hc:=pT h;have hf:=iG h;subst hl;have hlm:(l.map KV.v).length=l.length:=List.length_map _;rcases Nat.eq_zero_or_pos l.length with h0|h0
 · have hnil:l=[]:=List.eq_nil_of_length_eq_zero h0;subst hnil;exact .mk 0 [] [] has none A 0 cap 0 0 (fun _=>.bool false) (fun _=>.bool false) (fun _=>.bool false) (fun _=>.bool false) (by decide) (kE _) bD (by decide) (Nat.zero_le _) (by decide) (fun h=>absurd rfl h) (fun i hi=>absurd hi (Nat.not_lt_zero i)) (fun i hi=>absurd hi (Nat.not_lt_zero i))
 · obtain ⟨gk,c,hv,_,hbk,hgl,hcell⟩:=wI h h0;injection hv with hA _ _;subst hA;have hvis:S' gk=false:=hb gk hbk;have hat:∀ i (hi:i<l.length) (j:Nat),j<4→W.cell? ⟨gk,i * 4+j,none⟩=(jW l[i])[j]?:=fun i hi j hj=>by
    rw [hcell _ (by omega)];exact pU jW 4 (fun _=>rfl) l i hi j hj
   have hcells:∀ i (hi:i<l.length) (j:Nat) (u:Value),j<4→(jW l[i])[j]?=some u→(nL S' W).cell? ⟨gk,0+i * 4+j,none⟩=some u:=fun i hi j u hj hu=>by rw [oD S' W _ hvis,cX,hat i hi j hj];exact hu
   suffices z:VH S' W (.mk 0 [] (l.map KV.v) has) (.agg #[.int .u64 0,.slice none 0 0,.slice (some ⟨gk,0,none⟩) (l.map KV.v).length cap,.bool has]) by rw [hlm] at z;exact z
   refine .mk 0 [] (l.map KV.v) has none (some ⟨gk,0,none⟩) 0 cap gk 0 (fun i=>(l.getD i ⟨gO,.bool false,.bool false,.bool false,.bool false⟩).c0) (fun i=>(l.getD i ⟨gO,.bool false,.bool false,.bool false,.bool false⟩).c1) (fun i=>(l.getD i ⟨gO,.bool false,.bool false,.bool false,.bool false⟩).c2) (fun i=>(l.getD i ⟨gO,.bool false,.bool false,.bool false,.bool false⟩).c3) (by decide) (kE _) bD (by decide) (by rw [hlm];exact hc) (by rw [hlm];omega) (fun _=>rfl) (fun i hi=>?_) (fun i hi=>?_)
   · rw [hlm] at hi;have e:l.getD i ⟨gO,.bool false,.bool false,.bool false,.bool false⟩=l[i]:=by rw [List.getD,iO hi,Option.getD_some]
     simp only [e];exact ⟨hcells i hi 0 _ (by decide) rfl,hcells i hi 1 _ (by decide) rfl,hcells i hi 2 _ (by decide) rfl,hcells i hi 3 _ (by decide) rfl⟩
   · have hi':i<l.length:=by rw [hlm] at hi;exact hi
     have e:l.getD i ⟨gO,.bool false,.bool false,.bool false,.bool false⟩=l[i]:=by rw [List.getD,iO hi',Option.getD_some]
     simp only [e,List.getElem_map];exact (hk l[i] (jK hi')).step bD (fun k _ hSk=>⟨hS k hSk,rfl⟩)
theorem rQ (f:Nat→Int→Int→PV→Bool):∀ (xs:List dT) (ks:List PV),xs.length=ks.length→(∀ i (hx:i<xs.length) (hk:i<ks.length),f xs[i].kind xs[i].ref xs[i].lists ks[i]=true)→kY f xs ks=true
 | [],_,_,_=>rfl
 | _::_,[],h,_=>by simp at h
 | x::xs,k::ks,h,ha=>by show (f x.kind x.ref x.lists k&&kY f xs ks)=true;rw [show f x.kind x.ref x.lists k=true from ha 0 (by simp) (by simp),rQ f xs ks (by simpa using h) (fun i hx hk=>ha (i+1) (by simpa using hx) (by simpa using hk))];rfl
def KidsSmall (l:List KV):Prop:=∀ q ∈ l,fY q.v
theorem KidsSmall.snoc {l:List KV}{q:KV}(h:KidsSmall l)(hq:fY q.v):KidsSmall (l++[q]):=fun p hp=>by
 rcases List.mem_append.1 hp with h1|h1
 · exact h p h1
 · rw [List.mem_singleton.1 h1];exact hq
theorem KidsSmall.val {l:List KV}(h:KidsSmall l)(hl:l.length≤100)(has:Bool):fY (.mk 0 [] (l.map KV.v) has):=.mk 0 [] _ has (by decide) (by rw [List.length_map];exact hl) (fun v hv=>by obtain ⟨q,hq,rfl⟩:=rX.1 hv;exact h q hq)
def KidsSW (i1 i2:Nat)(l:List KV):Prop:=KidsSmall l∧i1≤i2∧WtL (l.map KV.v) (101 * l.length+1700 * (i2-i1))
theorem KidsSW.nil (i1:Nat):KidsSW i1 i1 []:=⟨fun q hq=>absurd hq List.not_mem_nil,Nat.le_refl _,(by show WtL [] (101 * 0+1700 * (i1-i1));rw [Nat.sub_self];exact WtL.nil)⟩
theorem KidsSW.snoc {i1 i2 i3 n:Nat}{sure:Bool}{l:List KV}{q:KV}(h:KidsSW i1 i2 l)(hq:fY q.v∧WtIn sure n i2 i3 q.v)(hs:sure=false∨i2<n)(hi:i2≤i3):KidsSW i1 i3 (l++[q]):=by obtain ⟨m,hm,_,hm2⟩:=hq.2;have h1:=hm2 hs;have h2:=h.2.1;refine ⟨h.1.snoc hq.1,by omega,?_⟩;rw [List.map_append,List.length_append];exact h.2.2.snoc hm (by simp only [List.length_cons,List.length_nil];omega)
theorem KidsSW.val {i i1 i2 n:Nat}{sure:Bool}{l:List KV}(h:KidsSW i1 i2 l)(hl:l.length≤16)(hi:i≤i1)(hm:i<n→i1=i+1)(hs:sure=true∨i1<n)(has:Bool):fY (.mk 0 [] (l.map KV.v) has)∧WtIn sure n i i2 (.mk 0 [] (l.map KV.v) has):=by
 have h2:=h.2.1;refine ⟨h.1.val (by omega) has,_,h.2.2.val 0 [] has,by simp only [List.length_nil];omega,fun h3=>?_⟩;have h4:i<n:=by
  rcases h3 with h3|h3
  · rcases hs with h5|h5
    · rw [h3] at h5;cases h5
    · omega
  · exact h3
 have h5:=hm h4;simp only [List.length_nil];omega
def KidsSWL (n i1 i2:Nat)(l:List KV):Prop:=KidsSW i1 i2 l∧(l≠[]→i1<n)
theorem KidsSWL.nil (n i1:Nat):KidsSWL n i1 i1 []:=⟨KidsSW.nil i1,fun h=>absurd rfl h⟩
theorem KidsSWL.snoc {i1 i2 i3 n:Nat}{sure:Bool}{l:List KV}{q:KV}(h:KidsSWL n i1 i2 l)(hq:fY q.v∧WtIn sure n i2 i3 q.v)(hs:i2<n)(hi:i2≤i3):KidsSWL n i1 i3 (l++[q]):=⟨h.1.snoc hq (.inr hs) hi,fun _=>by have:=h.1.2.1;omega⟩
theorem KidsSWL.val {i i1 i2 n:Nat}{sure:Bool}{l:List KV}(h:KidsSWL n i1 i2 l)(hl:l.length≤4)(hi:i≤i1)(hm:i<n→i1=i+1)(has:Bool):fY (.mk 0 [] (l.map KV.v) has)∧WtIn sure n i i2 (.mk 0 [] (l.map KV.v) has):=by
 have h2:=h.1.2.1;refine ⟨h.1.1.val (by omega) has,_,h.1.2.2.val 0 [] has,by simp only [List.length_nil];omega,fun _=>?_⟩;simp only [List.length_nil];rcases Nat.eq_zero_or_pos l.length with h0|h0
 · omega
 · have h3:=h.2 (fun e=>by rw [e] at h0;simp at h0);have h5:=hm (by omega);omega
def KidsFit (SS:List cO)(ES:List aX)(room:Nat)(xs:List SFld)(l:List KV):Prop:=∀ i (hx:i<xs.length) (hk:i<l.length),cZ SS ES room xs[i].kind xs[i].ref xs[i].lists l[i].v=true
theorem KidsFit.snoc {SS:List cO}{ES:List aX}{room j:Nat}{xs:List SFld}{l:List KV}{q:KV}(h:KidsFit SS ES room xs l)(hj:l.length=j)(hx:j<xs.length)(hq:cZ SS ES room xs[j].kind xs[j].ref xs[j].lists q.v=true):KidsFit SS ES room xs (l++[q]):=by
 intro i hi hk;rcases Nat.lt_or_ge i l.length with h1|h1
 · rw [List.getElem_append_left h1];exact h i hi h1
 · have:i=j:=by rw [List.length_append] at hk;simp at hk;omega
   subst this;rw [List.getElem_append_right h1];simpa [hj] using hq
theorem xO {ss:List (bK × Value)}{es:List aX}{room r:Nat}{l:List KV}(hr:r<ss.length)(hl:l.length=ss[r].1.fields.length)(h:KidsFit ((fF ss).map Prod.fst) es room ss[r].1.fields l):cZ ((fF ss).map Prod.fst) es (room+1) 13 r 0 (.mk 0 [] (l.map KV.v) true)=true:=by
 have hlen:((fF ss).map Prod.fst).length=ss.length:=by rw [List.length_map,rJ]
 have hget:((fF ss).map Prod.fst).getD ((r:Nat):Int).toNat ⟨⟨#[]⟩,[]⟩=cR ss[r].1:=by rw [lN,yG,List.getD,List.getElem?_map,List.getElem?_map,iO hr];rfl
 rw [fL,show aT 13 0=4 from rfl];show (nS 4 _&&(!true||fA _ es (room+1) r (l.map KV.v)))=true;unfold fA;rw [hlen,hget,fO ⟨by omega,by omega⟩];have hfl:(cR ss[r].1).fields=ss[r].1.fields.map cF:=rfl;rw [hfl,fO (show (l.map KV.v).length=(ss[r].1.fields.map cF).length by rw [List.length_map,List.length_map,hl])];rw [rQ _ _ _ (by rw [List.length_map,List.length_map,hl]) (fun i hx hk=>by simp only [List.getElem_map];exact h i (by simpa using hx) (by simpa using hk))];rfl
def ElsFit (SS:List cO)(ES:List aX)(room k r lm:Nat)(l:List KV):Prop:=∀ q ∈ l,cZ SS ES room k r lm q.v=true∧(k=13→lm=0→q.v.has=true)
theorem ElsFit.snoc {SS:List cO}{ES:List aX}{room k r lm:Nat}{l:List KV}{q:KV}(h:ElsFit SS ES room k r lm l)(h1:cZ SS ES room k r lm q.v=true)(h2:k=13→lm=0→q.v.has=true):ElsFit SS ES room k r lm (l++[q]):=fun p hp=>by
 rcases List.mem_append.1 hp with h3|h3
 · exact h p h3
 · rw [List.mem_singleton.1 h3];exact ⟨h1,h2⟩
theorem qT {SS:List cO}{ES:List aX}{left k r lm l:Nat}{ks:List KV}(hl:l=lm+1)(h:ElsFit SS ES (left-1) k r lm ks)(h0:ks≠[]→left≠0):cZ SS ES left k r l (.mk 0 [] (ks.map KV.v) false)=true:=by
 have hs:aT k (l:Int)=3:=by unfold aT;rw [bG (by omega)]
 have hls:(l:Int)-1=(lm:Int):=by omega
 rw [fL,hs,hls];show (nS 3 _&&(ks.map KV.v).all (rG SS ES left k r lm))=true;rw [show nS 3 (.mk 0 [] (ks.map KV.v) false)=true by simp [nS,PV.num,PV.bytes,PV.kids,PV.has],Bool.true_and,List.all_eq_true];intro v hv;obtain ⟨q,hq,rfl⟩:=rX.1 hv;obtain ⟨h1,h2⟩:=h q hq;have hne:left≠0:=h0 (fun e=>by subst e;cases hq);unfold rG;rw [iB hne,h1];by_cases h4:aT k (lm:Int)=4
 · have h5:k=13∧lm=0:=by
    unfold aT at h4;split at h4
    · cases h4
    split at h4
    · cases h4
    split at h4
    · cases h4
    split at h4
    · cases h4
    split at h4
    · rename_i a b _ _ c
      exact ⟨c,by omega⟩
    · cases h4
   rw [h2 h5.1 h5.2];simp
 · simp [h4]
theorem kA {W W':World}{a:Option Addr}{zs:List Int}(h:Bytes W a zs)(hw:∀ p x,W.cell? p=some x→W'.cell? p=some x)(c:Nat):Go.Src Tryd.prog 1 22 (.slice a zs.length c) zs.length (bW zs) W':=by
 have hl:(bW zs).length=zs.length * 1:=by simp [bW]
 have h1:∀ u ∈ bW zs,u.oneCell'=true:=fun u hu=>by obtain ⟨z,_,rfl⟩:=rX.1 hu;rfl
 cases a with
 | none =>
  have:zs=[]:=by
   rcases h0:zs with _|⟨z,t⟩
   · rfl
   · obtain ⟨b,off,e,_⟩:=h.2 (by rw [h0];exact List.cons_ne_nil _ _);cases e
  subst this;exact Go.Src.ofNil W' Tryd.underlying22 c
 | some p =>
  refine Go.Src.ofSlice W' Tryd.underlying22 p zs.length c _ hl (fun j u hu=>?_) h1;have hj:j<zs.length:=by have:=(List.getElem?_eq_some_iff.1 hu).1;simpa [bW] using this
  obtain ⟨b,off,e,hlt,hc⟩:=h.2 (fun h0=>by rw [h0] at hj;exact Nat.not_lt_zero _ hj);injection e with e;subst e;refine hw _ _ ?_;rw [Addr.add_lit,hc j hj,←hu];simp [bW,List.getElem?_map,List.getElem?_eq_getElem hj,List.getD]
def aFx (S:Nat→Bool)(B T:Nat):Nat→Bool:=fun k=>S k||decide (B≤k∧k<T)
theorem aEB {S:Nat→Bool}{B T k:Nat}:aFx S B T k=false ↔ S k=false∧¬(B≤k∧k<T):=by unfold aFx;rw [Bool.or_eq_false_iff,decide_eq_false_iff_not]
theorem KidsIn.old {S:Nat→Bool}{w W:World}{l:List KV}(h:KidsIn S w l)(hb:Below w.heap.size w W)(T:Nat):KidsIn (aFx S w.heap.size T) W l:=
 h.step hb.size (fun k hk hs=>⟨aEB.2 ⟨hs,by omega⟩,hb.block k hk⟩)
theorem qX {W:World}{a:Option Addr}{zs:List Int}(h:Bytes W a zs):∀ z ∈ zs,0≤z∧z≤255:=fun z hz=>by
 obtain ⟨i,hi,rfl⟩:=List.getElem_of_mem hz;have:=h.1 i
 rwa [List.getD,iO hi,Option.getD_some] at this
theorem aAj {W:World}{a b:Nat}{i j:Nat}{u:Value}(h:a≠b):(W.setCell ⟨a,i,none⟩ u).cell? ⟨b,j,none⟩=W.cell? ⟨b,j,none⟩:=World.cell?_of_block (w:=W) (a:=⟨b,j,none⟩) (oG _ _ _ _ (fun e=>h e.symm))
theorem aDk:(Tryd.prog.info? 5).map (fun i=>(i.zero,i.size,i.bytes))=some (some (.int .u8 0),1,1):=by kernel_rfl
theorem aED (c:Nat)(W:World):(binOp .eql 22 (.slice none 0 c) (.slice none 0 0)).run Tryd.prog W=.ok (.bool true) W:=by kernel_rfl
theorem aFR (q:Addr)(n c:Nat)(W:World):(binOp .eql 22 (.slice (some q) n c) (.slice none 0 0)).run Tryd.prog W=.ok (.bool false) W:=by kernel_rfl
theorem sU (w:World)(p:Option Addr)(zs:List Int)(c:Nat)(h:Bytes w p zs)(hl:zs.length≤1000000) :
  Calls Tryd.prog 118 #[.slice p zs.length c] w fun e w'=>(∃ v,e=.returned v∧w'.ownsRow w.heap.size 5 1 v zs.length (bW zs))∧Below w.heap.size w w':=by
 have HBB:=aA h;cases p with
 | none =>
  have hz:zs=[]:=by
   rcases h0:zs with _|⟨z,t⟩
   · rfl
   · obtain ⟨b,o,hh,_⟩:=h.2 (by rw [h0];exact List.cons_ne_nil _ _);cases hh
  subst hz;clear h HBB;have e0:=aED c;go_enter Tryd.func118,Tryd.ntmps118;go_wp2;go_ret;exact ⟨⟨_,rfl,World.ownsRow_nil _ _ _ _⟩,bH _ _⟩
 | some q =>
  clear h;have e0:=aFR q zs.length c;go_enter Tryd.func118,Tryd.ntmps118;have HOWN0:=aA (jR (base:=w.heap.size) (n:=0) (size:=1) (cN w (.cells #[] 5)) bD (by decide) rfl);have HA0:=aA ((bH w.heap.size w).alloc bD (.cells #[] 5));have HSRC:=aA (kA HBB.out (fun p x hp=>aC HA0.out hp) c);obtain ⟨i0,hi0,hzz0,hzz1,hzz2⟩:=info_parts aDk;have I1:=aA hi0;have I2:=aA hzz0;have I3:=aA hzz1;have I4:=aA hzz2;clear hi0 hzz0 hzz1 hzz2;go_wp2_with (at_builtin;refine fK _ rfl (.tmp 5) (.tmp 6) 22 22 rfl w.heap.size 5 i0 _ 1 Tryd.underlying22 I1.out I2.out I3.out rfl _ rfl HOWN0.out _ zs.length (bW zs) rfl HSRC.out (by unfold maxLen;omega) (by rw [I4.out];omega) (by simp) ?_;intro v4 W4 hown4 hg4 hat4;clear hat4;have HO4:=aA hown4;have HB4:=aA (HA0.out.grown hg4 (by simp) (fun k hk=>(aV HOWN0.out k hk).1));clear hown4 hg4)
  go_ret;exact ⟨⟨_,rfl,HO4.out⟩,HB4.out⟩
theorem sF {W:World}{base sz n c K:Nat}{e:TypeId}{xs:List Value}(h:W.ownsRow base e sz (.slice (some ⟨K,0,none⟩) n c) n xs)(k:Nat)(u:Value):(W.setCell ⟨K,k,none⟩ u).ownsRow base e sz (.slice (some ⟨K,0,none⟩) n c) n (xs.set k u):=by
 obtain ⟨hl,h'⟩:=h;refine ⟨by rw [List.length_set];exact hl,?_⟩;rcases h' with ⟨h1,_⟩|⟨g,cap,cur,hv,hb,hg,hnc,hm,hs,ht⟩
 · cases h1
 · injection hv with h1 h2 h3;injection h1 with h1;injection h1 with h1 _ _;subst h1 h3;refine .inr ⟨K,c,cur.setIfInBounds k u,rfl,hb,aN hg k u,hnc,hm,by rw [Array.size_setIfInBounds];exact hs,?_⟩;rw [Array.toList_setIfInBounds,List.take_set,ht]
theorem aBG:∀ (l:List KV) (i:Nat) (q:KV),i<l.length→((((bU l).set (i * 4) q.c0).set (i * 4+1) q.c1).set (i * 4+2) q.c2).set (i * 4+3) q.c3=bU (l.set i q)
 | [],_,_,h=>absurd h (Nat.not_lt_zero _)
 | p::l,0,q,_=>rfl
 | p::l,i+1,q,h=>by
  have ih:=aBG l i q (by simpa using h);have e:∀ k,(i+1) * 4+k=(i * 4+k)+4:=fun k=>by omega
  have e0:(i+1) * 4=i * 4+4:=by omega
  show ((((p.c0::p.c1::p.c2::p.c3::bU l).set ((i+1) * 4) q.c0).set ((i+1) * 4+1) q.c1).set ((i+1) * 4+2) q.c2).set ((i+1) * 4+3) q.c3=p.c0::p.c1::p.c2::p.c3::bU (l.set i q);rw [e0,show i * 4+4+1=i * 4+1+4 by omega,show i * 4+4+2=i * 4+2+4 by omega,show i * 4+4+3=i * 4+3+4 by omega];simp only [List.set_cons_succ];rw [ih]
theorem aCR {p:dM}{ss:List (bK × Value)}(hss:ss.map Prod.fst=jM p p.structs.length):∀ q ∈ fF ss,∀ f ∈ q.1.fields,aT f.kind f.lists≠1→f.dflt=0:=by intro q hq f hf hs;obtain ⟨i,hi,_,_,hall⟩:=xQ hss q hq;obtain ⟨k,hk,rfl⟩:=hall f hf;generalize (p.structs.getD i []).getD k nA=x at *;show (if dE (dK p i x) (x.lists % 4)=true then gM _ _ _ else 0:Nat)=0;refine if_neg fun h=>hs ?_;unfold dE at h;rw [Bool.and_eq_true,decide_eq_true_iff,decide_eq_true_iff] at h;show aT (dK p i x) ((x.lists % 4:Nat):Int)=1;unfold aT;rw [h.1];simp [h.2]
end Go.Proofs.YtpbaaiilfkacnaaDoor
