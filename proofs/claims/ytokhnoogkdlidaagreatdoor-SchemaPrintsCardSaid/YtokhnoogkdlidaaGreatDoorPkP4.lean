/-
  What the document's own Sized hands back, by a walk of its text. Conditions: those that each theorem names.
-/
import Derived.Test.YtokhnoogkdlidaaGreatDoorPkP1
import Derived.Test.YtokhnoogkdlidaaGreatDoorPkP2
import Derived.Lib.ConvBytes
import Derived.Lib.AtoiErrMem
import Derived.Laws.EntriesVeiled
import Derived.Shelf.Abstract
import Derived.Test.YtokhnoogkdlidaaGreatDoorRows
import Derived.WalkKit
import Derived.ProofKit
import Derived.OpenShut
import Derived.ShutString
import Derived.ChangeOld
import Derived.Below
import Derived.WalkLawsBesides
import Derived.WalkSpells
import Derived.Lib.Hide
import Derived.Outline
import Derived.Handy
import Derived.Shelf.Spec.DecodeRune
import Derived.Lib.LaidU8T
import Derived.KernelRfl
namespace Go.Proofs.YtokhnoogkdlidaaGreatDoor
open Go.ChangeShapes Go.WideShapes Go.ChangeAt Go.RowKit Go.Shelf
def tokCells (t:Tok):List Value:=[.int .i64 t.kind,.string (strOfNums t.text),.int .i64 t.place]
def toksCells (l:List Tok):List Value:=l.flatMap tokCells
def OwnT (w:World)(base:Nat)(v:Value)(l:List Tok):Prop:=w.ownsRow base 97 3 v l.length (toksCells l)
theorem toksCells_length (l:List Tok):(toksCells l).length=l.length * 3:=by
 induction l with
 | nil=>rfl
 | cons a r ih =>
  have e:toksCells (a::r)=tokCells a++toksCells r:=rfl
  rw [e,List.length_append,ih,List.length_cons]
  simp [tokCells]
  omega
theorem toksCells_snoc (l:List Tok)(t:Tok):toksCells (l++[t])=toksCells l++tokCells t:=by
 simp [toksCells]
theorem ownT_nil (w:World)(base:Nat):OwnT w base (.slice none 0 0) []:=World.ownsRow_nil w base _ _
theorem tok_info:(Tryz.prog.info? 97).map (fun i=>(i.zero,i.size,i.bytes))=some (some (.agg #[.int .i64 0,.string ⟨#[]⟩,.int .i64 0]),3,32):=by kernel_rfl
def lenOf:Value→Nat
 | .slice _ n _=>n
 | _=>0
theorem OwnT.form {w:World}{base:Nat}{v:Value}{l:List Tok}(h:OwnT w base v l):∃ a c,v=.slice a l.length c:=by
 rcases h.2 with ⟨rfl,h0⟩|⟨g,cap,_,rfl,_⟩
 · rw [h0]
   exact ⟨_,_,rfl⟩
 · exact ⟨_,_,rfl⟩
theorem OwnT.below {w w':World}{base B:Nat}{v:Value}{l:List Tok}(h:OwnT w base v l)(hb:Below B w w')(hB:w.heap.size≤B):OwnT w' base v l:=by
 obtain ⟨hl,h'⟩:=h
 refine ⟨hl,?_⟩
 rcases h' with h1|⟨g',cap',cur,hv,h1,hg,h2⟩
 · exact .inl h1
 · have hlt:g'<w.heap.size:=by
    rcases Nat.lt_or_ge g' w.heap.size with h|h
    · exact h
    · rw [Array.getElem?_eq_none h] at hg;cases hg
   exact .inr ⟨g',cap',cur,hv,h1,(hb.block g' (by omega)).trans hg,h2⟩
theorem OwnT.base_le {w:World}{base base':Nat}{v:Value}{l:List Tok}(h:OwnT w base v l)(hb:base'≤base):OwnT w base' v l:=
 ⟨h.1,h.2.elim Or.inl (fun ⟨g,cap,cur,hv,hg,r⟩=>Or.inr ⟨g,cap,cur,hv,Nat.le_trans hb hg,r⟩)⟩
theorem tokCells_new (W:World)(t:Tok)(g:Nat)(hg:g=W.heap.size):∀ j u,(tokCells t)[j]?=some u→(W.alloc (.cells #[.int .i64 t.kind,.string (strOfNums t.text),.int .i64 t.place] 97)).cell? ((⟨g,0,none⟩:Addr).add j)=some u:=by
 intro j u hu
 subst hg
 rw [add_plain,Nat.zero_add,cell_of_row _ _ _ _ _ (0,0) (heap_alloc_new W _)]
 simpa [tokCells] using hu
theorem tokCells_one (t:Tok):∀ u ∈ tokCells t,u.oneCell'=true:=by
 intro u hu
 simp [tokCells] at hu
 rcases hu with rfl|rfl|rfl<;>rfl
theorem OwnT.lt {w:World}{base:Nat}{v:Value}{l:List Tok}(h:OwnT w base v l):∀ k,v.ownBlock=some k→base≤k∧k<w.heap.size:=by
 intro k hk
 rcases h.2 with ⟨rfl,_⟩|⟨g,cap,cur,rfl,hb,hg,_⟩
 · simp [Value.ownBlock] at hk
 · simp [Value.ownBlock] at hk
   subst hk
   refine ⟨hb,?_⟩
   rcases Nat.lt_or_ge g w.heap.size with h'|h'
   · exact h'
   · rw [Array.getElem?_eq_none h'] at hg;cases hg
theorem OwnT.snoc {w:World}{base:Nat}{v:Value}{l:List Tok}{t:Tok}(h:w.ownsRow base 97 3 v (l.length+1) (toksCells l++tokCells t)):OwnT w base v (l++[t]):=by
 unfold OwnT
 rw [toksCells_snoc,List.length_append,List.length_singleton]
 exact h
theorem grown_new {W0 W3 W4:World}{v x y z:Value}{l:List Tok}{o:Obj}(hO:OwnT W3 W0.heap.size v l)(hb:Below W0.heap.size W0 W3)(hg:((W3.alloc (.cells #[x,y,z] 97)).alloc o).grownBy W4 v.ownBlock) :
  W4.cell? ⟨W3.heap.size,0,none⟩=some x∧Below W0.heap.size W0 W4:=by
 have hs:=hb.size
 constructor
 · rw [World.cell?_of_block (a:=⟨W3.heap.size,0,none⟩) (hg.block W3.heap.size (by simp;omega) (fun e=>by have:=hO.lt _ e.symm;omega))]
   rw [World.cell?_alloc_lt _ _ _ (by simp)]
   rw [cell_of_row _ _ _ _ _ (0,0) (heap_alloc_new W3 _)]
   rfl
 · exact (((hb.alloc hs _).alloc (by simp;omega) _)).grown hg (by simp;omega) (fun k hk=>(hO.lt k hk).1)
theorem OwnT.setFar {w:World}{base:Nat}{v:Value}{l:List Tok}(h:OwnT w base v l){p:Addr}(hp:p.block<base)(x:Value):OwnT (w.setCell p x) base v l:=by
 obtain ⟨hl,h'⟩:=h
 refine ⟨hl,?_⟩
 rcases h' with h1|⟨g',cap',cur,hv,h1,hg,h2⟩
 · exact .inl h1
 · exact .inr ⟨g',cap',cur,hv,h1,(Below.heap_setCell w p x g' (by omega)).trans hg,h2⟩
theorem OwnT.cells {w:World}{base:Nat}{v:Value}{l:List Tok}(h:OwnT w base v l)(hne:l≠[]) :
  ∃ g c,v=.slice (some ⟨g,0,none⟩) l.length c∧l.length≤c∧base≤g∧g<w.heap.size∧∀ k,k<l.length * 3→w.cell? ⟨g,k,none⟩=(toksCells l)[k]?:=by
 obtain ⟨hl,h'⟩:=h
 rcases h' with ⟨_,h0⟩|⟨g,cap,cur,rfl,hb,hg,hn,hm,hs,ht⟩
 · exact absurd (List.eq_nil_of_length_eq_zero h0) hne
 · have hlt:g<w.heap.size:=by
    rcases Nat.lt_or_ge g w.heap.size with h|h
    · exact h
    · rw [Array.getElem?_eq_none h] at hg;cases hg
   refine ⟨g,cap,rfl,hn,hb,hlt,fun k hk=>?_⟩
   rw [cell_of_row w g k cur _ (0,0) hg,←ht,List.getElem?_take,if_pos hk,Array.getElem?_toList]
theorem tok_cell {w W:World}{g:Nat}{l:List Tok}(h:∀ j,j<l.length * 3→w.cell? ⟨g,j,none⟩=(toksCells l)[j]?)(hg:g<w.heap.size)(hb:Below w.heap.size w W)(k:Nat)(t:Tok)(r:List Tok)(hk:l.drop k=t::r) :
  k<l.length∧W.cell? ⟨g,k * 3,none⟩=some (.int .i64 t.kind)∧W.cell? ⟨g,k * 3+1,none⟩=some (.string (strOfNums t.text))∧W.cell? ⟨g,k * 3+2,none⟩=some (.int .i64 t.place):=by
 have hlt:k<l.length:=by
  rcases Nat.lt_or_ge k l.length with h|h
  · exact h
  · rw [List.drop_eq_nil_of_le h] at hk;cases hk
 have hc:∀ j,j<3→(toksCells l)[k * 3+j]?=(tokCells t)[j]?:=by
  intro j hj
  have e:toksCells l=toksCells (l.take k)++(tokCells t++toksCells r):=by
   conv=>lhs;rw [←List.take_append_drop k l,hk]
   simp [toksCells]
  have hl1:(toksCells (l.take k)).length=k * 3:=by
   rw [toksCells_length,List.length_take]
   omega
  rw [e,List.getElem?_append_right (by omega),hl1,show k * 3+j-k * 3=j by omega,List.getElem?_append_left (by simp [tokCells];omega)]
 refine ⟨hlt,?_,?_,?_⟩
 · rw [hb.cell (p:=⟨g,k * 3,none⟩) hg,h _ (by omega)]
   exact hc 0 (by omega)
 · rw [hb.cell (p:=⟨g,k * 3+1,none⟩) hg,h _ (by omega)]
   exact hc 1 (by omega)
 · rw [hb.cell (p:=⟨g,k * 3+2,none⟩) hg,h _ (by omega)]
   exact hc 2 (by omega)
end Go.Proofs.YtokhnoogkdlidaaGreatDoor
namespace Go.Proofs.YtokhnoogkdlidaaGreatDoor
open Go.ChangeShapes Go.WideShapes Go.ChangeAt Go.RowKit Go.Shelf
structure Rd (w:World)(R g c:Nat)(l r:List Tok)(F:Int × Nat):Prop where
 blk:w.heap[R]?=some (.cells #[.slice (some ⟨g,(l.length-r.length) * 3,none⟩) r.length (c-(l.length-r.length)),.int .i64 F.1,.int .i64 F.2] 123 (0,0))
 suf:l.drop (l.length-r.length)=r
 len:r.length≤l.length
 glt:g<w.heap.size
 gne:g≠R
 cells:∀ k,k<l.length * 3→w.cell? ⟨g,k,none⟩=(toksCells l)[k]?
 cap:l.length≤c∧c≤maxLen
 ends:Ends r
 byt:∀ t ∈ l,∀ z ∈ t.text,0≤z∧z≤255
theorem Rd.keep {w W:World}{R g c:Nat}{l r:List Tok}{F:Int × Nat}(h:Rd w R g c l r F)(hb:Below w.heap.size w W):Rd W R g c l r F:=
 ⟨(hb.block R (blk_lt h.blk)).trans h.blk,h.suf,h.len,Nat.lt_of_lt_of_le h.glt hb.size,h.gne,fun k hk=>(hb.cell (p:=⟨g,k,none⟩) h.glt).trans (h.cells k hk),h.cap,h.ends,h.byt⟩
theorem Rd.other {w W:World}{R X g c:Nat}{l r:List Tok}{F:Int × Nat}(h:Rd w R g c l r F)(hb:Exc X w.heap.size w W)(hR:R≠X)(hg:g≠X):Rd W R g c l r F:=
 ⟨(hb.block R (blk_lt h.blk) hR).trans h.blk,h.suf,h.len,Nat.lt_of_lt_of_le h.glt hb.size,h.gne,fun k hk=>(hb.cell (p:=⟨g,k,none⟩) h.glt hg).trans (h.cells k hk),h.cap,h.ends,h.byt⟩
theorem Rd.alloc {w:World}{R g c:Nat}{l r:List Tok}{F:Int × Nat}(h:Rd w R g c l r F)(o:Obj):Rd (w.alloc o) R g c l r F:=h.keep ((Below.refl _ _).alloc (Nat.le_refl _) _)
theorem Rd.set3 {w:World}{R g c:Nat}{l r:List Tok}{F:Int × Nat}(h:Rd w R g c l r F){X:Nat}(hR:R≠X)(hg:g≠X)(x y z:Value):Rd (((w.setCell ⟨X,0,none⟩ x).setCell ⟨X,1,none⟩ y).setCell ⟨X,2,none⟩ z) R g c l r F:=h.other (exc_set3 w X x y z) hR hg
theorem Rd.set1 {w:World}{R g c:Nat}{l r:List Tok}{F:Int × Nat}(h:Rd w R g c l r F){X:Nat}(hR:R≠X)(hg:g≠X)(i:Nat)(x:Value):Rd (w.setCell ⟨X,i,none⟩ x) R g c l r F:=h.other (exc_set w X i x) hR hg
def End3 (w:World)(R g c:Nat)(l r:List Tok)(F:Int × Nat)(t:TypeId)(x y z:Value)(W:World):Prop:=
 W.heap[w.heap.size]?=some (.cells #[x,y,z] t (0,0))∧Exc R w.heap.size w W∧Rd W R g c l r F
theorem end3 {w W:World}{R g c:Nat}{l r:List Tok}{F:Int × Nat}{t:TypeId}{a b d:Value}(hz:W.heap[w.heap.size]?=some (.cells #[a,b,d] t (0,0)))(hx:Exc R w.heap.size w W)(hr:Rd W R g c l r F)(hR:R<w.heap.size)(hg:g<w.heap.size)(x y z:Value) :
  End3 w R g c l r F t x y z (((W.setCell ⟨w.heap.size,0,none⟩ x).setCell ⟨w.heap.size,1,none⟩ y).setCell ⟨w.heap.size,2,none⟩ z):=
 ⟨blk_set3 hz _ _ _,hx.set3 (Nat.le_refl _) _ _ _,hr.set3 (by omega) (by omega) _ _ _⟩
theorem end3a {w W:World}{R g c:Nat}{l r:List Tok}{F:Int × Nat}{t:TypeId}{x y z:Value}(h:End3 w R g c l r F t x y z W)(o:Obj):End3 w R g c l r F t x y z (W.alloc o):=
 ⟨blk_alloc h.1 o,h.2.1.alloc h.2.1.size o,h.2.2.alloc o⟩
def set8 (w:World)(g:Nat)(a b c d e f g' h:Value):World:=
 (((((((w.setCell ⟨g,0,none⟩ a).setCell ⟨g,1,none⟩ b).setCell ⟨g,2,none⟩ c).setCell ⟨g,3,none⟩ d).setCell ⟨g,4,none⟩ e).setCell ⟨g,5,none⟩ f).setCell ⟨g,6,none⟩ g').setCell ⟨g,7,none⟩ h
theorem exc_set8 (w:World)(g:Nat)(a b c d e f g' h:Value):Exc g w.heap.size w (set8 w g a b c d e f g' h):=
 (((((((exc_set w g 0 a).setCell (p:=⟨g,1,none⟩) (.inl rfl) b).setCell (p:=⟨g,2,none⟩) (.inl rfl) c).setCell (p:=⟨g,3,none⟩) (.inl rfl) d).setCell (p:=⟨g,4,none⟩) (.inl rfl) e).setCell (p:=⟨g,5,none⟩) (.inl rfl) f).setCell (p:=⟨g,6,none⟩) (.inl rfl) g').setCell (p:=⟨g,7,none⟩) (.inl rfl) h
theorem Exc.set8 {R B:Nat}{a w:World}(hx:Exc R B a w){g:Nat}(hg:B≤g)(x0 x1 x2 x3 x4 x5 x6 x7:Value):Exc R B a (set8 w g x0 x1 x2 x3 x4 x5 x6 x7):=
 (((((((hx.set1 hg 0 x0).set1 hg 1 x1).set1 hg 2 x2).set1 hg 3 x3).set1 hg 4 x4).set1 hg 5 x5).set1 hg 6 x6).set1 hg 7 x7
theorem blk_set8 {w:World}{g:Nat}{a b c d e f g' h:Value}{t:TypeId}(hb:w.heap[g]?=some (.cells #[a,b,c,d,e,f,g',h] t (0,0)))(x0 x1 x2 x3 x4 x5 x6 x7:Value) :
  (set8 w g x0 x1 x2 x3 x4 x5 x6 x7).heap[g]?=some (.cells #[x0,x1,x2,x3,x4,x5,x6,x7] t (0,0)):=by
 have k0:(w.setCell ⟨g,0,none⟩ x0).heap[g]?=some (.cells #[x0,b,c,d,e,f,g',h] t (0,0)):=(blk_set hb 0 x0).trans rfl
 have k1:((w.setCell ⟨g,0,none⟩ x0).setCell ⟨g,1,none⟩ x1).heap[g]?=some (.cells #[x0,x1,c,d,e,f,g',h] t (0,0)):=(blk_set k0 1 x1).trans rfl
 have k2:(((w.setCell ⟨g,0,none⟩ x0).setCell ⟨g,1,none⟩ x1).setCell ⟨g,2,none⟩ x2).heap[g]?=some (.cells #[x0,x1,x2,d,e,f,g',h] t (0,0)):=(blk_set k1 2 x2).trans rfl
 have k3:((((w.setCell ⟨g,0,none⟩ x0).setCell ⟨g,1,none⟩ x1).setCell ⟨g,2,none⟩ x2).setCell ⟨g,3,none⟩ x3).heap[g]?=some (.cells #[x0,x1,x2,x3,e,f,g',h] t (0,0)):=(blk_set k2 3 x3).trans rfl
 have k4:(((((w.setCell ⟨g,0,none⟩ x0).setCell ⟨g,1,none⟩ x1).setCell ⟨g,2,none⟩ x2).setCell ⟨g,3,none⟩ x3).setCell ⟨g,4,none⟩ x4).heap[g]?=some (.cells #[x0,x1,x2,x3,x4,f,g',h] t (0,0)):=(blk_set k3 4 x4).trans rfl
 have k5:((((((w.setCell ⟨g,0,none⟩ x0).setCell ⟨g,1,none⟩ x1).setCell ⟨g,2,none⟩ x2).setCell ⟨g,3,none⟩ x3).setCell ⟨g,4,none⟩ x4).setCell ⟨g,5,none⟩ x5).heap[g]?=some (.cells #[x0,x1,x2,x3,x4,x5,g',h] t (0,0)):=(blk_set k4 5 x5).trans rfl
 have k6:(((((((w.setCell ⟨g,0,none⟩ x0).setCell ⟨g,1,none⟩ x1).setCell ⟨g,2,none⟩ x2).setCell ⟨g,3,none⟩ x3).setCell ⟨g,4,none⟩ x4).setCell ⟨g,5,none⟩ x5).setCell ⟨g,6,none⟩ x6).heap[g]?=some (.cells #[x0,x1,x2,x3,x4,x5,x6,h] t (0,0)):=(blk_set k5 6 x6).trans rfl
 have k7:((((((((w.setCell ⟨g,0,none⟩ x0).setCell ⟨g,1,none⟩ x1).setCell ⟨g,2,none⟩ x2).setCell ⟨g,3,none⟩ x3).setCell ⟨g,4,none⟩ x4).setCell ⟨g,5,none⟩ x5).setCell ⟨g,6,none⟩ x6).setCell ⟨g,7,none⟩ x7).heap[g]?=some (.cells #[x0,x1,x2,x3,x4,x5,x6,x7] t (0,0)):=(blk_set k6 7 x7).trans rfl
 exact k7
def End8 (w:World)(R g c:Nat)(l r:List Tok)(F:Int × Nat)(t:TypeId)(x0 x1 x2 x3 x4 x5 x6 x7:Value)(W:World):Prop:=
 W.heap[w.heap.size]?=some (.cells #[x0,x1,x2,x3,x4,x5,x6,x7] t (0,0))∧Exc R w.heap.size w W∧Rd W R g c l r F
theorem end8 {w W:World}{R g c:Nat}{l r:List Tok}{F:Int × Nat}{t:TypeId}{y0 y1 y2 y3 y4 y5 y6 y7:Value}(hz:W.heap[w.heap.size]?=some (.cells #[y0,y1,y2,y3,y4,y5,y6,y7] t (0,0)))(hx:Exc R w.heap.size w W)(hr:Rd W R g c l r F)(hR:R<w.heap.size)(hg:g<w.heap.size)(x0 x1 x2 x3 x4 x5 x6 x7:Value) :
  End8 w R g c l r F t x0 x1 x2 x3 x4 x5 x6 x7 (set8 W w.heap.size x0 x1 x2 x3 x4 x5 x6 x7):=
 ⟨blk_set8 hz _ _ _ _ _ _ _ _,hx.set8 (Nat.le_refl _) _ _ _ _ _ _ _ _,hr.other (exc_set8 W w.heap.size x0 x1 x2 x3 x4 x5 x6 x7) (by omega) (by omega)⟩
theorem blk8 {w:World}{g:Nat}{x0 x1 x2 x3 x4 x5 x6 x7:Value}{t:TypeId}(h:w.heap[g]?=some (.cells #[x0,x1,x2,x3,x4,x5,x6,x7] t (0,0))) :
  g<w.heap.size∧(w.cell? ⟨g,0,none⟩=some x0∧w.cell? ⟨g,1,none⟩=some x1∧w.cell? ⟨g,2,none⟩=some x2∧w.cell? ⟨g,3,none⟩=some x3∧w.cell? ⟨g,4,none⟩=some x4∧w.cell? ⟨g,5,none⟩=some x5∧w.cell? ⟨g,6,none⟩=some x6∧w.cell? ⟨g,7,none⟩=some x7) ∧
   w.frozen? ⟨g,0,none⟩=false∧w.frozen? ⟨g,1,none⟩=false∧w.frozen? ⟨g,2,none⟩=false∧w.frozen? ⟨g,3,none⟩=false∧w.frozen? ⟨g,4,none⟩=false∧w.frozen? ⟨g,5,none⟩=false∧w.frozen? ⟨g,6,none⟩=false∧w.frozen? ⟨g,7,none⟩=false:=
 ⟨blk_lt h,⟨(blk_cell h 0).trans rfl,(blk_cell h 1).trans rfl,(blk_cell h 2).trans rfl,(blk_cell h 3).trans rfl,(blk_cell h 4).trans rfl,(blk_cell h 5).trans rfl,(blk_cell h 6).trans rfl,(blk_cell h 7).trans rfl⟩,
  blk_frozen h 0,blk_frozen h 1,blk_frozen h 2,blk_frozen h 3,blk_frozen h 4,blk_frozen h 5,blk_frozen h 6,blk_frozen h 7⟩
theorem Rd.cells3 {w:World}{R g c:Nat}{l r:List Tok}{F:Int × Nat}(h:Rd w R g c l r F) :
  w.cell? ⟨R,0,none⟩=some (.slice (some ⟨g,(l.length-r.length) * 3,none⟩) r.length (c-(l.length-r.length)))∧w.cell? ⟨R,1,none⟩=some (.int .i64 F.1)∧w.cell? ⟨R,2,none⟩=some (.int .i64 F.2):=
 ⟨(blk_cell h.blk 0).trans rfl,(blk_cell h.blk 1).trans rfl,(blk_cell h.blk 2).trans rfl⟩
theorem Rd.next {w:World}{R g c:Nat}{l r:List Tok}{F:Int × Nat}(h:Rd w R g c l r F) :
  l.length-r.length<l.length∧w.cell? ⟨g,(l.length-r.length) * 3,none⟩=some (.int .i64 (hd r).kind)∧w.cell? ⟨g,(l.length-r.length) * 3+1,none⟩=some (.string (strOfNums (hd r).text))∧w.cell? ⟨g,(l.length-r.length) * 3+2,none⟩=some (.int .i64 (hd r).place):=
 tok_cell h.cells h.glt (Below.refl _ _) _ _ _ (h.suf.trans h.ends.cons)
theorem Rd.mem {w:World}{R g c:Nat}{l r:List Tok}{F:Int × Nat}(h:Rd w R g c l r F):hd r ∈ l:=by
 have h1:∀ q:List Tok,Ends q→hd q ∈ q:=fun q hq=>by
  cases q with
  | nil=>exact hq.elim
  | cons t q=>exact List.mem_cons_self
 have h2:=h1 r h.ends
 have h3:∀ x,x ∈ r→x ∈ l:=fun x hx=>List.mem_of_mem_drop (h.suf▸hx)
 exact h3 _ h2
def tokV (t:Tok):Value:=.agg #[.int .i64 t.kind,.string (strOfNums t.text),.int .i64 t.place]
theorem fld0:∀ (k:Int) (S:ByteArray) (p:Int) (W:World),(Instr.field 97 (.agg #[.int .i64 k,.string S,.int .i64 p]) 0).run Tryz.prog W=.ok (.int .i64 k) W:=fun _ _ _ _=>by kernel_rfl
theorem fld1:∀ (k:Int) (S:ByteArray) (p:Int) (W:World),(Instr.field 97 (.agg #[.int .i64 k,.string S,.int .i64 p]) 1).run Tryz.prog W=.ok (.string S) W:=fun _ _ _ _=>by kernel_rfl
theorem fld2:∀ (k:Int) (S:ByteArray) (p:Int) (W:World),(Instr.field 97 (.agg #[.int .i64 k,.string S,.int .i64 p]) 2).run Tryz.prog W=.ok (.int .i64 p) W:=fun _ _ _ _=>by kernel_rfl
theorem here_any (w:World)(R g c:Nat)(l r:List Tok)(F:Int × Nat)(h:Rd w R g c l r F) :
  Calls Tryz.prog 103 #[.pointer (some ⟨R,0,none⟩)] w fun e w'=>e=.returned (tokV (hd r))∧Below w.heap.size w w':=by
 obtain ⟨r0,r1,r2⟩:=h.cells3
 obtain ⟨hk,x0,x1,x2⟩:=h.next
 have hg:=h.glt
 have hR:=blk_lt h.blk
 have h0:0<r.length:=by rw [h.ends.len];omega
 clear h r1 r2
 generalize l.length-r.length=j at *
 unfold tokV
 generalize hd r=t at *
 go_enter Tryz.func103,Tryz.ntmps103
 go_wp2
 exact bodyPost_ret (v:=.agg #[.int .i64 t.kind,.string (strOfNums t.text),.int .i64 t.place]) (by simp [results,Tryz.results103,go_sem]) rfl ⟨rfl,(Below.refl _ _).alloc (Nat.le_refl _) _⟩
theorem Rd.taken {w W:World}{R g c:Nat}{l r:List Tok}{F:Int × Nat}(h:Rd w R g c l r F)(h0:(hd r).kind≠0)(hb:Exc R w.heap.size w W)
  (hblk:W.heap[R]?=some (.cells #[.slice (some ⟨g,(l.length-r.length) * 3+3,none⟩) (r.length-1) (c-(l.length-r.length)-1),.int .i64 F.1,.int .i64 F.2] 123 (0,0))):Rd W R g c l r.tail F:=by
 have hl:=h.ends.len
 have hl2:=h.len
 have e:l.length-r.tail.length=l.length-r.length+1:=by omega
 refine ⟨?_,?_,by omega,Nat.lt_of_lt_of_le h.glt hb.size,h.gne,fun k hk=>(hb.cell (p:=⟨g,k,none⟩) h.glt h.gne).trans (h.cells k hk),h.cap,h.ends.tail h0,h.byt⟩
 · rw [hblk,e,show (l.length-r.length+1) * 3=(l.length-r.length) * 3+3 by omega,show r.tail.length=r.length-1 by omega,show c-(l.length-r.length+1)=c-(l.length-r.length)-1 by omega]
 · rw [e,←List.drop_drop,h.suf]
   cases r with
   | nil=>exact h.ends.elim
   | cons t q=>rfl
theorem Rd.faulted {w W:World}{R g c:Nat}{l r:List Tok}{F F':Int × Nat}(h:Rd w R g c l r F)(hb:Exc R w.heap.size w W)
  (hblk:W.heap[R]?=some (.cells #[.slice (some ⟨g,(l.length-r.length) * 3,none⟩) r.length (c-(l.length-r.length)),.int .i64 F'.1,.int .i64 F'.2] 123 (0,0))):Rd W R g c l r F':=
 ⟨hblk,h.suf,h.len,Nat.lt_of_lt_of_le h.glt hb.size,h.gne,fun k hk=>(hb.cell (p:=⟨g,k,none⟩) h.glt h.gne).trans (h.cells k hk),h.cap,h.ends,h.byt⟩
theorem take_any (w:World)(R g c:Nat)(l r:List Tok)(F:Int × Nat)(h:Rd w R g c l r F)(h0:(hd r).kind≠0) :
  Calls Tryz.prog 139 #[.pointer (some ⟨R,0,none⟩)] w fun e w'=>e=.returned (tokV (hd r))∧Rd w' R g c l r.tail F∧Exc R w.heap.size w w':=by
 have HD:=Lib.hid h
 have HH:=Lib.hid (here_any _ R g c l r F (h.alloc (.cells #[.int .i64 0,.string ByteArray.empty,.int .i64 0] 97)))
 have HB0:=Lib.hid (heap_alloc_new w (.cells #[.int .i64 0,.string ByteArray.empty,.int .i64 0] 97))
 have h2:=h.ends.two h0
 have hlen:=h.len
 have hR:=blk_lt h.blk
 have t0:((hd r).kind != 0)=true:=by simp [h0]
 have HZ:=Lib.hid h0
 have hcap:=h.cap
 unfold maxLen at hcap
 clear h h0
 unfold tokV at HH ⊢
 go_enter Tryz.func139,Tryz.ntmps139
 go_wp2_with fail
 refine HH.out.mono ?_
 rintro e W1 ⟨rfl,hb1⟩
 have HB1:=Lib.hid (((Below.refl _ _).alloc (Nat.le_refl _) _).trans (hb1.mono (by simp)))
 have HD1:=Lib.hid (HD.out.keep HB1.out)
 obtain ⟨hR1,r0,r1,r2,q0,q1,q2⟩:=blk3 HD1.out.blk
 have HZ1:=Lib.hid (blk_below HB0.out hb1 (by simp))
 obtain ⟨hz,z0,z1,z2,y0,y1,y2⟩:=blk3 HZ1.out
 clear hb1 r1 r2 q1 q2
 have hj:l.length-r.length+r.length=l.length:=by omega
 generalize hj0:l.length-r.length=j at *
 have HJ:=Lib.hid hj0
 clear hj0
 go_wp2
 refine post_gen (fun Wf=>Wf.heap[w.heap.size]?=some (.cells #[.int .i64 (hd r).kind,.string (strOfNums (hd r).text),.int .i64 (hd r).place] 97 (0,0))∧Exc R w.heap.size w Wf∧Wf.heap[R]?=some (.cells #[.slice (some ⟨g,j * 3+3,none⟩) (r.length-1) (c-j-1),.int .i64 F.1,.int .i64 F.2] 123 (0,0))) ⟨?_,?_,?_⟩ ?_
 · exact blk_alloc (blk_set3 (blk_set_ne HZ1.out (by simp only;omega) _) _ _ _) _
 · exact (((((Exc.of_below (R:=R) HB1.out).setCell (p:=⟨R,0,none⟩) (.inl rfl) _).setCell (.inr (Nat.le_refl _)) _).setCell (.inr (Nat.le_refl _)) _).setCell (.inr (Nat.le_refl _)) _).alloc (by simp [World.setCell];omega) _
 · refine blk_alloc (blk_set_ne (blk_set_ne (blk_set_ne ((blk_set HD1.out.blk 0 _).trans ?_) (by simp only;omega) _) (by simp only;omega) _) (by simp only;omega) _) _
   rfl
 · rintro Wf ⟨f1,f2,f3⟩
   obtain ⟨_,c0,c1,c2,_⟩:=blk3 f1
   exact bodyPost_ret (v:=.agg #[.int .i64 (hd r).kind,.string (strOfNums (hd r).text),.int .i64 (hd r).place]) (by simp [results,Tryz.results139,go_sem,c0,c1,c2]) rfl ⟨rfl,HD.out.taken HZ.out f2 (by rw [HJ.out];exact f3),f2⟩
set_option maxRecDepth 10000 in
theorem refuse_any (w:World)(R g c:Nat)(l r:List Tok)(F:Int × Nat)(code:Int)(h:Rd w R g c l r F) :
  Calls Tryz.prog 109 #[.pointer (some ⟨R,0,none⟩),.int .i64 code] w fun e w'=>e=.returned (.bool false)∧Rd w' R g c l r (code,(hd r).place)∧Exc R w.heap.size w w':=by
 have HH:=Lib.hid (here_any w R g c l r F h)
 have HD:=Lib.hid h
 clear h
 unfold tokV at HH
 go_enter Tryz.func109,Tryz.ntmps109
 go_wp2_with fail
 refine HH.out.mono ?_
 rintro e W1 ⟨rfl,hb1⟩
 have HB1:=Lib.hid hb1
 have HD1:=Lib.hid (HD.out.keep hb1)
 obtain ⟨hR1,r0,r1,r2,q0,q1,q2⟩:=blk3 HD1.out.blk
 have HB1':=Lib.hid hb1
 obtain ⟨f1,f2⟩:=F
 have hf:=fld2
 clear hb1 r0 q0
 go_wp2
 refine post_gen (fun Wf=>Exc R w.heap.size w Wf∧Wf.heap[R]?=some (.cells #[.slice (some ⟨g,(l.length-r.length) * 3,none⟩) r.length (c-(l.length-r.length)),.int .i64 code,.int .i64 (hd r).place] 123 (0,0))) ⟨?_,?_⟩ ?_
 · exact ((Exc.of_below (R:=R) HB1.out).setCell (p:=⟨R,1,none⟩) (.inl rfl) _).setCell (p:=⟨R,2,none⟩) (.inl rfl) _
 · exact (blk_set (blk_set HD1.out.blk 1 _) 2 _).trans rfl
 · rintro Wf ⟨e1,e2⟩
   go_ret
   exact ⟨rfl,HD.out.faulted e1 e2,e1⟩
theorem str_eq (x:List Int)(S:ByteArray)(hx:∀ z ∈ x,0≤z∧z≤255):((strOfNums x).toList==S.toList)=decide (x=bts S):=by
 rw [ByteArray.toList_eq,ByteArray.toList_eq,strOfNums_data]
 rw [Bool.eq_iff_iff,beq_iff_eq,decide_eq_true_iff]
 unfold bts
 constructor
 · intro h
   rw [←h,List.map_map]
   conv=>lhs;rw [←List.map_id x]
   refine List.map_congr_left fun z hz=>?_
   have:=hx z hz
   simp only [id,Function.comp,UInt8.toNat_ofNat']
   omega
 · rintro rfl
   rw [List.map_map]
   conv=>rhs;rw [←List.map_id S.data.toList]
   refine List.map_congr_left fun z _=>?_
   simp
theorem rdStands_any (w:World)(R g c:Nat)(l r:List Tok)(F:Int × Nat)(k:Int)(S:ByteArray)(s:List Int)(hs:bts S=s)(h:Rd w R g c l r F) :
  Calls Tryz.prog 68 #[.pointer (some ⟨R,0,none⟩),.int .i64 k,.string S] w fun e w'=>e=.returned (.bool (isT k s r))∧Below w.heap.size w w':=by
 have HH:=Lib.hid (here_any w R g c l r F h)
 have HD:=Lib.hid h
 have HS:=Lib.hid hs
 clear h hs
 unfold tokV at HH
 go_enter Tryz.func68,Tryz.ntmps68
 go_wp2_with fail
 refine HH.out.mono ?_
 rintro e W1 ⟨rfl,hb1⟩
 have HB1:=Lib.hid hb1
 clear hb1
 have HX:=Lib.hid (HD.out.byt _ HD.out.mem)
 have HI:=Lib.hid (str_eq (hd r).text S HX.out)
 go_wp2
 · rename_i hk
   go_ret
   refine ⟨ret_bool ?_,HB1.out.alloc HB1.out.size _⟩
   unfold isT
   rw [HI.out,HS.out,decide_eq_true hk,Bool.true_and]
 · rename_i hk
   go_ret
   refine ⟨ret_bool ?_,HB1.out.alloc HB1.out.size _⟩
   unfold isT
   rw [decide_eq_false hk,Bool.false_and]
end Go.Proofs.YtokhnoogkdlidaaGreatDoor
namespace Go.Proofs.YtokhnoogkdlidaaGreatDoor
open Go.RowKit Go.Lib
def dec7_ren:Go.Shelf.Ren:=⟨fun|32=>134 | 49=>148 | n=>n,fun|30=>22 | 21=>21 | 3=>3 | 0=>0 | 5=>5 | 4=>4 | 33=>196 | 66=>212 | 25=>163 | 69=>215 | 68=>214 | n=>n,fun|2=>1 | 3=>2 | n=>n⟩
theorem dec7:Go.Proofs.Lays7.n32 Tryz.prog dec7_ren:={
 mixed:=by kernel_rfl
 f32:=Tryz.func134.trans (congrArg some (by kernel_rfl))
 f49:=Tryz.func148.trans (congrArg some (by kernel_rfl))
 t0:=Tryz.underlying0
 a0:=Tryz.isAgg0
 z0:=Tryz.sizeOf0
 v0:=Tryz.zeroValue0
 i0:=by kernel_rfl
 t3:=Tryz.underlying3
 a3:=Tryz.isAgg3
 z3:=Tryz.sizeOf3
 v3:=Tryz.zeroValue3
 i3:=by kernel_rfl
 t4:=Tryz.underlying4
 a4:=Tryz.isAgg4
 z4:=Tryz.sizeOf4
 v4:=Tryz.zeroValue4
 i4:=by kernel_rfl
 t5:=Tryz.underlying5
 a5:=Tryz.isAgg5
 z5:=Tryz.sizeOf5
 v5:=Tryz.zeroValue5
 i5:=by kernel_rfl
 t21:=Tryz.underlying21
 a21:=Tryz.isAgg21
 z21:=Tryz.sizeOf21
 v21:=Tryz.zeroValue21
 i21:=by kernel_rfl
 t25:=Tryz.underlying163
 a25:=Tryz.isAgg163
 z25:=Tryz.sizeOf163
 v25:=Tryz.zeroValue163
 i25:=by kernel_rfl
 t30:=Tryz.underlying22
 a30:=Tryz.isAgg22
 z30:=Tryz.sizeOf22
 v30:=Tryz.zeroValue22
 i30:=by kernel_rfl
 t33:=Tryz.underlying196
 a33:=Tryz.isAgg196
 z33:=Tryz.sizeOf196
 v33:=Tryz.zeroValue196
 i33:=by kernel_rfl
 t66:=Tryz.underlying212
 a66:=Tryz.isAgg212
 z66:=Tryz.sizeOf212
 t68:=Tryz.underlying214
 a68:=Tryz.isAgg214
 z68:=Tryz.sizeOf214
 v68:=Tryz.zeroValue214
 i68:=by kernel_rfl
 t69:=Tryz.underlying215
 a69:=Tryz.isAgg215
 z69:=Tryz.sizeOf215
 v69:=Tryz.zeroValue215
 i69:=by kernel_rfl
 g2:=by kernel_rfl
 g3:=by kernel_rfl }
def Tabs (w:World):Prop:=Lib.Utf8Tabs 1 2 w
def tabs_ren:Go.Shelf.Ren:=⟨fun n=>n,fun|5=>5 | 119=>212 | 138=>214 | 139=>215 | n=>n,fun|3=>1 | 4=>2 | n=>n⟩
theorem u8types:U8Types Tryz.prog tabs_ren:={ t5:=Tryz.underlying5,t119:=Tryz.underlying212,t138:=Tryz.underlying214,t139:=Tryz.underlying215 }
theorem u8extra:U8Extra Tryz.prog tabs_ren:={ n3:=by kernel_rfl,n4:=by kernel_rfl,y3:=by kernel_rfl,y4:=by kernel_rfl,c5:=by kernel_rfl,c119:=by kernel_rfl,c138:=by kernel_rfl }
theorem first_is:Rows.laid_unicode_utf8_first=Lib.firstData:=by kernel_rfl
theorem accept_is:Rows.laid_unicode_utf8_acceptRanges (H:=Unit)=Lib.acceptData:=by kernel_rfl
theorem Tabs.sizes {w:World}(h:Tabs w):1 < w.heap.size∧2 < w.heap.size:=by
 constructor
 · exact World.block_lt_of_cell? _ _ (h.1 0 (by decide))
 · exact World.block_lt_of_cell? _ _ (h.2 0 (by decide)).1
theorem Tabs.below {w w':World}{B:Nat}(h:Tabs w)(hB:w.heap.size≤B)(hb:Below B w w'):Tabs w':=by
 obtain ⟨s0,s1⟩:=h.sizes
 refine ⟨fun c hc=>?_,fun i hi=>⟨?_,?_⟩⟩
 · exact (hb.cell (p:=⟨_,c,none⟩) (Nat.lt_of_lt_of_le s0 hB)).trans (h.1 c hc)
 · exact (hb.cell (p:=⟨_,2 * i,none⟩) (Nat.lt_of_lt_of_le s1 hB)).trans (h.2 i hi).1
 · exact (hb.cell (p:=⟨_,2 * i+1,none⟩) (Nat.lt_of_lt_of_le s1 hB)).trans (h.2 i hi).2
/-! ### the bytes of a list of numbers -/
def bytesOf (zs:List Int):ByteArray:=⟨(zs.map fun z=>UInt8.ofNat z.toNat).toArray⟩
theorem bytesOf_size (zs:List Int):(bytesOf zs).size=zs.length:=by simp [bytesOf,ByteArray.size]
theorem bytesOf_get (zs:List Int)(hb:∀ i,0≤zs.getD i 0∧zs.getD i 0≤255)(j:Nat)(hj:j<zs.length):(((bytesOf zs).get! j).toNat:Int)=zs.getD j 0:=by
 have h:=hb j
 have e:zs.getD j 0=zs[j]:=by simp [List.getD,hj]
 rw [e] at h ⊢
 have:(bytesOf zs).get! j=UInt8.ofNat zs[j].toNat:=by
  simp [bytesOf,ByteArray.get!,hj]
 rw [this]
 simp only [UInt8.toNat_ofNat']
 omega
def dec (zs:List Int):Int × Int:=(((Lib.decodeGo (bytesOf zs)).1:Int),((Lib.decodeGo (bytesOf zs)).2:Int))
theorem dec_any (zs:List Int)(b off cap:Nat)(w:World)(hT:Tabs w)(hc:∀ i,i<zs.length→w.cell? ⟨b,off+i,none⟩=some (.int .u8 (zs.getD i 0)))(hb:∀ i,0≤zs.getD i 0∧zs.getD i 0≤255) :
  Calls Tryz.prog 134 #[.slice (some ⟨b,off,none⟩) zs.length cap] w fun e w'=>e=.returned (.tuple #[.int .i32 (dec zs).1,.int .i64 (dec zs).2])∧Below w.heap.size w w':=by
 have h:=Any7.utf8_DecodeRune dec7 (bytesOf zs) b off cap w hT (fun j hj=>by
  have hj':j<zs.length:=by rw [bytesOf_size] at hj;exact hj
  rw [hc j hj',bytesOf_get zs hb j hj'])
 rw [bytesOf_size] at h
 exact h
theorem decodeN_width (n b0 b1 b2 b3:Nat)(hn:0<n):1≤(Lib.decodeN n b0 b1 b2 b3).2∧(Lib.decodeN n b0 b1 b2 b3).2≤4∧(Lib.decodeN n b0 b1 b2 b3).2≤n:=by
 unfold Lib.decodeN
 repeat' split
 all_goals (simp only;omega)
theorem dec_width (zs:List Int)(h:0<zs.length):1≤(dec zs).2∧(dec zs).2≤4∧(dec zs).2≤zs.length:=by
 have e:Lib.decodeGo (bytesOf zs)=Utf8.decode (bytesOf zs) 0:=by
  unfold Lib.decodeGo
  rw [if_neg (by rw [bytesOf_size];omega)]
 unfold dec
 rw [e,Lib.decode_at,bytesOf_size]
 have:=decodeN_width (zs.length-0) ((bytesOf zs).get! 0).toNat ((bytesOf zs).get! (0+1)).toNat ((bytesOf zs).get! (0+2)).toNat ((bytesOf zs).get! (0+3)).toNat (by omega)
 simp only
 omega
end Go.Proofs.YtokhnoogkdlidaaGreatDoor
namespace Go.Proofs.YtokhnoogkdlidaaGreatDoor
open Go.ChangeShapes Go.WideShapes Go.ChangeAt Go.RowKit
theorem rsized_yes (n:Int)(w:World)(h:n=1∨n=2∨n=4∨n=8) :
  Calls Tryz.prog 88 #[.int .i64 n] w fun e w'=>e=.returned (.bool true)∧w=w':=by
 rcases h with rfl|rfl|rfl|rfl
 all_goals
  go_enter Tryz.func88,Tryz.ntmps88
  go_wp2
  go_ret
  exact ⟨ret_bool (by kernel_rfl),rfl⟩
theorem rsized_no (n:Int)(w:World)(h:¬(n=1∨n=2∨n=4∨n=8)) :
  Calls Tryz.prog 88 #[.int .i64 n] w fun e w'=>e=.returned (.bool false)∧w=w':=by
 by_cases h0:n≤0
 · clear h
   go_enter Tryz.func88,Tryz.ntmps88
   go_wp2
   go_ret
   exact ⟨rfl,rfl⟩
 by_cases h8:8<n
 · clear h
   go_enter Tryz.func88,Tryz.ntmps88
   go_wp2
   go_ret
   exact ⟨rfl,rfl⟩
 have h':n=3∨n=5∨n=6∨n=7:=by omega
 clear h h0 h8
 rcases h' with rfl|rfl|rfl|rfl
 all_goals
  go_enter Tryz.func88,Tryz.ntmps88
  go_wp2
  go_ret
  exact ⟨ret_bool (by kernel_rfl),rfl⟩
end Go.Proofs.YtokhnoogkdlidaaGreatDoor
