/-
  Numbers that the hand makes fit their type, plain. Conditions: those that each theorem names.
-/
import Derived.WalkKit
import Derived.Laws.BitsLemmas
import Derived.Lib.ConvBytes
import Derived.Laws.BytesArg
import Derived.Laws.EntriesVeiled
import Derived.Shelf.Abstract
import Derived.Test.YtcfjjocmiheiaaaDoorRows
import Derived.ProofKit
import Derived.OpenShut
import Derived.ShutString
import Derived.ChangeOld
import Derived.Below
import Derived.WalkLawsBesides
import Derived.WalkSpells
import Derived.Lib.Hide
import Derived.Outline
import Derived.Handy
import Derived.Deep.RegionHeld3
import Derived.Deep.Cut
import Derived.IntWalk
import Derived.RegionTactic
import Derived.BigRegion
import Derived.Deep.AppendLies
import Derived.OwnWalk
namespace Go.Proofs.YtcfjjocmiheiaaaDoor
open Go.RowKit
def leNum (f:Nat→Int):Nat→Int
 | 0=>0
 | k+1=>leNum f k+f k * 2 ^ (8 * k)
theorem leNum_bd (f:Nat→Int)(n:Nat)(hf:∀ j,j<n→0≤f j∧f j≤255):∀ k,k≤n→0≤leNum f k∧leNum f k<2 ^ (8 * k)
 | 0,_=>by simp [leNum]
 | k+1,h=>by
  have ih:=leNum_bd f n hf k (by omega)
  obtain ⟨f0,f1⟩:=hf k (by omega)
  have hp:(0:Int)<2 ^ (8 * k):=Int.pow_pos (by decide)
  have e:(2:Int) ^ (8 * (k+1))=256 * 2 ^ (8 * k):=by
   rw [show 8 * (k+1)=8 * k+8 from by omega,Int.pow_add]
   omega
  have h1:0≤f k * 2 ^ (8 * k):=Int.mul_nonneg f0 (by omega)
  have h2:f k * 2 ^ (8 * k)≤255 * 2 ^ (8 * k):=Int.mul_le_mul_of_nonneg_right f1 (by omega)
  rw [e]
  simp only [leNum]
  generalize f k * 2 ^ (8 * k)=m at *
  generalize (2:Int) ^ (8 * k)=P at *
  omega
def leAt (zs:List Int)(a n:Nat):Int:=leNum (fun j=>zs.getD (a+j) 0) n
theorem pow_le56 (k:Nat)(hk:k<8):(2:Int) ^ (8 * k)≤72057594037927936:=by
 have:(2:Nat) ^ (8 * k)≤2 ^ 56:=Nat.pow_le_pow_right (by decide) (by omega)
 have h2:((2 ^ (8 * k):Nat):Int)≤((2 ^ 56:Nat):Int):=Int.ofNat_le.2 this
 simpa using h2
theorem or_byte (k:Nat)(hk:k<8)(y z:Int)(y0:0≤y)(y1:y<2 ^ (8 * k))(z0:0≤z)(z1:z≤255) :
  bits BinOp.or .u64 y (IntKind.u64.wrap (IntKind.u64.wrap z * 2 ^ (8 * k)))=y+z * 2 ^ (8 * k):=by
 rw [IntWalk.u64_in z ⟨z0,by omega⟩]
 have hp:(0:Int)<2 ^ (8 * k):=Int.pow_pos (by decide)
 have hP:=pow_le56 k hk
 have h1:0≤z * 2 ^ (8 * k):=Int.mul_nonneg z0 (by omega)
 have h2:z * 2 ^ (8 * k)≤255 * 2 ^ (8 * k):=Int.mul_le_mul_of_nonneg_right z1 (by omega)
 have hm:(z * 2 ^ (8 * k)) % 2 ^ (8 * k)=0:=Int.mul_emod_left z _
 have hc:bits BinOp.or .u64 y (z * 2 ^ (8 * k))=bits BinOp.or .u64 (z * 2 ^ (8 * k)) y:=by simp only [bits,BitVec.or_comm]
 rw [IntWalk.u64_in _ ⟨h1,by omega⟩,hc,bits_join .u64 64 (by decide) (fun n h0 h1=>IntWalk.u64_in n ⟨h0,by omega⟩) (8 * k) _ _ h1 hm (by omega) y0 y1 (by omega)]
 omega
theorem add_byte (k:Nat)(hk:k<8)(y z:Int)(y0:0≤y)(y1:y<2 ^ (8 * k))(z0:0≤z)(z1:z≤255) :
  IntKind.u64.wrap (y+IntKind.u64.wrap (IntKind.u64.wrap z * 2 ^ (8 * k)))=y+z * 2 ^ (8 * k):=by
 rw [IntWalk.u64_in z ⟨z0,by omega⟩]
 have hp:(0:Int)<2 ^ (8 * k):=Int.pow_pos (by decide)
 have hP:=pow_le56 k hk
 have h1:0≤z * 2 ^ (8 * k):=Int.mul_nonneg z0 (by omega)
 have h2:z * 2 ^ (8 * k)≤255 * 2 ^ (8 * k):=Int.mul_le_mul_of_nonneg_right z1 (by omega)
 rw [IntWalk.u64_in _ ⟨h1,by omega⟩,IntWalk.u64_in _ ⟨by omega,by omega⟩]
theorem ret_int {k:IntKind}{a b:Int}(h:a=b):Ending.returned (.int k a)=.returned (.int k b):=by rw [h]
theorem ret_bool {a b:Bool}(h:a=b):Ending.returned (.bool a)=.returned (.bool b):=by rw [h]
theorem ret_int_bool {k:IntKind}{a b:Int}{c:Bool}(h:a=b):Ending.returned (.tuple #[.int k a,.bool c])=.returned (.tuple #[.int k b,.bool c]):=by rw [h]
def kSize (n:Int):Int:=
 if n=1∨n=2∨n=6∨n=10 then 1 else if n=3∨n=7 then 2 else if n=4∨n=8 then 4 else if n=5∨n=9 then 8 else 0
theorem kSize_else (n:Int)(h:n<1∨10<n):kSize n=0:=by
 unfold kSize
 rw [if_neg (by omega),if_neg (by omega),if_neg (by omega),if_neg (by omega)]
def kSign (n:Int):Bool:=decide (2≤n∧n≤5)
def sgn (m n:Int):Int:=if n % (2 * m)<m then n % (2 * m) else n % (2 * m)+(18446744073709551616-2 * m)
def sgnOf (n s:Int):Int:=if s=1 then sgn 128 n else if s=2 then sgn 32768 n else if s=4 then sgn 2147483648 n else n
theorem sgnOf_else (n s:Int)(h1:¬s=1)(h2:¬s=2)(h4:¬s=4):sgnOf n s=n:=by
 unfold sgnOf
 rw [if_neg h1,if_neg h2,if_neg h4]
theorem and_8 (n:Int)(h0:0≤n)(h1:n≤18446744073709551615):bits BinOp.and .u64 n 255=n % 256:=
 bits_mask .u64 64 (by decide) (fun n h0 h1=>IntWalk.u64_in n ⟨h0,by omega⟩) 8 (by decide) n h0 (by omega)
theorem and_16 (n:Int)(h0:0≤n)(h1:n≤18446744073709551615):bits BinOp.and .u64 n 65535=n % 65536:=
 bits_mask .u64 64 (by decide) (fun n h0 h1=>IntWalk.u64_in n ⟨h0,by omega⟩) 16 (by decide) n h0 (by omega)
theorem and_32 (n:Int)(h0:0≤n)(h1:n≤18446744073709551615):bits BinOp.and .u64 n 4294967295=n % 4294967296:=
 bits_mask .u64 64 (by decide) (fun n h0 h1=>IntWalk.u64_in n ⟨h0,by omega⟩) 32 (by decide) n h0 (by omega)
theorem or_comm64 (x y:Int):bits BinOp.or .u64 x y=bits BinOp.or .u64 y x:=by simp only [bits,BitVec.or_comm]
theorem or_8 (y:Int)(h0:0≤y)(h1:y<256):bits BinOp.or .u64 y 18446744073709551360=y+18446744073709551360:=by
 rw [or_comm64,bits_join .u64 64 (by decide) (fun n h0 h1=>IntWalk.u64_in n ⟨h0,by omega⟩) 8 _ _ (by decide) (by decide) (by decide) h0 h1 (by omega)]
 omega
theorem or_16 (y:Int)(h0:0≤y)(h1:y<65536):bits BinOp.or .u64 y 18446744073709486080=y+18446744073709486080:=by
 rw [or_comm64,bits_join .u64 64 (by decide) (fun n h0 h1=>IntWalk.u64_in n ⟨h0,by omega⟩) 16 _ _ (by decide) (by decide) (by decide) h0 h1 (by omega)]
 omega
theorem or_32 (y:Int)(h0:0≤y)(h1:y<4294967296):bits BinOp.or .u64 y 18446744069414584320=y+18446744069414584320:=by
 rw [or_comm64,bits_join .u64 64 (by decide) (fun n h0 h1=>IntWalk.u64_in n ⟨h0,by omega⟩) 32 _ _ (by decide) (by decide) (by decide) h0 h1 (by omega)]
 omega
theorem sgnOf_1 (n:Int):sgnOf n 1=if n % 256<128 then n % 256 else n % 256+18446744073709551360:=rfl
theorem sgnOf_2 (n:Int):sgnOf n 2=if n % 65536<32768 then n % 65536 else n % 65536+18446744073709486080:=rfl
theorem sgnOf_4 (n:Int):sgnOf n 4=if n % 4294967296<2147483648 then n % 4294967296 else n % 4294967296+18446744069414584320:=rfl
end Go.Proofs.YtcfjjocmiheiaaaDoor
namespace Go.Proofs.YtcfjjocmiheiaaaDoor
open Go.RowKit
def isDig (c:Int):Bool:=decide (48≤c∧c≤57)
def isC (x:Int)(c:Int):Bool:=decide (c=x)
def stA (zs:List Int)(p:Int→Bool)(i:Nat):Bool:=decide (i<zs.length)&&p (zs.getD i 0)
/-! ### blanks and remarks -/
/-! ### numbers, quoted texts, a token -/
def sub (zs:List Int)(i j:Nat):List Int:=(zs.drop i).take (j-i)
def begins (zs:List Int)(i:Nat):Bool:=stA zs isDig i||(stA zs (isC 45) i&&stA zs isDig (i+1))
section
variable {ok:List Int→Bool} {sg:Int→Bool} {zs:List Int} {i:Nat}
end
end Go.Proofs.YtcfjjocmiheiaaaDoor
namespace Go.Proofs.YtcfjjocmiheiaaaDoor
open Go.ChangeShapes Go.WideShapes Go.ChangeAt Go.RowKit Go.Shelf
structure Exc (R B:Nat)(w w':World):Prop where
 os:w'.os=w.os
 tape:w'.tape=w.tape
 output:w'.output=w.output
 size:w.heap.size≤w'.heap.size
 block:∀ k,k<B→k≠R→w'.heap[k]?=w.heap[k]?
theorem Exc.refl (R B:Nat)(w:World):Exc R B w w:=⟨rfl,rfl,rfl,Nat.le_refl _,fun _ _ _=>rfl⟩
theorem Exc.trans {R B:Nat}{a b c:World}(h:Exc R B a b)(k:Exc R B b c):Exc R B a c:=
 ⟨k.os.trans h.os,k.tape.trans h.tape,k.output.trans h.output,Nat.le_trans h.size k.size,fun i hi hr=>(k.block i hi hr).trans (h.block i hi hr)⟩
theorem Exc.mono {R B B':Nat}{w w':World}(h:Exc R B w w')(hB:B'≤B):Exc R B' w w':=⟨h.os,h.tape,h.output,h.size,fun k hk hr=>h.block k (Nat.lt_of_lt_of_le hk hB) hr⟩
theorem Exc.of_below {R B:Nat}{w w':World}(h:Below B w w'):Exc R B w w':=⟨h.os,h.tape,h.output,h.size,fun k hk _=>h.block k hk⟩
theorem Exc.then {R:Nat}{a b c:World}(h:Exc R a.heap.size a b)(k:Exc R b.heap.size b c):Exc R a.heap.size a c:=h.trans (k.mono h.size)
theorem Exc.thenB {R B:Nat}{a b c:World}(h:Exc R B a b)(hB:B≤a.heap.size)(k:Exc R b.heap.size b c):Exc R B a c:=h.trans (k.mono (Nat.le_trans hB h.size))
theorem Exc.bel {R B:Nat}{a b c:World}(h:Exc R B a b)(hB:B≤a.heap.size)(k:Below b.heap.size b c):Exc R B a c:=h.thenB hB (.of_below k)
theorem Exc.alloc {R B:Nat}{a w:World}(h:Exc R B a w)(hB:B≤w.heap.size)(o:Obj):Exc R B a (w.alloc o):=
 h.trans (.of_below ((Below.refl _ _).alloc hB o))
theorem Exc.drew {R B:Nat}{a w:World}(h:Exc R B a w):Exc R B a w.drew:=⟨h.os,h.tape,h.output,h.size,h.block⟩
theorem Exc.setCell {R B:Nat}{a w:World}(h:Exc R B a w){p:Addr}(hp:p.block=R∨B≤p.block)(u:Value):Exc R B a (w.setCell p u):=
 h.trans ⟨rfl,rfl,rfl,by simp [World.setCell],fun k hk hr=>Below.heap_setCell _ _ _ _ (by rcases hp with h|h<;>omega)⟩
theorem Exc.grown {R B:Nat}{a w w':World}{row:Option Nat}(h:Exc R B a w)(hg:w.grownBy w' row)(hB:B≤w.heap.size)(hr:∀ k,row=some k→B≤k∨k=R):Exc R B a w':=
 h.trans ⟨hg.os,hg.tape,hg.output,hg.size,fun k hk hkr=>hg.block k (by omega) (fun e=>by have:=hr k e.symm;omega)⟩
theorem Exc.cell {R B:Nat}{w w':World}(h:Exc R B w w'){p:Addr}(hp:p.block<B)(hr:p.block≠R):w'.cell? p=w.cell? p:=World.cell?_of_block (w:=w) (h.block p.block hp hr)
theorem Exc.frozen {R B:Nat}{w w':World}(h:Exc R B w w'){p:Addr}(hp:p.block<B)(hr:p.block≠R):w'.frozen? p=w.frozen? p:=World.frozen?_of_block (w:=w) (h.block p.block hp hr)
theorem Exc.below {R B:Nat}{w w':World}(h:Exc R B w w')(hR:B≤R):Below B w w':=⟨h.os,h.tape,h.output,h.size,fun k hk=>h.block k hk (by omega)⟩
theorem Exc.ownsRow {R:Nat}{w w':World}(h:Exc R w.heap.size w w'){base:Nat}{e:TypeId}{size:Nat}{v:Value}{n:Nat}{xs:List Value}(ho:w.ownsRow base e size v n xs)(hR:v.ownBlock≠some R):w'.ownsRow base e size v n xs:=by
 obtain ⟨hl,h'⟩:=ho
 refine ⟨hl,?_⟩
 rcases h' with h1|⟨g',cap',cur,hv,h1,hg,h2⟩
 · exact .inl h1
 · have hlt:g'<w.heap.size:=by
    rcases Nat.lt_or_ge g' w.heap.size with h|h
    · exact h
    · rw [Array.getElem?_eq_none h] at hg;cases hg
   subst hv
   exact .inr ⟨g',cap',cur,rfl,h1,(h.block g' hlt (fun e=>hR (by simp [Value.ownBlock,e]))).trans hg,h2⟩
theorem ownsRow_base {w:World}{base base':Nat}{e:TypeId}{size:Nat}{v:Value}{n:Nat}{xs:List Value}(h:w.ownsRow base e size v n xs)(hb:base'≤base):w.ownsRow base' e size v n xs:=
 ⟨h.1,h.2.elim Or.inl (fun ⟨g,cap,cur,hv,hg,r⟩=>Or.inr ⟨g,cap,cur,hv,Nat.le_trans hb hg,r⟩)⟩
theorem ownsRow_lt {w:World}{base:Nat}{e:TypeId}{size:Nat}{v:Value}{n:Nat}{xs:List Value}(h:w.ownsRow base e size v n xs):∀ k,v.ownBlock=some k→base≤k∧k<w.heap.size:=by
 intro k hk
 rcases h.2 with ⟨rfl,_⟩|⟨g,cap,cur,rfl,hb,hg,_⟩
 · simp [Value.ownBlock] at hk
 · simp [Value.ownBlock] at hk
   subst hk
   refine ⟨hb,?_⟩
   rcases Nat.lt_or_ge g w.heap.size with h'|h'
   · exact h'
   · rw [Array.getElem?_eq_none h'] at hg;cases hg
theorem ownsRow_form {w:World}{base:Nat}{e:TypeId}{size:Nat}{v:Value}{n:Nat}{xs:List Value}(h:w.ownsRow base e size v n xs):∃ a c,v=.slice a n c:=by
 rcases h.2 with ⟨rfl,h0⟩|⟨g,cap,_,rfl,_⟩
 · rw [h0]
   exact ⟨_,_,rfl⟩
 · exact ⟨_,_,rfl⟩
theorem blk_cell {w:World}{g:Nat}{cs:Array Value}{t:TypeId}(h:w.heap[g]?=some (.cells cs t (0,0)))(i:Nat):w.cell? ⟨g,i,none⟩=cs[i]?:=cell_of_row w g i cs t (0,0) h
theorem blk_frozen {w:World}{g:Nat}{cs:Array Value}{t:TypeId}(h:w.heap[g]?=some (.cells cs t (0,0)))(i:Nat):w.frozen? ⟨g,i,none⟩=false:=by
 simp [World.frozen?,show w.heap[g]?=_ from h]
theorem blk_lt {w:World}{g:Nat}{o:Obj}(h:w.heap[g]?=some o):g<w.heap.size:=by
 rcases Nat.lt_or_ge g w.heap.size with h'|h'
 · exact h'
 · rw [Array.getElem?_eq_none h'] at h;cases h
theorem blk_set {w:World}{g:Nat}{cs:Array Value}{t:TypeId}(h:w.heap[g]?=some (.cells cs t (0,0)))(i:Nat)(u:Value):(w.setCell ⟨g,i,none⟩ u).heap[g]?=some (.cells (cs.setIfInBounds i u) t (0,0)):=by
 simp [World.setCell,Array.getElem?_modify,h]
theorem blk_set_ne {w:World}{g:Nat}{o:Obj}(h:w.heap[g]?=some o){p:Addr}(hp:p.block≠g)(u:Value):(w.setCell p u).heap[g]?=some o:=
 (Below.heap_setCell w p u g (fun e=>hp e.symm)).trans h
theorem blk_alloc {w:World}{g:Nat}{o:Obj}(h:w.heap[g]?=some o)(o':Obj):(w.alloc o').heap[g]?=some o:=
 (Below.heap_alloc w o' g (blk_lt h)).trans h
theorem blk2 {w:World}{g:Nat}{x y:Value}{t:TypeId}(h:w.heap[g]?=some (.cells #[x,y] t (0,0))) :
  g<w.heap.size∧w.cell? ⟨g,0,none⟩=some x∧w.cell? ⟨g,1,none⟩=some y∧w.frozen? ⟨g,0,none⟩=false∧w.frozen? ⟨g,1,none⟩=false:=
 ⟨blk_lt h,(blk_cell h 0).trans rfl,(blk_cell h 1).trans rfl,blk_frozen h 0,blk_frozen h 1⟩
theorem blk3 {w:World}{g:Nat}{x y z:Value}{t:TypeId}(h:w.heap[g]?=some (.cells #[x,y,z] t (0,0))) :
  g<w.heap.size∧w.cell? ⟨g,0,none⟩=some x∧w.cell? ⟨g,1,none⟩=some y∧w.cell? ⟨g,2,none⟩=some z∧w.frozen? ⟨g,0,none⟩=false∧w.frozen? ⟨g,1,none⟩=false∧w.frozen? ⟨g,2,none⟩=false:=
 ⟨blk_lt h,(blk_cell h 0).trans rfl,(blk_cell h 1).trans rfl,(blk_cell h 2).trans rfl,blk_frozen h 0,blk_frozen h 1,blk_frozen h 2⟩
theorem blk_below {w W:World}{B g:Nat}{o:Obj}(h:w.heap[g]?=some o)(hb:Below B w W)(hg:g<B):W.heap[g]?=some o:=(hb.block g hg).trans h
theorem blk_exc {w W:World}{R B g:Nat}{o:Obj}(h:w.heap[g]?=some o)(hb:Exc R B w W)(hg:g<B)(hne:g≠R):W.heap[g]?=some o:=(hb.block g hg hne).trans h
theorem post_gen {P:Program}{f:Func}{Q:Ending→World→Prop}{ex:Exit}{a:Act}{W:World}(p:World→Prop)(hp:p W)(k:∀ Wf,p Wf→bodyPost P f Q ex a Wf):bodyPost P f Q ex a W:=k W hp
theorem blk_set3 {w:World}{g:Nat}{x y z:Value}{t:TypeId}(h:w.heap[g]?=some (.cells #[x,y,z] t (0,0)))(x' y' z':Value) :
  (((w.setCell ⟨g,0,none⟩ x').setCell ⟨g,1,none⟩ y').setCell ⟨g,2,none⟩ z').heap[g]?=some (.cells #[x',y',z'] t (0,0)):=
 (blk_set (blk_set (blk_set h 0 x') 1 y') 2 z').trans rfl
theorem exc_set (w:World)(g i:Nat)(x:Value):Exc g w.heap.size w (w.setCell ⟨g,i,none⟩ x):=(Exc.refl g _ w).setCell (p:=⟨g,i,none⟩) (.inl rfl) x
end Go.Proofs.YtcfjjocmiheiaaaDoor
namespace Go.Proofs.YtcfjjocmiheiaaaDoor
open Go.ChangeShapes Go.WideShapes Go.ChangeAt Go.RowKit Go.Shelf
theorem row_at {w:World}{base:Nat}{e:TypeId}{size:Nat}{v:Value}{n:Nat}{xs:List Value}(h:w.ownsRow base e size v n xs)(hn:0<n) :
  ∃ g c,v=.slice (some ⟨g,0,none⟩) n c∧n≤c∧base≤g∧g<w.heap.size∧∀ k,k<n * size→w.cell? ⟨g,k,none⟩=xs[k]?:=by
 rcases h.2 with ⟨_,h0⟩|⟨g,cap,cur,rfl,hb,hg,hnc,hm,hs,ht⟩
 · omega
 · refine ⟨g,cap,rfl,hnc,hb,blk_lt hg,fun k hk=>?_⟩
   rw [cell_of_row w g k cur _ (0,0) hg,←ht,List.getElem?_take,if_pos hk,Array.getElem?_toList]
theorem flat_at {α:Type}(f:α→List Value)(m:Nat)(hm:∀ a,(f a).length=m):∀ (l:List α) (k:Nat) (hk:k<l.length) (j:Nat),j<m→(l.flatMap f)[k * m+j]?=(f l[k])[j]?
 | [],k,hk,_,_=>absurd hk (Nat.not_lt_zero k)
 | a::r,0,_,j,hj=>by
  rw [List.flatMap_cons,Nat.zero_mul,Nat.zero_add,List.getElem?_append_left (by rw [hm];exact hj)]
  rfl
 | a::r,k+1,hk,j,hj=>by
  have e:(k+1) * m+j=m+(k * m+j):=by rw [Nat.succ_mul];omega
  rw [List.flatMap_cons,List.getElem?_append_right (by rw [hm,e];omega),hm,show (k+1) * m+j-m=k * m+j by omega]
  exact flat_at f m hm r k (Nat.lt_of_succ_lt_succ hk) j hj
theorem row_el {α:Type}(f:α→List Value)(m:Nat)(hm:∀ a,(f a).length=m){w:World}{base:Nat}{e:TypeId}{v:Value}{l:List α}(h:w.ownsRow base e m v l.length (l.flatMap f))(k:Nat)(hk:k<l.length) :
  ∃ g c,v=.slice (some ⟨g,0,none⟩) l.length c∧l.length≤c∧g<w.heap.size∧∀ j,j<m→w.cell? ⟨g,k * m+j,none⟩=(f l[k])[j]?:=by
 obtain ⟨g,c,hv,hc,_,hg,hcell⟩:=row_at h (by omega)
 refine ⟨g,c,hv,hc,hg,fun j hj=>?_⟩
 have hlt:k * m+j<l.length * m:=by
  have h1:(k+1) * m≤l.length * m:=Nat.mul_le_mul_right m hk
  rw [Nat.succ_mul] at h1
  omega
 rw [hcell _ hlt,flat_at f m hm l k hk j hj]
theorem row_few {w:World}{base:Nat}{e:TypeId}{size:Nat}{v:Value}{n:Nat}{xs:List Value}(h:w.ownsRow base e size v n xs):n≤9223372036854775807:=by
 rcases h.2 with ⟨_,h0⟩|⟨g,cap,cur,rfl,hb,hg,hnc,hm,_⟩
 · omega
 · unfold maxLen at hm
   omega
theorem slice_inj {a b:Option Addr}{n c n' c':Nat}(h:Value.slice a n c=.slice b n' c'):a=b∧c=c':=by
 injection h with h1 _ h3
 exact ⟨h1,h3⟩
theorem row_keep {w w':World}(h:Below w.heap.size w w'){base:Nat}{e:TypeId}{size:Nat}{v:Value}{n:Nat}{xs:List Value}(ho:w.ownsRow base e size v n xs):w'.ownsRow base e size v n xs:=by
 obtain ⟨hl,h'⟩:=ho
 refine ⟨hl,?_⟩
 rcases h' with h1|⟨g',cap',cur,hv,h1,hg',h2⟩
 · exact .inl h1
 · exact .inr ⟨g',cap',cur,hv,h1,(h.block g' (blk_lt hg')).trans hg',h2⟩
end Go.Proofs.YtcfjjocmiheiaaaDoor
namespace Go.Proofs.YtcfjjocmiheiaaaDoor
open Go.ChangeShapes Go.WideShapes Go.ChangeAt Go.RowKit Go.Shelf
structure PF where
 kind:Nat
 lists:Nat
 ref:Nat
 name:Nat
 dflt:Nat
structure Plan where
 enums:List Nat
 structs:List (List PF)
 root:Nat
 tree:Bool
structure SFld where
 name:ByteArray
 kind:Nat
 ref:Nat
 lists:Nat
 dflt:Nat
structure SRec where
 name:ByteArray
 fields:List SFld
structure SCho where
 name:ByteArray
 names:List ByteArray
def isNumP (kind lists:Nat):Bool:=decide (lists=0)&&decide (0<kSize kind)
def noPF:PF:=⟨0,0,0,0,0⟩
/-! ### in memory -/
def sfldCells (f:SFld):List Value:=[.string f.name,.int .u8 f.kind,.int .i64 f.ref,.int .i64 f.lists,.int .u64 f.dflt]
def sfldsCells (l:List SFld):List Value:=l.flatMap sfldCells
def strCells (s:ByteArray):List Value:=[.string s]
def strsCells (l:List ByteArray):List Value:=l.flatMap strCells
def srecCells (q:SRec × Value):List Value:=[.string q.1.name,q.2]
def schoCells (q:SCho × Value):List Value:=[.string q.1.name,q.2]
def srecsCells (l:List (SRec × Value)):List Value:=l.flatMap srecCells
def schosCells (l:List (SCho × Value)):List Value:=l.flatMap schoCells
structure SchRows (base:Nat)(W:World)(ss:List (SRec × Value))(es:List (SCho × Value))(sv ev:Value):Prop where
 structs:W.ownsRow base 55 2 sv ss.length (srecsCells ss)
 enums:W.ownsRow base 82 2 ev es.length (schosCells es)
 fields:∀ q ∈ ss,W.ownsRow base 52 5 q.2 q.1.fields.length (sfldsCells q.1.fields)
 names:∀ q ∈ es,W.ownsRow base 9 1 q.2 q.1.names.length (strsCells q.1.names)
theorem SchRows.below {base:Nat}{W W':World}{ss:List (SRec × Value)}{es:List (SCho × Value)}{sv ev:Value}(h:SchRows base W ss es sv ev)(hb:Below W.heap.size W W'):SchRows base W' ss es sv ev:=
 ⟨row_keep hb h.structs,row_keep hb h.enums,fun q hq=>row_keep hb (h.fields q hq),fun q hq=>row_keep hb (h.names q hq)⟩
theorem SchRows.base {base base':Nat}{W:World}{ss:List (SRec × Value)}{es:List (SCho × Value)}{sv ev:Value}(h:SchRows base W ss es sv ev)(hb:base'≤base):SchRows base' W ss es sv ev:=
 ⟨ownsRow_base h.structs hb,ownsRow_base h.enums hb,fun q hq=>ownsRow_base (h.fields q hq) hb,fun q hq=>ownsRow_base (h.names q hq) hb⟩
theorem SchRows.forms {base:Nat}{W:World}{ss:List (SRec × Value)}{es:List (SCho × Value)}{sv ev:Value}(h:SchRows base W ss es sv ev):∃ sa sc ea ec,sv=.slice sa ss.length sc∧ev=.slice ea es.length ec:=by
 obtain ⟨sa,sc,h1⟩:=ownsRow_form h.structs
 obtain ⟨ea,ec,h2⟩:=ownsRow_form h.enums
 exact ⟨sa,sc,ea,ec,h1,h2⟩
theorem SchRows.field {base:Nat}{W:World}{ss:List (SRec × Value)}{es:List (SCho × Value)}{sv ev:Value}(h:SchRows base W ss es sv ev)(k:Nat)(hk:k<ss.length)(j:Nat)(hj:j<ss[k].1.fields.length) :
  ∃ g c,ss[k].2=.slice (some ⟨g,0,none⟩) ss[k].1.fields.length c∧ss[k].1.fields.length≤c∧g<W.heap.size∧W.cell? ⟨g,j * 5,none⟩=some (.string ss[k].1.fields[j].name)∧W.cell? ⟨g,j * 5+1,none⟩=some (.int .u8 (ss[k].1.fields[j].kind:Nat))∧W.cell? ⟨g,j * 5+2,none⟩=some (.int .i64 (ss[k].1.fields[j].ref:Nat))∧W.cell? ⟨g,j * 5+3,none⟩=some (.int .i64 (ss[k].1.fields[j].lists:Nat))∧W.cell? ⟨g,j * 5+4,none⟩=some (.int .u64 (ss[k].1.fields[j].dflt:Nat)):=by
 obtain ⟨g,c,hv,hc,hg,hcell⟩:=row_el sfldCells 5 (fun _=>rfl) (h.fields _ (List.getElem_mem hk)) j hj
 exact ⟨g,c,hv,hc,hg,hcell 0 (by omega),hcell 1 (by omega),hcell 2 (by omega),hcell 3 (by omega),hcell 4 (by omega)⟩
theorem SchRows.name {base:Nat}{W:World}{ss:List (SRec × Value)}{es:List (SCho × Value)}{sv ev:Value}(h:SchRows base W ss es sv ev)(k:Nat)(hk:k<es.length)(j:Nat)(hj:j<es[k].1.names.length) :
  ∃ g c,es[k].2=.slice (some ⟨g,0,none⟩) es[k].1.names.length c∧es[k].1.names.length≤c∧g<W.heap.size∧W.cell? ⟨g,j,none⟩=some (.string es[k].1.names[j]):=by
 obtain ⟨g,c,hv,hc,hg,hcell⟩:=row_el strCells 1 (fun _=>rfl) (h.names _ (List.getElem_mem hk)) j hj
 have h0:=hcell 0 (by omega)
 rw [Nat.mul_one,Nat.add_zero] at h0
 exact ⟨g,c,hv,hc,hg,h0⟩
structure IsPlan (w:World)(p:Plan)(a0:Option Addr)(n0 c0:Nat)(a1:Option Addr)(n1 c1:Nat):Prop where
 e_len:p.enums.length=n0
 s_len:p.structs.length=n1
 e_cap:n0≤c0∧c0≤maxLen
 s_cap:n1≤c1∧c1≤maxLen
 rt:p.root≤255
 e_at:∀ j,j<n0→p.enums.getD j 0≤255∧∃ b off,a0=some ⟨b,off,none⟩∧b<w.heap.size∧w.cell? ⟨b,off+j,none⟩=some (.int .u8 (p.enums.getD j 0:Nat))
 s_at:∀ r,r<n1→∃ b off a n c,a1=some ⟨b,off,none⟩∧b<w.heap.size∧w.cell? ⟨b,off+r,none⟩=some (.slice a n c)∧(p.structs.getD r []).length=n∧n≤c∧c≤maxLen ∧
  ∀ k,k<n→∃ b' off' f,(p.structs.getD r []).getD k noPF=f∧a=some ⟨b',off',none⟩∧b'<w.heap.size∧w.cell? ⟨b',off'+k * 5,none⟩=some (.int .u8 (f.kind:Nat))∧w.cell? ⟨b',off'+k * 5+1,none⟩=some (.int .u8 (f.lists:Nat))∧w.cell? ⟨b',off'+k * 5+2,none⟩=some (.int .u8 (f.ref:Nat))∧w.cell? ⟨b',off'+k * 5+3,none⟩=some (.int .u8 (f.name:Nat))∧w.cell? ⟨b',off'+k * 5+4,none⟩=some (.int .u64 (f.dflt:Nat)) ∧
   f.kind≤255∧f.lists≤255∧f.ref≤255∧f.name≤255∧(f.dflt:Int)≤18446744073709551615
end Go.Proofs.YtcfjjocmiheiaaaDoor
namespace Go.Proofs.YtcfjjocmiheiaaaDoor
open Go.ChangeShapes Go.WideShapes Go.ChangeAt Go.RowKit
theorem rsigned_any (n s:Int)(w:World)(h0:0≤n)(h1:n≤18446744073709551615) :
  Calls Tryd.prog 60 #[.int .u64 n,.int .i64 s] w fun e w'=>e=.returned (.int .u64 (sgnOf n s))∧w=w':=by
 by_cases e1:s=1
 · subst e1
   have ha:=and_8 n h0 h1
   by_cases hlt:n % 256<128
   · have E:n % 256=sgnOf n 1:=by rw [sgnOf_1,if_pos hlt]
     have H:=Lib.hid E
     have ht:(n % 256 / 128==1)=false:=by simp;omega
     clear E hlt
     go_enter Tryd.func60,Tryd.ntmps60
     go_wp2
     go_ret
     exact ⟨ret_int H.out,rfl⟩
   · have E:bits BinOp.or .u64 (n % 256) (IntKind.u64.wrap 4722366482869645213440)=sgnOf n 1:=by rw [sgnOf_1,if_neg hlt,show IntKind.u64.wrap 4722366482869645213440=18446744073709551360 from by decide,or_8 _ (by omega) (by omega)]
     have H:=Lib.hid E
     have ht:(n % 256 / 128==1)=true:=by simp;omega
     clear E hlt
     go_enter Tryd.func60,Tryd.ntmps60
     go_wp2
     go_ret
     exact ⟨ret_int H.out,rfl⟩
 by_cases e2:s=2
 · subst e2
   have ha:=and_16 n h0 h1
   by_cases hlt:n % 65536<32768
   · have E:n % 65536=sgnOf n 2:=by rw [sgnOf_2,if_pos hlt]
     have H:=Lib.hid E
     have ht:(n % 65536 / 32768==1)=false:=by simp;omega
     clear E hlt
     go_enter Tryd.func60,Tryd.ntmps60
     go_wp2
     go_ret
     exact ⟨ret_int H.out,rfl⟩
   · have E:bits BinOp.or .u64 (n % 65536) (IntKind.u64.wrap 1208925819614629174640640)=sgnOf n 2:=by rw [sgnOf_2,if_neg hlt,show IntKind.u64.wrap 1208925819614629174640640=18446744073709486080 from by decide,or_16 _ (by omega) (by omega)]
     have H:=Lib.hid E
     have ht:(n % 65536 / 32768==1)=true:=by simp;omega
     clear E hlt
     go_enter Tryd.func60,Tryd.ntmps60
     go_wp2
     go_ret
     exact ⟨ret_int H.out,rfl⟩
 by_cases e4:s=4
 · subst e4
   have ha:=and_32 n h0 h1
   by_cases hlt:n % 4294967296<2147483648
   · have E:n % 4294967296=sgnOf n 4:=by rw [sgnOf_4,if_pos hlt]
     have H:=Lib.hid E
     have ht:(n % 4294967296 / 2147483648==1)=false:=by simp;omega
     clear E hlt
     go_enter Tryd.func60,Tryd.ntmps60
     go_wp2
     go_ret
     exact ⟨ret_int H.out,rfl⟩
   · have E:bits BinOp.or .u64 (n % 4294967296) (IntKind.u64.wrap 79228162514264337589248983040)=sgnOf n 4:=by rw [sgnOf_4,if_neg hlt,show IntKind.u64.wrap 79228162514264337589248983040=18446744069414584320 from by decide,or_32 _ (by omega) (by omega)]
     have H:=Lib.hid E
     have ht:(n % 4294967296 / 2147483648==1)=true:=by simp;omega
     clear E hlt
     go_enter Tryd.func60,Tryd.ntmps60
     go_wp2
     go_ret
     exact ⟨ret_int H.out,rfl⟩
 have H:=Lib.hid (sgnOf_else n s e1 e2 e4)
 have hs1:(s != 1)=true:=by simp;omega
 have hs2:(s != 2)=true:=by simp;omega
 have hs4:(s != 4)=true:=by simp;omega
 clear e1 e2 e4
 rw [H.out]
 go_enter Tryd.func60,Tryd.ntmps60
 go_wp2
 go_ret
 exact ⟨rfl,rfl⟩
theorem rsize_any (n:Int)(w:World) :
  Calls Tryd.prog 51 #[.int .i64 n] w fun e w'=>e=.returned (.int .i64 (kSize n))∧w=w':=by
 by_cases h:n<1∨10<n
 · have H:=Lib.hid (kSize_else n h)
   have b1:(n==1)=false:=by simp;omega
   have b2:(n==2)=false:=by simp;omega
   have b3:(n==3)=false:=by simp;omega
   have b4:(n==4)=false:=by simp;omega
   have b5:(n==5)=false:=by simp;omega
   have b6:(n==6)=false:=by simp;omega
   have b7:(n==7)=false:=by simp;omega
   have b8:(n==8)=false:=by simp;omega
   have b9:(n==9)=false:=by simp;omega
   have b10:(n==10)=false:=by simp;omega
   clear h
   rw [H.out]
   go_enter Tryd.func51,Tryd.ntmps51
   go_wp2
   go_ret
   exact ⟨rfl,rfl⟩
 · have h':n=1∨n=2∨n=3∨n=4∨n=5∨n=6∨n=7∨n=8∨n=9∨n=10:=by omega
   clear h
   rcases h' with rfl|rfl|rfl|rfl|rfl|rfl|rfl|rfl|rfl|rfl
   all_goals
    go_enter Tryd.func51,Tryd.ntmps51
    go_wp2
    go_ret
    exact ⟨ret_int (by decide),rfl⟩
theorem rsign_any (n:Int)(w:World) :
  Calls Tryd.prog 59 #[.int .i64 n] w fun e w'=>e=.returned (.bool (kSign n))∧w=w':=by
 by_cases h1:2≤n
 · by_cases h2:n≤5
   · rw [show kSign n=true from decide_eq_true ⟨h1,h2⟩]
     go_enter Tryd.func59,Tryd.ntmps59
     go_wp2
     go_ret
     exact ⟨rfl,rfl⟩
   · rw [show kSign n=false from decide_eq_false (fun h=>h2 h.2)]
     go_enter Tryd.func59,Tryd.ntmps59
     go_wp2
     go_ret
     exact ⟨rfl,rfl⟩
 · rw [show kSign n=false from decide_eq_false (fun h=>h1 h.1)]
   go_enter Tryd.func59,Tryd.ntmps59
   go_wp2
   go_ret
   exact ⟨rfl,rfl⟩
end Go.Proofs.YtcfjjocmiheiaaaDoor
namespace Go.Proofs.YtcfjjocmiheiaaaDoor
open Go.ChangeShapes Go.WideShapes Go.ChangeAt Go.RowKit Go.Shelf
set_option maxRecDepth 100000 in
theorem isnum_any (kind ref lists:Nat)(w:World)(hk:kind≤255) :
  Calls Tryd.prog 38 #[.agg #[.int .u8 kind,.int .i64 ref,.int .i64 lists]] w fun e w'=>e=.returned (.bool (isNumP kind lists))∧Below w.heap.size w w':=by
 have h0:=heap_alloc_new w (.cells #[.int .u8 kind,.int .i64 ref,.int .i64 lists] 50)
 have HB:=Lib.hid ((Below.refl w.heap.size w).alloc (Nat.le_refl _) (.cells #[.int .u8 kind,.int .i64 ref,.int .i64 lists] 50))
 obtain ⟨_,x0,x1,x2,_⟩:=blk3 h0
 clear h0
 have hb1:(kind:Int)≤255:=by omega
 by_cases hl:lists=0
 · have HS:Hid (isNumP kind lists=decide (0<kSize kind)):=Lib.hid (by unfold isNumP;rw [decide_eq_true hl,Bool.true_and])
   subst hl
   go_enter Tryd.func38,Tryd.ntmps38
   go_wp2_with fail
   refine (rsize_any _ _).mono ?_
   rintro e W1 ⟨rfl,rfl⟩
   generalize kSize (kind:Int)=z at *
   by_cases hs:0<z
   · go_wp2
     go_ret
     exact ⟨ret_bool (HS.out.trans (decide_eq_true hs)).symm,HB.out⟩
   · go_wp2
     go_ret
     exact ⟨ret_bool HS.out.symm,HB.out⟩
 · have HS:Hid (isNumP kind lists=false):=Lib.hid (by unfold isNumP;rw [decide_eq_false hl,Bool.false_and])
   have hl1:((lists:Int)==0)=false:=by simp;omega
   clear hl
   go_enter Tryd.func38,Tryd.ntmps38
   go_wp2
   go_ret
   exact ⟨ret_bool HS.out.symm,HB.out⟩
theorem two_start (w:World)(a b:Array Value)(s t:TypeId):Below w.heap.size w ((w.alloc (.cells a s)).alloc (.cells b t))∧((w.alloc (.cells a s)).alloc (.cells b t)).heap[w.heap.size]?=some (.cells a s (0,0))∧((w.alloc (.cells a s)).alloc (.cells b t)).heap[w.heap.size+1]?=some (.cells b t (0,0)):=by
 refine ⟨((Below.refl _ _).alloc (Nat.le_refl _) _).alloc (by simp) _,blk_alloc (heap_alloc_new w _) _,?_⟩
 have:=heap_alloc_new (w.alloc (.cells a s)) (.cells b t)
 rwa [World.size_alloc] at this
end Go.Proofs.YtcfjjocmiheiaaaDoor
namespace Go.Proofs.YtcfjjocmiheiaaaDoor
open Go.ChangeShapes Go.WideShapes Go.ChangeAt Go.RowKit Go.Shelf
structure CFld where
 name:ByteArray
 kind:Nat
 ref:Int
 lists:Int
 dflt:Nat
structure CRec where
 name:ByteArray
 fields:List CFld
def cfldCells (f:CFld):List Value:=[.string f.name,.int .u8 f.kind,.int .i64 f.ref,.int .i64 f.lists,.int .u64 f.dflt]
def cfldsCells (l:List CFld):List Value:=l.flatMap cfldCells
def crecCells (q:CRec × Value):List Value:=[.string q.1.name,q.2]
def crecsCells (l:List (CRec × Value)):List Value:=l.flatMap crecCells
structure CRows (base:Nat)(W:World)(ss:List (CRec × Value))(es:List (SCho × Value))(sv ev:Value):Prop where
 structs:W.ownsRow base 55 2 sv ss.length (crecsCells ss)
 enums:W.ownsRow base 82 2 ev es.length (schosCells es)
 fields:∀ q ∈ ss,W.ownsRow base 52 5 q.2 q.1.fields.length (cfldsCells q.1.fields)
 names:∀ q ∈ es,W.ownsRow base 9 1 q.2 q.1.names.length (strsCells q.1.names)
theorem CRows.below {base:Nat}{W W':World}{ss:List (CRec × Value)}{es:List (SCho × Value)}{sv ev:Value}(h:CRows base W ss es sv ev)(hb:Below W.heap.size W W'):CRows base W' ss es sv ev:=
 ⟨row_keep hb h.structs,row_keep hb h.enums,fun q hq=>row_keep hb (h.fields q hq),fun q hq=>row_keep hb (h.names q hq)⟩
theorem CRows.forms {base:Nat}{W:World}{ss:List (CRec × Value)}{es:List (SCho × Value)}{sv ev:Value}(h:CRows base W ss es sv ev):∃ sa sc ea ec,sv=.slice sa ss.length sc∧ev=.slice ea es.length ec:=by
 obtain ⟨sa,sc,h1⟩:=ownsRow_form h.structs
 obtain ⟨ea,ec,h2⟩:=ownsRow_form h.enums
 exact ⟨sa,sc,ea,ec,h1,h2⟩
def cF (f:SFld):CFld:=⟨f.name,f.kind,(f.ref:Nat),(f.lists:Nat),f.dflt⟩
def cR (r:SRec):CRec:=⟨r.name,r.fields.map cF⟩
theorem cflds_eq (l:List SFld):cfldsCells (l.map cF)=sfldsCells l:=by
 unfold cfldsCells sfldsCells
 rw [List.flatMap_map]
 rfl
theorem crecs_eq (l:List (SRec × Value)):crecsCells (l.map fun q=>(cR q.1,q.2))=srecsCells l:=by
 unfold crecsCells srecsCells
 rw [List.flatMap_map]
 rfl
theorem SchRows.crows {base:Nat}{W:World}{ss:List (SRec × Value)}{es:List (SCho × Value)}{sv ev:Value}(h:SchRows base W ss es sv ev):CRows base W (ss.map fun q=>(cR q.1,q.2)) es sv ev:=by
 refine ⟨by rw [crecs_eq,List.length_map];exact h.structs,h.enums,fun q hq=>?_,h.names⟩
 obtain ⟨p,hp,rfl⟩:=List.mem_map.1 hq
 show W.ownsRow base _ 5 p.2 (p.1.fields.map cF).length (cfldsCells (p.1.fields.map cF))
 rw [cflds_eq,List.length_map]
 exact h.fields p hp
def numTB (k:Nat)(lists:Int):Bool:=decide (lists=0)&&decide (0<kSize k)
def fitsT (es:List SCho)(k:Nat)(ref lists:Int)(n:Nat):Bool:=
 if numTB k lists=false then false else if k=1 then decide (n≤1) else
  if k=10 then decide (0≤ref∧ref<es.length)&&decide (n<(es.getD ref.toNat ⟨⟨#[]⟩,[]⟩).names.length) else
   if kSign k=true then decide (sgnOf n (kSize k)=n) else decide (n / 2 ^ (8 * (kSize k).toNat)=0)
end Go.Proofs.YtcfjjocmiheiaaaDoor
namespace Go.Proofs.YtcfjjocmiheiaaaDoor
open Go.ChangeShapes Go.WideShapes Go.ChangeAt Go.RowKit Go.Shelf
theorem IsPlan.below {w W:World}{p:Plan}{a0 a1:Option Addr}{n0 e0 n1 c1:Nat}(h:IsPlan w p a0 n0 e0 a1 n1 c1)(hb:Below w.heap.size w W):IsPlan W p a0 n0 e0 a1 n1 c1:=by
 refine ⟨h.e_len,h.s_len,h.e_cap,h.s_cap,h.rt,fun j hj=>?_,fun r hr=>?_⟩
 · obtain ⟨h1,b,off,h2,h3,h4⟩:=h.e_at j hj
   exact ⟨h1,b,off,h2,Nat.lt_of_lt_of_le h3 hb.size,(hb.cell (p:=⟨b,off+j,none⟩) h3).trans h4⟩
 · obtain ⟨b,off,a,n,c,h2,h3,h4,h5,h6,h7,h8⟩:=h.s_at r hr
   refine ⟨b,off,a,n,c,h2,Nat.lt_of_lt_of_le h3 hb.size,(hb.cell (p:=⟨b,off+r,none⟩) h3).trans h4,h5,h6,h7,fun k hk=>?_⟩
   obtain ⟨b',off',f,g1,g2,g3,x0,x1,x2,x3,x4,q⟩:=h8 k hk
   exact ⟨b',off',f,g1,g2,Nat.lt_of_lt_of_le g3 hb.size,(hb.cell (p:=⟨b',off'+k * 5,none⟩) g3).trans x0,(hb.cell (p:=⟨b',off'+k * 5+1,none⟩) g3).trans x1,(hb.cell (p:=⟨b',off'+k * 5+2,none⟩) g3).trans x2,(hb.cell (p:=⟨b',off'+k * 5+3,none⟩) g3).trans x3,(hb.cell (p:=⟨b',off'+k * 5+4,none⟩) g3).trans x4,q⟩
theorem blk4p {w:World}{g:Nat}{x y z u:Value}{t:TypeId}(h:w.heap[g]?=some (.cells #[x,y,z,u] t (0,0))) :
  g<w.heap.size∧w.cell? ⟨g,0,none⟩=some x∧w.cell? ⟨g,1,none⟩=some y∧w.cell? ⟨g,2,none⟩=some z∧w.cell? ⟨g,3,none⟩=some u:=
 ⟨blk_lt h,(blk_cell h 0).trans rfl,(blk_cell h 1).trans rfl,(blk_cell h 2).trans rfl,(blk_cell h 3).trans rfl⟩
end Go.Proofs.YtcfjjocmiheiaaaDoor
namespace Go.Proofs.YtcfjjocmiheiaaaDoor
open Go.ChangeShapes Go.WideShapes Go.ChangeAt Go.RowKit
def Bytes (w:World)(p:Option Addr)(zs:List Int):Prop:=
 (∀ i,0≤zs.getD i 0∧zs.getD i 0≤255)∧(zs≠[]→∃ b off,p=some ⟨b,off,none⟩∧b<w.heap.size∧∀ i,i<zs.length→w.cell? ⟨b,off+i,none⟩=some (.int .u8 (zs.getD i 0)))
theorem Bytes.below {w w':World}{p:Option Addr}{zs:List Int}{B:Nat}(h:Bytes w p zs)(hB:w.heap.size≤B)(hb:Below B w w'):Bytes w' p zs:=by
 refine ⟨h.1,fun hne=>?_⟩
 obtain ⟨b,off,rfl,hlt,hc⟩:=h.2 hne
 exact ⟨b,off,rfl,Nat.lt_of_lt_of_le hlt hb.size,fun i hi=>(hb.cell (p:=⟨b,off+i,none⟩) (Nat.lt_of_lt_of_le hlt hB)).trans (hc i hi)⟩
end Go.Proofs.YtcfjjocmiheiaaaDoor
namespace Go.Proofs.YtcfjjocmiheiaaaDoor
open Go.ChangeShapes Go.WideShapes Go.ChangeAt Go.RowKit
theorem wsize_any (n:Int)(w:World) :
  Calls Tryd.prog 50 #[.int .u8 n] w fun e w'=>e=.returned (.int .i64 (kSize n))∧w=w':=by
 by_cases h:n<1∨10<n
 · have H:=Lib.hid (kSize_else n h)
   have b1:(n==1)=false:=by simp;omega
   have b2:(n==2)=false:=by simp;omega
   have b3:(n==3)=false:=by simp;omega
   have b4:(n==4)=false:=by simp;omega
   have b5:(n==5)=false:=by simp;omega
   have b6:(n==6)=false:=by simp;omega
   have b7:(n==7)=false:=by simp;omega
   have b8:(n==8)=false:=by simp;omega
   have b9:(n==9)=false:=by simp;omega
   have b10:(n==10)=false:=by simp;omega
   clear h
   rw [H.out]
   go_enter Tryd.func50,Tryd.ntmps50
   go_wp2
   go_ret
   exact ⟨rfl,rfl⟩
 · have h':n=1∨n=2∨n=3∨n=4∨n=5∨n=6∨n=7∨n=8∨n=9∨n=10:=by omega
   clear h
   rcases h' with rfl|rfl|rfl|rfl|rfl|rfl|rfl|rfl|rfl|rfl
   all_goals
    go_enter Tryd.func50,Tryd.ntmps50
    go_wp2
    go_ret
    exact ⟨ret_int (by decide),rfl⟩
end Go.Proofs.YtcfjjocmiheiaaaDoor
namespace Go.Proofs.YtcfjjocmiheiaaaDoor
open Go.ChangeShapes Go.WideShapes Go.ChangeAt Go.RowKit
theorem wsign_any (n:Int)(w:World) :
  Calls Tryd.prog 111 #[.int .u8 n] w fun e w'=>e=.returned (.bool (kSign n))∧w=w':=by
 by_cases h1:2≤n
 · by_cases h2:n≤5
   · rw [show kSign n=true from decide_eq_true ⟨h1,h2⟩]
     go_enter Tryd.func111,Tryd.ntmps111
     go_wp2
     go_ret
     exact ⟨rfl,rfl⟩
   · rw [show kSign n=false from decide_eq_false (fun h=>h2 h.2)]
     go_enter Tryd.func111,Tryd.ntmps111
     go_wp2
     go_ret
     exact ⟨rfl,rfl⟩
 · rw [show kSign n=false from decide_eq_false (fun h=>h1 h.1)]
   go_enter Tryd.func111,Tryd.ntmps111
   go_wp2
   go_ret
   exact ⟨rfl,rfl⟩
end Go.Proofs.YtcfjjocmiheiaaaDoor
namespace Go.Proofs.YtcfjjocmiheiaaaDoor
open Go.ChangeShapes Go.WideShapes Go.ChangeAt Go.RowKit Go.Shelf
def cntE (es:List SCho)(ref:Nat):Nat:=(es.getD ref ⟨⟨#[]⟩,[]⟩).names.length
end Go.Proofs.YtcfjjocmiheiaaaDoor
