/-
  Contracts of Go's library, laid at this translation: no walk, one application each. Conditions: those that each theorem names.
-/
import Derived.WalkKit
import Derived.Laws.BitsLemmas
import Derived.Lib.ConvBytes
import Derived.Laws.BytesArg
import Derived.Laws.EntriesVeiled
import Derived.Shelf.Abstract
import Derived.Test.YtokhnoogkdlidaaGreatDoorRows
import Derived.ProofKit
import Derived.OpenShut
import Derived.ShutString
import Derived.ChangeOld
import Derived.Below
import Derived.WalkLawsBesides
import Derived.WalkSpells
import Derived.Lib.Hide
import Derived.Outline
import Derived.Handy
import Derived.Shelf.Small.Strs
import Derived.BigQuiet
import Derived.Shelf.Small.Wraps
namespace Go.Proofs.YtokhnoogkdlidaaGreatDoor
open Go.RowKit
theorem ret_int {k:IntKind}{a b:Int}(h:a=b):Ending.returned (.int k a)=.returned (.int k b):=by rw [h]
theorem ret_bool {a b:Bool}(h:a=b):Ending.returned (.bool a)=.returned (.bool b):=by rw [h]
theorem ret_int_bool {k:IntKind}{a b:Int}{c:Bool}(h:a=b):Ending.returned (.tuple #[.int k a,.bool c])=.returned (.tuple #[.int k b,.bool c]):=by rw [h]
def kSize (n:Int):Int:=
 if n=1∨n=2∨n=6∨n=10 then 1 else if n=3∨n=7 then 2 else if n=4∨n=8 then 4 else if n=5∨n=9 then 8 else 0
theorem kSize_else (n:Int)(h:n<1∨10<n):kSize n=0:=by
 unfold kSize
 rw [if_neg (by omega),if_neg (by omega),if_neg (by omega),if_neg (by omega)]
def kSign (n:Int):Bool:=decide (2≤n∧n≤5)
def sgn (m n:Int):Int:=if n % (2 * m)<m then n % (2 * m) else n % (2 * m)+(18446744073709551616-2 * m)
def sgnOf (n s:Int):Int:=if s=1 then sgn 128 n else if s=2 then sgn 32768 n else if s=4 then sgn 2147483648 n else n
theorem sgnOf_else (n s:Int)(h1:¬s=1)(h2:¬s=2)(h4:¬s=4):sgnOf n s=n:=by
 unfold sgnOf
 rw [if_neg h1,if_neg h2,if_neg h4]
theorem and_8 (n:Int)(h0:0≤n)(h1:n≤18446744073709551615):bits BinOp.and .u64 n 255=n % 256:=
 bits_mask .u64 64 (by decide) (fun n h0 h1=>IntWalk.u64_in n ⟨h0,by omega⟩) 8 (by decide) n h0 (by omega)
theorem and_16 (n:Int)(h0:0≤n)(h1:n≤18446744073709551615):bits BinOp.and .u64 n 65535=n % 65536:=
 bits_mask .u64 64 (by decide) (fun n h0 h1=>IntWalk.u64_in n ⟨h0,by omega⟩) 16 (by decide) n h0 (by omega)
theorem and_32 (n:Int)(h0:0≤n)(h1:n≤18446744073709551615):bits BinOp.and .u64 n 4294967295=n % 4294967296:=
 bits_mask .u64 64 (by decide) (fun n h0 h1=>IntWalk.u64_in n ⟨h0,by omega⟩) 32 (by decide) n h0 (by omega)
theorem or_comm64 (x y:Int):bits BinOp.or .u64 x y=bits BinOp.or .u64 y x:=by simp only [bits,BitVec.or_comm]
theorem or_8 (y:Int)(h0:0≤y)(h1:y<256):bits BinOp.or .u64 y 18446744073709551360=y+18446744073709551360:=by
 rw [or_comm64,bits_join .u64 64 (by decide) (fun n h0 h1=>IntWalk.u64_in n ⟨h0,by omega⟩) 8 _ _ (by decide) (by decide) (by decide) h0 h1 (by omega)]
 omega
theorem or_16 (y:Int)(h0:0≤y)(h1:y<65536):bits BinOp.or .u64 y 18446744073709486080=y+18446744073709486080:=by
 rw [or_comm64,bits_join .u64 64 (by decide) (fun n h0 h1=>IntWalk.u64_in n ⟨h0,by omega⟩) 16 _ _ (by decide) (by decide) (by decide) h0 h1 (by omega)]
 omega
theorem or_32 (y:Int)(h0:0≤y)(h1:y<4294967296):bits BinOp.or .u64 y 18446744069414584320=y+18446744069414584320:=by
 rw [or_comm64,bits_join .u64 64 (by decide) (fun n h0 h1=>IntWalk.u64_in n ⟨h0,by omega⟩) 32 _ _ (by decide) (by decide) (by decide) h0 h1 (by omega)]
 omega
theorem sgnOf_1 (n:Int):sgnOf n 1=if n % 256<128 then n % 256 else n % 256+18446744073709551360:=rfl
theorem sgnOf_2 (n:Int):sgnOf n 2=if n % 65536<32768 then n % 65536 else n % 65536+18446744073709486080:=rfl
theorem sgnOf_4 (n:Int):sgnOf n 4=if n % 4294967296<2147483648 then n % 4294967296 else n % 4294967296+18446744069414584320:=rfl
end Go.Proofs.YtokhnoogkdlidaaGreatDoor
namespace Go.Proofs.YtokhnoogkdlidaaGreatDoor
open Go.RowKit
def isBlank (c:Int):Bool:=decide (c=32∨c=9∨c=10∨c=13)
def isDig (c:Int):Bool:=decide (48≤c∧c≤57)
def isLet (c:Int):Bool:=decide (c=95∨(97≤c∧c≤122)∨(65≤c∧c≤90))
def isPlain (c:Int):Bool:=decide (c≠34∧c≠92∧c≠127∧¬(0≤c∧c≤31))
def isC (x:Int)(c:Int):Bool:=decide (c=x)
def notLf (c:Int):Bool:=decide (c≠10)
def stA (zs:List Int)(p:Int→Bool)(i:Nat):Bool:=decide (i<zs.length)&&p (zs.getD i 0)
def runTo (zs:List Int)(p:Int→Bool)(i:Nat):Nat:=i+((zs.drop i).takeWhile p).length
theorem stA_lt {zs:List Int}{p:Int→Bool}{i:Nat}(h:stA zs p i=true):i<zs.length:=by
 unfold stA at h
 simp at h
 exact h.1
theorem stA_p {zs:List Int}{p:Int→Bool}{i:Nat}(h:stA zs p i=true):p (zs.getD i 0)=true:=by
 unfold stA at h
 rw [Bool.and_eq_true] at h
 exact h.2
theorem stA_of {zs:List Int}{p:Int→Bool}{i:Nat}(h:i<zs.length):stA zs p i=p (zs.getD i 0):=by
 unfold stA
 rw [decide_eq_true h,Bool.true_and]
theorem stA_ge {zs:List Int}{p:Int→Bool}{i:Nat}(h:zs.length≤i):stA zs p i=false:=by
 unfold stA
 rw [decide_eq_false (by omega),Bool.false_and]
theorem drop_cons {zs:List Int}{i:Nat}(h:i<zs.length):zs.drop i=zs.getD i 0::zs.drop (i+1):=by
 rw [List.drop_eq_getElem_cons h]
 simp [List.getD,h]
theorem runTo_stop {zs:List Int}{p:Int→Bool}{i:Nat}(h:stA zs p i=false):runTo zs p i=i:=by
 unfold runTo
 by_cases hi:i<zs.length
 · rw [stA_of hi] at h
   rw [drop_cons hi,List.takeWhile_cons,h]
   simp
 · rw [List.drop_eq_nil_of_le (by omega)]
   simp
theorem runTo_step {zs:List Int}{p:Int→Bool}{i:Nat}(h:stA zs p i=true):runTo zs p i=runTo zs p (i+1):=by
 unfold runTo
 rw [drop_cons (stA_lt h),List.takeWhile_cons,stA_p h]
 simp
 omega
theorem runTo_ge (zs:List Int)(p:Int→Bool)(i:Nat):i≤runTo zs p i:=by unfold runTo;omega
theorem length_takeWhile_le' (p:Int→Bool):∀ l:List Int,(l.takeWhile p).length≤l.length
 | []=>by simp
 | a::r=>by
  have:=length_takeWhile_le' p r
  rw [List.takeWhile_cons]
  split<;>simp<;>omega
theorem runTo_le (zs:List Int)(p:Int→Bool)(i:Nat)(h:i≤zs.length):runTo zs p i≤zs.length:=by
 unfold runTo
 have:=length_takeWhile_le' p (zs.drop i)
 rw [List.length_drop] at this
 omega
theorem runTo_rec (zs:List Int)(p:Int→Bool)(Q:Nat→Prop)(hend:∀ i,stA zs p i=false→Q i)(hstep:∀ i,stA zs p i=true→Q (i+1)→Q i):∀ i,Q i:=by
 have h:∀ n i,zs.length≤n+i→Q i:=by
  intro n
  induction n with
  | zero=>intro i hi;exact hend i (stA_ge (by omega))
  | succ n ih =>
   intro i hi
   cases hs:stA zs p i
   · exact hend i hs
   · exact hstep i hs (ih (i+1) (by omega))
 intro i
 exact h zs.length i (by omega)
theorem runTo_all (zs:List Int)(p:Int→Bool):∀ i,∀ j,i≤j→j<runTo zs p i→stA zs p j=true:=
 runTo_rec zs p _ (fun i h j h1 h2=>by rw [runTo_stop h] at h2;omega) (fun i h ih j h1 h2=>by
  rw [runTo_step h] at h2
  rcases Nat.lt_or_ge i j with hj|hj
  · exact ih j (by omega) h2
  · obtain rfl:i=j:=by omega
    exact h)
theorem runTo_unique {zs:List Int}{p:Int→Bool}{i k:Nat}(h1:i≤k)(h2:∀ j,i≤j→j<k→stA zs p j=true)(h3:stA zs p k=false):runTo zs p i=k:=by
 have h:∀ n i,i+n=k→(∀ j,i≤j→j<k→stA zs p j=true)→runTo zs p i=k:=by
  intro n
  induction n with
  | zero=>intro i hi _;obtain rfl:i=k:=by omega
          exact runTo_stop h3
  | succ n ih =>
   intro i hi hj
   rw [runTo_step (hj i (Nat.le_refl _) (by omega))]
   exact ih (i+1) (by omega) (fun j a b=>hj j (by omega) b)
 exact h (k-i) i (by omega) h2
/-! ### blanks and remarks -/
def slash2 (zs:List Int)(i:Nat):Bool:=stA zs (isC 47) i&&stA zs (isC 47) (i+1)
def gapF (zs:List Int):Nat→Nat→Nat
 | 0,i=>i
 | f+1,i=>if slash2 zs i=true then gapF zs f (runTo zs isBlank (runTo zs notLf i)) else i
def gap (zs:List Int)(i:Nat):Nat:=gapF zs zs.length (runTo zs isBlank i)
theorem slash2_lt {zs:List Int}{i:Nat}(h:slash2 zs i=true):i+1<zs.length:=by
 unfold slash2 at h
 rw [Bool.and_eq_true] at h
 exact stA_lt h.2
theorem slash2_run {zs:List Int}{i:Nat}(h:slash2 zs i=true):i+2≤runTo zs notLf i:=by
 unfold slash2 at h
 rw [Bool.and_eq_true] at h
 have e:∀ j,stA zs (isC 47) j=true→stA zs notLf j=true:=fun j hj=>by
  rw [stA_of (stA_lt hj)]
  have:=of_decide_eq_true (show decide (zs.getD j 0=47)=true from stA_p hj)
  unfold notLf
  exact decide_eq_true (by omega)
 rw [runTo_step (e _ h.1),runTo_step (e _ h.2)]
 exact runTo_ge _ _ _
theorem remark_grows {zs:List Int}{i:Nat}(h:slash2 zs i=true):i+2≤runTo zs isBlank (runTo zs notLf i):=
 Nat.le_trans (slash2_run h) (runTo_ge _ _ _)
theorem gapF_fuel (zs:List Int):∀ f g i,zs.length≤f+i→zs.length≤g+i→gapF zs f i=gapF zs g i
 | 0,0,_,_,_=>rfl
 | 0,g+1,i,hf,_=>by
  simp only [gapF]
  rw [if_neg (fun h=>by have:=slash2_lt h;omega)]
 | f+1,0,i,_,hg=>by
  simp only [gapF]
  rw [if_neg (fun h=>by have:=slash2_lt h;omega)]
 | f+1,g+1,i,hf,hg=>by
  simp only [gapF]
  split
  · rename_i h
    have:=remark_grows h
    exact gapF_fuel zs f g _ (by omega) (by omega)
  · rfl
theorem gapF_stop {zs:List Int}{i:Nat}(f:Nat)(h:slash2 zs i=false):gapF zs f i=i:=by
 cases f
 · rfl
 · simp only [gapF]
   rw [if_neg (by rw [h];decide)]
theorem gapF_step {zs:List Int}{i:Nat}(h:slash2 zs i=true):gapF zs zs.length i=gapF zs zs.length (runTo zs isBlank (runTo zs notLf i)):=by
 have h1:=remark_grows h
 have h2:=slash2_lt h
 obtain ⟨n,hn⟩:∃ n,zs.length=n+1:=⟨zs.length-1,by omega⟩
 conv=>lhs;rw [hn];simp only [gapF]
 rw [if_pos h]
 exact gapF_fuel zs _ _ _ (by omega) (by omega)
theorem gapF_le (zs:List Int):∀ f i,i≤zs.length→gapF zs f i≤zs.length
 | 0,_,h=>h
 | f+1,i,h=>by
  simp only [gapF]
  split
  · exact gapF_le zs f _ (runTo_le _ _ _ (runTo_le _ _ _ h))
  · exact h
theorem gap_le (zs:List Int)(i:Nat)(h:i≤zs.length):gap zs i≤zs.length:=gapF_le _ _ _ (runTo_le _ _ _ h)
/-! ### numbers, quoted texts, a token -/
def minusTo (zs:List Int)(i:Nat):Nat:=if stA zs (isC 45) i=true then i+1 else i
def zeroAhead (zs:List Int)(i:Nat):Bool:=stA zs (isC 48) (minusTo zs i)&&(stA zs (isC 45) i||decide (1<runTo zs isDig (minusTo zs i)-minusTo zs i))
def numBad (zs:List Int)(i:Nat):Bool:=
 decide (runTo zs isDig (minusTo zs i)-minusTo zs i=0)||decide (20<runTo zs isDig (minusTo zs i)-minusTo zs i)||stA zs isLet (runTo zs isDig (minusTo zs i))||zeroAhead zs i
def numEnd (zs:List Int)(i:Nat):Nat:=runTo zs isDig (minusTo zs i)
def quoEnd (zs:List Int)(i:Nat):Nat:=runTo zs isPlain (i+1)
def sub (zs:List Int)(i j:Nat):List Int:=(zs.drop i).take (j-i)
def quoBad (ok:List Int→Bool)(zs:List Int)(i:Nat):Bool := !stA zs (isC 34) (quoEnd zs i) || !ok (sub zs (i+1) (quoEnd zs i))
def begins (zs:List Int)(i:Nat):Bool:=stA zs isDig i||(stA zs (isC 45) i&&stA zs isDig (i+1))
structure Tok where
 kind:Int
 text:List Int
 place:Nat
def tok (ok:List Int→Bool)(sg:Int→Bool)(zs:List Int)(i:Nat):Option (Tok × Nat):=
 if i=zs.length then some (⟨0,[],i⟩,i)
 else if stA zs isLet i=true then some (⟨1,sub zs i (runTo zs (fun c=>isLet c||isDig c) i),i⟩,runTo zs (fun c=>isLet c||isDig c) i)
 else if begins zs i=true then (if numBad zs i=true then none else some (⟨2,sub zs i (numEnd zs i),i⟩,numEnd zs i))
 else if stA zs (isC 34) i=true then (if quoBad ok zs i=true then none else some (⟨3,sub zs (i+1) (quoEnd zs i),i⟩,quoEnd zs i+1))
 else if stA zs sg i=true then some (⟨4,sub zs i (i+1),i⟩,i+1)
 else none
section
variable {ok:List Int→Bool} {sg:Int→Bool} {zs:List Int} {i:Nat}
theorem tok_end (h:i=zs.length):tok ok sg zs i=some (⟨0,[],i⟩,i):=by unfold tok;rw [if_pos h]
theorem tok_name (h:i<zs.length)(h1:stA zs isLet i=true):tok ok sg zs i=some (⟨1,sub zs i (runTo zs (fun c=>isLet c||isDig c) i),i⟩,runTo zs (fun c=>isLet c||isDig c) i):=by
 unfold tok
 rw [if_neg (by omega),if_pos h1]
theorem tok_num (h:i<zs.length)(h1:stA zs isLet i=false)(h2:begins zs i=true):tok ok sg zs i=if numBad zs i=true then none else some (⟨2,sub zs i (numEnd zs i),i⟩,numEnd zs i):=by
 unfold tok
 rw [if_neg (by omega),if_neg (by rw [h1];decide),if_pos h2]
theorem tok_quo (h:i<zs.length)(h1:stA zs isLet i=false)(h2:begins zs i=false)(h3:stA zs (isC 34) i=true):tok ok sg zs i=if quoBad ok zs i=true then none else some (⟨3,sub zs (i+1) (quoEnd zs i),i⟩,quoEnd zs i+1):=by
 unfold tok
 rw [if_neg (by omega),if_neg (by rw [h1];decide),if_neg (by rw [h2];decide),if_pos h3]
theorem tok_sign (h:i<zs.length)(h1:stA zs isLet i=false)(h2:begins zs i=false)(h3:stA zs (isC 34) i=false)(h4:stA zs sg i=true):tok ok sg zs i=some (⟨4,sub zs i (i+1),i⟩,i+1):=by
 unfold tok
 rw [if_neg (by omega),if_neg (by rw [h1];decide),if_neg (by rw [h2];decide),if_neg (by rw [h3];decide),if_pos h4]
theorem tok_none (h:i<zs.length)(h1:stA zs isLet i=false)(h2:begins zs i=false)(h3:stA zs (isC 34) i=false)(h4:stA zs sg i=false):tok ok sg zs i=none:=by
 unfold tok
 rw [if_neg (by omega),if_neg (by rw [h1];decide),if_neg (by rw [h2];decide),if_neg (by rw [h3];decide),if_neg (by rw [h4];decide)]
end
theorem tok_le {ok:List Int→Bool}{sg:Int→Bool}{zs:List Int}{i:Nat}{t:Tok}{e:Nat}(hi:i≤zs.length)(h:tok ok sg zs i=some (t,e)):e≤zs.length:=by
 have hm:minusTo zs i≤zs.length:=by
  unfold minusTo
  split
  · rename_i h1
    have:=stA_lt h1
    omega
  · exact hi
 unfold tok at h
 split at h
 · cases h;exact hi
 split at h
 · cases h;exact runTo_le _ _ _ hi
 split at h
 · split at h
   · cases h
   · cases h;exact runTo_le _ _ _ hm
 split at h
 · rename_i h1
   have:=stA_lt h1
   split at h
   · cases h
   · rename_i h2
     cases h
     unfold quoBad at h2
     cases h3:stA zs (isC 34) (quoEnd zs i)
     · rw [h3] at h2
       exact absurd rfl h2
     · exact stA_lt h3
 split at h
 · rename_i h1
   have:=stA_lt h1
   cases h
   omega
 · cases h
def toksF (ok:List Int→Bool)(sg:Int→Bool)(zs:List Int):Nat→Nat→List Tok→List Tok × Int × Nat
 | 0,i,l=>(l,0,i)
 | f+1,i,l =>
  if l.length=2048 then ([],16,gap zs i) else
  match tok ok sg zs (gap zs i) with
  | none=>([],10,gap zs i)
  | some (t,e)=>if t.kind=0 then (l++[t],0,0) else toksF ok sg zs f e (l++[t])
def toks (ok:List Int→Bool)(sg:Int→Bool)(zs:List Int):List Tok × Int × Nat:=
 if 8192<zs.length then ([],16,8192) else toksF ok sg zs 2049 0 []
end Go.Proofs.YtokhnoogkdlidaaGreatDoor
namespace Go.Proofs.YtokhnoogkdlidaaGreatDoor
open Go.ChangeShapes Go.WideShapes Go.ChangeAt Go.RowKit Go.Shelf
structure Exc (R B:Nat)(w w':World):Prop where
 os:w'.os=w.os
 tape:w'.tape=w.tape
 output:w'.output=w.output
 size:w.heap.size≤w'.heap.size
 block:∀ k,k<B→k≠R→w'.heap[k]?=w.heap[k]?
theorem Exc.refl (R B:Nat)(w:World):Exc R B w w:=⟨rfl,rfl,rfl,Nat.le_refl _,fun _ _ _=>rfl⟩
theorem Exc.trans {R B:Nat}{a b c:World}(h:Exc R B a b)(k:Exc R B b c):Exc R B a c:=
 ⟨k.os.trans h.os,k.tape.trans h.tape,k.output.trans h.output,Nat.le_trans h.size k.size,fun i hi hr=>(k.block i hi hr).trans (h.block i hi hr)⟩
theorem Exc.mono {R B B':Nat}{w w':World}(h:Exc R B w w')(hB:B'≤B):Exc R B' w w':=⟨h.os,h.tape,h.output,h.size,fun k hk hr=>h.block k (Nat.lt_of_lt_of_le hk hB) hr⟩
theorem Exc.of_below {R B:Nat}{w w':World}(h:Below B w w'):Exc R B w w':=⟨h.os,h.tape,h.output,h.size,fun k hk _=>h.block k hk⟩
theorem Exc.then {R:Nat}{a b c:World}(h:Exc R a.heap.size a b)(k:Exc R b.heap.size b c):Exc R a.heap.size a c:=h.trans (k.mono h.size)
theorem Exc.thenB {R B:Nat}{a b c:World}(h:Exc R B a b)(hB:B≤a.heap.size)(k:Exc R b.heap.size b c):Exc R B a c:=h.trans (k.mono (Nat.le_trans hB h.size))
theorem Exc.bel {R B:Nat}{a b c:World}(h:Exc R B a b)(hB:B≤a.heap.size)(k:Below b.heap.size b c):Exc R B a c:=h.thenB hB (.of_below k)
theorem Exc.alloc {R B:Nat}{a w:World}(h:Exc R B a w)(hB:B≤w.heap.size)(o:Obj):Exc R B a (w.alloc o):=
 h.trans (.of_below ((Below.refl _ _).alloc hB o))
theorem Exc.drew {R B:Nat}{a w:World}(h:Exc R B a w):Exc R B a w.drew:=⟨h.os,h.tape,h.output,h.size,h.block⟩
theorem Exc.setCell {R B:Nat}{a w:World}(h:Exc R B a w){p:Addr}(hp:p.block=R∨B≤p.block)(u:Value):Exc R B a (w.setCell p u):=
 h.trans ⟨rfl,rfl,rfl,by simp [World.setCell],fun k hk hr=>Below.heap_setCell _ _ _ _ (by rcases hp with h|h<;>omega)⟩
theorem Exc.grown {R B:Nat}{a w w':World}{row:Option Nat}(h:Exc R B a w)(hg:w.grownBy w' row)(hB:B≤w.heap.size)(hr:∀ k,row=some k→B≤k∨k=R):Exc R B a w':=
 h.trans ⟨hg.os,hg.tape,hg.output,hg.size,fun k hk hkr=>hg.block k (by omega) (fun e=>by have:=hr k e.symm;omega)⟩
theorem Exc.cell {R B:Nat}{w w':World}(h:Exc R B w w'){p:Addr}(hp:p.block<B)(hr:p.block≠R):w'.cell? p=w.cell? p:=World.cell?_of_block (w:=w) (h.block p.block hp hr)
theorem Exc.frozen {R B:Nat}{w w':World}(h:Exc R B w w'){p:Addr}(hp:p.block<B)(hr:p.block≠R):w'.frozen? p=w.frozen? p:=World.frozen?_of_block (w:=w) (h.block p.block hp hr)
theorem Exc.below {R B:Nat}{w w':World}(h:Exc R B w w')(hR:B≤R):Below B w w':=⟨h.os,h.tape,h.output,h.size,fun k hk=>h.block k hk (by omega)⟩
theorem Exc.ownsRow {R:Nat}{w w':World}(h:Exc R w.heap.size w w'){base:Nat}{e:TypeId}{size:Nat}{v:Value}{n:Nat}{xs:List Value}(ho:w.ownsRow base e size v n xs)(hR:v.ownBlock≠some R):w'.ownsRow base e size v n xs:=by
 obtain ⟨hl,h'⟩:=ho
 refine ⟨hl,?_⟩
 rcases h' with h1|⟨g',cap',cur,hv,h1,hg,h2⟩
 · exact .inl h1
 · have hlt:g'<w.heap.size:=by
    rcases Nat.lt_or_ge g' w.heap.size with h|h
    · exact h
    · rw [Array.getElem?_eq_none h] at hg;cases hg
   subst hv
   exact .inr ⟨g',cap',cur,rfl,h1,(h.block g' hlt (fun e=>hR (by simp [Value.ownBlock,e]))).trans hg,h2⟩
theorem ownsRow_base {w:World}{base base':Nat}{e:TypeId}{size:Nat}{v:Value}{n:Nat}{xs:List Value}(h:w.ownsRow base e size v n xs)(hb:base'≤base):w.ownsRow base' e size v n xs:=
 ⟨h.1,h.2.elim Or.inl (fun ⟨g,cap,cur,hv,hg,r⟩=>Or.inr ⟨g,cap,cur,hv,Nat.le_trans hb hg,r⟩)⟩
theorem ownsRow_lt {w:World}{base:Nat}{e:TypeId}{size:Nat}{v:Value}{n:Nat}{xs:List Value}(h:w.ownsRow base e size v n xs):∀ k,v.ownBlock=some k→base≤k∧k<w.heap.size:=by
 intro k hk
 rcases h.2 with ⟨rfl,_⟩|⟨g,cap,cur,rfl,hb,hg,_⟩
 · simp [Value.ownBlock] at hk
 · simp [Value.ownBlock] at hk
   subst hk
   refine ⟨hb,?_⟩
   rcases Nat.lt_or_ge g w.heap.size with h'|h'
   · exact h'
   · rw [Array.getElem?_eq_none h'] at hg;cases hg
theorem ownsRow_form {w:World}{base:Nat}{e:TypeId}{size:Nat}{v:Value}{n:Nat}{xs:List Value}(h:w.ownsRow base e size v n xs):∃ a c,v=.slice a n c:=by
 rcases h.2 with ⟨rfl,h0⟩|⟨g,cap,_,rfl,_⟩
 · rw [h0]
   exact ⟨_,_,rfl⟩
 · exact ⟨_,_,rfl⟩
theorem blk_cell {w:World}{g:Nat}{cs:Array Value}{t:TypeId}(h:w.heap[g]?=some (.cells cs t (0,0)))(i:Nat):w.cell? ⟨g,i,none⟩=cs[i]?:=cell_of_row w g i cs t (0,0) h
theorem blk_frozen {w:World}{g:Nat}{cs:Array Value}{t:TypeId}(h:w.heap[g]?=some (.cells cs t (0,0)))(i:Nat):w.frozen? ⟨g,i,none⟩=false:=by
 simp [World.frozen?,show w.heap[g]?=_ from h]
theorem blk_lt {w:World}{g:Nat}{o:Obj}(h:w.heap[g]?=some o):g<w.heap.size:=by
 rcases Nat.lt_or_ge g w.heap.size with h'|h'
 · exact h'
 · rw [Array.getElem?_eq_none h'] at h;cases h
theorem blk_set {w:World}{g:Nat}{cs:Array Value}{t:TypeId}(h:w.heap[g]?=some (.cells cs t (0,0)))(i:Nat)(u:Value):(w.setCell ⟨g,i,none⟩ u).heap[g]?=some (.cells (cs.setIfInBounds i u) t (0,0)):=by
 simp [World.setCell,Array.getElem?_modify,h]
theorem blk_set_ne {w:World}{g:Nat}{o:Obj}(h:w.heap[g]?=some o){p:Addr}(hp:p.block≠g)(u:Value):(w.setCell p u).heap[g]?=some o:=
 (Below.heap_setCell w p u g (fun e=>hp e.symm)).trans h
theorem blk_alloc {w:World}{g:Nat}{o:Obj}(h:w.heap[g]?=some o)(o':Obj):(w.alloc o').heap[g]?=some o:=
 (Below.heap_alloc w o' g (blk_lt h)).trans h
theorem blk2 {w:World}{g:Nat}{x y:Value}{t:TypeId}(h:w.heap[g]?=some (.cells #[x,y] t (0,0))) :
  g<w.heap.size∧w.cell? ⟨g,0,none⟩=some x∧w.cell? ⟨g,1,none⟩=some y∧w.frozen? ⟨g,0,none⟩=false∧w.frozen? ⟨g,1,none⟩=false:=
 ⟨blk_lt h,(blk_cell h 0).trans rfl,(blk_cell h 1).trans rfl,blk_frozen h 0,blk_frozen h 1⟩
theorem blk3 {w:World}{g:Nat}{x y z:Value}{t:TypeId}(h:w.heap[g]?=some (.cells #[x,y,z] t (0,0))) :
  g<w.heap.size∧w.cell? ⟨g,0,none⟩=some x∧w.cell? ⟨g,1,none⟩=some y∧w.cell? ⟨g,2,none⟩=some z∧w.frozen? ⟨g,0,none⟩=false∧w.frozen? ⟨g,1,none⟩=false∧w.frozen? ⟨g,2,none⟩=false:=
 ⟨blk_lt h,(blk_cell h 0).trans rfl,(blk_cell h 1).trans rfl,(blk_cell h 2).trans rfl,blk_frozen h 0,blk_frozen h 1,blk_frozen h 2⟩
theorem blk_below {w W:World}{B g:Nat}{o:Obj}(h:w.heap[g]?=some o)(hb:Below B w W)(hg:g<B):W.heap[g]?=some o:=(hb.block g hg).trans h
theorem blk_exc {w W:World}{R B g:Nat}{o:Obj}(h:w.heap[g]?=some o)(hb:Exc R B w W)(hg:g<B)(hne:g≠R):W.heap[g]?=some o:=(hb.block g hg hne).trans h
theorem post_gen {P:Program}{f:Func}{Q:Ending→World→Prop}{ex:Exit}{a:Act}{W:World}(p:World→Prop)(hp:p W)(k:∀ Wf,p Wf→bodyPost P f Q ex a Wf):bodyPost P f Q ex a W:=k W hp
theorem blk_set3 {w:World}{g:Nat}{x y z:Value}{t:TypeId}(h:w.heap[g]?=some (.cells #[x,y,z] t (0,0)))(x' y' z':Value) :
  (((w.setCell ⟨g,0,none⟩ x').setCell ⟨g,1,none⟩ y').setCell ⟨g,2,none⟩ z').heap[g]?=some (.cells #[x',y',z'] t (0,0)):=
 (blk_set (blk_set (blk_set h 0 x') 1 y') 2 z').trans rfl
theorem blk_set2 {w:World}{g:Nat}{x y:Value}{t:TypeId}(h:w.heap[g]?=some (.cells #[x,y] t (0,0)))(x' y':Value) :
  ((w.setCell ⟨g,0,none⟩ x').setCell ⟨g,1,none⟩ y').heap[g]?=some (.cells #[x',y'] t (0,0)):=
 (blk_set (blk_set h 0 x') 1 y').trans rfl
theorem exc_set (w:World)(g i:Nat)(x:Value):Exc g w.heap.size w (w.setCell ⟨g,i,none⟩ x):=(Exc.refl g _ w).setCell (p:=⟨g,i,none⟩) (.inl rfl) x
theorem exc_set3 (w:World)(g:Nat)(x y z:Value):Exc g w.heap.size w (((w.setCell ⟨g,0,none⟩ x).setCell ⟨g,1,none⟩ y).setCell ⟨g,2,none⟩ z):=
 ((exc_set w g 0 x).setCell (p:=⟨g,1,none⟩) (.inl rfl) y).setCell (p:=⟨g,2,none⟩) (.inl rfl) z
theorem Exc.set3 {R B:Nat}{a w:World}(h:Exc R B a w){g:Nat}(hg:B≤g)(x y z:Value):Exc R B a (((w.setCell ⟨g,0,none⟩ x).setCell ⟨g,1,none⟩ y).setCell ⟨g,2,none⟩ z):=
 ((h.setCell (p:=⟨g,0,none⟩) (.inr hg) x).setCell (p:=⟨g,1,none⟩) (.inr hg) y).setCell (p:=⟨g,2,none⟩) (.inr hg) z
theorem Exc.set1 {R B:Nat}{a w:World}(h:Exc R B a w){g:Nat}(hg:B≤g)(i:Nat)(x:Value):Exc R B a (w.setCell ⟨g,i,none⟩ x):=
 h.setCell (p:=⟨g,i,none⟩) (.inr hg) x
end Go.Proofs.YtokhnoogkdlidaaGreatDoor
namespace Go.Proofs.YtokhnoogkdlidaaGreatDoor
open Go.ChangeShapes Go.WideShapes Go.ChangeAt Go.RowKit Go.Shelf
theorem row_at {w:World}{base:Nat}{e:TypeId}{size:Nat}{v:Value}{n:Nat}{xs:List Value}(h:w.ownsRow base e size v n xs)(hn:0<n) :
  ∃ g c,v=.slice (some ⟨g,0,none⟩) n c∧n≤c∧base≤g∧g<w.heap.size∧∀ k,k<n * size→w.cell? ⟨g,k,none⟩=xs[k]?:=by
 rcases h.2 with ⟨_,h0⟩|⟨g,cap,cur,rfl,hb,hg,hnc,hm,hs,ht⟩
 · omega
 · refine ⟨g,cap,rfl,hnc,hb,blk_lt hg,fun k hk=>?_⟩
   rw [cell_of_row w g k cur _ (0,0) hg,←ht,List.getElem?_take,if_pos hk,Array.getElem?_toList]
theorem flat_at {α:Type}(f:α→List Value)(m:Nat)(hm:∀ a,(f a).length=m):∀ (l:List α) (k:Nat) (hk:k<l.length) (j:Nat),j<m→(l.flatMap f)[k * m+j]?=(f l[k])[j]?
 | [],k,hk,_,_=>absurd hk (Nat.not_lt_zero k)
 | a::r,0,_,j,hj=>by
  rw [List.flatMap_cons,Nat.zero_mul,Nat.zero_add,List.getElem?_append_left (by rw [hm];exact hj)]
  rfl
 | a::r,k+1,hk,j,hj=>by
  have e:(k+1) * m+j=m+(k * m+j):=by rw [Nat.succ_mul];omega
  rw [List.flatMap_cons,List.getElem?_append_right (by rw [hm,e];omega),hm,show (k+1) * m+j-m=k * m+j by omega]
  exact flat_at f m hm r k (Nat.lt_of_succ_lt_succ hk) j hj
theorem row_el {α:Type}(f:α→List Value)(m:Nat)(hm:∀ a,(f a).length=m){w:World}{base:Nat}{e:TypeId}{v:Value}{l:List α}(h:w.ownsRow base e m v l.length (l.flatMap f))(k:Nat)(hk:k<l.length) :
  ∃ g c,v=.slice (some ⟨g,0,none⟩) l.length c∧l.length≤c∧g<w.heap.size∧∀ j,j<m→w.cell? ⟨g,k * m+j,none⟩=(f l[k])[j]?:=by
 obtain ⟨g,c,hv,hc,_,hg,hcell⟩:=row_at h (by omega)
 refine ⟨g,c,hv,hc,hg,fun j hj=>?_⟩
 have hlt:k * m+j<l.length * m:=by
  have h1:(k+1) * m≤l.length * m:=Nat.mul_le_mul_right m hk
  rw [Nat.succ_mul] at h1
  omega
 rw [hcell _ hlt,flat_at f m hm l k hk j hj]
theorem row_few {w:World}{base:Nat}{e:TypeId}{size:Nat}{v:Value}{n:Nat}{xs:List Value}(h:w.ownsRow base e size v n xs):n≤9223372036854775807:=by
 rcases h.2 with ⟨_,h0⟩|⟨g,cap,cur,rfl,hb,hg,hnc,hm,_⟩
 · omega
 · unfold maxLen at hm
   omega
theorem slice_inj {a b:Option Addr}{n c n' c':Nat}(h:Value.slice a n c=.slice b n' c'):a=b∧c=c':=by
 injection h with h1 _ h3
 exact ⟨h1,h3⟩
theorem row_keep {w w':World}(h:Below w.heap.size w w'){base:Nat}{e:TypeId}{size:Nat}{v:Value}{n:Nat}{xs:List Value}(ho:w.ownsRow base e size v n xs):w'.ownsRow base e size v n xs:=by
 obtain ⟨hl,h'⟩:=ho
 refine ⟨hl,?_⟩
 rcases h' with h1|⟨g',cap',cur,hv,h1,hg',h2⟩
 · exact .inl h1
 · exact .inr ⟨g',cap',cur,hv,h1,(h.block g' (blk_lt hg')).trans hg',h2⟩
end Go.Proofs.YtokhnoogkdlidaaGreatDoor
namespace Go.Proofs.YtokhnoogkdlidaaGreatDoor
open Go.ChangeShapes Go.WideShapes Go.ChangeAt Go.RowKit
theorem one_str (W:World)(z:Int):(convert 22 9 (.slice (some ⟨W.heap.size,0,none⟩) 1 1)).run Tryz.prog (W.alloc (.cells #[.int .u8 z] 5))=.ok (.string (strOfNums [z])) (W.alloc (.cells #[.int .u8 z] 5)):=by
 refine run_convert_bytes_arg (P:=Tryz.prog) _ 22 5 Tryz.underlying22 Tryz.underlying5 W.heap.size 0 1 1 [z] rfl (fun k hk=>?_) 9 Tryz.underlying9
 obtain rfl:k=0:=by omega
 rw [cell_of_row _ _ _ _ _ (0,0) (heap_alloc_new W _)]
 rfl
end Go.Proofs.YtokhnoogkdlidaaGreatDoor
namespace Go.Proofs.YtokhnoogkdlidaaGreatDoor
open Go.Proofs Go.Shelf
def Tryz.lays137_ren:Go.Shelf.Ren:=⟨fun|137=>102 | 217=>124 | 266=>138 | n=>n,fun|9=>9 | 5=>5 | 3=>3 | n=>n,fun|n=>n⟩
theorem Tryz.lays137:Go.Proofs.Lays.n137 Tryz.prog Tryz.lays137_ren:={
 mixed:=by kernel_rfl
 f137:=Tryz.func102.trans (congrArg some (by kernel_rfl))
 f217:=Tryz.func124.trans (congrArg some (by kernel_rfl))
 f266:=Tryz.func138.trans (congrArg some (by kernel_rfl))
 t3:=Tryz.underlying3
 a3:=Tryz.isAgg3
 z3:=Tryz.sizeOf3
 v3:=Tryz.zeroValue3
 t5:=Tryz.underlying5
 a5:=Tryz.isAgg5
 z5:=Tryz.sizeOf5
 v5:=Tryz.zeroValue5
 t9:=Tryz.underlying9
 a9:=Tryz.isAgg9
 z9:=Tryz.sizeOf9
 v9:=Tryz.zeroValue9 }
open Go.RowKit in
theorem Tryz.strings_IndexByte (s:ByteArray)(c:Int)(w:World) :
  Calls Tryz.prog 102 #[.string s,.int .u8 c] w fun e w'=>e=.returned (.int .i64 (Lib.indexByte s.data.toList c.toNat.toUInt8))∧w'=w:=Any.strings_IndexByte Tryz.lays137 s c w
end Go.Proofs.YtokhnoogkdlidaaGreatDoor
namespace Go.Proofs.YtokhnoogkdlidaaGreatDoor
open Go.RowKit
theorem bel_drewN {B:Nat}{a w:World}(h:Below B a w)(n:Nat):Below B a (w.drewN n):=h.trans ⟨rfl,rfl,rfl,Nat.le_refl _,fun _ _=>rfl⟩
end Go.Proofs.YtokhnoogkdlidaaGreatDoor
namespace Go.Proofs.YtokhnoogkdlidaaGreatDoor
open Go.RowKit
theorem gap_blank {zs:List Int}{i:Nat}(h:stA zs isBlank i=true):gap zs i=gap zs (i+1):=by
 unfold gap
 rw [runTo_step h]
theorem slash_not_blank {zs:List Int}{i:Nat}(h:slash2 zs i=true):stA zs isBlank i=false:=by
 unfold slash2 at h
 rw [Bool.and_eq_true] at h
 have e:=of_decide_eq_true (show decide (zs.getD i 0=47)=true from stA_p h.1)
 rw [stA_of (stA_lt h.1)]
 unfold isBlank
 exact decide_eq_false (by omega)
theorem gap_remark {zs:List Int}{i:Nat}(h:slash2 zs i=true):gap zs i=gap zs (runTo zs notLf i):=by
 unfold gap
 rw [runTo_stop (slash_not_blank h),gapF_step h]
theorem gap_stop {zs:List Int}{i:Nat}(h1:stA zs isBlank i=false)(h2:slash2 zs i=false):gap zs i=i:=by
 unfold gap
 rw [runTo_stop h1,gapF_stop _ h2]
theorem gap_end {zs:List Int}{i:Nat}(h:zs.length≤i):gap zs i=i:=
 gap_stop (stA_ge h) (by unfold slash2;rw [stA_ge h,Bool.false_and])
end Go.Proofs.YtokhnoogkdlidaaGreatDoor
namespace Go.Proofs.YtokhnoogkdlidaaGreatDoor
open Go.ChangeShapes Go.WideShapes Go.ChangeAt Go.RowKit
def Bytes (w:World)(p:Option Addr)(zs:List Int):Prop:=
 (∀ i,0≤zs.getD i 0∧zs.getD i 0≤255)∧(zs≠[]→∃ b off,p=some ⟨b,off,none⟩∧b<w.heap.size∧∀ i,i<zs.length→w.cell? ⟨b,off+i,none⟩=some (.int .u8 (zs.getD i 0)))
theorem Bytes.below {w w':World}{p:Option Addr}{zs:List Int}{B:Nat}(h:Bytes w p zs)(hB:w.heap.size≤B)(hb:Below B w w'):Bytes w' p zs:=by
 refine ⟨h.1,fun hne=>?_⟩
 obtain ⟨b,off,rfl,hlt,hc⟩:=h.2 hne
 exact ⟨b,off,rfl,Nat.lt_of_lt_of_le hlt hb.size,fun i hi=>(hb.cell (p:=⟨b,off+i,none⟩) (Nat.lt_of_lt_of_le hlt hB)).trans (hc i hi)⟩
end Go.Proofs.YtokhnoogkdlidaaGreatDoor
namespace Go.Proofs.YtokhnoogkdlidaaGreatDoor
open Go.ChangeShapes Go.WideShapes Go.ChangeAt Go.RowKit
theorem sized_yes (n:Int)(w:World)(h:n=1∨n=2∨n=4∨n=8) :
  Calls Tryz.prog 144 #[.int .i64 n] w fun e w'=>e=.returned (.bool true)∧w=w':=by
 rcases h with rfl|rfl|rfl|rfl
 all_goals
  go_enter Tryz.func144,Tryz.ntmps144
  go_wp2
  go_ret
  exact ⟨rfl,rfl⟩
theorem sized_no (n:Int)(w:World)(h:¬(n=1∨n=2∨n=4∨n=8)) :
  Calls Tryz.prog 144 #[.int .i64 n] w fun e w'=>e=.returned (.bool false)∧w=w':=by
 have h1:(n==1)=false:=by simp;omega
 have h2:(n==2)=false:=by simp;omega
 have h4:(n==4)=false:=by simp;omega
 have h8:(n==8)=false:=by simp;omega
 clear h
 go_enter Tryz.func144,Tryz.ntmps144
 go_wp2
 go_ret
 exact ⟨rfl,rfl⟩
end Go.Proofs.YtokhnoogkdlidaaGreatDoor
namespace Go.Proofs.YtokhnoogkdlidaaGreatDoor
open Go.Proofs Go.Shelf
def Tryz.lays103_ren:Go.Shelf.Ren:=⟨fun|103=>145 | 210=>149 | 206=>152 | n=>n,fun|9=>9 | 4=>4 | 24=>204 | 3=>3 | n=>n,fun|n=>n⟩
theorem Tryz.lays103:Go.Proofs.Lays.n103 Tryz.prog Tryz.lays103_ren:={
 mixed:=by kernel_rfl
 f103:=Tryz.func145.trans (congrArg some (by kernel_rfl))
 f206:=Tryz.func152.trans (congrArg some (by kernel_rfl))
 f210:=Tryz.func149.trans (congrArg some (by kernel_rfl))
 t3:=Tryz.underlying3
 a3:=Tryz.isAgg3
 z3:=Tryz.sizeOf3
 v3:=Tryz.zeroValue3
 t4:=Tryz.underlying4
 a4:=Tryz.isAgg4
 z4:=Tryz.sizeOf4
 v4:=Tryz.zeroValue4
 t9:=Tryz.underlying9
 a9:=Tryz.isAgg9
 z9:=Tryz.sizeOf9
 v9:=Tryz.zeroValue9
 t24:=Tryz.underlying204
 a24:=Tryz.isAgg204
 z24:=Tryz.sizeOf204
 v24:=Tryz.zeroValue204 }
open Go.RowKit in
theorem Tryz.strings_CutPrefix (s p:ByteArray)(w:World) :
  Calls Tryz.prog 145 #[.string s,.string p] w fun e w'=>e=.returned (.tuple #[.string ⟨(Lib.trimPrefix s.data.toList p.data.toList).toArray⟩,.bool (Lib.hasPrefix s.data.toList p.data.toList)])∧w'=w:=Any.strings_CutPrefix Tryz.lays103 s p w
end Go.Proofs.YtokhnoogkdlidaaGreatDoor
