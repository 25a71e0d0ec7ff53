/-
  Rows of numbers of the call's own; the document's SameInts. Conditions: those that each theorem names.
-/
import Derived.Test.YtpbaaiilfkacnaaDoorPkQ0
import Derived.WalkKit
import Derived.Laws.BitsLemmas
import Derived.Test.YtpbaaiilfkacnaaDoorRows
import Derived.ProofKit
import Derived.OpenShut
import Derived.ShutString
import Derived.ChangeOld
import Derived.Below
import Derived.WalkLawsBesides
import Derived.WalkSpells
import Derived.Outline
import Derived.Handy
import Derived.Lib.ConvBytes
import Derived.Laws.BytesArg
import Derived.Laws.EntriesVeiled
import Derived.Shelf.Abstract
import Derived.BigQuiet
import Derived.Shelf.Spec.DecodeRune
import Derived.Lib.LaidU8T
import Derived.KernelRfl
namespace Go.Proofs.YtpbaaiilfkacnaaDoor
open Go.RowKit
def mE (f:Nat→Int):Nat→Int
 | 0=>0
 | k+1=>mE f k+f k * 2 ^ (8 * k)
theorem pM (f:Nat→Int)(n:Nat)(hf:∀ j,j<n→0≤f j∧f j≤255):∀ k,k≤n→0≤mE f k∧mE f k<2 ^ (8 * k)
 | 0,_=>by simp [mE]
 | k+1,h=>by
  have ih:=pM f n hf k (by omega);obtain ⟨f0,f1⟩:=hf k (by omega);have hp:(0:Int)<2 ^ (8 * k):=Int.pow_pos (by decide);have e:(2:Int) ^ (8 * (k+1))=256 * 2 ^ (8 * k):=by rw [show 8 * (k+1)=8 * k+8 from by omega,Int.pow_add];omega
  have h1:0≤f k * 2 ^ (8 * k):=Int.mul_nonneg f0 (by omega);have h2:f k * 2 ^ (8 * k)≤255 * 2 ^ (8 * k):=Int.mul_le_mul_of_nonneg_right f1 (by omega);rw [e];simp only [mE];generalize f k * 2 ^ (8 * k)=m at *;generalize (2:Int) ^ (8 * k)=P at *;omega
def aY (zs:List Int)(a n:Nat):Int:=mE (fun j=>zs.getD (a+j) 0) n
theorem aAi (k:Nat)(hk:k<8):(2:Int) ^ (8 * k)≤72057594037927936:=by have:(2:Nat) ^ (8 * k)≤2 ^ 56:=Nat.pow_le_pow_right (by decide) (by omega);have h2:((2 ^ (8 * k):Nat):Int)≤((2 ^ 56:Nat):Int):=Int.ofNat_le.2 this;simpa using h2
theorem aEG (k:Nat)(hk:k<8)(y z:Int)(y0:0≤y)(y1:y<2 ^ (8 * k))(z0:0≤z)(z1:z≤255) :
  bits BinOp.or .u64 y (IntKind.u64.wrap (IntKind.u64.wrap z * 2 ^ (8 * k)))=y+z * 2 ^ (8 * k):=by
 rw [IntWalk.u64_in z ⟨z0,by omega⟩];have hp:(0:Int)<2 ^ (8 * k):=Int.pow_pos (by decide);have hP:=aAi k hk;have h1:0≤z * 2 ^ (8 * k):=Int.mul_nonneg z0 (by omega);have h2:z * 2 ^ (8 * k)≤255 * 2 ^ (8 * k):=Int.mul_le_mul_of_nonneg_right z1 (by omega);have hm:(z * 2 ^ (8 * k)) % 2 ^ (8 * k)=0:=Int.mul_emod_left z _;have hc:bits BinOp.or .u64 y (z * 2 ^ (8 * k))=bits BinOp.or .u64 (z * 2 ^ (8 * k)) y:=by simp only [bits,BitVec.or_comm]
 rw [IntWalk.u64_in _ ⟨h1,by omega⟩,hc,bits_join .u64 64 (by decide) (fun n h0 h1=>IntWalk.u64_in n ⟨h0,by omega⟩) (8 * k) _ _ h1 hm (by omega) y0 y1 (by omega)];omega
theorem aD5 (k:Nat)(hk:k<8)(y z:Int)(y0:0≤y)(y1:y<2 ^ (8 * k))(z0:0≤z)(z1:z≤255) :
  IntKind.u64.wrap (y+IntKind.u64.wrap (IntKind.u64.wrap z * 2 ^ (8 * k)))=y+z * 2 ^ (8 * k):=by
 rw [IntWalk.u64_in z ⟨z0,by omega⟩];have hp:(0:Int)<2 ^ (8 * k):=Int.pow_pos (by decide);have hP:=aAi k hk;have h1:0≤z * 2 ^ (8 * k):=Int.mul_nonneg z0 (by omega);have h2:z * 2 ^ (8 * k)≤255 * 2 ^ (8 * k):=Int.mul_le_mul_of_nonneg_right z1 (by omega);rw [IntWalk.u64_in _ ⟨h1,by omega⟩,IntWalk.u64_in _ ⟨by omega,by omega⟩]
theorem cH {k:IntKind}{a b:Int}(h:a=b):Ending.returned (.int k a)=.returned (.int k b):=by rw [h]
theorem bZ {a b:Bool}(h:a=b):Ending.returned (.bool a)=.returned (.bool b):=by rw [h]
theorem wD {k:IntKind}{a b:Int}{c:Bool}(h:a=b):Ending.returned (.tuple #[.int k a,.bool c])=.returned (.tuple #[.int k b,.bool c]):=by rw [h]
def aP (n:Int):Int:=
 if n=1∨n=2∨n=6∨n=10 then 1 else if n=3∨n=7 then 2 else if n=4∨n=8 then 4 else if n=5∨n=9 then 8 else 0
theorem jB (n:Int)(h:n<1∨10<n):aP n=0:=by unfold aP;rw [if_neg (by omega),if_neg (by omega),if_neg (by omega),if_neg (by omega)]
def eT (n:Int):Bool:=decide (2≤n∧n≤5)
def oU (m n:Int):Int:=if n % (2 * m)<m then n % (2 * m) else n % (2 * m)+(18446744073709551616-2 * m)
def cG (n s:Int):Int:=if s=1 then oU 128 n else if s=2 then oU 32768 n else if s=4 then oU 2147483648 n else n
theorem oS (n s:Int)(h1:¬s=1)(h2:¬s=2)(h4:¬s=4):cG n s=n:=by unfold cG;rw [if_neg h1,if_neg h2,if_neg h4]
theorem aGj (n:Int)(h0:0≤n)(h1:n≤18446744073709551615):bits BinOp.and .u64 n 255=n % 256:=
 bits_mask .u64 64 (by decide) (fun n h0 h1=>IntWalk.u64_in n ⟨h0,by omega⟩) 8 (by decide) n h0 (by omega)
theorem aFK (n:Int)(h0:0≤n)(h1:n≤18446744073709551615):bits BinOp.and .u64 n 65535=n % 65536:=
 bits_mask .u64 64 (by decide) (fun n h0 h1=>IntWalk.u64_in n ⟨h0,by omega⟩) 16 (by decide) n h0 (by omega)
theorem aFN (n:Int)(h0:0≤n)(h1:n≤18446744073709551615):bits BinOp.and .u64 n 4294967295=n % 4294967296:=
 bits_mask .u64 64 (by decide) (fun n h0 h1=>IntWalk.u64_in n ⟨h0,by omega⟩) 32 (by decide) n h0 (by omega)
theorem qJ (x y:Int):bits BinOp.or .u64 x y=bits BinOp.or .u64 y x:=by simp only [bits,BitVec.or_comm]
theorem aGI (y:Int)(h0:0≤y)(h1:y<256):bits BinOp.or .u64 y 18446744073709551360=y+18446744073709551360:=by rw [qJ,bits_join .u64 64 (by decide) (fun n h0 h1=>IntWalk.u64_in n ⟨h0,by omega⟩) 8 _ _ (by decide) (by decide) (by decide) h0 h1 (by omega)];omega
theorem aGo (y:Int)(h0:0≤y)(h1:y<65536):bits BinOp.or .u64 y 18446744073709486080=y+18446744073709486080:=by rw [qJ,bits_join .u64 64 (by decide) (fun n h0 h1=>IntWalk.u64_in n ⟨h0,by omega⟩) 16 _ _ (by decide) (by decide) (by decide) h0 h1 (by omega)];omega
theorem aGn (y:Int)(h0:0≤y)(h1:y<4294967296):bits BinOp.or .u64 y 18446744069414584320=y+18446744069414584320:=by rw [qJ,bits_join .u64 64 (by decide) (fun n h0 h1=>IntWalk.u64_in n ⟨h0,by omega⟩) 32 _ _ (by decide) (by decide) (by decide) h0 h1 (by omega)];omega
theorem xC (n:Int):cG n 1=if n % 256<128 then n % 256 else n % 256+18446744073709551360:=rfl
theorem wB (n:Int):cG n 2=if n % 65536<32768 then n % 65536 else n % 65536+18446744073709486080:=rfl
theorem wN (n:Int):cG n 4=if n % 4294967296<2147483648 then n % 4294967296 else n % 4294967296+18446744069414584320:=rfl
def cV (L a n:Int):Bool:=decide (0≤a∧0≤n∧n≤L-a)
def aH (zs:List Int):Int:=(zs.length:Nat)
def fM (zs:List Int)(at':Int):Option Int:=
 if cV (aH zs) at' 4=true then (if at'+aY zs at'.toNat 4≤aH zs then some (at'+aY zs at'.toNat 4) else none) else none
def kU (n:Int):Int:=if n<2147483648 then n else n-4294967296
structure mO where
 own:Int
 la:Int
 size:Int
def zR (zs:List Int)(at' la:Int):Option mO:=
 if cV (aH zs) la 4=true then
  (if (4≤aY zs la.toNat 2∧aY zs la.toNat 2 % 2=0∧4≤aY zs (la.toNat+2) 2)∧cV (aH zs) la (aY zs la.toNat 2)=true∧cV (aH zs) at' (aY zs (la.toNat+2) 2)=true then some ⟨aY zs (la.toNat+2) 2,la,aY zs la.toNat 2⟩ else none)
 else none
def gX (zs:List Int)(at':Int):Option mO:=
 if cV (aH zs) at' 4=true then zR zs at' (at'-kU (aY zs at'.toNat 4)) else none
def eC (zs:List Int)(t:mO)(j:Nat):Int:=if 4+2 * (j:Int)<t.size then aY zs (t.la.toNat+4+2 * j) 2 else 0
def dF (zs:List Int)(a n:Nat):List Int:=(zs.drop a).take n
theorem aW {L a n:Int}:cV L a n=true ↔ 0≤a∧0≤n∧n≤L-a:=decide_eq_true_iff
theorem xI {L a n:Int}(h:¬cV L a n=true):a<0∨n<0∨L<a∨L-a<n:=by have:¬(0≤a∧0≤n∧n≤L-a):=fun h2=>h (aW.2 h2);omega
theorem pX (zs:List Int)(a n:Nat)(hz:∀ i,0≤zs.getD i 0∧zs.getD i 0≤255):0≤aY zs a n∧aY zs a n<2 ^ (8 * n):=pM _ n (fun _ _=>hz _) n bD
theorem aDw (zs:List Int)(a:Nat)(hz:∀ i,0≤zs.getD i 0∧zs.getD i 0≤255):0≤aY zs a 1∧aY zs a 1<256:=pX zs a 1 hz
theorem mU (zs:List Int)(a:Nat)(hz:∀ i,0≤zs.getD i 0∧zs.getD i 0≤255):0≤aY zs a 2∧aY zs a 2<65536:=pX zs a 2 hz
theorem dW (zs:List Int)(a:Nat)(hz:∀ i,0≤zs.getD i 0∧zs.getD i 0≤255):0≤aY zs a 4∧aY zs a 4<4294967296:=pX zs a 4 hz
theorem aDY (zs:List Int)(a:Nat)(hz:∀ i,0≤zs.getD i 0∧zs.getD i 0≤255):0≤aY zs a 8∧aY zs a 8<18446744073709551616:=pX zs a 8 hz
theorem aC5 (zs:List Int)(a:Nat):aY zs a 1=zs.getD a 0:=by simp [aY,mE]
theorem sK {n:Int}(h0:0≤n)(h1:n<4294967296) : -2147483648≤kU n∧kU n<2147483648:=by unfold kU;split<;>omega
theorem sB {n:Int}(h0:0≤n)(h1:n<4294967296):wrap32 n=kU n:=by unfold kU;rw [←IntWalk.i32_left];split<;>(simp only [IntKind.wrap,IntKind.bits,IntKind.signed];simp;omega)
section
open Go.ChangeShapes Go.WideShapes Go.ChangeAt
theorem vR (n:Int)(w:World)(h:n=1∨n=2∨n=4∨n=8) :
  Calls Tryd.prog 143 #[.int .i64 n] w fun e w'=>e=.returned (.bool true)∧w=w':=by
 rcases h with rfl|rfl|rfl|rfl
 all_goals
  go_enter Tryd.func143,Tryd.ntmps143;go_wp2;go_ret;exact ⟨rfl,rfl⟩
theorem aEi (n:Int)(w:World)(h:¬(n=1∨n=2∨n=4∨n=8)) :
  Calls Tryd.prog 143 #[.int .i64 n] w fun e w'=>e=.returned (.bool false)∧w=w':=by
 have h1:(n==1)=false:=by simp;omega
 have h2:(n==2)=false:=by simp;omega
 have h4:(n==4)=false:=by simp;omega
 have h8:(n==8)=false:=by simp;omega
 clear h;go_enter Tryd.func143,Tryd.ntmps143;go_wp2;go_ret;exact ⟨rfl,rfl⟩
theorem tK (a n m:Int)(w:World)(h0:0≤a)(h1:0≤n)(h2:a≤m)(h3:n≤m-a)(hm:m≤9223372036854775807) :
  Calls Tryd.prog 94 #[.int .i64 a,.int .i64 n,.int .i64 m] w fun e w'=>e=.returned (.tuple #[.int .i64 (a+n),.bool true])∧w=w':=by
 go_enter Tryd.func94,Tryd.ntmps94;go_wp2
 go_ret2
 exact ⟨rfl,rfl⟩
theorem wE (a n m:Int)(w:World)(h:a<0∨n<0∨m<a∨m-a<n)(hm:m≤9223372036854775807) :
  Calls Tryd.prog 94 #[.int .i64 a,.int .i64 n,.int .i64 m] w fun e w'=>e=.returned (.tuple #[.int .i64 0,.bool false])∧w=w':=by
 by_cases h0:a<0
 · go_enter Tryd.func94,Tryd.ntmps94;go_wp2
   go_ret2
   exact ⟨rfl,rfl⟩
 by_cases h1:n<0
 · go_enter Tryd.func94,Tryd.ntmps94;go_wp2
   go_ret2
   exact ⟨rfl,rfl⟩
 by_cases h2:m<a
 · go_enter Tryd.func94,Tryd.ntmps94;go_wp2
   go_ret2
   exact ⟨rfl,rfl⟩
 have h3:m-a<n:=by omega
 clear h;go_enter Tryd.func94,Tryd.ntmps94;go_wp2
 go_ret2
 exact ⟨rfl,rfl⟩
theorem tR (p:Option Addr)(len cap:Nat)(a n:Int)(w:World)(hl:(len:Int)≤9223372036854775807)(h0:0≤a)(h1:0≤n)(h2:a≤len)(h3:n≤len-a) :
  Calls Tryd.prog 131 #[.slice p len cap,.int .i64 a,.int .i64 n] w fun e w'=>e=.returned (.bool true)∧w=w':=by
 go_enter Tryd.func131,Tryd.ntmps131;go_wp2_with (go_at_call 94;refine (tK a n len _ h0 h1 h2 h3 hl).mono ?_;rintro e w' ⟨rfl,rfl⟩);go_ret;exact ⟨rfl,rfl⟩
theorem vL (p:Option Addr)(len cap:Nat)(a n:Int)(w:World)(hl:(len:Int)≤9223372036854775807)(h:a<0∨n<0∨(len:Int)<a∨len-a<n) :
  Calls Tryd.prog 131 #[.slice p len cap,.int .i64 a,.int .i64 n] w fun e w'=>e=.returned (.bool false)∧w=w':=by
 go_enter Tryd.func131,Tryd.ntmps131;go_wp2_with (go_at_call 94;refine (wE a n len _ h hl).mono ?_;rintro e w' ⟨rfl,rfl⟩);go_ret;exact ⟨rfl,rfl⟩
theorem aEc (b off len cap:Nat)(a n:Int)(w:World)(zs:List Int)(hl:(len:Int)≤9223372036854775807)(hz:len≤zs.length)
  (hc:∀ i,i<zs.length→w.cell? ⟨b,off+i,none⟩=some (.int .u8 (zs.getD i 0))) (hb:∀ i,0≤zs.getD i 0∧zs.getD i 0≤255) (h0:0≤a) (h2:a≤len) (h3:n≤len-a) (hn:n=1∨n=2∨n=4∨n=8) :
  Calls Tryd.prog 129 #[.slice (some ⟨b,off,none⟩) len cap,.int .i64 a,.int .i64 n] w fun e w'=>e=.returned (.tuple #[.int .u64 (aY zs a.toNat n.toNat),.bool true])∧w=w':=by
 obtain ⟨a,rfl⟩:=Int.eq_ofNat_of_zero_le h0;obtain ⟨f,hf⟩:∃ f:Nat→Int,f=fun j=>zs.getD (a+j) 0:=⟨_,rfl⟩;have HF:=aA (show ∀ k:Nat,mE f k=aY zs (a:Int).toNat (k:Int).toNat from fun k=>by rw [hf];rfl);have hcell:∀ k:Nat,(k:Int)<n→w.cell? ⟨b,off+(a+k),none⟩=some (.int .u8 (f k)):=fun k hk=>by rw [hf];exact hc _ (by omega)
 have hfb:∀ j,j<n.toNat→0≤f j∧f j≤255:=fun j _=>by rw [hf];exact hb _
 clear hc hb hf;have hn1:0≤n:=by omega
 have hn8:n≤8:=by omega
 have HB:=aA hfb;have HC:=aA hcell;clear hfb hcell;go_enter Tryd.func129,Tryd.ntmps129;go_wp2_with (first|(go_at_call 143;refine (vR _ _ hn).mono ?_;rintro e w' ⟨rfl,rfl⟩)|(go_at_call 131;refine (tR _ _ _ _ _ _ hl h0 hn1 h2 h3).mono ?_;rintro e w' ⟨rfl,rfl⟩))
 go_loop [8,21] (fun x i=>∃ k:Nat,(k:Int)≤n∧i=.int .i64 k∧x=.int .u64 (mE f k)) (fun _ i=>(n-intOf i).toNat)
 case atStart=>exact ⟨0,hn1,rfl,rfl⟩
 case round =>
  obtain ⟨k,hk,rfl,rfl⟩:=hrel;by_cases hlt:(k:Int)<n
  · have hcl:=HC.out k hlt;have b1:=pM f n.toNat HB.out k (by omega);have b2:=HB.out k (by omega);have E:=aA (aEG k (by omega) (mE f k) (f k) b1.1 b1.2 b2.1 b2.2);clear b1 b2;go_wp2;refine ⟨⟨k+1,by omega,by go_num,?_⟩,by simp [intOf];omega⟩;rw [E.out];rfl
  · go_wp2
    go_ret2
    obtain rfl:n=k:=by omega
    exact ⟨wD (HF.out k),rfl⟩
theorem aEF (p:Option Addr)(len cap:Nat)(a n:Int)(w:World)(hl:(len:Int)≤9223372036854775807)
  (h:¬(n=1∨n=2∨n=4∨n=8)∨a<0∨(len:Int)<a∨len-a<n) :
  Calls Tryd.prog 129 #[.slice p len cap,.int .i64 a,.int .i64 n] w fun e w'=>e=.returned (.tuple #[.int .u64 0,.bool false])∧w=w':=by
 by_cases hn:n=1∨n=2∨n=4∨n=8
 · have h':a<0∨n<0∨(len:Int)<a∨len-a<n:=by omega
   clear h;go_enter Tryd.func129,Tryd.ntmps129;go_wp2_with (first|(go_at_call 143;refine (vR _ _ hn).mono ?_;rintro e w' ⟨rfl,rfl⟩)|(go_at_call 131;refine (vL _ _ _ _ _ _ hl h').mono ?_;rintro e w' ⟨rfl,rfl⟩))
   go_ret2
   exact ⟨rfl,rfl⟩
 · clear h;go_enter Tryd.func129,Tryd.ntmps129;go_wp2_with (go_at_call 143;refine (aEi _ _ hn).mono ?_;rintro e w' ⟨rfl,rfl⟩)
   go_ret2
   exact ⟨rfl,rfl⟩
end
def aFc (c:Int):Bool:=decide (48≤c∧c≤57)
def isC (x:Int)(c:Int):Bool:=decide (c=x)
def stA (zs:List Int)(p:Int→Bool)(i:Nat):Bool:=decide (i<zs.length)&&p (zs.getD i 0)
/-! ### blanks and remarks -/
/-! ### numbers, quoted texts, a token -/
def sub (zs:List Int)(i j:Nat):List Int:=(zs.drop i).take (j-i)
def aGy (zs:List Int)(i:Nat):Bool:=stA zs aFc i||(stA zs (isC 45) i&&stA zs aFc (i+1))
section
variable {ok:List Int→Bool} {sg:Int→Bool} {zs:List Int} {i:Nat}
end
section
open Go.ChangeShapes Go.WideShapes Go.ChangeAt Go.Shelf
structure Exc (R B:Nat)(w w':World):Prop where
 os:w'.os=w.os
 tape:w'.tape=w.tape
 output:w'.output=w.output
 size:w.heap.size≤w'.heap.size
 block:∀ k,k<B→k≠R→w'.heap[k]?=w.heap[k]?
theorem Exc.refl (R B:Nat)(w:World):Exc R B w w:=⟨rfl,rfl,rfl,Nat.le_refl _,fun _ _ _=>rfl⟩
theorem Exc.trans {R B:Nat}{a b c:World}(h:Exc R B a b)(k:Exc R B b c):Exc R B a c:=
 ⟨k.os.trans h.os,k.tape.trans h.tape,k.output.trans h.output,eM h.size k.size,fun i hi hr=>(k.block i hi hr).trans (h.block i hi hr)⟩
theorem Exc.mono {R B B':Nat}{w w':World}(h:Exc R B w w')(hB:B'≤B):Exc R B' w w':=⟨h.os,h.tape,h.output,h.size,fun k hk hr=>h.block k (Nat.lt_of_lt_of_le hk hB) hr⟩
theorem Exc.of_below {R B:Nat}{w w':World}(h:Below B w w'):Exc R B w w':=⟨h.os,h.tape,h.output,h.size,fun k hk _=>h.block k hk⟩
theorem Exc.then {R:Nat}{a b c:World}(h:Exc R a.heap.size a b)(k:Exc R b.heap.size b c):Exc R a.heap.size a c:=h.trans (k.mono h.size)
theorem Exc.thenB {R B:Nat}{a b c:World}(h:Exc R B a b)(hB:B≤a.heap.size)(k:Exc R b.heap.size b c):Exc R B a c:=h.trans (k.mono (eM hB h.size))
theorem Exc.bel {R B:Nat}{a b c:World}(h:Exc R B a b)(hB:B≤a.heap.size)(k:Below b.heap.size b c):Exc R B a c:=h.thenB hB (.of_below k)
theorem Exc.alloc {R B:Nat}{a w:World}(h:Exc R B a w)(hB:B≤w.heap.size)(o:Obj):Exc R B a (w.alloc o):=
 h.trans (.of_below ((bH _ _).alloc hB o))
theorem Exc.drew {R B:Nat}{a w:World}(h:Exc R B a w):Exc R B a w.drew:=⟨h.os,h.tape,h.output,h.size,h.block⟩
theorem Exc.setCell {R B:Nat}{a w:World}(h:Exc R B a w){p:Addr}(hp:p.block=R∨B≤p.block)(u:Value):Exc R B a (w.setCell p u):=
 h.trans ⟨rfl,rfl,rfl,by simp [World.setCell],fun k hk hr=>oG _ _ _ _ (by rcases hp with h|h<;>omega)⟩
theorem Exc.grown {R B:Nat}{a w w':World}{row:Option Nat}(h:Exc R B a w)(hg:w.grownBy w' row)(hB:B≤w.heap.size)(hr:∀ k,row=some k→B≤k∨k=R):Exc R B a w':=
 h.trans ⟨hg.os,hg.tape,hg.output,hg.size,fun k hk hkr=>hg.block k (by omega) (fun e=>by have:=hr k e.symm;omega)⟩
theorem Exc.cell {R B:Nat}{w w':World}(h:Exc R B w w'){p:Addr}(hp:p.block<B)(hr:p.block≠R):w'.cell? p=w.cell? p:=World.cell?_of_block (w:=w) (h.block p.block hp hr)
theorem Exc.frozen {R B:Nat}{w w':World}(h:Exc R B w w'){p:Addr}(hp:p.block<B)(hr:p.block≠R):w'.frozen? p=w.frozen? p:=World.frozen?_of_block (w:=w) (h.block p.block hp hr)
theorem Exc.below {R B:Nat}{w w':World}(h:Exc R B w w')(hR:B≤R):Below B w w':=⟨h.os,h.tape,h.output,h.size,fun k hk=>h.block k hk (by omega)⟩
theorem Exc.ownsRow {R:Nat}{w w':World}(h:Exc R w.heap.size w w'){base:Nat}{e:TypeId}{size:Nat}{v:Value}{n:Nat}{xs:List Value}(ho:w.ownsRow base e size v n xs)(hR:v.ownBlock≠some R):w'.ownsRow base e size v n xs:=by
 obtain ⟨hl,h'⟩:=ho;refine ⟨hl,?_⟩;rcases h' with h1|⟨g',cap',cur,hv,h1,hg,h2⟩
 · exact .inl h1
 · have hlt:g'<w.heap.size:=by
    rcases Nat.lt_or_ge g' w.heap.size with h|h
    · exact h
    · rw [Array.getElem?_eq_none h] at hg;cases hg
   subst hv;exact .inr ⟨g',cap',cur,rfl,h1,(h.block g' hlt (fun e=>hR (by simp [Value.ownBlock,e]))).trans hg,h2⟩
theorem eE {w:World}{base base':Nat}{e:TypeId}{size:Nat}{v:Value}{n:Nat}{xs:List Value}(h:w.ownsRow base e size v n xs)(hb:base'≤base):w.ownsRow base' e size v n xs:=
 ⟨h.1,h.2.elim Or.inl (fun ⟨g,cap,cur,hv,hg,r⟩=>Or.inr ⟨g,cap,cur,hv,eM hb hg,r⟩)⟩
theorem aV {w:World}{base:Nat}{e:TypeId}{size:Nat}{v:Value}{n:Nat}{xs:List Value}(h:w.ownsRow base e size v n xs):∀ k,v.ownBlock=some k→base≤k∧k<w.heap.size:=by
 intro k hk;rcases h.2 with ⟨rfl,_⟩|⟨g,cap,cur,rfl,hb,hg,_⟩
 · simp [Value.ownBlock] at hk
 · simp [Value.ownBlock] at hk;subst hk;refine ⟨hb,?_⟩;rcases Nat.lt_or_ge g w.heap.size with h'|h'
   · exact h'
   · rw [Array.getElem?_eq_none h'] at hg;cases hg
theorem aJ {w:World}{base:Nat}{e:TypeId}{size:Nat}{v:Value}{n:Nat}{xs:List Value}(h:w.ownsRow base e size v n xs):∃ a c,v=.slice a n c:=by
 rcases h.2 with ⟨rfl,h0⟩|⟨g,cap,_,rfl,_⟩
 · rw [h0];exact ⟨_,_,rfl⟩
 · exact ⟨_,_,rfl⟩
theorem aU {w:World}{g:Nat}{cs:Array Value}{t:TypeId}(h:w.heap[g]?=some (.cells cs t (0,0)))(i:Nat):w.cell? ⟨g,i,none⟩=cs[i]?:=cell_of_row w g i cs t (0,0) h
theorem aB {w:World}{g:Nat}{cs:Array Value}{t:TypeId}(h:w.heap[g]?=some (.cells cs t (0,0)))(i:Nat):w.frozen? ⟨g,i,none⟩=false:=by simp [World.frozen?,show w.heap[g]?=_ from h]
theorem aD {w:World}{g:Nat}{o:Obj}(h:w.heap[g]?=some o):g<w.heap.size:=by
 rcases Nat.lt_or_ge g w.heap.size with h'|h'
 · exact h'
 · rw [Array.getElem?_eq_none h'] at h;cases h
theorem aN {w:World}{g:Nat}{cs:Array Value}{t:TypeId}(h:w.heap[g]?=some (.cells cs t (0,0)))(i:Nat)(u:Value):(w.setCell ⟨g,i,none⟩ u).heap[g]?=some (.cells (cs.setIfInBounds i u) t (0,0)):=by simp [World.setCell,Array.getElem?_modify,h]
theorem bA {w:World}{g:Nat}{o:Obj}(h:w.heap[g]?=some o){p:Addr}(hp:p.block≠g)(u:Value):(w.setCell p u).heap[g]?=some o:=
 (oG w p u g (fun e=>hp e.symm)).trans h
theorem cL {w:World}{g:Nat}{o:Obj}(h:w.heap[g]?=some o)(o':Obj):(w.alloc o').heap[g]?=some o:=
 (Below.heap_alloc w o' g (aD h)).trans h
theorem mI {w:World}{g:Nat}{x y:Value}{t:TypeId}(h:w.heap[g]?=some (.cells #[x,y] t (0,0))) :
  g<w.heap.size∧w.cell? ⟨g,0,none⟩=some x∧w.cell? ⟨g,1,none⟩=some y∧w.frozen? ⟨g,0,none⟩=false∧w.frozen? ⟨g,1,none⟩=false:=
 ⟨aD h,(aU h 0).trans rfl,(aU h 1).trans rfl,aB h 0,aB h 1⟩
theorem aS {w:World}{g:Nat}{x y z:Value}{t:TypeId}(h:w.heap[g]?=some (.cells #[x,y,z] t (0,0))) :
  g<w.heap.size∧w.cell? ⟨g,0,none⟩=some x∧w.cell? ⟨g,1,none⟩=some y∧w.cell? ⟨g,2,none⟩=some z∧w.frozen? ⟨g,0,none⟩=false∧w.frozen? ⟨g,1,none⟩=false∧w.frozen? ⟨g,2,none⟩=false:=
 ⟨aD h,(aU h 0).trans rfl,(aU h 1).trans rfl,(aU h 2).trans rfl,aB h 0,aB h 1,aB h 2⟩
theorem aE {w W:World}{B g:Nat}{o:Obj}(h:w.heap[g]?=some o)(hb:Below B w W)(hg:g<B):W.heap[g]?=some o:=(hb.block g hg).trans h
theorem aZ {w W:World}{R B g:Nat}{o:Obj}(h:w.heap[g]?=some o)(hb:Exc R B w W)(hg:g<B)(hne:g≠R):W.heap[g]?=some o:=(hb.block g hg hne).trans h
theorem aI {P:Program}{f:Func}{Q:Ending→World→Prop}{ex:Exit}{a:Act}{W:World}(p:World→Prop)(hp:p W)(k:∀ Wf,p Wf→bodyPost P f Q ex a Wf):bodyPost P f Q ex a W:=k W hp
theorem kI {w:World}{g:Nat}{x y z:Value}{t:TypeId}(h:w.heap[g]?=some (.cells #[x,y,z] t (0,0)))(x' y' z':Value) :
  (((w.setCell ⟨g,0,none⟩ x').setCell ⟨g,1,none⟩ y').setCell ⟨g,2,none⟩ z').heap[g]?=some (.cells #[x',y',z'] t (0,0)):=
 (aN (aN (aN h 0 x') 1 y') 2 z').trans rfl
theorem aEx (w:World)(g i:Nat)(x:Value):Exc g w.heap.size w (w.setCell ⟨g,i,none⟩ x):=(Exc.refl g _ w).setCell (p:=⟨g,i,none⟩) (.inl rfl) x
theorem wI {w:World}{base:Nat}{e:TypeId}{size:Nat}{v:Value}{n:Nat}{xs:List Value}(h:w.ownsRow base e size v n xs)(hn:0<n) :
  ∃ g c,v=.slice (some ⟨g,0,none⟩) n c∧n≤c∧base≤g∧g<w.heap.size∧∀ k,k<n * size→w.cell? ⟨g,k,none⟩=xs[k]?:=by
 rcases h.2 with ⟨_,h0⟩|⟨g,cap,cur,rfl,hb,hg,hnc,hm,hs,ht⟩
 · omega
 · refine ⟨g,cap,rfl,hnc,hb,aD hg,fun k hk=>?_⟩;rw [cell_of_row w g k cur _ (0,0) hg,←ht,List.getElem?_take,bG hk,Array.getElem?_toList]
theorem pU {α:Type}(f:α→List Value)(m:Nat)(hm:∀ a,(f a).length=m):∀ (l:List α) (k:Nat) (hk:k<l.length) (j:Nat),j<m→(l.flatMap f)[k * m+j]?=(f l[k])[j]?
 | [],k,hk,_,_=>absurd hk (Nat.not_lt_zero k)
 | a::r,0,_,j,hj=>by rw [List.flatMap_cons,Nat.zero_mul,cX,List.getElem?_append_left (by rw [hm];exact hj)];rfl
 | a::r,k+1,hk,j,hj=>by
  have e:(k+1) * m+j=m+(k * m+j):=by rw [Nat.succ_mul];omega
  rw [List.flatMap_cons,List.getElem?_append_right (by rw [hm,e];omega),hm,show (k+1) * m+j-m=k * m+j by omega];exact pU f m hm r k (Nat.lt_of_succ_lt_succ hk) j hj
theorem eP {α:Type}(f:α→List Value)(m:Nat)(hm:∀ a,(f a).length=m){w:World}{base:Nat}{e:TypeId}{v:Value}{l:List α}(h:w.ownsRow base e m v l.length (l.flatMap f))(k:Nat)(hk:k<l.length) :
  ∃ g c,v=.slice (some ⟨g,0,none⟩) l.length c∧l.length≤c∧g<w.heap.size∧∀ j,j<m→w.cell? ⟨g,k * m+j,none⟩=(f l[k])[j]?:=by
 obtain ⟨g,c,hv,hc,_,hg,hcell⟩:=wI h (by omega);refine ⟨g,c,hv,hc,hg,fun j hj=>?_⟩;have hlt:k * m+j<l.length * m:=by have h1:(k+1) * m≤l.length * m:=Nat.mul_le_mul_right m hk;rw [Nat.succ_mul] at h1;omega
 rw [hcell _ hlt,pU f m hm l k hk j hj]
theorem iG {w:World}{base:Nat}{e:TypeId}{size:Nat}{v:Value}{n:Nat}{xs:List Value}(h:w.ownsRow base e size v n xs):n≤9223372036854775807:=by
 rcases h.2 with ⟨_,h0⟩|⟨g,cap,cur,rfl,hb,hg,hnc,hm,_⟩
 · omega
 · unfold maxLen at hm;omega
theorem dG {a b:Option Addr}{n c n' c':Nat}(h:Value.slice a n c=.slice b n' c'):a=b∧c=c':=by injection h with h1 _ h3;exact ⟨h1,h3⟩
theorem bE {w w':World}(h:Below w.heap.size w w'){base:Nat}{e:TypeId}{size:Nat}{v:Value}{n:Nat}{xs:List Value}(ho:w.ownsRow base e size v n xs):w'.ownsRow base e size v n xs:=by
 obtain ⟨hl,h'⟩:=ho;refine ⟨hl,?_⟩;rcases h' with h1|⟨g',cap',cur,hv,h1,hg',h2⟩
 · exact .inl h1
 · exact .inr ⟨g',cap',cur,hv,h1,(h.block g' (aD hg')).trans hg',h2⟩
end
section
open Go.ChangeShapes Go.WideShapes Go.ChangeAt
theorem aBu (W:World)(z:Int):(convert 22 9 (.slice (some ⟨W.heap.size,0,none⟩) 1 1)).run Tryd.prog (W.alloc (.cells #[.int .u8 z] 5))=.ok (.string (strOfNums [z])) (W.alloc (.cells #[.int .u8 z] 5)):=by
 refine run_convert_bytes_arg (P:=Tryd.prog) _ 22 5 Tryd.underlying22 Tryd.underlying5 W.heap.size 0 1 1 [z] rfl (fun k hk=>?_) 9 Tryd.underlying9;obtain rfl:k=0:=by omega
 rw [cell_of_row _ _ _ _ _ (0,0) (cN W _)];rfl
def Bytes (w:World)(p:Option Addr)(zs:List Int):Prop:=
 (∀ i,0≤zs.getD i 0∧zs.getD i 0≤255)∧(zs≠[]→∃ b off,p=some ⟨b,off,none⟩∧b<w.heap.size∧∀ i,i<zs.length→w.cell? ⟨b,off+i,none⟩=some (.int .u8 (zs.getD i 0)))
theorem Bytes.below {w w':World}{p:Option Addr}{zs:List Int}{B:Nat}(h:Bytes w p zs)(hB:w.heap.size≤B)(hb:Below B w w'):Bytes w' p zs:=by refine ⟨h.1,fun hne=>?_⟩;obtain ⟨b,off,rfl,hlt,hc⟩:=h.2 hne;exact ⟨b,off,rfl,Nat.lt_of_lt_of_le hlt hb.size,fun i hi=>(hb.cell (p:=⟨b,off+i,none⟩) (Nat.lt_of_lt_of_le hlt hB)).trans (hc i hi)⟩
end
theorem dB {B:Nat}{a w:World}(h:Below B a w)(n:Nat):Below B a (w.drewN n):=h.trans ⟨rfl,rfl,rfl,Nat.le_refl _,fun _ _=>rfl⟩
theorem iW {P:Program}{f:FuncId}{args:Array Value}{w:World}{n:Nat}{v:Value}
  (h:Calls P f args (w.drewN n) fun e w'=>e=.returned v∧w.drewN n=w'):Calls P f args (w.drewN n) fun e w''=>e=.returned v∧∃ m,w''=w.drewN m:=
 h.mono fun _ _ ⟨he,hm⟩=>⟨he,n,hm.symm⟩
theorem aCc {P:Program}(w:World)(src e dst:TypeId)(hs:P.underlying src=some (.slice e))(he:P.underlying e=some (.int .u8))(hd:P.underlying dst=some .string)(a:Option Addr)(c:Nat) :
  (convert src dst (.slice a 0 c)).run P w=.ok (.string (strOfNums [])) w:=by
 rw [run_convert_bytes_string w src dst e a 0 c hs he hd];cases a with
 | none=>simp [Conv.bytesToString];rfl
 | some x =>
  have hl:(loadCells x 0).run P w=.ok (([]:List Int).map (Value.int .u8)).toArray w:=run_loadCells_list (P:=P) w x [] (fun j v hj=>by simp at hj);rw [run_bytesToString w x 0 c [] hl];simp [strOfNums];rfl
section
open Go.Lib
def aD9:Go.Shelf.Ren:=⟨fun|32=>106 | 49=>128 | n=>n,fun|30=>22 | 21=>21 | 3=>3 | 0=>0 | 5=>5 | 4=>4 | 33=>208 | 66=>238 | 25=>40 | 69=>241 | 68=>240 | n=>n,fun|2=>2 | 3=>3 | n=>n⟩
theorem aGD:Go.Proofs.Lays7.n32 Tryd.prog aD9:={
 mixed:=by kernel_rfl
 f32:=Tryd.func106.trans (congrArg some (by kernel_rfl))
 f49:=Tryd.func128.trans (congrArg some (by kernel_rfl))
 t0:=Tryd.underlying0
 a0:=Tryd.isAgg0
 z0:=Tryd.sizeOf0
 v0:=Tryd.zeroValue0
 i0:=by kernel_rfl
 t3:=Tryd.underlying3
 a3:=Tryd.isAgg3
 z3:=Tryd.sizeOf3
 v3:=Tryd.zeroValue3
 i3:=by kernel_rfl
 t4:=Tryd.underlying4
 a4:=Tryd.isAgg4
 z4:=Tryd.sizeOf4
 v4:=Tryd.zeroValue4
 i4:=by kernel_rfl
 t5:=Tryd.underlying5
 a5:=Tryd.isAgg5
 z5:=Tryd.sizeOf5
 v5:=Tryd.zeroValue5
 i5:=by kernel_rfl
 t21:=Tryd.underlying21
 a21:=Tryd.isAgg21
 z21:=Tryd.sizeOf21
 v21:=Tryd.zeroValue21
 i21:=by kernel_rfl
 t25:=Tryd.underlying40
 a25:=Tryd.isAgg40
 z25:=Tryd.sizeOf40
 v25:=Tryd.zeroValue40
 i25:=by kernel_rfl
 t30:=Tryd.underlying22
 a30:=Tryd.isAgg22
 z30:=Tryd.sizeOf22
 v30:=Tryd.zeroValue22
 i30:=by kernel_rfl
 t33:=Tryd.underlying208
 a33:=Tryd.isAgg208
 z33:=Tryd.sizeOf208
 v33:=Tryd.zeroValue208
 i33:=by kernel_rfl
 t66:=Tryd.underlying238
 a66:=Tryd.isAgg238
 z66:=Tryd.sizeOf238
 t68:=Tryd.underlying240
 a68:=Tryd.isAgg240
 z68:=Tryd.sizeOf240
 v68:=Tryd.zeroValue240
 i68:=by kernel_rfl
 t69:=Tryd.underlying241
 a69:=Tryd.isAgg241
 z69:=Tryd.sizeOf241
 v69:=Tryd.zeroValue241
 i69:=by kernel_rfl
 g2:=by kernel_rfl
 g3:=by kernel_rfl }
def Tabs (w:World):Prop:=Lib.Utf8Tabs 2 3 w
def yJ:Go.Shelf.Ren:=⟨fun n=>n,fun|5=>5 | 119=>238 | 138=>240 | 139=>241 | n=>n,fun|3=>2 | 4=>3 | n=>n⟩
theorem aEW:U8Types Tryd.prog yJ:={ t5:=Tryd.underlying5,t119:=Tryd.underlying238,t138:=Tryd.underlying240,t139:=Tryd.underlying241 }
theorem aE2:U8Extra Tryd.prog yJ:={ n3:=by kernel_rfl,n4:=by kernel_rfl,y3:=by kernel_rfl,y4:=by kernel_rfl,c5:=by kernel_rfl,c119:=by kernel_rfl,c138:=by kernel_rfl }
theorem aDH:Rows.laid_unicode_utf8_first=Lib.firstData:=by kernel_rfl
theorem aBW:Rows.laid_unicode_utf8_acceptRanges (H:=Unit)=Lib.acceptData:=by kernel_rfl
theorem wC {W:World}(h:laidMetH Tryd.prog [("unicode/utf8.acceptRanges",Rows.laid_unicode_utf8_acceptRanges),("unicode/utf8.first",Rows.laid_unicode_utf8_first)] W):Tabs W:=by
 have h':laidMet Tryd.prog [("unicode/utf8.acceptRanges",Rows.laid_unicode_utf8_acceptRanges),("unicode/utf8.first",Rows.laid_unicode_utf8_first)] W:=h;refine utf8Tabs_of_readsT aEW aE2 ?_ ?_
 · rw [←aDH];exact laidMet.reads h' (by simp)
 · rw [←aBW];exact laidMet.reads h' (by simp)
theorem Tabs.sizes {w:World}(h:Tabs w):2 < w.heap.size∧3 < w.heap.size:=by
 constructor
 · exact World.block_lt_of_cell? _ _ (h.1 0 (by decide))
 · exact World.block_lt_of_cell? _ _ (h.2 0 (by decide)).1
theorem Tabs.below {w w':World}{B:Nat}(h:Tabs w)(hB:w.heap.size≤B)(hb:Below B w w'):Tabs w':=by
 obtain ⟨s0,s1⟩:=h.sizes;refine ⟨fun c hc=>?_,fun i hi=>⟨?_,?_⟩⟩
 · exact (hb.cell (p:=⟨_,c,none⟩) (Nat.lt_of_lt_of_le s0 hB)).trans (h.1 c hc)
 · exact (hb.cell (p:=⟨_,2 * i,none⟩) (Nat.lt_of_lt_of_le s1 hB)).trans (h.2 i hi).1
 · exact (hb.cell (p:=⟨_,2 * i+1,none⟩) (Nat.lt_of_lt_of_le s1 hB)).trans (h.2 i hi).2
/-! ### the bytes of a list of numbers -/
def cB (zs:List Int):ByteArray:=⟨(zs.map fun z=>UInt8.ofNat z.toNat).toArray⟩
theorem gI (zs:List Int):(cB zs).size=zs.length:=by simp [cB,ByteArray.size]
theorem zD (zs:List Int)(hb:∀ i,0≤zs.getD i 0∧zs.getD i 0≤255)(j:Nat)(hj:j<zs.length):(((cB zs).get! j).toNat:Int)=zs.getD j 0:=by
 have h:=hb j;have e:zs.getD j 0=zs[j]:=by simp [List.getD,hj]
 rw [e] at h ⊢;have:(cB zs).get! j=UInt8.ofNat zs[j].toNat:=by simp [cB,ByteArray.get!,hj]
 rw [this];simp only [UInt8.toNat_ofNat'];omega
def mZ (zs:List Int):Int × Int:=(((Lib.decodeGo (cB zs)).1:Int),((Lib.decodeGo (cB zs)).2:Int))
theorem aEO (zs:List Int)(b off cap:Nat)(w:World)(hT:Tabs w)(hc:∀ i,i<zs.length→w.cell? ⟨b,off+i,none⟩=some (.int .u8 (zs.getD i 0)))(hb:∀ i,0≤zs.getD i 0∧zs.getD i 0≤255) :
  Calls Tryd.prog 106 #[.slice (some ⟨b,off,none⟩) zs.length cap] w fun e w'=>e=.returned (.tuple #[.int .i32 (mZ zs).1,.int .i64 (mZ zs).2])∧Below w.heap.size w w':=by
 have h:=Any7.utf8_DecodeRune aGD (cB zs) b off cap w hT (fun j hj=>by
  have hj':j<zs.length:=by rw [gI] at hj;exact hj
  rw [hc j hj',zD zs hb j hj'])
 rw [gI] at h;exact h
theorem uJ (n b0 b1 b2 b3:Nat)(hn:0<n):1≤(Lib.decodeN n b0 b1 b2 b3).2∧(Lib.decodeN n b0 b1 b2 b3).2≤4∧(Lib.decodeN n b0 b1 b2 b3).2≤n:=by
 unfold Lib.decodeN
 repeat' split
 all_goals (simp only;omega)
theorem oB (zs:List Int)(h:0<zs.length):1≤(mZ zs).2∧(mZ zs).2≤4∧(mZ zs).2≤zs.length:=by
 have e:Lib.decodeGo (cB zs)=Utf8.decode (cB zs) 0:=by unfold Lib.decodeGo;rw [if_neg (by rw [gI];omega)]
 unfold mZ;rw [e,Lib.decode_at,gI];have:=uJ (zs.length-0) ((cB zs).get! 0).toNat ((cB zs).get! (0+1)).toNat ((cB zs).get! (0+2)).toNat ((cB zs).get! (0+3)).toNat (by omega);simp only;omega
end
section
open Go.ChangeShapes Go.WideShapes Go.ChangeAt Go.Shelf
def aE6 (z:Int):List Value:=[.int .i64 z]
def eO (l:List Int):List Value:=l.flatMap aE6
theorem gJ (l:List Int):eO l=l.map (Value.int .i64):=by
 induction l with
 | nil=>rfl
 | cons a r ih=>rw [List.map_cons,←ih];rfl
theorem jQ (l:List Int):(eO l).length=l.length:=by rw [gJ,List.length_map]
end
end Go.Proofs.YtpbaaiilfkacnaaDoor
