/-
  An append whose run is known, at a step of a region that draws its order. Conditions: those that the theorem names.
-/
import Derived.WalkKit
import Derived.Laws.BitsLemmas
import Derived.Test.YtpbaaedijfofnaaDoorRows
import Derived.ProofKit
import Derived.OpenShut
import Derived.ShutString
import Derived.ChangeOld
import Derived.Below
import Derived.WalkLawsBesides
import Derived.WalkSpells
import Derived.Lib.Hide
import Derived.Outline
import Derived.Handy
import Derived.Lib.ConvBytes
import Derived.Laws.BytesArg
import Derived.Laws.EntriesVeiled
import Derived.Shelf.Abstract
import Derived.RegionTactic
namespace Go.Proofs.YtpbaaedijfofnaaDoor
open Go.RowKit
def leNum (f:Nat→Int):Nat→Int
 | 0=>0
 | k+1=>leNum f k+f k * 2 ^ (8 * k)
theorem leNum_bd (f:Nat→Int)(n:Nat)(hf:∀ j,j<n→0≤f j∧f j≤255):∀ k,k≤n→0≤leNum f k∧leNum f k<2 ^ (8 * k)
 | 0,_=>by simp [leNum]
 | k+1,h=>by
  have ih:=leNum_bd f n hf k (by omega)
  obtain ⟨f0,f1⟩:=hf k (by omega)
  have hp:(0:Int)<2 ^ (8 * k):=Int.pow_pos (by decide)
  have e:(2:Int) ^ (8 * (k+1))=256 * 2 ^ (8 * k):=by
   rw [show 8 * (k+1)=8 * k+8 from by omega,Int.pow_add]
   omega
  have h1:0≤f k * 2 ^ (8 * k):=Int.mul_nonneg f0 (by omega)
  have h2:f k * 2 ^ (8 * k)≤255 * 2 ^ (8 * k):=Int.mul_le_mul_of_nonneg_right f1 (by omega)
  rw [e]
  simp only [leNum]
  generalize f k * 2 ^ (8 * k)=m at *
  generalize (2:Int) ^ (8 * k)=P at *
  omega
theorem leNum_congr (f g:Nat→Int):∀ k,(∀ j,j<k→f j=g j)→leNum f k=leNum g k
 | 0,_=>rfl
 | k+1,h=>by
  simp only [leNum]
  rw [leNum_congr f g k (fun j hj=>h j (by omega)),h k (by omega)]
def leAt (zs:List Int)(a n:Nat):Int:=leNum (fun j=>zs.getD (a+j) 0) n
theorem pow_le56 (k:Nat)(hk:k<8):(2:Int) ^ (8 * k)≤72057594037927936:=by
 have:(2:Nat) ^ (8 * k)≤2 ^ 56:=Nat.pow_le_pow_right (by decide) (by omega)
 have h2:((2 ^ (8 * k):Nat):Int)≤((2 ^ 56:Nat):Int):=Int.ofNat_le.2 this
 simpa using h2
theorem or_byte (k:Nat)(hk:k<8)(y z:Int)(y0:0≤y)(y1:y<2 ^ (8 * k))(z0:0≤z)(z1:z≤255) :
  bits BinOp.or .u64 y (IntKind.u64.wrap (IntKind.u64.wrap z * 2 ^ (8 * k)))=y+z * 2 ^ (8 * k):=by
 rw [IntWalk.u64_in z ⟨z0,by omega⟩]
 have hp:(0:Int)<2 ^ (8 * k):=Int.pow_pos (by decide)
 have hP:=pow_le56 k hk
 have h1:0≤z * 2 ^ (8 * k):=Int.mul_nonneg z0 (by omega)
 have h2:z * 2 ^ (8 * k)≤255 * 2 ^ (8 * k):=Int.mul_le_mul_of_nonneg_right z1 (by omega)
 have hm:(z * 2 ^ (8 * k)) % 2 ^ (8 * k)=0:=Int.mul_emod_left z _
 have hc:bits BinOp.or .u64 y (z * 2 ^ (8 * k))=bits BinOp.or .u64 (z * 2 ^ (8 * k)) y:=by simp only [bits,BitVec.or_comm]
 rw [IntWalk.u64_in _ ⟨h1,by omega⟩,hc,bits_join .u64 64 (by decide) (fun n h0 h1=>IntWalk.u64_in n ⟨h0,by omega⟩) (8 * k) _ _ h1 hm (by omega) y0 y1 (by omega)]
 omega
theorem ret_int {k:IntKind}{a b:Int}(h:a=b):Ending.returned (.int k a)=.returned (.int k b):=by rw [h]
theorem ret_bool {a b:Bool}(h:a=b):Ending.returned (.bool a)=.returned (.bool b):=by rw [h]
theorem ret_int_bool {k:IntKind}{a b:Int}{c:Bool}(h:a=b):Ending.returned (.tuple #[.int k a,.bool c])=.returned (.tuple #[.int k b,.bool c]):=by rw [h]
def kSize (n:Int):Int:=
 if n=1∨n=2∨n=6∨n=10 then 1 else if n=3∨n=7 then 2 else if n=4∨n=8 then 4 else if n=5∨n=9 then 8 else 0
theorem kSize_else (n:Int)(h:n<1∨10<n):kSize n=0:=by
 unfold kSize
 rw [if_neg (by omega),if_neg (by omega),if_neg (by omega),if_neg (by omega)]
def kSign (n:Int):Bool:=decide (2≤n∧n≤5)
def sgn (m n:Int):Int:=if n % (2 * m)<m then n % (2 * m) else n % (2 * m)+(18446744073709551616-2 * m)
def sgnOf (n s:Int):Int:=if s=1 then sgn 128 n else if s=2 then sgn 32768 n else if s=4 then sgn 2147483648 n else n
theorem sgnOf_else (n s:Int)(h1:¬s=1)(h2:¬s=2)(h4:¬s=4):sgnOf n s=n:=by
 unfold sgnOf
 rw [if_neg h1,if_neg h2,if_neg h4]
theorem and_8 (n:Int)(h0:0≤n)(h1:n≤18446744073709551615):bits BinOp.and .u64 n 255=n % 256:=
 bits_mask .u64 64 (by decide) (fun n h0 h1=>IntWalk.u64_in n ⟨h0,by omega⟩) 8 (by decide) n h0 (by omega)
theorem and_16 (n:Int)(h0:0≤n)(h1:n≤18446744073709551615):bits BinOp.and .u64 n 65535=n % 65536:=
 bits_mask .u64 64 (by decide) (fun n h0 h1=>IntWalk.u64_in n ⟨h0,by omega⟩) 16 (by decide) n h0 (by omega)
theorem and_32 (n:Int)(h0:0≤n)(h1:n≤18446744073709551615):bits BinOp.and .u64 n 4294967295=n % 4294967296:=
 bits_mask .u64 64 (by decide) (fun n h0 h1=>IntWalk.u64_in n ⟨h0,by omega⟩) 32 (by decide) n h0 (by omega)
theorem or_comm64 (x y:Int):bits BinOp.or .u64 x y=bits BinOp.or .u64 y x:=by simp only [bits,BitVec.or_comm]
theorem or_8 (y:Int)(h0:0≤y)(h1:y<256):bits BinOp.or .u64 y 18446744073709551360=y+18446744073709551360:=by
 rw [or_comm64,bits_join .u64 64 (by decide) (fun n h0 h1=>IntWalk.u64_in n ⟨h0,by omega⟩) 8 _ _ (by decide) (by decide) (by decide) h0 h1 (by omega)]
 omega
theorem or_16 (y:Int)(h0:0≤y)(h1:y<65536):bits BinOp.or .u64 y 18446744073709486080=y+18446744073709486080:=by
 rw [or_comm64,bits_join .u64 64 (by decide) (fun n h0 h1=>IntWalk.u64_in n ⟨h0,by omega⟩) 16 _ _ (by decide) (by decide) (by decide) h0 h1 (by omega)]
 omega
theorem or_32 (y:Int)(h0:0≤y)(h1:y<4294967296):bits BinOp.or .u64 y 18446744069414584320=y+18446744069414584320:=by
 rw [or_comm64,bits_join .u64 64 (by decide) (fun n h0 h1=>IntWalk.u64_in n ⟨h0,by omega⟩) 32 _ _ (by decide) (by decide) (by decide) h0 h1 (by omega)]
 omega
theorem sgnOf_1 (n:Int):sgnOf n 1=if n % 256<128 then n % 256 else n % 256+18446744073709551360:=rfl
theorem sgnOf_2 (n:Int):sgnOf n 2=if n % 65536<32768 then n % 65536 else n % 65536+18446744073709486080:=rfl
theorem sgnOf_4 (n:Int):sgnOf n 4=if n % 4294967296<2147483648 then n % 4294967296 else n % 4294967296+18446744069414584320:=rfl
end Go.Proofs.YtpbaaedijfofnaaDoor
namespace Go.Proofs.YtpbaaedijfofnaaDoor
open Go.RowKit
def inZ (L a n:Int):Bool:=decide (0≤a∧0≤n∧n≤L-a)
def lenZ (zs:List Int):Int:=(zs.length:Nat)
def jumpZ (zs:List Int)(at':Int):Option Int:=
 if inZ (lenZ zs) at' 4=true then (if at'+leAt zs at'.toNat 4≤lenZ zs then some (at'+leAt zs at'.toNat 4) else none) else none
def sg32 (n:Int):Int:=if n<2147483648 then n else n-4294967296
structure TabZ where
 own:Int
 la:Int
 size:Int
def tabOf (zs:List Int)(at' la:Int):Option TabZ:=
 if inZ (lenZ zs) la 4=true then
  (if (4≤leAt zs la.toNat 2∧leAt zs la.toNat 2 % 2=0∧4≤leAt zs (la.toNat+2) 2)∧inZ (lenZ zs) la (leAt zs la.toNat 2)=true∧inZ (lenZ zs) at' (leAt zs (la.toNat+2) 2)=true then some ⟨leAt zs (la.toNat+2) 2,la,leAt zs la.toNat 2⟩ else none)
 else none
def tabZ (zs:List Int)(at':Int):Option TabZ:=
 if inZ (lenZ zs) at' 4=true then tabOf zs at' (at'-sg32 (leAt zs at'.toNat 4)) else none
def offZ (zs:List Int)(t:TabZ)(j:Nat):Int:=if 4+2 * (j:Int)<t.size then leAt zs (t.la.toNat+4+2 * j) 2 else 0
def partZ (zs:List Int)(a n:Nat):List Int:=(zs.drop a).take n
theorem inZ_iff {L a n:Int}:inZ L a n=true ↔ 0≤a∧0≤n∧n≤L-a:=decide_eq_true_iff
theorem inZ_no {L a n:Int}(h:¬inZ L a n=true):a<0∨n<0∨L<a∨L-a<n:=by
 have:¬(0≤a∧0≤n∧n≤L-a):=fun h2=>h (inZ_iff.2 h2)
 omega
theorem leAt_bd (zs:List Int)(a n:Nat)(hz:∀ i,0≤zs.getD i 0∧zs.getD i 0≤255):0≤leAt zs a n∧leAt zs a n<2 ^ (8 * n):=leNum_bd _ n (fun _ _=>hz _) n (Nat.le_refl _)
theorem leAt_1 (zs:List Int)(a:Nat)(hz:∀ i,0≤zs.getD i 0∧zs.getD i 0≤255):0≤leAt zs a 1∧leAt zs a 1<256:=leAt_bd zs a 1 hz
theorem leAt_2 (zs:List Int)(a:Nat)(hz:∀ i,0≤zs.getD i 0∧zs.getD i 0≤255):0≤leAt zs a 2∧leAt zs a 2<65536:=leAt_bd zs a 2 hz
theorem leAt_4 (zs:List Int)(a:Nat)(hz:∀ i,0≤zs.getD i 0∧zs.getD i 0≤255):0≤leAt zs a 4∧leAt zs a 4<4294967296:=leAt_bd zs a 4 hz
theorem leAt_8 (zs:List Int)(a:Nat)(hz:∀ i,0≤zs.getD i 0∧zs.getD i 0≤255):0≤leAt zs a 8∧leAt zs a 8<18446744073709551616:=leAt_bd zs a 8 hz
theorem leAt_one (zs:List Int)(a:Nat):leAt zs a 1=zs.getD a 0:=by
 simp [leAt,leNum]
theorem sg32_bd {n:Int}(h0:0≤n)(h1:n<4294967296) : -2147483648≤sg32 n∧sg32 n<2147483648:=by
 unfold sg32
 split<;>omega
theorem sg32_is {n:Int}(h0:0≤n)(h1:n<4294967296):wrap32 n=sg32 n:=by
 unfold sg32
 rw [←IntWalk.i32_left]
 split<;>(simp only [IntKind.wrap,IntKind.bits,IntKind.signed];simp;omega)
end Go.Proofs.YtpbaaedijfofnaaDoor
namespace Go.Proofs.YtpbaaedijfofnaaDoor
open Go.ChangeShapes Go.WideShapes Go.ChangeAt Go.RowKit
theorem sized_yes (n:Int)(w:World)(h:n=1∨n=2∨n=4∨n=8) :
  Calls Tryd.prog 148 #[.int .i64 n] w fun e w'=>e=.returned (.bool true)∧w=w':=by
 rcases h with rfl|rfl|rfl|rfl
 all_goals
  go_enter Tryd.func148,Tryd.ntmps148
  go_wp2
  go_ret
  exact ⟨rfl,rfl⟩
theorem sized_no (n:Int)(w:World)(h:¬(n=1∨n=2∨n=4∨n=8)) :
  Calls Tryd.prog 148 #[.int .i64 n] w fun e w'=>e=.returned (.bool false)∧w=w':=by
 have h1:(n==1)=false:=by simp;omega
 have h2:(n==2)=false:=by simp;omega
 have h4:(n==4)=false:=by simp;omega
 have h8:(n==8)=false:=by simp;omega
 clear h
 go_enter Tryd.func148,Tryd.ntmps148
 go_wp2
 go_ret
 exact ⟨rfl,rfl⟩
end Go.Proofs.YtpbaaedijfofnaaDoor
namespace Go.Proofs.YtpbaaedijfofnaaDoor
open Go.ChangeShapes Go.WideShapes Go.ChangeAt Go.RowKit
theorem next_yes (a n m:Int)(w:World)(h0:0≤a)(h1:0≤n)(h2:a≤m)(h3:n≤m-a)(hm:m≤9223372036854775807) :
  Calls Tryd.prog 93 #[.int .i64 a,.int .i64 n,.int .i64 m] w fun e w'=>e=.returned (.tuple #[.int .i64 (a+n),.bool true])∧w=w':=by
 go_enter Tryd.func93,Tryd.ntmps93
 go_wp2
 go_ret2
 exact ⟨rfl,rfl⟩
theorem next_no (a n m:Int)(w:World)(h:a<0∨n<0∨m<a∨m-a<n)(hm:m≤9223372036854775807) :
  Calls Tryd.prog 93 #[.int .i64 a,.int .i64 n,.int .i64 m] w fun e w'=>e=.returned (.tuple #[.int .i64 0,.bool false])∧w=w':=by
 by_cases h0:a<0
 · go_enter Tryd.func93,Tryd.ntmps93
   go_wp2
   go_ret2
   exact ⟨rfl,rfl⟩
 by_cases h1:n<0
 · go_enter Tryd.func93,Tryd.ntmps93
   go_wp2
   go_ret2
   exact ⟨rfl,rfl⟩
 by_cases h2:m<a
 · go_enter Tryd.func93,Tryd.ntmps93
   go_wp2
   go_ret2
   exact ⟨rfl,rfl⟩
 have h3:m-a<n:=by omega
 clear h
 go_enter Tryd.func93,Tryd.ntmps93
 go_wp2
 go_ret2
 exact ⟨rfl,rfl⟩
theorem within_yes (p:Option Addr)(len cap:Nat)(a n:Int)(w:World)(hl:(len:Int)≤9223372036854775807)(h0:0≤a)(h1:0≤n)(h2:a≤len)(h3:n≤len-a) :
  Calls Tryd.prog 135 #[.slice p len cap,.int .i64 a,.int .i64 n] w fun e w'=>e=.returned (.bool true)∧w=w':=by
 go_enter Tryd.func135,Tryd.ntmps135
 go_wp2_with (go_at_call 93;refine (next_yes a n len _ h0 h1 h2 h3 hl).mono ?_;rintro e w' ⟨rfl,rfl⟩)
 go_ret
 exact ⟨rfl,rfl⟩
theorem within_no (p:Option Addr)(len cap:Nat)(a n:Int)(w:World)(hl:(len:Int)≤9223372036854775807)(h:a<0∨n<0∨(len:Int)<a∨len-a<n) :
  Calls Tryd.prog 135 #[.slice p len cap,.int .i64 a,.int .i64 n] w fun e w'=>e=.returned (.bool false)∧w=w':=by
 go_enter Tryd.func135,Tryd.ntmps135
 go_wp2_with (go_at_call 93;refine (next_no a n len _ h hl).mono ?_;rintro e w' ⟨rfl,rfl⟩)
 go_ret
 exact ⟨rfl,rfl⟩
end Go.Proofs.YtpbaaedijfofnaaDoor
namespace Go.Proofs.YtpbaaedijfofnaaDoor
open Go.ChangeShapes Go.WideShapes Go.ChangeAt Go.RowKit
theorem load_yes (b off len cap:Nat)(a n:Int)(w:World)(zs:List Int)(hl:(len:Int)≤9223372036854775807)(hz:len≤zs.length)
  (hc:∀ i,i<zs.length→w.cell? ⟨b,off+i,none⟩=some (.int .u8 (zs.getD i 0))) (hb:∀ i,0≤zs.getD i 0∧zs.getD i 0≤255) (h0:0≤a) (h2:a≤len) (h3:n≤len-a) (hn:n=1∨n=2∨n=4∨n=8) :
  Calls Tryd.prog 133 #[.slice (some ⟨b,off,none⟩) len cap,.int .i64 a,.int .i64 n] w fun e w'=>e=.returned (.tuple #[.int .u64 (leAt zs a.toNat n.toNat),.bool true])∧w=w':=by
 obtain ⟨a,rfl⟩:=Int.eq_ofNat_of_zero_le h0
 obtain ⟨f,hf⟩:∃ f:Nat→Int,f=fun j=>zs.getD (a+j) 0:=⟨_,rfl⟩
 have HF:=Lib.hid (show ∀ k:Nat,leNum f k=leAt zs (a:Int).toNat (k:Int).toNat from fun k=>by rw [hf];rfl)
 have hcell:∀ k:Nat,(k:Int)<n→w.cell? ⟨b,off+(a+k),none⟩=some (.int .u8 (f k)):=fun k hk=>by rw [hf];exact hc _ (by omega)
 have hfb:∀ j,j<n.toNat→0≤f j∧f j≤255:=fun j _=>by rw [hf];exact hb _
 clear hc hb hf
 have hn1:0≤n:=by omega
 have hn8:n≤8:=by omega
 have HB:=Lib.hid hfb
 have HC:=Lib.hid hcell
 clear hfb hcell
 go_enter Tryd.func133,Tryd.ntmps133
 go_wp2_with (first|(go_at_call 148;refine (sized_yes _ _ hn).mono ?_;rintro e w' ⟨rfl,rfl⟩)|(go_at_call 135;refine (within_yes _ _ _ _ _ _ hl h0 hn1 h2 h3).mono ?_;rintro e w' ⟨rfl,rfl⟩))
 go_loop [8,21] (fun x i=>∃ k:Nat,(k:Int)≤n∧i=.int .i64 k∧x=.int .u64 (leNum f k)) (fun _ i=>(n-intOf i).toNat)
 case atStart=>exact ⟨0,hn1,rfl,rfl⟩
 case round =>
  obtain ⟨k,hk,rfl,rfl⟩:=hrel
  by_cases hlt:(k:Int)<n
  · have hcl:=HC.out k hlt
    have b1:=leNum_bd f n.toNat HB.out k (by omega)
    have b2:=HB.out k (by omega)
    have E:=Lib.hid (or_byte k (by omega) (leNum f k) (f k) b1.1 b1.2 b2.1 b2.2)
    clear b1 b2
    go_wp2
    refine ⟨⟨k+1,by omega,by go_num,?_⟩,by simp [intOf];omega⟩
    rw [E.out];rfl
  · go_wp2
    go_ret2
    obtain rfl:n=k:=by omega
    exact ⟨ret_int_bool (HF.out k),rfl⟩
theorem load_no (p:Option Addr)(len cap:Nat)(a n:Int)(w:World)(hl:(len:Int)≤9223372036854775807)
  (h:¬(n=1∨n=2∨n=4∨n=8)∨a<0∨(len:Int)<a∨len-a<n) :
  Calls Tryd.prog 133 #[.slice p len cap,.int .i64 a,.int .i64 n] w fun e w'=>e=.returned (.tuple #[.int .u64 0,.bool false])∧w=w':=by
 by_cases hn:n=1∨n=2∨n=4∨n=8
 · have h':a<0∨n<0∨(len:Int)<a∨len-a<n:=by omega
   clear h
   go_enter Tryd.func133,Tryd.ntmps133
   go_wp2_with (first|(go_at_call 148;refine (sized_yes _ _ hn).mono ?_;rintro e w' ⟨rfl,rfl⟩)|(go_at_call 135;refine (within_no _ _ _ _ _ _ hl h').mono ?_;rintro e w' ⟨rfl,rfl⟩))
   go_ret2
   exact ⟨rfl,rfl⟩
 · clear h
   go_enter Tryd.func133,Tryd.ntmps133
   go_wp2_with (go_at_call 148;refine (sized_no _ _ hn).mono ?_;rintro e w' ⟨rfl,rfl⟩)
   go_ret2
   exact ⟨rfl,rfl⟩
end Go.Proofs.YtpbaaedijfofnaaDoor
namespace Go.Proofs.YtpbaaedijfofnaaDoor
open Go.RowKit
def isDig (c:Int):Bool:=decide (48≤c∧c≤57)
def isC (x:Int)(c:Int):Bool:=decide (c=x)
def stA (zs:List Int)(p:Int→Bool)(i:Nat):Bool:=decide (i<zs.length)&&p (zs.getD i 0)
/-! ### blanks and remarks -/
/-! ### numbers, quoted texts, a token -/
def sub (zs:List Int)(i j:Nat):List Int:=(zs.drop i).take (j-i)
def begins (zs:List Int)(i:Nat):Bool:=stA zs isDig i||(stA zs (isC 45) i&&stA zs isDig (i+1))
section
variable {ok:List Int→Bool} {sg:Int→Bool} {zs:List Int} {i:Nat}
end
end Go.Proofs.YtpbaaedijfofnaaDoor
namespace Go.Proofs.YtpbaaedijfofnaaDoor
open Go.ChangeShapes Go.WideShapes Go.ChangeAt Go.RowKit Go.Shelf
structure Exc (R B:Nat)(w w':World):Prop where
 os:w'.os=w.os
 tape:w'.tape=w.tape
 output:w'.output=w.output
 size:w.heap.size≤w'.heap.size
 block:∀ k,k<B→k≠R→w'.heap[k]?=w.heap[k]?
theorem Exc.refl (R B:Nat)(w:World):Exc R B w w:=⟨rfl,rfl,rfl,Nat.le_refl _,fun _ _ _=>rfl⟩
theorem Exc.trans {R B:Nat}{a b c:World}(h:Exc R B a b)(k:Exc R B b c):Exc R B a c:=
 ⟨k.os.trans h.os,k.tape.trans h.tape,k.output.trans h.output,Nat.le_trans h.size k.size,fun i hi hr=>(k.block i hi hr).trans (h.block i hi hr)⟩
theorem Exc.mono {R B B':Nat}{w w':World}(h:Exc R B w w')(hB:B'≤B):Exc R B' w w':=⟨h.os,h.tape,h.output,h.size,fun k hk hr=>h.block k (Nat.lt_of_lt_of_le hk hB) hr⟩
theorem Exc.of_below {R B:Nat}{w w':World}(h:Below B w w'):Exc R B w w':=⟨h.os,h.tape,h.output,h.size,fun k hk _=>h.block k hk⟩
theorem Exc.then {R:Nat}{a b c:World}(h:Exc R a.heap.size a b)(k:Exc R b.heap.size b c):Exc R a.heap.size a c:=h.trans (k.mono h.size)
theorem Exc.thenB {R B:Nat}{a b c:World}(h:Exc R B a b)(hB:B≤a.heap.size)(k:Exc R b.heap.size b c):Exc R B a c:=h.trans (k.mono (Nat.le_trans hB h.size))
theorem Exc.bel {R B:Nat}{a b c:World}(h:Exc R B a b)(hB:B≤a.heap.size)(k:Below b.heap.size b c):Exc R B a c:=h.thenB hB (.of_below k)
theorem Exc.alloc {R B:Nat}{a w:World}(h:Exc R B a w)(hB:B≤w.heap.size)(o:Obj):Exc R B a (w.alloc o):=
 h.trans (.of_below ((Below.refl _ _).alloc hB o))
theorem Exc.drew {R B:Nat}{a w:World}(h:Exc R B a w):Exc R B a w.drew:=⟨h.os,h.tape,h.output,h.size,h.block⟩
theorem Exc.setCell {R B:Nat}{a w:World}(h:Exc R B a w){p:Addr}(hp:p.block=R∨B≤p.block)(u:Value):Exc R B a (w.setCell p u):=
 h.trans ⟨rfl,rfl,rfl,by simp [World.setCell],fun k hk hr=>Below.heap_setCell _ _ _ _ (by rcases hp with h|h<;>omega)⟩
theorem Exc.grown {R B:Nat}{a w w':World}{row:Option Nat}(h:Exc R B a w)(hg:w.grownBy w' row)(hB:B≤w.heap.size)(hr:∀ k,row=some k→B≤k∨k=R):Exc R B a w':=
 h.trans ⟨hg.os,hg.tape,hg.output,hg.size,fun k hk hkr=>hg.block k (by omega) (fun e=>by have:=hr k e.symm;omega)⟩
theorem Exc.cell {R B:Nat}{w w':World}(h:Exc R B w w'){p:Addr}(hp:p.block<B)(hr:p.block≠R):w'.cell? p=w.cell? p:=World.cell?_of_block (w:=w) (h.block p.block hp hr)
theorem Exc.frozen {R B:Nat}{w w':World}(h:Exc R B w w'){p:Addr}(hp:p.block<B)(hr:p.block≠R):w'.frozen? p=w.frozen? p:=World.frozen?_of_block (w:=w) (h.block p.block hp hr)
theorem Exc.below {R B:Nat}{w w':World}(h:Exc R B w w')(hR:B≤R):Below B w w':=⟨h.os,h.tape,h.output,h.size,fun k hk=>h.block k hk (by omega)⟩
theorem Exc.ownsRow {R:Nat}{w w':World}(h:Exc R w.heap.size w w'){base:Nat}{e:TypeId}{size:Nat}{v:Value}{n:Nat}{xs:List Value}(ho:w.ownsRow base e size v n xs)(hR:v.ownBlock≠some R):w'.ownsRow base e size v n xs:=by
 obtain ⟨hl,h'⟩:=ho
 refine ⟨hl,?_⟩
 rcases h' with h1|⟨g',cap',cur,hv,h1,hg,h2⟩
 · exact .inl h1
 · have hlt:g'<w.heap.size:=by
    rcases Nat.lt_or_ge g' w.heap.size with h|h
    · exact h
    · rw [Array.getElem?_eq_none h] at hg;cases hg
   subst hv
   exact .inr ⟨g',cap',cur,rfl,h1,(h.block g' hlt (fun e=>hR (by simp [Value.ownBlock,e]))).trans hg,h2⟩
theorem ownsRow_base {w:World}{base base':Nat}{e:TypeId}{size:Nat}{v:Value}{n:Nat}{xs:List Value}(h:w.ownsRow base e size v n xs)(hb:base'≤base):w.ownsRow base' e size v n xs:=
 ⟨h.1,h.2.elim Or.inl (fun ⟨g,cap,cur,hv,hg,r⟩=>Or.inr ⟨g,cap,cur,hv,Nat.le_trans hb hg,r⟩)⟩
theorem ownsRow_lt {w:World}{base:Nat}{e:TypeId}{size:Nat}{v:Value}{n:Nat}{xs:List Value}(h:w.ownsRow base e size v n xs):∀ k,v.ownBlock=some k→base≤k∧k<w.heap.size:=by
 intro k hk
 rcases h.2 with ⟨rfl,_⟩|⟨g,cap,cur,rfl,hb,hg,_⟩
 · simp [Value.ownBlock] at hk
 · simp [Value.ownBlock] at hk
   subst hk
   refine ⟨hb,?_⟩
   rcases Nat.lt_or_ge g w.heap.size with h'|h'
   · exact h'
   · rw [Array.getElem?_eq_none h'] at hg;cases hg
theorem ownsRow_form {w:World}{base:Nat}{e:TypeId}{size:Nat}{v:Value}{n:Nat}{xs:List Value}(h:w.ownsRow base e size v n xs):∃ a c,v=.slice a n c:=by
 rcases h.2 with ⟨rfl,h0⟩|⟨g,cap,_,rfl,_⟩
 · rw [h0]
   exact ⟨_,_,rfl⟩
 · exact ⟨_,_,rfl⟩
theorem blk_cell {w:World}{g:Nat}{cs:Array Value}{t:TypeId}(h:w.heap[g]?=some (.cells cs t (0,0)))(i:Nat):w.cell? ⟨g,i,none⟩=cs[i]?:=cell_of_row w g i cs t (0,0) h
theorem blk_frozen {w:World}{g:Nat}{cs:Array Value}{t:TypeId}(h:w.heap[g]?=some (.cells cs t (0,0)))(i:Nat):w.frozen? ⟨g,i,none⟩=false:=by
 simp [World.frozen?,show w.heap[g]?=_ from h]
theorem blk_lt {w:World}{g:Nat}{o:Obj}(h:w.heap[g]?=some o):g<w.heap.size:=by
 rcases Nat.lt_or_ge g w.heap.size with h'|h'
 · exact h'
 · rw [Array.getElem?_eq_none h'] at h;cases h
theorem blk_set {w:World}{g:Nat}{cs:Array Value}{t:TypeId}(h:w.heap[g]?=some (.cells cs t (0,0)))(i:Nat)(u:Value):(w.setCell ⟨g,i,none⟩ u).heap[g]?=some (.cells (cs.setIfInBounds i u) t (0,0)):=by
 simp [World.setCell,Array.getElem?_modify,h]
theorem blk_set_ne {w:World}{g:Nat}{o:Obj}(h:w.heap[g]?=some o){p:Addr}(hp:p.block≠g)(u:Value):(w.setCell p u).heap[g]?=some o:=
 (Below.heap_setCell w p u g (fun e=>hp e.symm)).trans h
theorem blk_alloc {w:World}{g:Nat}{o:Obj}(h:w.heap[g]?=some o)(o':Obj):(w.alloc o').heap[g]?=some o:=
 (Below.heap_alloc w o' g (blk_lt h)).trans h
theorem blk2 {w:World}{g:Nat}{x y:Value}{t:TypeId}(h:w.heap[g]?=some (.cells #[x,y] t (0,0))) :
  g<w.heap.size∧w.cell? ⟨g,0,none⟩=some x∧w.cell? ⟨g,1,none⟩=some y∧w.frozen? ⟨g,0,none⟩=false∧w.frozen? ⟨g,1,none⟩=false:=
 ⟨blk_lt h,(blk_cell h 0).trans rfl,(blk_cell h 1).trans rfl,blk_frozen h 0,blk_frozen h 1⟩
theorem blk3 {w:World}{g:Nat}{x y z:Value}{t:TypeId}(h:w.heap[g]?=some (.cells #[x,y,z] t (0,0))) :
  g<w.heap.size∧w.cell? ⟨g,0,none⟩=some x∧w.cell? ⟨g,1,none⟩=some y∧w.cell? ⟨g,2,none⟩=some z∧w.frozen? ⟨g,0,none⟩=false∧w.frozen? ⟨g,1,none⟩=false∧w.frozen? ⟨g,2,none⟩=false:=
 ⟨blk_lt h,(blk_cell h 0).trans rfl,(blk_cell h 1).trans rfl,(blk_cell h 2).trans rfl,blk_frozen h 0,blk_frozen h 1,blk_frozen h 2⟩
theorem blk_below {w W:World}{B g:Nat}{o:Obj}(h:w.heap[g]?=some o)(hb:Below B w W)(hg:g<B):W.heap[g]?=some o:=(hb.block g hg).trans h
theorem blk_exc {w W:World}{R B g:Nat}{o:Obj}(h:w.heap[g]?=some o)(hb:Exc R B w W)(hg:g<B)(hne:g≠R):W.heap[g]?=some o:=(hb.block g hg hne).trans h
theorem post_gen {P:Program}{f:Func}{Q:Ending→World→Prop}{ex:Exit}{a:Act}{W:World}(p:World→Prop)(hp:p W)(k:∀ Wf,p Wf→bodyPost P f Q ex a Wf):bodyPost P f Q ex a W:=k W hp
theorem blk_set3 {w:World}{g:Nat}{x y z:Value}{t:TypeId}(h:w.heap[g]?=some (.cells #[x,y,z] t (0,0)))(x' y' z':Value) :
  (((w.setCell ⟨g,0,none⟩ x').setCell ⟨g,1,none⟩ y').setCell ⟨g,2,none⟩ z').heap[g]?=some (.cells #[x',y',z'] t (0,0)):=
 (blk_set (blk_set (blk_set h 0 x') 1 y') 2 z').trans rfl
theorem exc_set (w:World)(g i:Nat)(x:Value):Exc g w.heap.size w (w.setCell ⟨g,i,none⟩ x):=(Exc.refl g _ w).setCell (p:=⟨g,i,none⟩) (.inl rfl) x
end Go.Proofs.YtpbaaedijfofnaaDoor
namespace Go.Proofs.YtpbaaedijfofnaaDoor
open Go.ChangeShapes Go.WideShapes Go.ChangeAt Go.RowKit Go.Shelf
theorem row_at {w:World}{base:Nat}{e:TypeId}{size:Nat}{v:Value}{n:Nat}{xs:List Value}(h:w.ownsRow base e size v n xs)(hn:0<n) :
  ∃ g c,v=.slice (some ⟨g,0,none⟩) n c∧n≤c∧base≤g∧g<w.heap.size∧∀ k,k<n * size→w.cell? ⟨g,k,none⟩=xs[k]?:=by
 rcases h.2 with ⟨_,h0⟩|⟨g,cap,cur,rfl,hb,hg,hnc,hm,hs,ht⟩
 · omega
 · refine ⟨g,cap,rfl,hnc,hb,blk_lt hg,fun k hk=>?_⟩
   rw [cell_of_row w g k cur _ (0,0) hg,←ht,List.getElem?_take,if_pos hk,Array.getElem?_toList]
theorem flat_at {α:Type}(f:α→List Value)(m:Nat)(hm:∀ a,(f a).length=m):∀ (l:List α) (k:Nat) (hk:k<l.length) (j:Nat),j<m→(l.flatMap f)[k * m+j]?=(f l[k])[j]?
 | [],k,hk,_,_=>absurd hk (Nat.not_lt_zero k)
 | a::r,0,_,j,hj=>by
  rw [List.flatMap_cons,Nat.zero_mul,Nat.zero_add,List.getElem?_append_left (by rw [hm];exact hj)]
  rfl
 | a::r,k+1,hk,j,hj=>by
  have e:(k+1) * m+j=m+(k * m+j):=by rw [Nat.succ_mul];omega
  rw [List.flatMap_cons,List.getElem?_append_right (by rw [hm,e];omega),hm,show (k+1) * m+j-m=k * m+j by omega]
  exact flat_at f m hm r k (Nat.lt_of_succ_lt_succ hk) j hj
theorem row_el {α:Type}(f:α→List Value)(m:Nat)(hm:∀ a,(f a).length=m){w:World}{base:Nat}{e:TypeId}{v:Value}{l:List α}(h:w.ownsRow base e m v l.length (l.flatMap f))(k:Nat)(hk:k<l.length) :
  ∃ g c,v=.slice (some ⟨g,0,none⟩) l.length c∧l.length≤c∧g<w.heap.size∧∀ j,j<m→w.cell? ⟨g,k * m+j,none⟩=(f l[k])[j]?:=by
 obtain ⟨g,c,hv,hc,_,hg,hcell⟩:=row_at h (by omega)
 refine ⟨g,c,hv,hc,hg,fun j hj=>?_⟩
 have hlt:k * m+j<l.length * m:=by
  have h1:(k+1) * m≤l.length * m:=Nat.mul_le_mul_right m hk
  rw [Nat.succ_mul] at h1
  omega
 rw [hcell _ hlt,flat_at f m hm l k hk j hj]
theorem row_few {w:World}{base:Nat}{e:TypeId}{size:Nat}{v:Value}{n:Nat}{xs:List Value}(h:w.ownsRow base e size v n xs):n≤9223372036854775807:=by
 rcases h.2 with ⟨_,h0⟩|⟨g,cap,cur,rfl,hb,hg,hnc,hm,_⟩
 · omega
 · unfold maxLen at hm
   omega
theorem slice_inj {a b:Option Addr}{n c n' c':Nat}(h:Value.slice a n c=.slice b n' c'):a=b∧c=c':=by
 injection h with h1 _ h3
 exact ⟨h1,h3⟩
theorem row_keep {w w':World}(h:Below w.heap.size w w'){base:Nat}{e:TypeId}{size:Nat}{v:Value}{n:Nat}{xs:List Value}(ho:w.ownsRow base e size v n xs):w'.ownsRow base e size v n xs:=by
 obtain ⟨hl,h'⟩:=ho
 refine ⟨hl,?_⟩
 rcases h' with h1|⟨g',cap',cur,hv,h1,hg',h2⟩
 · exact .inl h1
 · exact .inr ⟨g',cap',cur,hv,h1,(h.block g' (blk_lt hg')).trans hg',h2⟩
end Go.Proofs.YtpbaaedijfofnaaDoor
namespace Go.Proofs.YtpbaaedijfofnaaDoor
open Go.ChangeShapes Go.WideShapes Go.ChangeAt Go.RowKit
theorem one_str (W:World)(z:Int):(convert 22 9 (.slice (some ⟨W.heap.size,0,none⟩) 1 1)).run Tryd.prog (W.alloc (.cells #[.int .u8 z] 5))=.ok (.string (strOfNums [z])) (W.alloc (.cells #[.int .u8 z] 5)):=by
 refine run_convert_bytes_arg (P:=Tryd.prog) _ 22 5 Tryd.underlying22 Tryd.underlying5 W.heap.size 0 1 1 [z] rfl (fun k hk=>?_) 9 Tryd.underlying9
 obtain rfl:k=0:=by omega
 rw [cell_of_row _ _ _ _ _ (0,0) (heap_alloc_new W _)]
 rfl
end Go.Proofs.YtpbaaedijfofnaaDoor
namespace Go.Proofs.YtpbaaedijfofnaaDoor
open Go.ChangeShapes Go.WideShapes Go.ChangeAt Go.RowKit
def Bytes (w:World)(p:Option Addr)(zs:List Int):Prop:=
 (∀ i,0≤zs.getD i 0∧zs.getD i 0≤255)∧(zs≠[]→∃ b off,p=some ⟨b,off,none⟩∧b<w.heap.size∧∀ i,i<zs.length→w.cell? ⟨b,off+i,none⟩=some (.int .u8 (zs.getD i 0)))
theorem Bytes.below {w w':World}{p:Option Addr}{zs:List Int}{B:Nat}(h:Bytes w p zs)(hB:w.heap.size≤B)(hb:Below B w w'):Bytes w' p zs:=by
 refine ⟨h.1,fun hne=>?_⟩
 obtain ⟨b,off,rfl,hlt,hc⟩:=h.2 hne
 exact ⟨b,off,rfl,Nat.lt_of_lt_of_le hlt hb.size,fun i hi=>(hb.cell (p:=⟨b,off+i,none⟩) (Nat.lt_of_lt_of_le hlt hB)).trans (hc i hi)⟩
end Go.Proofs.YtpbaaedijfofnaaDoor
namespace Go.Proofs.YtpbaaedijfofnaaDoor
open Go.ChangeShapes Go.WideShapes Go.ChangeAt Go.RowKit
def IsMeter (w:World)(b:Nat)(left:Int)(out:Bool):Prop:=
 w.cell? ⟨b,0,none⟩=some (.int .i64 left)∧w.cell? ⟨b,1,none⟩=some (.bool out)∧w.frozen? ⟨b,0,none⟩=false∧w.frozen? ⟨b,1,none⟩=false
def atLeast0 (n:Int):Int:=if 0≤n then n else 0
theorem new_any (n:Int)(w:World) :
  Calls Tryd.prog 19 #[.int .i64 n] w fun e w'=>e=.returned (.pointer (some ⟨w.heap.size,0,none⟩))∧w'=w.alloc (.cells #[.int .i64 (atLeast0 n),.bool false] 114):=by
 by_cases h:0≤n
 · rw [show atLeast0 n=n from if_pos h]
   go_enter Tryd.func19,Tryd.ntmps19
   go_wp2
   go_ret
   first|exact ⟨rfl,rfl⟩|(rw [show max n 0=n by omega];exact ⟨rfl,rfl⟩)|(rw [show max n 0=0 by omega];exact ⟨rfl,rfl⟩)
 · rw [show atLeast0 n=0 from if_neg h]
   go_enter Tryd.func19,Tryd.ntmps19
   go_wp2
   go_ret
   first|exact ⟨rfl,rfl⟩|(rw [show max n 0=n by omega];exact ⟨rfl,rfl⟩)|(rw [show max n 0=0 by omega];exact ⟨rfl,rfl⟩)
theorem take_yes (b:Nat)(left n:Int)(w:World)(hm:IsMeter w b left false)(h0:0≤n)(h1:n≤left)(h2:left≤9223372036854775807) :
  Calls Tryd.prog 136 #[.pointer (some ⟨b,0,none⟩),.int .i64 n] w fun e w'=>e=.returned (.bool true)∧w'=w.setCell ⟨b,0,none⟩ (.int .i64 (left-n)):=by
 obtain ⟨c0,c1,f0,f1⟩:=hm
 go_enter Tryd.func136,Tryd.ntmps136
 go_wp2
 go_ret
 exact ⟨rfl,rfl⟩
theorem take_over (b:Nat)(left n:Int)(w:World)(hm:IsMeter w b left false)(h0:0≤n)(h1:left<n) :
  Calls Tryd.prog 136 #[.pointer (some ⟨b,0,none⟩),.int .i64 n] w fun e w'=>e=.returned (.bool false)∧w'=(w.setCell ⟨b,0,none⟩ (.int .i64 0)).setCell ⟨b,1,none⟩ (.bool true):=by
 obtain ⟨c0,c1,f0,f1⟩:=hm
 go_enter Tryd.func136,Tryd.ntmps136
 go_wp2
 go_ret
 exact ⟨rfl,rfl⟩
theorem take_nil (n:Int)(w:World) :
  Calls Tryd.prog 136 #[.pointer none,.int .i64 n] w fun e w'=>e=.returned (.bool false)∧w=w':=by
 go_enter Tryd.func136,Tryd.ntmps136
 go_wp2
 go_ret
 exact ⟨rfl,rfl⟩
end Go.Proofs.YtpbaaedijfofnaaDoor
namespace Go.Proofs.YtpbaaedijfofnaaDoor
open Go.ChangeShapes Go.WideShapes Go.ChangeAt Go.RowKit
section
variable {P:Program} (w:World)
theorem step_append_run {ops:Array Oper}{o:Oper}{a:Act}{K:Act→World→Prop}{Q:Exit→Act→World→Prop}{E:Prop}(hgd:o.guard=none)(s x:Operand)(t u:TypeId)
  (ho:o.op=.call { callee:=.builtin .append,args:=#[s,x],argTypes:=#[t,u] }) (v y v':Value) (w':World) (hs:a.eval s=v) (hx:a.eval x=y) (hr:(Builtin.append_ #[t,u] o.type #[v,y]).run P w=.ok v' w') (h:K (a.put o.dst v') w') :
  if Region.wanted o (yielded ops a.tmps)=true then Oper.wp P o a w K Q else E:=by
 have hw:Region.wanted o (yielded ops a.tmps)=true:=by simp [Region.wanted,hgd]
 rw [if_pos hw]
 unfold Oper.wp execOp
 simp only [ho,resolve,invoke,builtin,Sem.run_bind,Sem.run_pure,Result.andThen_ok,List.map_toArray,List.map_cons,List.map_nil,hs,hx,hr]
 exact h
end
end Go.Proofs.YtpbaaedijfofnaaDoor
