/-
  What Sign of the package wire hands back, each by a walk of its text. Conditions: those that each theorem names.
-/
import Derived.Test.YtpbaaiilfkacnaaDoorPkQ1
import Derived.Deep.Cut
import Derived.RegionTactic
import Derived.BigRegion
namespace Go.Proofs.YtpbaaiilfkacnaaDoor
open Go.ChangeShapes Go.WideShapes Go.ChangeAt Go.RowKit
set_option maxRecDepth 100000
set_option maxHeartbeats 16000000
section
open Go.Shelf
structure PF where
 kind:Nat
 lists:Nat
 ref:Nat
 name:Nat
 dflt:Nat
structure dM where
 enums:List Nat
 structs:List (List PF)
 root:Nat
 tree:Bool
structure SFld where
 name:ByteArray
 kind:Nat
 ref:Nat
 lists:Nat
 dflt:Nat
structure bK where
 name:ByteArray
 fields:List SFld
structure aX where
 name:ByteArray
 names:List ByteArray
structure Sch where
 structs:List bK
 enums:List aX
 root:Nat
def mD (i:Nat):ByteArray:=⟨#[69]⟩++strOfNums [97+(i:Int)]
def mS (k:Nat):ByteArray:=⟨#[118]⟩++strOfNums [97+(k:Int) % 26,97+(k:Int) / 26]
def jX (i:Nat):ByteArray:=⟨#[83]⟩++strOfNums [97+(i:Int)]
def labelHeads:List ByteArray:=[⟨#[97]⟩,⟨#[120,95]⟩,⟨#[90,101,100]⟩,⟨#[195,169]⟩,⟨#[239,172,128]⟩,⟨#[240,159,152,128]⟩,⟨#[108,105,115,116]⟩,⟨#[98,32,99]⟩,⟨#[115,116,114,117,99,116]⟩,⟨#[47]⟩]
def oR (m:Nat):ByteArray:=labelHeads.getD m ⟨#[]⟩
def nZ (n i:Nat):ByteArray:=oR (n % 10)++strOfNums [97+(i:Int) % 26]
def jN (p:dM)(e:Nat):Nat:=p.enums.getD e 0 % 32+1
def gM (cnt kind n:Nat):Nat:=
 if kind=1 then n % 2 else if kind=10 then n % cnt else
  let m:Nat:=if aP kind<8 then n % 2 ^ (8 * (aP kind).toNat) else n
  if eT kind=true then (cG m (aP kind)).toNat else m
def dE (kind lists:Nat):Bool:=decide (lists=0)&&decide (0<aP kind)
def oO (p:dM)(f:PF):Nat:=if f.kind % 13+1=10∧p.enums.length=0 then 7 else f.kind % 13+1
def aGz (p:dM)(f:PF):Nat:=if oO p f=10 then f.ref % p.enums.length else 0
def dK (p:dM)(i:Nat)(f:PF):Nat:=if oO p f=13∧p.tree=true∧i+1=p.structs.length then 11 else oO p f
def gC (p:dM)(i:Nat)(f:PF):Nat:=
 if dK p i f=13 then (if p.tree=true then i+1+f.ref % (p.structs.length-i-1) else f.ref % p.structs.length) else aGz p f
def uK (p:dM)(i k:Nat)(f:PF):SFld:=
 ⟨nZ f.name k,dK p i f,gC p i f,f.lists % 4,if dE (dK p i f) (f.lists % 4)=true then gM (jN p (gC p i f)) (dK p i f) f.dflt else 0⟩
def nA:PF:=⟨0,0,0,0,0⟩
def lR (p:dM)(i:Nat)(l:List PF)(n:Nat):List SFld:=(List.range n).map fun k=>uK p i k (l.getD k nA)
def aE1 (p:dM)(i:Nat):bK:=⟨jX i,lR p i (p.structs.getD i []) (p.structs.getD i []).length⟩
def xK (p:dM)(i:Nat):aX:=⟨mD i,(List.range (jN p i)).map mS⟩
def jM (p:dM)(n:Nat):List bK:=(List.range n).map (aE1 p)
def iP (p:dM)(n:Nat):List aX:=(List.range n).map (xK p)
def kN (p:dM):Prop:=1≤p.structs.length∧p.structs.length≤16∧p.enums.length≤8∧∀ l ∈ p.structs,1≤l.length∧l.length≤16
theorem aBp (p:dM)(i:Nat)(l:List PF)(n:Nat):lR p i l (n+1)=lR p i l n++[uK p i n (l.getD n nA)]:=by simp [lR,List.range_succ]
theorem aA8 (p:dM)(n:Nat):jM p (n+1)=jM p n++[aE1 p n]:=by simp [jM,List.range_succ]
theorem aAz (p:dM)(n:Nat):iP p (n+1)=iP p n++[xK p n]:=by simp [iP,List.range_succ]
theorem mX (p:dM)(i:Nat)(l:List PF)(n:Nat):(lR p i l n).length=n:=by simp [lR]
theorem mT (p:dM)(n:Nat):(jM p n).length=n:=by simp [jM]
theorem iH (p:dM)(n:Nat):(iP p n).length=n:=by simp [iP]
/-! ### in memory -/
def eV (f:SFld):List Value:=[.string f.name,.int .u8 f.kind,.int .i64 f.ref,.int .i64 f.lists,.int .u64 f.dflt]
def eH (l:List SFld):List Value:=l.flatMap eV
def strCells (s:ByteArray):List Value:=[.string s]
def eY (l:List ByteArray):List Value:=l.flatMap strCells
def hZ (q:bK × Value):List Value:=[.string q.1.name,q.2]
def kD (q:aX × Value):List Value:=[.string q.1.name,q.2]
def gD (l:List (bK × Value)):List Value:=l.flatMap hZ
def gY (l:List (aX × Value)):List Value:=l.flatMap kD
theorem rY (l:List SFld)(f:SFld):eH (l++[f])=eH l++eV f:=by simp [eH]
theorem uE (l:List ByteArray)(s:ByteArray):eY (l++[s])=eY l++strCells s:=by simp [eY]
theorem rW (l:List (bK × Value))(q:bK × Value):gD (l++[q])=gD l++hZ q:=by simp [gD]
theorem rZ (l:List (aX × Value))(q:aX × Value):gY (l++[q])=gY l++kD q:=by simp [gY]
theorem aB6:(Tryd.prog.info? 77).map (fun i=>(i.zero,i.size,i.bytes))=some (some (.agg #[.string ⟨#[]⟩,.int .u8 0,.int .i64 0,.int .i64 0,.int .u64 0]),5,48):=by kernel_rfl
theorem aDg:(Tryd.prog.info? 9).map (fun i=>(i.zero,i.size,i.bytes))=some (some (.string ⟨#[]⟩),1,16):=by kernel_rfl
theorem aCL:(Tryd.prog.info? 60).map (fun i=>(i.zero,i.size,i.bytes))=some (some (.agg #[.string ⟨#[]⟩,.slice none 0 0]),2,40):=by kernel_rfl
theorem aBT:(Tryd.prog.info? 86).map (fun i=>(i.zero,i.size,i.bytes))=some (some (.agg #[.string ⟨#[]⟩,.slice none 0 0]),2,40):=by kernel_rfl
structure SchRows (base:Nat)(W:World)(ss:List (bK × Value))(es:List (aX × Value))(sv ev:Value):Prop where
 structs:W.ownsRow base 60 2 sv ss.length (gD ss)
 enums:W.ownsRow base 86 2 ev es.length (gY es)
 fields:∀ q ∈ ss,W.ownsRow base 77 5 q.2 q.1.fields.length (eH q.1.fields)
 names:∀ q ∈ es,W.ownsRow base 9 1 q.2 q.1.names.length (eY q.1.names)
theorem SchRows.below {base:Nat}{W W':World}{ss:List (bK × Value)}{es:List (aX × Value)}{sv ev:Value}(h:SchRows base W ss es sv ev)(hb:Below W.heap.size W W'):SchRows base W' ss es sv ev:=
 ⟨bE hb h.structs,bE hb h.enums,fun q hq=>bE hb (h.fields q hq),fun q hq=>bE hb (h.names q hq)⟩
theorem SchRows.base {base base':Nat}{W:World}{ss:List (bK × Value)}{es:List (aX × Value)}{sv ev:Value}(h:SchRows base W ss es sv ev)(hb:base'≤base):SchRows base' W ss es sv ev:=
 ⟨eE h.structs hb,eE h.enums hb,fun q hq=>eE (h.fields q hq) hb,fun q hq=>eE (h.names q hq) hb⟩
theorem SchRows.forms {base:Nat}{W:World}{ss:List (bK × Value)}{es:List (aX × Value)}{sv ev:Value}(h:SchRows base W ss es sv ev):∃ sa sc ea ec,sv=.slice sa ss.length sc∧ev=.slice ea es.length ec:=by obtain ⟨sa,sc,h1⟩:=aJ h.structs;obtain ⟨ea,ec,h2⟩:=aJ h.enums;exact ⟨sa,sc,ea,ec,h1,h2⟩
theorem SchRows.strct {base:Nat}{W:World}{ss:List (bK × Value)}{es:List (aX × Value)}{sv ev:Value}(h:SchRows base W ss es sv ev)(k:Nat)(hk:k<ss.length) :
  ∃ g c a n,sv=.slice (some ⟨g,0,none⟩) ss.length c∧ss.length≤c∧g<W.heap.size∧W.cell? ⟨g,k * 2,none⟩=some (.string ss[k].1.name)∧W.cell? ⟨g,k * 2+1,none⟩=some (.slice a ss[k].1.fields.length n)∧ss[k].2=.slice a ss[k].1.fields.length n:=by
 obtain ⟨g,c,hv,hc,hg,hcell⟩:=eP hZ 2 (fun _=>rfl) h.structs k hk;obtain ⟨a,n,hf⟩:=aJ (h.fields _ (jK hk));exact ⟨g,c,a,n,hv,hc,hg,hcell 0 (by omega),by rw [hcell 1 (by omega),←hf];rfl,hf⟩
theorem SchRows.enum {base:Nat}{W:World}{ss:List (bK × Value)}{es:List (aX × Value)}{sv ev:Value}(h:SchRows base W ss es sv ev)(k:Nat)(hk:k<es.length) :
  ∃ g c a n,ev=.slice (some ⟨g,0,none⟩) es.length c∧es.length≤c∧g<W.heap.size∧W.cell? ⟨g,k * 2,none⟩=some (.string es[k].1.name)∧W.cell? ⟨g,k * 2+1,none⟩=some (.slice a es[k].1.names.length n)∧es[k].2=.slice a es[k].1.names.length n:=by
 obtain ⟨g,c,hv,hc,hg,hcell⟩:=eP kD 2 (fun _=>rfl) h.enums k hk;obtain ⟨a,n,hf⟩:=aJ (h.names _ (jK hk));exact ⟨g,c,a,n,hv,hc,hg,hcell 0 (by omega),by rw [hcell 1 (by omega),←hf];rfl,hf⟩
theorem SchRows.field {base:Nat}{W:World}{ss:List (bK × Value)}{es:List (aX × Value)}{sv ev:Value}(h:SchRows base W ss es sv ev)(k:Nat)(hk:k<ss.length)(j:Nat)(hj:j<ss[k].1.fields.length) :
  ∃ g c,ss[k].2=.slice (some ⟨g,0,none⟩) ss[k].1.fields.length c∧ss[k].1.fields.length≤c∧g<W.heap.size∧W.cell? ⟨g,j * 5,none⟩=some (.string ss[k].1.fields[j].name)∧W.cell? ⟨g,j * 5+1,none⟩=some (.int .u8 (ss[k].1.fields[j].kind:Nat))∧W.cell? ⟨g,j * 5+2,none⟩=some (.int .i64 (ss[k].1.fields[j].ref:Nat))∧W.cell? ⟨g,j * 5+3,none⟩=some (.int .i64 (ss[k].1.fields[j].lists:Nat))∧W.cell? ⟨g,j * 5+4,none⟩=some (.int .u64 (ss[k].1.fields[j].dflt:Nat)):=by
 obtain ⟨g,c,hv,hc,hg,hcell⟩:=eP eV 5 (fun _=>rfl) (h.fields _ (jK hk)) j hj;exact ⟨g,c,hv,hc,hg,hcell 0 (by omega),hcell 1 (by omega),hcell 2 (by omega),hcell 3 (by omega),hcell 4 (by omega)⟩
theorem SchRows.name {base:Nat}{W:World}{ss:List (bK × Value)}{es:List (aX × Value)}{sv ev:Value}(h:SchRows base W ss es sv ev)(k:Nat)(hk:k<es.length)(j:Nat)(hj:j<es[k].1.names.length) :
  ∃ g c,es[k].2=.slice (some ⟨g,0,none⟩) es[k].1.names.length c∧es[k].1.names.length≤c∧g<W.heap.size∧W.cell? ⟨g,j,none⟩=some (.string es[k].1.names[j]):=by
 obtain ⟨g,c,hv,hc,hg,hcell⟩:=eP strCells 1 (fun _=>rfl) (h.names _ (jK hk)) j hj;have h0:=hcell 0 (by omega);rw [Nat.mul_one,Nat.add_zero] at h0;exact ⟨g,c,hv,hc,hg,h0⟩
structure IsPlan (w:World)(p:dM)(a0:Option Addr)(n0 c0:Nat)(a1:Option Addr)(n1 c1:Nat):Prop where
 e_len:p.enums.length=n0
 s_len:p.structs.length=n1
 e_cap:n0≤c0∧c0≤maxLen
 s_cap:n1≤c1∧c1≤maxLen
 rt:p.root≤255
 e_at:∀ j,j<n0→p.enums.getD j 0≤255∧∃ b off,a0=some ⟨b,off,none⟩∧b<w.heap.size∧w.cell? ⟨b,off+j,none⟩=some (.int .u8 (p.enums.getD j 0:Nat))
 s_at:∀ r,r<n1→∃ b off a n c,a1=some ⟨b,off,none⟩∧b<w.heap.size∧w.cell? ⟨b,off+r,none⟩=some (.slice a n c)∧(p.structs.getD r []).length=n∧n≤c∧c≤maxLen ∧
  ∀ k,k<n→∃ b' off' f,(p.structs.getD r []).getD k nA=f∧a=some ⟨b',off',none⟩∧b'<w.heap.size∧w.cell? ⟨b',off'+k * 5,none⟩=some (.int .u8 (f.kind:Nat))∧w.cell? ⟨b',off'+k * 5+1,none⟩=some (.int .u8 (f.lists:Nat))∧w.cell? ⟨b',off'+k * 5+2,none⟩=some (.int .u8 (f.ref:Nat))∧w.cell? ⟨b',off'+k * 5+3,none⟩=some (.int .u8 (f.name:Nat))∧w.cell? ⟨b',off'+k * 5+4,none⟩=some (.int .u64 (f.dflt:Nat)) ∧
   f.kind≤255∧f.lists≤255∧f.ref≤255∧f.name≤255∧(f.dflt:Int)≤18446744073709551615
end
theorem iA (n s:Int)(w:World)(h0:0≤n)(h1:n≤18446744073709551615) :
  Calls Tryd.prog 61 #[.int .u64 n,.int .i64 s] w fun e w'=>e=.returned (.int .u64 (cG n s))∧w=w':=by
 by_cases e1:s=1
 · subst e1;have ha:=aGj n h0 h1;by_cases hlt:n % 256<128
   · have E:n % 256=cG n 1:=by rw [xC,bG hlt]
     have H:=aA E;have ht:(n % 256 / 128==1)=false:=by simp;omega
     clear E hlt;go_enter Tryd.func61,Tryd.ntmps61;go_wp2;go_ret;exact ⟨cH H.out,rfl⟩
   · have E:bits BinOp.or .u64 (n % 256) (IntKind.u64.wrap 4722366482869645213440)=cG n 1:=by rw [xC,if_neg hlt,show IntKind.u64.wrap 4722366482869645213440=18446744073709551360 from by decide,aGI _ (by omega) (by omega)]
     have H:=aA E;have ht:(n % 256 / 128==1)=true:=by simp;omega
     clear E hlt;go_enter Tryd.func61,Tryd.ntmps61;go_wp2;go_ret;exact ⟨cH H.out,rfl⟩
 by_cases e2:s=2
 · subst e2;have ha:=aFK n h0 h1;by_cases hlt:n % 65536<32768
   · have E:n % 65536=cG n 2:=by rw [wB,bG hlt]
     have H:=aA E;have ht:(n % 65536 / 32768==1)=false:=by simp;omega
     clear E hlt;go_enter Tryd.func61,Tryd.ntmps61;go_wp2;go_ret;exact ⟨cH H.out,rfl⟩
   · have E:bits BinOp.or .u64 (n % 65536) (IntKind.u64.wrap 1208925819614629174640640)=cG n 2:=by rw [wB,if_neg hlt,show IntKind.u64.wrap 1208925819614629174640640=18446744073709486080 from by decide,aGo _ (by omega) (by omega)]
     have H:=aA E;have ht:(n % 65536 / 32768==1)=true:=by simp;omega
     clear E hlt;go_enter Tryd.func61,Tryd.ntmps61;go_wp2;go_ret;exact ⟨cH H.out,rfl⟩
 by_cases e4:s=4
 · subst e4;have ha:=aFN n h0 h1;by_cases hlt:n % 4294967296<2147483648
   · have E:n % 4294967296=cG n 4:=by rw [wN,bG hlt]
     have H:=aA E;have ht:(n % 4294967296 / 2147483648==1)=false:=by simp;omega
     clear E hlt;go_enter Tryd.func61,Tryd.ntmps61;go_wp2;go_ret;exact ⟨cH H.out,rfl⟩
   · have E:bits BinOp.or .u64 (n % 4294967296) (IntKind.u64.wrap 79228162514264337589248983040)=cG n 4:=by rw [wN,if_neg hlt,show IntKind.u64.wrap 79228162514264337589248983040=18446744069414584320 from by decide,aGn _ (by omega) (by omega)]
     have H:=aA E;have ht:(n % 4294967296 / 2147483648==1)=true:=by simp;omega
     clear E hlt;go_enter Tryd.func61,Tryd.ntmps61;go_wp2;go_ret;exact ⟨cH H.out,rfl⟩
 have H:=aA (oS n s e1 e2 e4);have hs1:(s != 1)=true:=by simp;omega
 have hs2:(s != 2)=true:=by simp;omega
 have hs4:(s != 4)=true:=by simp;omega
 clear e1 e2 e4;rw [H.out];go_enter Tryd.func61,Tryd.ntmps61;go_wp2;go_ret;exact ⟨rfl,rfl⟩
theorem bY (n:Int)(w:World) :
  Calls Tryd.prog 50 #[.int .i64 n] w fun e w'=>e=.returned (.int .i64 (aP n))∧w=w':=by
 by_cases h:n<1∨10<n
 · have H:=aA (jB n h);have b1:(n==1)=false:=by simp;omega
   have b2:(n==2)=false:=by simp;omega
   have b3:(n==3)=false:=by simp;omega
   have b4:(n==4)=false:=by simp;omega
   have b5:(n==5)=false:=by simp;omega
   have b6:(n==6)=false:=by simp;omega
   have b7:(n==7)=false:=by simp;omega
   have b8:(n==8)=false:=by simp;omega
   have b9:(n==9)=false:=by simp;omega
   have b10:(n==10)=false:=by simp;omega
   clear h;rw [H.out];go_enter Tryd.func50,Tryd.ntmps50;go_wp2;go_ret;exact ⟨rfl,rfl⟩
 · have h':n=1∨n=2∨n=3∨n=4∨n=5∨n=6∨n=7∨n=8∨n=9∨n=10:=by omega
   clear h;rcases h' with rfl|rfl|rfl|rfl|rfl|rfl|rfl|rfl|rfl|rfl
   all_goals
    go_enter Tryd.func50,Tryd.ntmps50;go_wp2;go_ret;exact ⟨cH (by decide),rfl⟩
theorem fX (n:Int)(w:World) :
  Calls Tryd.prog 60 #[.int .i64 n] w fun e w'=>e=.returned (.bool (eT n))∧w=w':=by
 by_cases h1:2≤n
 · by_cases h2:n≤5
   · rw [show eT n=true from fO ⟨h1,h2⟩];go_enter Tryd.func60,Tryd.ntmps60;go_wp2;go_ret;exact ⟨rfl,rfl⟩
   · rw [show eT n=false from iB (fun h=>h2 h.2)];go_enter Tryd.func60,Tryd.ntmps60;go_wp2;go_ret;exact ⟨rfl,rfl⟩
 · rw [show eT n=false from iB (fun h=>h1 h.1)];go_enter Tryd.func60,Tryd.ntmps60;go_wp2;go_ret;exact ⟨rfl,rfl⟩
section
open Go.Shelf
theorem aAY {W:World}{g m:Nat}(hm:m<10)(h:W.heap[g]?=some (.cells #[.string ⟨#[97]⟩,.string ⟨#[120,95]⟩,.string ⟨#[90,101,100]⟩,.string ⟨#[195,169]⟩,.string ⟨#[239,172,128]⟩,.string ⟨#[240,159,152,128]⟩,.string ⟨#[108,105,115,116]⟩,.string ⟨#[98,32,99]⟩,.string ⟨#[115,116,114,117,99,116]⟩,.string ⟨#[47]⟩] 9 (0,0))) :
  W.cell? ⟨g,m,none⟩=some (.string (oR m)):=by
 rw [aU h];have:m=0∨m=1∨m=2∨m=3∨m=4∨m=5∨m=6∨m=7∨m=8∨m=9:=by omega
 rcases this with rfl|rfl|rfl|rfl|rfl|rfl|rfl|rfl|rfl|rfl<;>rfl
theorem aBa {m:Nat}(hm:m<10):(oR m).size≤6:=by
 have:m=0∨m=1∨m=2∨m=3∨m=4∨m=5∨m=6∨m=7∨m=8∨m=9:=by omega
 rcases this with rfl|rfl|rfl|rfl|rfl|rfl|rfl|rfl|rfl|rfl<;>decide
theorem wP (W:World)(z:Int):(convert 22 9 (.slice (some ⟨W.heap.size,0,none⟩) 1 1)).run Tryd.prog (W.alloc (.cells #[.int .u8 z] 5)).drew=.ok (.string (strOfNums [z])) (W.alloc (.cells #[.int .u8 z] 5)).drew:=by
 refine run_convert_bytes_arg (P:=Tryd.prog) _ 22 5 Tryd.underlying22 Tryd.underlying5 W.heap.size 0 1 1 [z] rfl (fun k hk=>?_) 9 Tryd.underlying9;obtain rfl:k=0:=by omega
 show (W.alloc (.cells #[.int .u8 z] 5)).cell? _=_;rw [cell_of_row _ _ _ _ _ (0,0) (cN W _)];rfl
theorem aAD (n i:Nat)(w:World)(hn:n≤255)(hi:i<16) :
  Calls Tryd.prog 37 #[.int .u8 n,.int .i64 i] w fun e w'=>e=.returned (.string (nZ n i))∧Below w.heap.size w w':=by
 have kc:=wP;have hmod:(n:Int) % 10=((n % 10:Nat):Int):=by omega
 have hmod2:(i:Int) % 26=((i % 26:Nat):Int):=by omega
 have htm:(n:Int).tmod 10=((n % 10:Nat):Int):=by rw [Int.tmod_eq_emod_of_nonneg (by omega)];omega
 have htm2:(i:Int).tmod 26=((i % 26:Nat):Int):=by rw [Int.tmod_eq_emod_of_nonneg (by omega)];omega
 have hL:nZ n i=oR (n % 10)++strOfNums [97+((i % 26:Nat):Int)]:=by unfold nZ;rw [hmod2]
 have HL:=aA hL;clear hL;have hm:n % 10<10:=by omega
 have hj:i % 26<26:=by omega
 generalize n % 10=m at *;generalize i % 26=j at *;have HC:=aA (fun (W:World) (g:Nat) (h:W.heap[g]?=_)=>aAY (W:=W) (g:=g) hm h);have hsz:(oR m).size≤6:=aBa hm;have hsz2:¬9223372036854775807<(oR m).size+(strOfNums [97+(j:Int)]).size:=by rw [strOfNums_size,List.length_singleton];omega
 have hb1:(0:Int)≤(m:Int):=by omega
 have hb2:(m:Int)<10:=by omega
 have hw0:=cU (n:Int);have hw1:=cU (m:Int);have hw2:=cU (j:Int);have hw3:=cU (97+(j:Int));have hw4:IntKind.u8.wrap (97+(j:Int))=97+(j:Int):=by simp only [IntKind.wrap,IntKind.bits,IntKind.signed];simp;omega
 go_enter Tryd.func37,Tryd.ntmps37;go_upto_region 2 with (fail);have h0:=cN w (.cells #[.string ⟨#[97]⟩,.string ⟨#[120,95]⟩,.string ⟨#[90,101,100]⟩,.string ⟨#[195,169]⟩,.string ⟨#[239,172,128]⟩,.string ⟨#[240,159,152,128]⟩,.string ⟨#[108,105,115,116]⟩,.string ⟨#[98,32,99]⟩,.string ⟨#[115,116,114,117,99,116]⟩,.string ⟨#[47]⟩] 9);have HB:=aA ((bH w.heap.size w).alloc bD (.cells #[.string ⟨#[97]⟩,.string ⟨#[120,95]⟩,.string ⟨#[90,101,100]⟩,.string ⟨#[195,169]⟩,.string ⟨#[239,172,128]⟩,.string ⟨#[240,159,152,128]⟩,.string ⟨#[108,105,115,116]⟩,.string ⟨#[98,32,99]⟩,.string ⟨#[115,116,114,117,99,116]⟩,.string ⟨#[47]⟩] 9))
 generalize w.alloc (.cells #[.string ⟨#[97]⟩,.string ⟨#[120,95]⟩,.string ⟨#[90,101,100]⟩,.string ⟨#[195,169]⟩,.string ⟨#[239,172,128]⟩,.string ⟨#[240,159,152,128]⟩,.string ⟨#[108,105,115,116]⟩,.string ⟨#[98,32,99]⟩,.string ⟨#[115,116,114,117,99,116]⟩,.string ⟨#[47]⟩] 9)=W0 at *;have x0:=HC.out W0 _ h0;have hlt:w.heap.size<W0.heap.size:=aD h0;clear h0;generalize oR m=S at *;go_region
 all_goals
  go_wp2;go_ret;refine ⟨(by rw [HL.out]:Ending.returned (.string (S++strOfNums [97+(j:Int)]))=_),?_⟩;exact (by first|exact (HB.out.alloc HB.out.size _).drew|exact HB.out.drew.alloc HB.out.size _|exact HB.out.alloc HB.out.size _)
theorem mG (kind ref lists:Nat)(w:World)(hk:kind≤255) :
  Calls Tryd.prog 38 #[.agg #[.int .u8 kind,.int .i64 ref,.int .i64 lists]] w fun e w'=>e=.returned (.bool (dE kind lists))∧Below w.heap.size w w':=by
 have h0:=cN w (.cells #[.int .u8 kind,.int .i64 ref,.int .i64 lists] 75);have HB:=aA ((bH w.heap.size w).alloc bD (.cells #[.int .u8 kind,.int .i64 ref,.int .i64 lists] 75));obtain ⟨_,x0,x1,x2,_⟩:=aS h0;clear h0;have hb1:(kind:Int)≤255:=by omega
 by_cases hl:lists=0
 · have HS:Hid (dE kind lists=decide (0<aP kind)):=aA (by unfold dE;rw [fO hl,Bool.true_and]);subst hl;go_enter Tryd.func38,Tryd.ntmps38;go_wp2_with fail;refine (bY _ _).mono ?_;rintro e W1 ⟨rfl,rfl⟩;generalize aP (kind:Int)=z at *;by_cases hs:0<z
   · go_wp2;go_ret;exact ⟨bZ (HS.out.trans (fO hs)).symm,HB.out⟩
   · go_wp2;go_ret;exact ⟨bZ HS.out.symm,HB.out⟩
 · have HS:Hid (dE kind lists=false):=aA (by unfold dE;rw [iB hl,Bool.false_and]);have hl1:((lists:Int)==0)=false:=by simp;omega
   clear hl;go_enter Tryd.func38,Tryd.ntmps38;go_wp2;go_ret;exact ⟨bZ HS.out.symm,HB.out⟩
theorem uG:aP 1=1∧aP 2=1∧aP 3=2∧aP 4=4∧aP 5=8∧aP 6=1∧aP 7=2∧aP 8=4∧aP 9=8∧aP 10=1:=by decide
theorem mB (cnt kind n s:Nat)(h1:kind≠1)(h10:kind≠10)(hs:aP kind=s)(h8:(s:Int)<8):gM cnt kind n=if eT kind=true then (cG ((n % 2 ^ (8 * s):Nat):Int) s).toNat else n % 2 ^ (8 * s):=by unfold gM;rw [if_neg h1,if_neg h10];simp only [hs];rw [bG h8,lN]
theorem uT (cnt kind n:Nat)(h1:kind≠1)(h10:kind≠10)(hs:aP kind=8):gM cnt kind n=if eT kind=true then (cG (n:Int) 8).toNat else n:=by unfold gM;rw [if_neg h1,if_neg h10];simp only [hs,Int.lt_irrefl,if_false]
theorem pR (cnt n:Nat):gM cnt 2 n=(cG ((n % 256:Nat):Int) 1).toNat∧gM cnt 3 n=(cG ((n % 65536:Nat):Int) 2).toNat∧gM cnt 4 n=(cG ((n % 4294967296:Nat):Int) 4).toNat∧gM cnt 5 n=(cG (n:Int) 8).toNat ∧
  gM cnt 6 n=n % 256∧gM cnt 7 n=n % 65536∧gM cnt 8 n=n % 4294967296∧gM cnt 9 n=n:=by
 have e1:(2:Nat) ^ (8 * 1)=256:=by decide
 have e2:(2:Nat) ^ (8 * 2)=65536:=by decide
 have e4:(2:Nat) ^ (8 * 4)=4294967296:=by decide
 have a2:=mB cnt 2 n 1 (by decide) (by decide) rfl (by decide);have a3:=mB cnt 3 n 2 (by decide) (by decide) rfl (by decide);have a4:=mB cnt 4 n 4 (by decide) (by decide) rfl (by decide);have a6:=mB cnt 6 n 1 (by decide) (by decide) rfl (by decide);have a7:=mB cnt 7 n 2 (by decide) (by decide) rfl (by decide);have a8:=mB cnt 8 n 4 (by decide) (by decide) rfl (by decide);have a5:=uT cnt 5 n (by decide) (by decide) rfl;have a9:=uT cnt 9 n (by decide) (by decide) rfl;rw [e1] at a2 a6;rw [e2] at a3 a7;rw [e4] at a4 a8;refine ⟨a2.trans (bG rfl),a3.trans (bG rfl),a4.trans (bG rfl),a5.trans (bG rfl),a6.trans (if_neg (by decide)),a7.trans (if_neg (by decide)),a8.trans (if_neg (by decide)),a9.trans (if_neg (by decide))⟩
theorem xH (m n:Int)(h1:0<m)(h2:m≤2147483648):0≤oU m n:=by unfold oU;have:=Int.emod_nonneg n (show (2 * m)≠0 by omega);split<;>omega
theorem nX (n s:Int)(h:0≤n):0≤cG n s:=by
 unfold cG;split
 · exact xH _ _ (by decide) (by decide)
 · split
   · exact xH _ _ (by decide) (by decide)
   · split
     · exact xH _ _ (by decide) (by decide)
     · exact h
theorem bF (w:World)(a b:Array Value)(s t:TypeId):Below w.heap.size w ((w.alloc (.cells a s)).alloc (.cells b t))∧((w.alloc (.cells a s)).alloc (.cells b t)).heap[w.heap.size]?=some (.cells a s (0,0))∧((w.alloc (.cells a s)).alloc (.cells b t)).heap[w.heap.size+1]?=some (.cells b t (0,0)):=by
 refine ⟨((bH _ _).alloc bD _).alloc (by simp) _,cL (cN w _) _,?_⟩;have:=cN (w.alloc (.cells a s)) (.cells b t)
 rwa [World.size_alloc] at this
theorem rE (kind ref lists n cnt:Nat)(sv ev:Value)(root:Int)(w:World)(hn:(n:Int)≤18446744073709551615)(hk1:1≤kind)(hk2:kind≤9) :
  Calls Tryd.prog 39 #[.agg #[sv,ev,.int .i64 root],.agg #[.int .u8 kind,.int .i64 ref,.int .i64 lists],.int .u64 n] w fun e w'=>e=.returned (.int .u64 (gM cnt kind n:Nat))∧Below w.heap.size w w':=by
 obtain ⟨hb,hz1,hz2⟩:=bF w #[sv,ev,.int .i64 root] #[.int .u8 kind,.int .i64 ref,.int .i64 lists] 31 75;obtain ⟨_,y0,y1,y2,_⟩:=aS hz2;have HB:=aA hb;have HN:=aA hn;obtain ⟨p2,p3,p4,p5,p6,p7,p8,p9⟩:=pR cnt n;have P2:=aA p2;have P3:=aA p3;have P4:=aA p4;have P5:=aA p5;have P6:=aA p6;have P7:=aA p7;have P8:=aA p8;have P9:=aA p9;have KS:=aA uG;clear hb hz1 hz2 p2 p3 p4 p5 p6 p7 p8 p9;have h':kind=1∨kind=2∨kind=3∨kind=4∨kind=5∨kind=6∨kind=7∨kind=8∨kind=9:=by omega
 clear hk1 hk2;rcases h' with rfl|rfl|rfl|rfl|rfl|rfl|rfl|rfl|rfl
 · go_enter Tryd.func39,Tryd.ntmps39;go_wp2_with fail;refine (bY _ _).mono ?_;rintro e W1 ⟨rfl,rfl⟩;rw [show aP 1=1 from rfl];go_wp2;go_ret;exact ⟨cH (show (n:Int) % 2=((n % 2:Nat):Int) by omega),HB.out⟩
 · go_enter Tryd.func39,Tryd.ntmps39;go_wp2_with fail;refine (bY _ _).mono ?_;rintro e W1 ⟨rfl,rfl⟩;rw [show aP 2=1 from rfl];go_wp2_with fail;refine (fX _ _).mono ?_;rintro e W1 ⟨rfl,rfl⟩;rw [show eT 2=true from rfl];have hv0:0≤(n:Int) % 256:=by omega
   have hv1:(n:Int) % 256≤18446744073709551615:=by have:=HN.out;omega
   go_wp2_with fail;refine (iA ((n:Int) % 256) 1 _ hv0 hv1).mono ?_;rintro e W1 ⟨rfl,rfl⟩;go_wp2;go_ret;exact ⟨cH (by rw [P2.out,Int.toNat_of_nonneg (nX _ _ (by omega))];congr 1),HB.out⟩
 · go_enter Tryd.func39,Tryd.ntmps39;go_wp2_with fail;refine (bY _ _).mono ?_;rintro e W1 ⟨rfl,rfl⟩;rw [show aP 3=2 from rfl];go_wp2_with fail;refine (fX _ _).mono ?_;rintro e W1 ⟨rfl,rfl⟩;rw [show eT 3=true from rfl];have hv0:0≤(n:Int) % 65536:=by omega
   have hv1:(n:Int) % 65536≤18446744073709551615:=by have:=HN.out;omega
   go_wp2_with fail;refine (iA ((n:Int) % 65536) 2 _ hv0 hv1).mono ?_;rintro e W1 ⟨rfl,rfl⟩;go_wp2;go_ret;exact ⟨cH (by rw [P3.out,Int.toNat_of_nonneg (nX _ _ (by omega))];congr 1),HB.out⟩
 · go_enter Tryd.func39,Tryd.ntmps39;go_wp2_with fail;refine (bY _ _).mono ?_;rintro e W1 ⟨rfl,rfl⟩;rw [show aP 4=4 from rfl];go_wp2_with fail;refine (fX _ _).mono ?_;rintro e W1 ⟨rfl,rfl⟩;rw [show eT 4=true from rfl];have hv0:0≤(n:Int) % 4294967296:=by omega
   have hv1:(n:Int) % 4294967296≤18446744073709551615:=by have:=HN.out;omega
   go_wp2_with fail;refine (iA ((n:Int) % 4294967296) 4 _ hv0 hv1).mono ?_;rintro e W1 ⟨rfl,rfl⟩;go_wp2;go_ret;exact ⟨cH (by rw [P4.out,Int.toNat_of_nonneg (nX _ _ (by omega))];congr 1),HB.out⟩
 · go_enter Tryd.func39,Tryd.ntmps39;go_wp2_with fail;refine (bY _ _).mono ?_;rintro e W1 ⟨rfl,rfl⟩;rw [show aP 5=8 from rfl];go_wp2_with fail;refine (fX _ _).mono ?_;rintro e W1 ⟨rfl,rfl⟩;rw [show eT 5=true from rfl];have hv0:0≤(n:Int):=by omega
   have hv1:(n:Int)≤18446744073709551615:=by have:=HN.out;omega
   go_wp2_with fail;refine (iA ((n:Int)) 8 _ hv0 hv1).mono ?_;rintro e W1 ⟨rfl,rfl⟩;go_wp2;go_ret;exact ⟨cH (by rw [P5.out,Int.toNat_of_nonneg (nX _ _ (by omega))]),HB.out⟩
 · go_enter Tryd.func39,Tryd.ntmps39;go_wp2_with fail;refine (bY _ _).mono ?_;rintro e W1 ⟨rfl,rfl⟩;rw [show aP 6=1 from rfl];go_wp2_with fail;refine (fX _ _).mono ?_;rintro e W1 ⟨rfl,rfl⟩;rw [show eT 6=false from rfl];go_wp2;go_ret;exact ⟨cH (by rw [P6.out];omega),HB.out⟩
 · go_enter Tryd.func39,Tryd.ntmps39;go_wp2_with fail;refine (bY _ _).mono ?_;rintro e W1 ⟨rfl,rfl⟩;rw [show aP 7=2 from rfl];go_wp2_with fail;refine (fX _ _).mono ?_;rintro e W1 ⟨rfl,rfl⟩;rw [show eT 7=false from rfl];go_wp2;go_ret;exact ⟨cH (by rw [P7.out];omega),HB.out⟩
 · go_enter Tryd.func39,Tryd.ntmps39;go_wp2_with fail;refine (bY _ _).mono ?_;rintro e W1 ⟨rfl,rfl⟩;rw [show aP 8=4 from rfl];go_wp2_with fail;refine (fX _ _).mono ?_;rintro e W1 ⟨rfl,rfl⟩;rw [show eT 8=false from rfl];go_wp2;go_ret;exact ⟨cH (by rw [P8.out];omega),HB.out⟩
 · go_enter Tryd.func39,Tryd.ntmps39;go_wp2_with fail;refine (bY _ _).mono ?_;rintro e W1 ⟨rfl,rfl⟩;rw [show aP 9=8 from rfl];go_wp2_with fail;refine (fX _ _).mono ?_;rintro e W1 ⟨rfl,rfl⟩;rw [show eT 9=false from rfl];go_wp2;go_ret;exact ⟨cH (by rw [P9.out]),HB.out⟩
theorem rP (ref lists n:Nat){b:Nat}{ss:List (bK × Value)}{es:List (aX × Value)}{sv ev:Value}(root:Int)(w:World)(h:SchRows b w ss es sv ev)(hr:ref<es.length)(hc:1≤es[ref].1.names.length)(hn:(n:Int)≤18446744073709551615) :
  Calls Tryd.prog 39 #[.agg #[sv,ev,.int .i64 root],.agg #[.int .u8 10,.int .i64 ref,.int .i64 lists],.int .u64 n] w fun e w'=>e=.returned (.int .u64 (gM es[ref].1.names.length 10 n:Nat))∧Below w.heap.size w w':=by
 obtain ⟨hb,hz1,hz2⟩:=bF w #[sv,ev,.int .i64 root] #[.int .u8 10,.int .i64 ref,.int .i64 lists] 31 75;obtain ⟨_,y0,y1,y2,_⟩:=aS hz2;obtain ⟨_,z0,z1,z2,_⟩:=aS hz1;have hf1:=iG h.enums;have hf2:=iG (h.names _ (jK hr));obtain ⟨g,c,a,m,rfl,hc1,hg,x0,x1,_⟩:=(h.below hb).enum ref hr;have HB:=aA hb;have HN:=aA hn;have HP:Hid (gM es[ref].1.names.length 10 n=n % es[ref].1.names.length):=aA rfl;clear hb hz1 hz2 h y2 z0 z2 x0;generalize es[ref].1.names.length=cnt at *;have hw:IntKind.u64.wrap (cnt:Int)=cnt:=IntWalk.u64_in _ (by omega);have hq:(cnt:Int)≠0:=by omega
 have hq2:(0:Int)<cnt:=by omega
 go_enter Tryd.func39,Tryd.ntmps39;go_wp2_with fail;refine (bY _ _).mono ?_;rintro e W1 ⟨rfl,rfl⟩;rw [show aP 10=1 from rfl];go_wp2;go_ret;exact ⟨cH (by rw [HP.out];omega),HB.out⟩
theorem IsPlan.below {w W:World}{p:dM}{a0 a1:Option Addr}{n0 e0 n1 c1:Nat}(h:IsPlan w p a0 n0 e0 a1 n1 c1)(hb:Below w.heap.size w W):IsPlan W p a0 n0 e0 a1 n1 c1:=by
 refine ⟨h.e_len,h.s_len,h.e_cap,h.s_cap,h.rt,fun j hj=>?_,fun r hr=>?_⟩
 · obtain ⟨h1,b,off,h2,h3,h4⟩:=h.e_at j hj;exact ⟨h1,b,off,h2,Nat.lt_of_lt_of_le h3 hb.size,(hb.cell (p:=⟨b,off+j,none⟩) h3).trans h4⟩
 · obtain ⟨b,off,a,n,c,h2,h3,h4,h5,h6,h7,h8⟩:=h.s_at r hr;refine ⟨b,off,a,n,c,h2,Nat.lt_of_lt_of_le h3 hb.size,(hb.cell (p:=⟨b,off+r,none⟩) h3).trans h4,h5,h6,h7,fun k hk=>?_⟩;obtain ⟨b',off',f,g1,g2,g3,x0,x1,x2,x3,x4,q⟩:=h8 k hk;exact ⟨b',off',f,g1,g2,Nat.lt_of_lt_of_le g3 hb.size,(hb.cell (p:=⟨b',off'+k * 5,none⟩) g3).trans x0,(hb.cell (p:=⟨b',off'+k * 5+1,none⟩) g3).trans x1,(hb.cell (p:=⟨b',off'+k * 5+2,none⟩) g3).trans x2,(hb.cell (p:=⟨b',off'+k * 5+3,none⟩) g3).trans x3,(hb.cell (p:=⟨b',off'+k * 5+4,none⟩) g3).trans x4,q⟩
theorem aF {w:World}{g:Nat}{x y z u:Value}{t:TypeId}(h:w.heap[g]?=some (.cells #[x,y,z,u] t (0,0))) :
  g<w.heap.size∧w.cell? ⟨g,0,none⟩=some x∧w.cell? ⟨g,1,none⟩=some y∧w.cell? ⟨g,2,none⟩=some z∧w.cell? ⟨g,3,none⟩=some u:=
 ⟨aD h,(aU h 0).trans rfl,(aU h 1).trans rfl,(aU h 2).trans rfl,(aU h 3).trans rfl⟩
end
theorem lO (n:Int)(w:World) :
  Calls Tryd.prog 49 #[.int .u8 n] w fun e w'=>e=.returned (.int .i64 (aP n))∧w=w':=by
 by_cases h:n<1∨10<n
 · have H:=aA (jB n h);have b1:(n==1)=false:=by simp;omega
   have b2:(n==2)=false:=by simp;omega
   have b3:(n==3)=false:=by simp;omega
   have b4:(n==4)=false:=by simp;omega
   have b5:(n==5)=false:=by simp;omega
   have b6:(n==6)=false:=by simp;omega
   have b7:(n==7)=false:=by simp;omega
   have b8:(n==8)=false:=by simp;omega
   have b9:(n==9)=false:=by simp;omega
   have b10:(n==10)=false:=by simp;omega
   clear h;rw [H.out];go_enter Tryd.func49,Tryd.ntmps49;go_wp2;go_ret;exact ⟨rfl,rfl⟩
 · have h':n=1∨n=2∨n=3∨n=4∨n=5∨n=6∨n=7∨n=8∨n=9∨n=10:=by omega
   clear h;rcases h' with rfl|rfl|rfl|rfl|rfl|rfl|rfl|rfl|rfl|rfl
   all_goals
    go_enter Tryd.func49,Tryd.ntmps49;go_wp2;go_ret;exact ⟨cH (by decide),rfl⟩
theorem aB5 (n:Int)(w:World) :
  Calls Tryd.prog 104 #[.int .u8 n] w fun e w'=>e=.returned (.bool (eT n))∧w=w':=by
 by_cases h1:2≤n
 · by_cases h2:n≤5
   · rw [show eT n=true from fO ⟨h1,h2⟩];go_enter Tryd.func104,Tryd.ntmps104;go_wp2;go_ret;exact ⟨rfl,rfl⟩
   · rw [show eT n=false from iB (fun h=>h2 h.2)];go_enter Tryd.func104,Tryd.ntmps104;go_wp2;go_ret;exact ⟨rfl,rfl⟩
 · rw [show eT n=false from iB (fun h=>h1 h.1)];go_enter Tryd.func104,Tryd.ntmps104;go_wp2;go_ret;exact ⟨rfl,rfl⟩
end Go.Proofs.YtpbaaiilfkacnaaDoor
