/-
  A plan that came in lies in every later world. Conditions: those that each theorem names.
-/
import Derived.Test.YtpbaaedijfofnaaDoorPkV1
import Derived.Deep.RegionHeld3
import Derived.Deep.Cut
import Derived.IntWalk
import Derived.RegionTactic
import Derived.BigRegion
namespace Go.Proofs.YtpbaaedijfofnaaDoor
open Go.ChangeShapes Go.WideShapes Go.ChangeAt Go.RowKit Go.Shelf
structure PF where
 kind:Nat
 lists:Nat
 ref:Nat
 name:Nat
 dflt:Nat
structure Plan where
 enums:List Nat
 structs:List (List PF)
 root:Nat
 tree:Bool
structure SFld where
 name:ByteArray
 kind:Nat
 ref:Nat
 lists:Nat
 dflt:Nat
structure SRec where
 name:ByteArray
 fields:List SFld
structure SCho where
 name:ByteArray
 names:List ByteArray
structure Sch where
 structs:List SRec
 enums:List SCho
 root:Nat
def enumName (i:Nat):ByteArray:=⟨#[69]⟩++strOfNums [97+(i:Int)]
def valName (k:Nat):ByteArray:=⟨#[118]⟩++strOfNums [97+(k:Int) % 26,97+(k:Int) / 26]
def recName (i:Nat):ByteArray:=⟨#[83]⟩++strOfNums [97+(i:Int)]
def labelHeads:List ByteArray:=[⟨#[97]⟩,⟨#[120,95]⟩,⟨#[90,101,100]⟩,⟨#[195,169]⟩,⟨#[239,172,128]⟩,⟨#[240,159,152,128]⟩,⟨#[108,105,115,116]⟩,⟨#[98,32,99]⟩,⟨#[115,116,114,117,99,116]⟩,⟨#[47]⟩]
def headOf (m:Nat):ByteArray:=labelHeads.getD m ⟨#[]⟩
def labelOf (n i:Nat):ByteArray:=headOf (n % 10)++strOfNums [97+(i:Int) % 26]
def cntOf (p:Plan)(e:Nat):Nat:=p.enums.getD e 0 % 32+1
def numP (cnt kind n:Nat):Nat:=
 if kind=1 then n % 2 else if kind=10 then n % cnt else
  let m:Nat:=if kSize kind<8 then n % 2 ^ (8 * (kSize kind).toNat) else n
  if kSign kind=true then (sgnOf m (kSize kind)).toNat else m
def isNumP (kind lists:Nat):Bool:=decide (lists=0)&&decide (0<kSize kind)
def kind0 (p:Plan)(f:PF):Nat:=if f.kind % 13+1=10∧p.enums.length=0 then 7 else f.kind % 13+1
def ref0 (p:Plan)(f:PF):Nat:=if kind0 p f=10 then f.ref % p.enums.length else 0
def kindP (p:Plan)(i:Nat)(f:PF):Nat:=if kind0 p f=13∧p.tree=true∧i+1=p.structs.length then 11 else kind0 p f
def refP (p:Plan)(i:Nat)(f:PF):Nat:=
 if kindP p i f=13 then (if p.tree=true then i+1+f.ref % (p.structs.length-i-1) else f.ref % p.structs.length) else ref0 p f
def fldP (p:Plan)(i k:Nat)(f:PF):SFld:=
 ⟨labelOf f.name k,kindP p i f,refP p i f,f.lists % 4,if isNumP (kindP p i f) (f.lists % 4)=true then numP (cntOf p (refP p i f)) (kindP p i f) f.dflt else 0⟩
def noPF:PF:=⟨0,0,0,0,0⟩
def fldsP (p:Plan)(i:Nat)(l:List PF)(n:Nat):List SFld:=(List.range n).map fun k=>fldP p i k (l.getD k noPF)
def recP (p:Plan)(i:Nat):SRec:=⟨recName i,fldsP p i (p.structs.getD i []) (p.structs.getD i []).length⟩
def choP (p:Plan)(i:Nat):SCho:=⟨enumName i,(List.range (cntOf p i)).map valName⟩
def recsP (p:Plan)(n:Nat):List SRec:=(List.range n).map (recP p)
def chosP (p:Plan)(n:Nat):List SCho:=(List.range n).map (choP p)
def planOk (p:Plan):Prop:=1≤p.structs.length∧p.structs.length≤16∧p.enums.length≤8∧∀ l ∈ p.structs,1≤l.length∧l.length≤16
theorem fldsP_succ (p:Plan)(i:Nat)(l:List PF)(n:Nat):fldsP p i l (n+1)=fldsP p i l n++[fldP p i n (l.getD n noPF)]:=by simp [fldsP,List.range_succ]
theorem recsP_succ (p:Plan)(n:Nat):recsP p (n+1)=recsP p n++[recP p n]:=by simp [recsP,List.range_succ]
theorem chosP_succ (p:Plan)(n:Nat):chosP p (n+1)=chosP p n++[choP p n]:=by simp [chosP,List.range_succ]
theorem fldsP_length (p:Plan)(i:Nat)(l:List PF)(n:Nat):(fldsP p i l n).length=n:=by simp [fldsP]
theorem recsP_length (p:Plan)(n:Nat):(recsP p n).length=n:=by simp [recsP]
theorem chosP_length (p:Plan)(n:Nat):(chosP p n).length=n:=by simp [chosP]
/-! ### in memory -/
def sfldCells (f:SFld):List Value:=[.string f.name,.int .u8 f.kind,.int .i64 f.ref,.int .i64 f.lists,.int .u64 f.dflt]
def sfldsCells (l:List SFld):List Value:=l.flatMap sfldCells
def strCells (s:ByteArray):List Value:=[.string s]
def strsCells (l:List ByteArray):List Value:=l.flatMap strCells
def srecCells (q:SRec × Value):List Value:=[.string q.1.name,q.2]
def schoCells (q:SCho × Value):List Value:=[.string q.1.name,q.2]
def srecsCells (l:List (SRec × Value)):List Value:=l.flatMap srecCells
def schosCells (l:List (SCho × Value)):List Value:=l.flatMap schoCells
theorem sfldsCells_snoc (l:List SFld)(f:SFld):sfldsCells (l++[f])=sfldsCells l++sfldCells f:=by simp [sfldsCells]
theorem strsCells_snoc (l:List ByteArray)(s:ByteArray):strsCells (l++[s])=strsCells l++strCells s:=by simp [strsCells]
theorem srecsCells_snoc (l:List (SRec × Value))(q:SRec × Value):srecsCells (l++[q])=srecsCells l++srecCells q:=by simp [srecsCells]
theorem schosCells_snoc (l:List (SCho × Value))(q:SCho × Value):schosCells (l++[q])=schosCells l++schoCells q:=by simp [schosCells]
theorem sfld_info:(Tryd.prog.info? 64).map (fun i=>(i.zero,i.size,i.bytes))=some (some (.agg #[.string ⟨#[]⟩,.int .u8 0,.int .i64 0,.int .i64 0,.int .u64 0]),5,48):=by kernel_rfl
theorem str_info:(Tryd.prog.info? 9).map (fun i=>(i.zero,i.size,i.bytes))=some (some (.string ⟨#[]⟩),1,16):=by kernel_rfl
theorem srec_info:(Tryd.prog.info? 67).map (fun i=>(i.zero,i.size,i.bytes))=some (some (.agg #[.string ⟨#[]⟩,.slice none 0 0]),2,40):=by kernel_rfl
theorem scho_info:(Tryd.prog.info? 90).map (fun i=>(i.zero,i.size,i.bytes))=some (some (.agg #[.string ⟨#[]⟩,.slice none 0 0]),2,40):=by kernel_rfl
structure SchRows (base:Nat)(W:World)(ss:List (SRec × Value))(es:List (SCho × Value))(sv ev:Value):Prop where
 structs:W.ownsRow base 67 2 sv ss.length (srecsCells ss)
 enums:W.ownsRow base 90 2 ev es.length (schosCells es)
 fields:∀ q ∈ ss,W.ownsRow base 64 5 q.2 q.1.fields.length (sfldsCells q.1.fields)
 names:∀ q ∈ es,W.ownsRow base 9 1 q.2 q.1.names.length (strsCells q.1.names)
theorem SchRows.below {base:Nat}{W W':World}{ss:List (SRec × Value)}{es:List (SCho × Value)}{sv ev:Value}(h:SchRows base W ss es sv ev)(hb:Below W.heap.size W W'):SchRows base W' ss es sv ev:=
 ⟨row_keep hb h.structs,row_keep hb h.enums,fun q hq=>row_keep hb (h.fields q hq),fun q hq=>row_keep hb (h.names q hq)⟩
theorem SchRows.base {base base':Nat}{W:World}{ss:List (SRec × Value)}{es:List (SCho × Value)}{sv ev:Value}(h:SchRows base W ss es sv ev)(hb:base'≤base):SchRows base' W ss es sv ev:=
 ⟨ownsRow_base h.structs hb,ownsRow_base h.enums hb,fun q hq=>ownsRow_base (h.fields q hq) hb,fun q hq=>ownsRow_base (h.names q hq) hb⟩
theorem SchRows.forms {base:Nat}{W:World}{ss:List (SRec × Value)}{es:List (SCho × Value)}{sv ev:Value}(h:SchRows base W ss es sv ev):∃ sa sc ea ec,sv=.slice sa ss.length sc∧ev=.slice ea es.length ec:=by
 obtain ⟨sa,sc,h1⟩:=ownsRow_form h.structs
 obtain ⟨ea,ec,h2⟩:=ownsRow_form h.enums
 exact ⟨sa,sc,ea,ec,h1,h2⟩
theorem SchRows.strct {base:Nat}{W:World}{ss:List (SRec × Value)}{es:List (SCho × Value)}{sv ev:Value}(h:SchRows base W ss es sv ev)(k:Nat)(hk:k<ss.length) :
  ∃ g c a n,sv=.slice (some ⟨g,0,none⟩) ss.length c∧ss.length≤c∧g<W.heap.size∧W.cell? ⟨g,k * 2,none⟩=some (.string ss[k].1.name)∧W.cell? ⟨g,k * 2+1,none⟩=some (.slice a ss[k].1.fields.length n)∧ss[k].2=.slice a ss[k].1.fields.length n:=by
 obtain ⟨g,c,hv,hc,hg,hcell⟩:=row_el srecCells 2 (fun _=>rfl) h.structs k hk
 obtain ⟨a,n,hf⟩:=ownsRow_form (h.fields _ (List.getElem_mem hk))
 exact ⟨g,c,a,n,hv,hc,hg,hcell 0 (by omega),by rw [hcell 1 (by omega),←hf];rfl,hf⟩
theorem SchRows.enum {base:Nat}{W:World}{ss:List (SRec × Value)}{es:List (SCho × Value)}{sv ev:Value}(h:SchRows base W ss es sv ev)(k:Nat)(hk:k<es.length) :
  ∃ g c a n,ev=.slice (some ⟨g,0,none⟩) es.length c∧es.length≤c∧g<W.heap.size∧W.cell? ⟨g,k * 2,none⟩=some (.string es[k].1.name)∧W.cell? ⟨g,k * 2+1,none⟩=some (.slice a es[k].1.names.length n)∧es[k].2=.slice a es[k].1.names.length n:=by
 obtain ⟨g,c,hv,hc,hg,hcell⟩:=row_el schoCells 2 (fun _=>rfl) h.enums k hk
 obtain ⟨a,n,hf⟩:=ownsRow_form (h.names _ (List.getElem_mem hk))
 exact ⟨g,c,a,n,hv,hc,hg,hcell 0 (by omega),by rw [hcell 1 (by omega),←hf];rfl,hf⟩
theorem SchRows.field {base:Nat}{W:World}{ss:List (SRec × Value)}{es:List (SCho × Value)}{sv ev:Value}(h:SchRows base W ss es sv ev)(k:Nat)(hk:k<ss.length)(j:Nat)(hj:j<ss[k].1.fields.length) :
  ∃ g c,ss[k].2=.slice (some ⟨g,0,none⟩) ss[k].1.fields.length c∧ss[k].1.fields.length≤c∧g<W.heap.size∧W.cell? ⟨g,j * 5,none⟩=some (.string ss[k].1.fields[j].name)∧W.cell? ⟨g,j * 5+1,none⟩=some (.int .u8 (ss[k].1.fields[j].kind:Nat))∧W.cell? ⟨g,j * 5+2,none⟩=some (.int .i64 (ss[k].1.fields[j].ref:Nat))∧W.cell? ⟨g,j * 5+3,none⟩=some (.int .i64 (ss[k].1.fields[j].lists:Nat))∧W.cell? ⟨g,j * 5+4,none⟩=some (.int .u64 (ss[k].1.fields[j].dflt:Nat)):=by
 obtain ⟨g,c,hv,hc,hg,hcell⟩:=row_el sfldCells 5 (fun _=>rfl) (h.fields _ (List.getElem_mem hk)) j hj
 exact ⟨g,c,hv,hc,hg,hcell 0 (by omega),hcell 1 (by omega),hcell 2 (by omega),hcell 3 (by omega),hcell 4 (by omega)⟩
theorem SchRows.name {base:Nat}{W:World}{ss:List (SRec × Value)}{es:List (SCho × Value)}{sv ev:Value}(h:SchRows base W ss es sv ev)(k:Nat)(hk:k<es.length)(j:Nat)(hj:j<es[k].1.names.length) :
  ∃ g c,es[k].2=.slice (some ⟨g,0,none⟩) es[k].1.names.length c∧es[k].1.names.length≤c∧g<W.heap.size∧W.cell? ⟨g,j,none⟩=some (.string es[k].1.names[j]):=by
 obtain ⟨g,c,hv,hc,hg,hcell⟩:=row_el strCells 1 (fun _=>rfl) (h.names _ (List.getElem_mem hk)) j hj
 have h0:=hcell 0 (by omega)
 rw [Nat.mul_one,Nat.add_zero] at h0
 exact ⟨g,c,hv,hc,hg,h0⟩
structure IsPlan (w:World)(p:Plan)(a0:Option Addr)(n0 c0:Nat)(a1:Option Addr)(n1 c1:Nat):Prop where
 e_len:p.enums.length=n0
 s_len:p.structs.length=n1
 e_cap:n0≤c0∧c0≤maxLen
 s_cap:n1≤c1∧c1≤maxLen
 rt:p.root≤255
 e_at:∀ j,j<n0→p.enums.getD j 0≤255∧∃ b off,a0=some ⟨b,off,none⟩∧b<w.heap.size∧w.cell? ⟨b,off+j,none⟩=some (.int .u8 (p.enums.getD j 0:Nat))
 s_at:∀ r,r<n1→∃ b off a n c,a1=some ⟨b,off,none⟩∧b<w.heap.size∧w.cell? ⟨b,off+r,none⟩=some (.slice a n c)∧(p.structs.getD r []).length=n∧n≤c∧c≤maxLen ∧
  ∀ k,k<n→∃ b' off' f,(p.structs.getD r []).getD k noPF=f∧a=some ⟨b',off',none⟩∧b'<w.heap.size∧w.cell? ⟨b',off'+k * 5,none⟩=some (.int .u8 (f.kind:Nat))∧w.cell? ⟨b',off'+k * 5+1,none⟩=some (.int .u8 (f.lists:Nat))∧w.cell? ⟨b',off'+k * 5+2,none⟩=some (.int .u8 (f.ref:Nat))∧w.cell? ⟨b',off'+k * 5+3,none⟩=some (.int .u8 (f.name:Nat))∧w.cell? ⟨b',off'+k * 5+4,none⟩=some (.int .u64 (f.dflt:Nat)) ∧
   f.kind≤255∧f.lists≤255∧f.ref≤255∧f.name≤255∧(f.dflt:Int)≤18446744073709551615
end Go.Proofs.YtpbaaedijfofnaaDoor
namespace Go.Proofs.YtpbaaedijfofnaaDoor
open Go.ChangeShapes Go.WideShapes Go.ChangeAt Go.RowKit
theorem rsigned_any (n s:Int)(w:World)(h0:0≤n)(h1:n≤18446744073709551615) :
  Calls Tryd.prog 67 #[.int .u64 n,.int .i64 s] w fun e w'=>e=.returned (.int .u64 (sgnOf n s))∧w=w':=by
 by_cases e1:s=1
 · subst e1
   have ha:=and_8 n h0 h1
   by_cases hlt:n % 256<128
   · have E:n % 256=sgnOf n 1:=by rw [sgnOf_1,if_pos hlt]
     have H:=Lib.hid E
     have ht:(n % 256 / 128==1)=false:=by simp;omega
     clear E hlt
     go_enter Tryd.func67,Tryd.ntmps67
     go_wp2
     go_ret
     exact ⟨ret_int H.out,rfl⟩
   · have E:bits BinOp.or .u64 (n % 256) (IntKind.u64.wrap 4722366482869645213440)=sgnOf n 1:=by rw [sgnOf_1,if_neg hlt,show IntKind.u64.wrap 4722366482869645213440=18446744073709551360 from by decide,or_8 _ (by omega) (by omega)]
     have H:=Lib.hid E
     have ht:(n % 256 / 128==1)=true:=by simp;omega
     clear E hlt
     go_enter Tryd.func67,Tryd.ntmps67
     go_wp2
     go_ret
     exact ⟨ret_int H.out,rfl⟩
 by_cases e2:s=2
 · subst e2
   have ha:=and_16 n h0 h1
   by_cases hlt:n % 65536<32768
   · have E:n % 65536=sgnOf n 2:=by rw [sgnOf_2,if_pos hlt]
     have H:=Lib.hid E
     have ht:(n % 65536 / 32768==1)=false:=by simp;omega
     clear E hlt
     go_enter Tryd.func67,Tryd.ntmps67
     go_wp2
     go_ret
     exact ⟨ret_int H.out,rfl⟩
   · have E:bits BinOp.or .u64 (n % 65536) (IntKind.u64.wrap 1208925819614629174640640)=sgnOf n 2:=by rw [sgnOf_2,if_neg hlt,show IntKind.u64.wrap 1208925819614629174640640=18446744073709486080 from by decide,or_16 _ (by omega) (by omega)]
     have H:=Lib.hid E
     have ht:(n % 65536 / 32768==1)=true:=by simp;omega
     clear E hlt
     go_enter Tryd.func67,Tryd.ntmps67
     go_wp2
     go_ret
     exact ⟨ret_int H.out,rfl⟩
 by_cases e4:s=4
 · subst e4
   have ha:=and_32 n h0 h1
   by_cases hlt:n % 4294967296<2147483648
   · have E:n % 4294967296=sgnOf n 4:=by rw [sgnOf_4,if_pos hlt]
     have H:=Lib.hid E
     have ht:(n % 4294967296 / 2147483648==1)=false:=by simp;omega
     clear E hlt
     go_enter Tryd.func67,Tryd.ntmps67
     go_wp2
     go_ret
     exact ⟨ret_int H.out,rfl⟩
   · have E:bits BinOp.or .u64 (n % 4294967296) (IntKind.u64.wrap 79228162514264337589248983040)=sgnOf n 4:=by rw [sgnOf_4,if_neg hlt,show IntKind.u64.wrap 79228162514264337589248983040=18446744069414584320 from by decide,or_32 _ (by omega) (by omega)]
     have H:=Lib.hid E
     have ht:(n % 4294967296 / 2147483648==1)=true:=by simp;omega
     clear E hlt
     go_enter Tryd.func67,Tryd.ntmps67
     go_wp2
     go_ret
     exact ⟨ret_int H.out,rfl⟩
 have H:=Lib.hid (sgnOf_else n s e1 e2 e4)
 have hs1:(s != 1)=true:=by simp;omega
 have hs2:(s != 2)=true:=by simp;omega
 have hs4:(s != 4)=true:=by simp;omega
 clear e1 e2 e4
 rw [H.out]
 go_enter Tryd.func67,Tryd.ntmps67
 go_wp2
 go_ret
 exact ⟨rfl,rfl⟩
theorem rsize_any (n:Int)(w:World) :
  Calls Tryd.prog 58 #[.int .i64 n] w fun e w'=>e=.returned (.int .i64 (kSize n))∧w=w':=by
 by_cases h:n<1∨10<n
 · have H:=Lib.hid (kSize_else n h)
   have b1:(n==1)=false:=by simp;omega
   have b2:(n==2)=false:=by simp;omega
   have b3:(n==3)=false:=by simp;omega
   have b4:(n==4)=false:=by simp;omega
   have b5:(n==5)=false:=by simp;omega
   have b6:(n==6)=false:=by simp;omega
   have b7:(n==7)=false:=by simp;omega
   have b8:(n==8)=false:=by simp;omega
   have b9:(n==9)=false:=by simp;omega
   have b10:(n==10)=false:=by simp;omega
   clear h
   rw [H.out]
   go_enter Tryd.func58,Tryd.ntmps58
   go_wp2
   go_ret
   exact ⟨rfl,rfl⟩
 · have h':n=1∨n=2∨n=3∨n=4∨n=5∨n=6∨n=7∨n=8∨n=9∨n=10:=by omega
   clear h
   rcases h' with rfl|rfl|rfl|rfl|rfl|rfl|rfl|rfl|rfl|rfl
   all_goals
    go_enter Tryd.func58,Tryd.ntmps58
    go_wp2
    go_ret
    exact ⟨ret_int (by decide),rfl⟩
theorem rsign_any (n:Int)(w:World) :
  Calls Tryd.prog 66 #[.int .i64 n] w fun e w'=>e=.returned (.bool (kSign n))∧w=w':=by
 by_cases h1:2≤n
 · by_cases h2:n≤5
   · rw [show kSign n=true from decide_eq_true ⟨h1,h2⟩]
     go_enter Tryd.func66,Tryd.ntmps66
     go_wp2
     go_ret
     exact ⟨rfl,rfl⟩
   · rw [show kSign n=false from decide_eq_false (fun h=>h2 h.2)]
     go_enter Tryd.func66,Tryd.ntmps66
     go_wp2
     go_ret
     exact ⟨rfl,rfl⟩
 · rw [show kSign n=false from decide_eq_false (fun h=>h1 h.1)]
   go_enter Tryd.func66,Tryd.ntmps66
   go_wp2
   go_ret
   exact ⟨rfl,rfl⟩
end Go.Proofs.YtpbaaedijfofnaaDoor
namespace Go.Proofs.YtpbaaedijfofnaaDoor
open Go.ChangeShapes Go.WideShapes Go.ChangeAt Go.RowKit Go.Shelf
theorem heads_cell {W:World}{g m:Nat}(hm:m<10)(h:W.heap[g]?=some (.cells #[.string ⟨#[97]⟩,.string ⟨#[120,95]⟩,.string ⟨#[90,101,100]⟩,.string ⟨#[195,169]⟩,.string ⟨#[239,172,128]⟩,.string ⟨#[240,159,152,128]⟩,.string ⟨#[108,105,115,116]⟩,.string ⟨#[98,32,99]⟩,.string ⟨#[115,116,114,117,99,116]⟩,.string ⟨#[47]⟩] 9 (0,0))) :
  W.cell? ⟨g,m,none⟩=some (.string (headOf m)):=by
 rw [blk_cell h]
 have:m=0∨m=1∨m=2∨m=3∨m=4∨m=5∨m=6∨m=7∨m=8∨m=9:=by omega
 rcases this with rfl|rfl|rfl|rfl|rfl|rfl|rfl|rfl|rfl|rfl<;>rfl
theorem heads_size {m:Nat}(hm:m<10):(headOf m).size≤6:=by
 have:m=0∨m=1∨m=2∨m=3∨m=4∨m=5∨m=6∨m=7∨m=8∨m=9:=by omega
 rcases this with rfl|rfl|rfl|rfl|rfl|rfl|rfl|rfl|rfl|rfl<;>decide
theorem one_str_drew (W:World)(z:Int):(convert 22 9 (.slice (some ⟨W.heap.size,0,none⟩) 1 1)).run Tryd.prog (W.alloc (.cells #[.int .u8 z] 5)).drew=.ok (.string (strOfNums [z])) (W.alloc (.cells #[.int .u8 z] 5)).drew:=by
 refine run_convert_bytes_arg (P:=Tryd.prog) _ 22 5 Tryd.underlying22 Tryd.underlying5 W.heap.size 0 1 1 [z] rfl (fun k hk=>?_) 9 Tryd.underlying9
 obtain rfl:k=0:=by omega
 show (W.alloc (.cells #[.int .u8 z] 5)).cell? _=_
 rw [cell_of_row _ _ _ _ _ (0,0) (heap_alloc_new W _)]
 rfl
set_option maxRecDepth 100000 in
theorem hlabel_any (n i:Nat)(w:World)(hn:n≤255)(hi:i<16) :
  Calls Tryd.prog 44 #[.int .u8 n,.int .i64 i] w fun e w'=>e=.returned (.string (labelOf n i))∧Below w.heap.size w w':=by
 have kc:=one_str_drew
 have hmod:(n:Int) % 10=((n % 10:Nat):Int):=by omega
 have hmod2:(i:Int) % 26=((i % 26:Nat):Int):=by omega
 have htm:(n:Int).tmod 10=((n % 10:Nat):Int):=by rw [Int.tmod_eq_emod_of_nonneg (by omega)];omega
 have htm2:(i:Int).tmod 26=((i % 26:Nat):Int):=by rw [Int.tmod_eq_emod_of_nonneg (by omega)];omega
 have hL:labelOf n i=headOf (n % 10)++strOfNums [97+((i % 26:Nat):Int)]:=by unfold labelOf;rw [hmod2]
 have HL:=Lib.hid hL
 clear hL
 have hm:n % 10<10:=by omega
 have hj:i % 26<26:=by omega
 generalize n % 10=m at *
 generalize i % 26=j at *
 have HC:=Lib.hid (fun (W:World) (g:Nat) (h:W.heap[g]?=_)=>heads_cell (W:=W) (g:=g) hm h)
 have hsz:(headOf m).size≤6:=heads_size hm
 have hsz2:¬9223372036854775807<(headOf m).size+(strOfNums [97+(j:Int)]).size:=by rw [strOfNums_size,List.length_singleton];omega
 have hb1:(0:Int)≤(m:Int):=by omega
 have hb2:(m:Int)<10:=by omega
 have hw0:=IntWalk.i64_in (n:Int) (by omega)
 have hw1:=IntWalk.i64_in (m:Int) (by omega)
 have hw2:=IntWalk.i64_in (j:Int) (by omega)
 have hw3:=IntWalk.i64_in (97+(j:Int)) (by omega)
 have hw4:IntKind.u8.wrap (97+(j:Int))=97+(j:Int):=by simp only [IntKind.wrap,IntKind.bits,IntKind.signed];simp;omega
 go_enter Tryd.func44,Tryd.ntmps44
 go_upto_region 2 with (fail)
 have h0:=heap_alloc_new w (.cells #[.string ⟨#[97]⟩,.string ⟨#[120,95]⟩,.string ⟨#[90,101,100]⟩,.string ⟨#[195,169]⟩,.string ⟨#[239,172,128]⟩,.string ⟨#[240,159,152,128]⟩,.string ⟨#[108,105,115,116]⟩,.string ⟨#[98,32,99]⟩,.string ⟨#[115,116,114,117,99,116]⟩,.string ⟨#[47]⟩] 9)
 have HB:=Lib.hid ((Below.refl w.heap.size w).alloc (Nat.le_refl _) (.cells #[.string ⟨#[97]⟩,.string ⟨#[120,95]⟩,.string ⟨#[90,101,100]⟩,.string ⟨#[195,169]⟩,.string ⟨#[239,172,128]⟩,.string ⟨#[240,159,152,128]⟩,.string ⟨#[108,105,115,116]⟩,.string ⟨#[98,32,99]⟩,.string ⟨#[115,116,114,117,99,116]⟩,.string ⟨#[47]⟩] 9))
 generalize w.alloc (.cells #[.string ⟨#[97]⟩,.string ⟨#[120,95]⟩,.string ⟨#[90,101,100]⟩,.string ⟨#[195,169]⟩,.string ⟨#[239,172,128]⟩,.string ⟨#[240,159,152,128]⟩,.string ⟨#[108,105,115,116]⟩,.string ⟨#[98,32,99]⟩,.string ⟨#[115,116,114,117,99,116]⟩,.string ⟨#[47]⟩] 9)=W0 at *
 have x0:=HC.out W0 _ h0
 have hlt:w.heap.size<W0.heap.size:=blk_lt h0
 clear h0
 generalize headOf m=S at *
 go_region
 all_goals
  go_wp2
  go_ret
  refine ⟨(by rw [HL.out]:Ending.returned (.string (S++strOfNums [97+(j:Int)]))=_),?_⟩
  exact (by first|exact (HB.out.alloc HB.out.size _).drew|exact HB.out.drew.alloc HB.out.size _|exact HB.out.alloc HB.out.size _)
end Go.Proofs.YtpbaaedijfofnaaDoor
namespace Go.Proofs.YtpbaaedijfofnaaDoor
open Go.ChangeShapes Go.WideShapes Go.ChangeAt Go.RowKit Go.Shelf
theorem IsPlan.below {w W:World}{p:Plan}{a0 a1:Option Addr}{n0 e0 n1 c1:Nat}(h:IsPlan w p a0 n0 e0 a1 n1 c1)(hb:Below w.heap.size w W):IsPlan W p a0 n0 e0 a1 n1 c1:=by
 refine ⟨h.e_len,h.s_len,h.e_cap,h.s_cap,h.rt,fun j hj=>?_,fun r hr=>?_⟩
 · obtain ⟨h1,b,off,h2,h3,h4⟩:=h.e_at j hj
   exact ⟨h1,b,off,h2,Nat.lt_of_lt_of_le h3 hb.size,(hb.cell (p:=⟨b,off+j,none⟩) h3).trans h4⟩
 · obtain ⟨b,off,a,n,c,h2,h3,h4,h5,h6,h7,h8⟩:=h.s_at r hr
   refine ⟨b,off,a,n,c,h2,Nat.lt_of_lt_of_le h3 hb.size,(hb.cell (p:=⟨b,off+r,none⟩) h3).trans h4,h5,h6,h7,fun k hk=>?_⟩
   obtain ⟨b',off',f,g1,g2,g3,x0,x1,x2,x3,x4,q⟩:=h8 k hk
   exact ⟨b',off',f,g1,g2,Nat.lt_of_lt_of_le g3 hb.size,(hb.cell (p:=⟨b',off'+k * 5,none⟩) g3).trans x0,(hb.cell (p:=⟨b',off'+k * 5+1,none⟩) g3).trans x1,(hb.cell (p:=⟨b',off'+k * 5+2,none⟩) g3).trans x2,(hb.cell (p:=⟨b',off'+k * 5+3,none⟩) g3).trans x3,(hb.cell (p:=⟨b',off'+k * 5+4,none⟩) g3).trans x4,q⟩
theorem blk4p {w:World}{g:Nat}{x y z u:Value}{t:TypeId}(h:w.heap[g]?=some (.cells #[x,y,z,u] t (0,0))) :
  g<w.heap.size∧w.cell? ⟨g,0,none⟩=some x∧w.cell? ⟨g,1,none⟩=some y∧w.cell? ⟨g,2,none⟩=some z∧w.cell? ⟨g,3,none⟩=some u:=
 ⟨blk_lt h,(blk_cell h 0).trans rfl,(blk_cell h 1).trans rfl,(blk_cell h 2).trans rfl,(blk_cell h 3).trans rfl⟩
end Go.Proofs.YtpbaaedijfofnaaDoor
