/-
  The hand's Made: the loop over the enums. Conditions: those that each theorem names.
-/
import Derived.Test.YtachghaegokpdaaDoorPkFC1
import Derived.Test.YtachghaegokpdaaDoorPkFC3
import Derived.Laws.BytesArg
import Derived.Test.YtachghaegokpdaaDoorRows
import Derived.WalkKit
import Derived.ProofKit
import Derived.OpenShut
import Derived.ShutString
import Derived.ChangeOld
import Derived.Below
import Derived.WalkLawsBesides
import Derived.WalkSpells
import Derived.Lib.Hide
import Derived.Outline
import Derived.Handy
import Derived.Deep.RegionHeld3
import Derived.Deep.Cut
import Derived.IntWalk
import Derived.RegionTactic
import Derived.BigRegion
import Derived.Deep.AppendLies
import Derived.OwnWalk
namespace Go.Proofs.YtachghaegokpdaaDoor
open Go.ChangeShapes Go.WideShapes Go.ChangeAt Go.RowKit Go.Shelf
def enumName (i:Nat):ByteArray:=⟨#[69]⟩++strOfNums [97+(i:Int)]
def valName (k:Nat):ByteArray:=⟨#[118]⟩++strOfNums [97+(k:Int) % 26,97+(k:Int) / 26]
def recName (i:Nat):ByteArray:=⟨#[83]⟩++strOfNums [97+(i:Int)]
def labelHeads:List ByteArray:=[⟨#[97]⟩,⟨#[120,95]⟩,⟨#[90,101,100]⟩,⟨#[195,169]⟩,⟨#[239,172,128]⟩,⟨#[240,159,152,128]⟩,⟨#[108,105,115,116]⟩,⟨#[98,32,99]⟩,⟨#[115,116,114,117,99,116]⟩,⟨#[47]⟩]
def headOf (m:Nat):ByteArray:=labelHeads.getD m ⟨#[]⟩
def labelOf (n i:Nat):ByteArray:=headOf (n % 10)++strOfNums [97+(i:Int) % 26]
def cntOf (p:Plan)(e:Nat):Nat:=p.enums.getD e 0 % 32+1
def numP (cnt kind n:Nat):Nat:=
 if kind=1 then n % 2 else if kind=10 then n % cnt else
  let m:Nat:=if kSize kind<8 then n % 2 ^ (8 * (kSize kind).toNat) else n
  if kSign kind=true then (sgnOf m (kSize kind)).toNat else m
def kind0 (p:Plan)(f:PF):Nat:=if f.kind % 13+1=10∧p.enums.length=0 then 7 else f.kind % 13+1
def ref0 (p:Plan)(f:PF):Nat:=if kind0 p f=10 then f.ref % p.enums.length else 0
def kindP (p:Plan)(i:Nat)(f:PF):Nat:=if kind0 p f=13∧p.tree=true∧i+1=p.structs.length then 11 else kind0 p f
def refP (p:Plan)(i:Nat)(f:PF):Nat:=
 if kindP p i f=13 then (if p.tree=true then i+1+f.ref % (p.structs.length-i-1) else f.ref % p.structs.length) else ref0 p f
def fldP (p:Plan)(i k:Nat)(f:PF):SFld:=
 ⟨labelOf f.name k,kindP p i f,refP p i f,f.lists % 4,if isNumP (kindP p i f) (f.lists % 4)=true then numP (cntOf p (refP p i f)) (kindP p i f) f.dflt else 0⟩
def fldsP (p:Plan)(i:Nat)(l:List PF)(n:Nat):List SFld:=(List.range n).map fun k=>fldP p i k (l.getD k noPF)
def recP (p:Plan)(i:Nat):SRec:=⟨recName i,fldsP p i (p.structs.getD i []) (p.structs.getD i []).length⟩
def choP (p:Plan)(i:Nat):SCho:=⟨enumName i,(List.range (cntOf p i)).map valName⟩
def recsP (p:Plan)(n:Nat):List SRec:=(List.range n).map (recP p)
def chosP (p:Plan)(n:Nat):List SCho:=(List.range n).map (choP p)
def planOk (p:Plan):Prop:=1≤p.structs.length∧p.structs.length≤16∧p.enums.length≤8∧∀ l ∈ p.structs,1≤l.length∧l.length≤16
theorem fldsP_succ (p:Plan)(i:Nat)(l:List PF)(n:Nat):fldsP p i l (n+1)=fldsP p i l n++[fldP p i n (l.getD n noPF)]:=by simp [fldsP,List.range_succ]
theorem recsP_succ (p:Plan)(n:Nat):recsP p (n+1)=recsP p n++[recP p n]:=by simp [recsP,List.range_succ]
theorem chosP_succ (p:Plan)(n:Nat):chosP p (n+1)=chosP p n++[choP p n]:=by simp [chosP,List.range_succ]
theorem fldsP_length (p:Plan)(i:Nat)(l:List PF)(n:Nat):(fldsP p i l n).length=n:=by simp [fldsP]
theorem recsP_length (p:Plan)(n:Nat):(recsP p n).length=n:=by simp [recsP]
theorem chosP_length (p:Plan)(n:Nat):(chosP p n).length=n:=by simp [chosP]
/-! ### in memory -/
theorem sfldsCells_snoc (l:List SFld)(f:SFld):sfldsCells (l++[f])=sfldsCells l++sfldCells f:=by simp [sfldsCells]
theorem strsCells_snoc (l:List ByteArray)(s:ByteArray):strsCells (l++[s])=strsCells l++strCells s:=by simp [strsCells]
theorem srecsCells_snoc (l:List (SRec × Value))(q:SRec × Value):srecsCells (l++[q])=srecsCells l++srecCells q:=by simp [srecsCells]
theorem schosCells_snoc (l:List (SCho × Value))(q:SCho × Value):schosCells (l++[q])=schosCells l++schoCells q:=by simp [schosCells]
theorem sfld_info:(Tryd.prog.info? 60).map (fun i=>(i.zero,i.size,i.bytes))=some (some (.agg #[.string ⟨#[]⟩,.int .u8 0,.int .i64 0,.int .i64 0,.int .u64 0]),5,48):=by kernel_rfl
theorem str_info:(Tryd.prog.info? 9).map (fun i=>(i.zero,i.size,i.bytes))=some (some (.string ⟨#[]⟩),1,16):=by kernel_rfl
theorem srec_info:(Tryd.prog.info? 36).map (fun i=>(i.zero,i.size,i.bytes))=some (some (.agg #[.string ⟨#[]⟩,.slice none 0 0]),2,40):=by kernel_rfl
theorem scho_info:(Tryd.prog.info? 96).map (fun i=>(i.zero,i.size,i.bytes))=some (some (.agg #[.string ⟨#[]⟩,.slice none 0 0]),2,40):=by kernel_rfl
theorem SchRows.strct {base:Nat}{W:World}{ss:List (SRec × Value)}{es:List (SCho × Value)}{sv ev:Value}(h:SchRows base W ss es sv ev)(k:Nat)(hk:k<ss.length) :
  ∃ g c a n,sv=.slice (some ⟨g,0,none⟩) ss.length c∧ss.length≤c∧g<W.heap.size∧W.cell? ⟨g,k * 2,none⟩=some (.string ss[k].1.name)∧W.cell? ⟨g,k * 2+1,none⟩=some (.slice a ss[k].1.fields.length n)∧ss[k].2=.slice a ss[k].1.fields.length n:=by
 obtain ⟨g,c,hv,hc,hg,hcell⟩:=row_el srecCells 2 (fun _=>rfl) h.structs k hk
 obtain ⟨a,n,hf⟩:=ownsRow_form (h.fields _ (List.getElem_mem hk))
 exact ⟨g,c,a,n,hv,hc,hg,hcell 0 (by omega),by rw [hcell 1 (by omega),←hf];rfl,hf⟩
theorem SchRows.enum {base:Nat}{W:World}{ss:List (SRec × Value)}{es:List (SCho × Value)}{sv ev:Value}(h:SchRows base W ss es sv ev)(k:Nat)(hk:k<es.length) :
  ∃ g c a n,ev=.slice (some ⟨g,0,none⟩) es.length c∧es.length≤c∧g<W.heap.size∧W.cell? ⟨g,k * 2,none⟩=some (.string es[k].1.name)∧W.cell? ⟨g,k * 2+1,none⟩=some (.slice a es[k].1.names.length n)∧es[k].2=.slice a es[k].1.names.length n:=by
 obtain ⟨g,c,hv,hc,hg,hcell⟩:=row_el schoCells 2 (fun _=>rfl) h.enums k hk
 obtain ⟨a,n,hf⟩:=ownsRow_form (h.names _ (List.getElem_mem hk))
 exact ⟨g,c,a,n,hv,hc,hg,hcell 0 (by omega),by rw [hcell 1 (by omega),←hf];rfl,hf⟩
end Go.Proofs.YtachghaegokpdaaDoor
namespace Go.Proofs.YtachghaegokpdaaDoor
open Go.ChangeShapes Go.WideShapes Go.ChangeAt Go.RowKit
theorem one_str (W:World)(z:Int):(convert 22 9 (.slice (some ⟨W.heap.size,0,none⟩) 1 1)).run Tryd.prog (W.alloc (.cells #[.int .u8 z] 5))=.ok (.string (strOfNums [z])) (W.alloc (.cells #[.int .u8 z] 5)):=by
 refine run_convert_bytes_arg (P:=Tryd.prog) _ 22 5 Tryd.underlying22 Tryd.underlying5 W.heap.size 0 1 1 [z] rfl (fun k hk=>?_) 9 Tryd.underlying9
 obtain rfl:k=0:=by omega
 rw [cell_of_row _ _ _ _ _ (0,0) (heap_alloc_new W _)]
 rfl
end Go.Proofs.YtachghaegokpdaaDoor
namespace Go.Proofs.YtachghaegokpdaaDoor
open Go.ChangeShapes Go.WideShapes Go.ChangeAt Go.RowKit Go.Shelf
theorem heads_cell {W:World}{g m:Nat}(hm:m<10)(h:W.heap[g]?=some (.cells #[.string ⟨#[97]⟩,.string ⟨#[120,95]⟩,.string ⟨#[90,101,100]⟩,.string ⟨#[195,169]⟩,.string ⟨#[239,172,128]⟩,.string ⟨#[240,159,152,128]⟩,.string ⟨#[108,105,115,116]⟩,.string ⟨#[98,32,99]⟩,.string ⟨#[115,116,114,117,99,116]⟩,.string ⟨#[47]⟩] 9 (0,0))) :
  W.cell? ⟨g,m,none⟩=some (.string (headOf m)):=by
 rw [blk_cell h]
 have:m=0∨m=1∨m=2∨m=3∨m=4∨m=5∨m=6∨m=7∨m=8∨m=9:=by omega
 rcases this with rfl|rfl|rfl|rfl|rfl|rfl|rfl|rfl|rfl|rfl<;>rfl
theorem heads_size {m:Nat}(hm:m<10):(headOf m).size≤6:=by
 have:m=0∨m=1∨m=2∨m=3∨m=4∨m=5∨m=6∨m=7∨m=8∨m=9:=by omega
 rcases this with rfl|rfl|rfl|rfl|rfl|rfl|rfl|rfl|rfl|rfl<;>decide
theorem one_str_drew (W:World)(z:Int):(convert 22 9 (.slice (some ⟨W.heap.size,0,none⟩) 1 1)).run Tryd.prog (W.alloc (.cells #[.int .u8 z] 5)).drew=.ok (.string (strOfNums [z])) (W.alloc (.cells #[.int .u8 z] 5)).drew:=by
 refine run_convert_bytes_arg (P:=Tryd.prog) _ 22 5 Tryd.underlying22 Tryd.underlying5 W.heap.size 0 1 1 [z] rfl (fun k hk=>?_) 9 Tryd.underlying9
 obtain rfl:k=0:=by omega
 show (W.alloc (.cells #[.int .u8 z] 5)).cell? _=_
 rw [cell_of_row _ _ _ _ _ (0,0) (heap_alloc_new W _)]
 rfl
set_option maxRecDepth 100000 in
theorem hlabel_any (n i:Nat)(w:World)(hn:n≤255)(hi:i<16) :
  Calls Tryd.prog 49 #[.int .u8 n,.int .i64 i] w fun e w'=>e=.returned (.string (labelOf n i))∧Below w.heap.size w w':=by
 have kc:=one_str_drew
 have hmod:(n:Int) % 10=((n % 10:Nat):Int):=by omega
 have hmod2:(i:Int) % 26=((i % 26:Nat):Int):=by omega
 have htm:(n:Int).tmod 10=((n % 10:Nat):Int):=by rw [Int.tmod_eq_emod_of_nonneg (by omega)];omega
 have htm2:(i:Int).tmod 26=((i % 26:Nat):Int):=by rw [Int.tmod_eq_emod_of_nonneg (by omega)];omega
 have hL:labelOf n i=headOf (n % 10)++strOfNums [97+((i % 26:Nat):Int)]:=by unfold labelOf;rw [hmod2]
 have HL:=Lib.hid hL
 clear hL
 have hm:n % 10<10:=by omega
 have hj:i % 26<26:=by omega
 generalize n % 10=m at *
 generalize i % 26=j at *
 have HC:=Lib.hid (fun (W:World) (g:Nat) (h:W.heap[g]?=_)=>heads_cell (W:=W) (g:=g) hm h)
 have hsz:(headOf m).size≤6:=heads_size hm
 have hsz2:¬9223372036854775807<(headOf m).size+(strOfNums [97+(j:Int)]).size:=by rw [strOfNums_size,List.length_singleton];omega
 have hb1:(0:Int)≤(m:Int):=by omega
 have hb2:(m:Int)<10:=by omega
 have hw0:=IntWalk.i64_in (n:Int) (by omega)
 have hw1:=IntWalk.i64_in (m:Int) (by omega)
 have hw2:=IntWalk.i64_in (j:Int) (by omega)
 have hw3:=IntWalk.i64_in (97+(j:Int)) (by omega)
 have hw4:IntKind.u8.wrap (97+(j:Int))=97+(j:Int):=by simp only [IntKind.wrap,IntKind.bits,IntKind.signed];simp;omega
 go_enter Tryd.func49,Tryd.ntmps49
 go_upto_region 2 with (fail)
 have h0:=heap_alloc_new w (.cells #[.string ⟨#[97]⟩,.string ⟨#[120,95]⟩,.string ⟨#[90,101,100]⟩,.string ⟨#[195,169]⟩,.string ⟨#[239,172,128]⟩,.string ⟨#[240,159,152,128]⟩,.string ⟨#[108,105,115,116]⟩,.string ⟨#[98,32,99]⟩,.string ⟨#[115,116,114,117,99,116]⟩,.string ⟨#[47]⟩] 9)
 have HB:=Lib.hid ((Below.refl w.heap.size w).alloc (Nat.le_refl _) (.cells #[.string ⟨#[97]⟩,.string ⟨#[120,95]⟩,.string ⟨#[90,101,100]⟩,.string ⟨#[195,169]⟩,.string ⟨#[239,172,128]⟩,.string ⟨#[240,159,152,128]⟩,.string ⟨#[108,105,115,116]⟩,.string ⟨#[98,32,99]⟩,.string ⟨#[115,116,114,117,99,116]⟩,.string ⟨#[47]⟩] 9))
 generalize w.alloc (.cells #[.string ⟨#[97]⟩,.string ⟨#[120,95]⟩,.string ⟨#[90,101,100]⟩,.string ⟨#[195,169]⟩,.string ⟨#[239,172,128]⟩,.string ⟨#[240,159,152,128]⟩,.string ⟨#[108,105,115,116]⟩,.string ⟨#[98,32,99]⟩,.string ⟨#[115,116,114,117,99,116]⟩,.string ⟨#[47]⟩] 9)=W0 at *
 have x0:=HC.out W0 _ h0
 have hlt:w.heap.size<W0.heap.size:=blk_lt h0
 clear h0
 generalize headOf m=S at *
 go_region
 all_goals
  go_wp2
  go_ret
  refine ⟨(by rw [HL.out]:Ending.returned (.string (S++strOfNums [97+(j:Int)]))=_),?_⟩
  exact (by first|exact (HB.out.alloc HB.out.size _).drew|exact HB.out.drew.alloc HB.out.size _|exact HB.out.alloc HB.out.size _)
end Go.Proofs.YtachghaegokpdaaDoor
namespace Go.Proofs.YtachghaegokpdaaDoor
open Go.ChangeShapes Go.WideShapes Go.ChangeAt Go.RowKit Go.Shelf
theorem kSize_vals:kSize 1=1∧kSize 2=1∧kSize 3=2∧kSize 4=4∧kSize 5=8∧kSize 6=1∧kSize 7=2∧kSize 8=4∧kSize 9=8∧kSize 10=1:=by decide
theorem numP_low (cnt kind n s:Nat)(h1:kind≠1)(h10:kind≠10)(hs:kSize kind=s)(h8:(s:Int)<8):numP cnt kind n=if kSign kind=true then (sgnOf ((n % 2 ^ (8 * s):Nat):Int) s).toNat else n % 2 ^ (8 * s):=by
 unfold numP
 rw [if_neg h1,if_neg h10]
 simp only [hs]
 rw [if_pos h8,Int.toNat_natCast]
theorem numP_high (cnt kind n:Nat)(h1:kind≠1)(h10:kind≠10)(hs:kSize kind=8):numP cnt kind n=if kSign kind=true then (sgnOf (n:Int) 8).toNat else n:=by
 unfold numP
 rw [if_neg h1,if_neg h10]
 simp only [hs,Int.lt_irrefl,if_false]
theorem number_plain (cnt n:Nat):numP cnt 2 n=(sgnOf ((n % 256:Nat):Int) 1).toNat∧numP cnt 3 n=(sgnOf ((n % 65536:Nat):Int) 2).toNat∧numP cnt 4 n=(sgnOf ((n % 4294967296:Nat):Int) 4).toNat∧numP cnt 5 n=(sgnOf (n:Int) 8).toNat ∧
  numP cnt 6 n=n % 256∧numP cnt 7 n=n % 65536∧numP cnt 8 n=n % 4294967296∧numP cnt 9 n=n:=by
 have e1:(2:Nat) ^ (8 * 1)=256:=by decide
 have e2:(2:Nat) ^ (8 * 2)=65536:=by decide
 have e4:(2:Nat) ^ (8 * 4)=4294967296:=by decide
 have a2:=numP_low cnt 2 n 1 (by decide) (by decide) rfl (by decide)
 have a3:=numP_low cnt 3 n 2 (by decide) (by decide) rfl (by decide)
 have a4:=numP_low cnt 4 n 4 (by decide) (by decide) rfl (by decide)
 have a6:=numP_low cnt 6 n 1 (by decide) (by decide) rfl (by decide)
 have a7:=numP_low cnt 7 n 2 (by decide) (by decide) rfl (by decide)
 have a8:=numP_low cnt 8 n 4 (by decide) (by decide) rfl (by decide)
 have a5:=numP_high cnt 5 n (by decide) (by decide) rfl
 have a9:=numP_high cnt 9 n (by decide) (by decide) rfl
 rw [e1] at a2 a6
 rw [e2] at a3 a7
 rw [e4] at a4 a8
 refine ⟨a2.trans (if_pos rfl),a3.trans (if_pos rfl),a4.trans (if_pos rfl),a5.trans (if_pos rfl),a6.trans (if_neg (by decide)),a7.trans (if_neg (by decide)),a8.trans (if_neg (by decide)),a9.trans (if_neg (by decide))⟩
theorem sgn_pos (m n:Int)(h1:0<m)(h2:m≤2147483648):0≤sgn m n:=by
 unfold sgn
 have:=Int.emod_nonneg n (show (2 * m)≠0 by omega)
 split<;>omega
theorem sgnOf_pos (n s:Int)(h:0≤n):0≤sgnOf n s:=by
 unfold sgnOf
 split
 · exact sgn_pos _ _ (by decide) (by decide)
 · split
   · exact sgn_pos _ _ (by decide) (by decide)
   · split
     · exact sgn_pos _ _ (by decide) (by decide)
     · exact h
set_option maxRecDepth 100000 in
theorem hnumber_any (kind ref lists n cnt:Nat)(sv ev:Value)(root:Int)(w:World)(hn:(n:Int)≤18446744073709551615)(hk1:1≤kind)(hk2:kind≤9) :
  Calls Tryd.prog 50 #[.agg #[sv,ev,.int .i64 root],.agg #[.int .u8 kind,.int .i64 ref,.int .i64 lists],.int .u64 n] w fun e w'=>e=.returned (.int .u64 (numP cnt kind n:Nat))∧Below w.heap.size w w':=by
 obtain ⟨hb,hz1,hz2⟩:=two_start w #[sv,ev,.int .i64 root] #[.int .u8 kind,.int .i64 ref,.int .i64 lists] 33 58
 obtain ⟨_,y0,y1,y2,_⟩:=blk3 hz2
 have HB:=Lib.hid hb
 have HN:=Lib.hid hn
 obtain ⟨p2,p3,p4,p5,p6,p7,p8,p9⟩:=number_plain cnt n
 have P2:=Lib.hid p2
 have P3:=Lib.hid p3
 have P4:=Lib.hid p4
 have P5:=Lib.hid p5
 have P6:=Lib.hid p6
 have P7:=Lib.hid p7
 have P8:=Lib.hid p8
 have P9:=Lib.hid p9
 have KS:=Lib.hid kSize_vals
 clear hb hz1 hz2 p2 p3 p4 p5 p6 p7 p8 p9
 have h':kind=1∨kind=2∨kind=3∨kind=4∨kind=5∨kind=6∨kind=7∨kind=8∨kind=9:=by omega
 clear hk1 hk2
 rcases h' with rfl|rfl|rfl|rfl|rfl|rfl|rfl|rfl|rfl
 · go_enter Tryd.func50,Tryd.ntmps50
   go_wp2_with fail
   refine (rsize_any _ _).mono ?_
   rintro e W1 ⟨rfl,rfl⟩
   rw [show kSize 1=1 from rfl]
   go_wp2
   go_ret
   exact ⟨ret_int (show (n:Int) % 2=((n % 2:Nat):Int) by omega),HB.out⟩
 · go_enter Tryd.func50,Tryd.ntmps50
   go_wp2_with fail
   refine (rsize_any _ _).mono ?_
   rintro e W1 ⟨rfl,rfl⟩
   rw [show kSize 2=1 from rfl]
   go_wp2_with fail
   refine (rsign_any _ _).mono ?_
   rintro e W1 ⟨rfl,rfl⟩
   rw [show kSign 2=true from rfl]
   have hv0:0≤(n:Int) % 256:=by omega
   have hv1:(n:Int) % 256≤18446744073709551615:=by have:=HN.out;omega
   go_wp2_with fail
   refine (rsigned_any ((n:Int) % 256) 1 _ hv0 hv1).mono ?_
   rintro e W1 ⟨rfl,rfl⟩
   go_wp2
   go_ret
   exact ⟨ret_int (by rw [P2.out,Int.toNat_of_nonneg (sgnOf_pos _ _ (by omega))];congr 1),HB.out⟩
 · go_enter Tryd.func50,Tryd.ntmps50
   go_wp2_with fail
   refine (rsize_any _ _).mono ?_
   rintro e W1 ⟨rfl,rfl⟩
   rw [show kSize 3=2 from rfl]
   go_wp2_with fail
   refine (rsign_any _ _).mono ?_
   rintro e W1 ⟨rfl,rfl⟩
   rw [show kSign 3=true from rfl]
   have hv0:0≤(n:Int) % 65536:=by omega
   have hv1:(n:Int) % 65536≤18446744073709551615:=by have:=HN.out;omega
   go_wp2_with fail
   refine (rsigned_any ((n:Int) % 65536) 2 _ hv0 hv1).mono ?_
   rintro e W1 ⟨rfl,rfl⟩
   go_wp2
   go_ret
   exact ⟨ret_int (by rw [P3.out,Int.toNat_of_nonneg (sgnOf_pos _ _ (by omega))];congr 1),HB.out⟩
 · go_enter Tryd.func50,Tryd.ntmps50
   go_wp2_with fail
   refine (rsize_any _ _).mono ?_
   rintro e W1 ⟨rfl,rfl⟩
   rw [show kSize 4=4 from rfl]
   go_wp2_with fail
   refine (rsign_any _ _).mono ?_
   rintro e W1 ⟨rfl,rfl⟩
   rw [show kSign 4=true from rfl]
   have hv0:0≤(n:Int) % 4294967296:=by omega
   have hv1:(n:Int) % 4294967296≤18446744073709551615:=by have:=HN.out;omega
   go_wp2_with fail
   refine (rsigned_any ((n:Int) % 4294967296) 4 _ hv0 hv1).mono ?_
   rintro e W1 ⟨rfl,rfl⟩
   go_wp2
   go_ret
   exact ⟨ret_int (by rw [P4.out,Int.toNat_of_nonneg (sgnOf_pos _ _ (by omega))];congr 1),HB.out⟩
 · go_enter Tryd.func50,Tryd.ntmps50
   go_wp2_with fail
   refine (rsize_any _ _).mono ?_
   rintro e W1 ⟨rfl,rfl⟩
   rw [show kSize 5=8 from rfl]
   go_wp2_with fail
   refine (rsign_any _ _).mono ?_
   rintro e W1 ⟨rfl,rfl⟩
   rw [show kSign 5=true from rfl]
   have hv0:0≤(n:Int):=by omega
   have hv1:(n:Int)≤18446744073709551615:=by have:=HN.out;omega
   go_wp2_with fail
   refine (rsigned_any ((n:Int)) 8 _ hv0 hv1).mono ?_
   rintro e W1 ⟨rfl,rfl⟩
   go_wp2
   go_ret
   exact ⟨ret_int (by rw [P5.out,Int.toNat_of_nonneg (sgnOf_pos _ _ (by omega))]),HB.out⟩
 · go_enter Tryd.func50,Tryd.ntmps50
   go_wp2_with fail
   refine (rsize_any _ _).mono ?_
   rintro e W1 ⟨rfl,rfl⟩
   rw [show kSize 6=1 from rfl]
   go_wp2_with fail
   refine (rsign_any _ _).mono ?_
   rintro e W1 ⟨rfl,rfl⟩
   rw [show kSign 6=false from rfl]
   go_wp2
   go_ret
   exact ⟨ret_int (by rw [P6.out];omega),HB.out⟩
 · go_enter Tryd.func50,Tryd.ntmps50
   go_wp2_with fail
   refine (rsize_any _ _).mono ?_
   rintro e W1 ⟨rfl,rfl⟩
   rw [show kSize 7=2 from rfl]
   go_wp2_with fail
   refine (rsign_any _ _).mono ?_
   rintro e W1 ⟨rfl,rfl⟩
   rw [show kSign 7=false from rfl]
   go_wp2
   go_ret
   exact ⟨ret_int (by rw [P7.out];omega),HB.out⟩
 · go_enter Tryd.func50,Tryd.ntmps50
   go_wp2_with fail
   refine (rsize_any _ _).mono ?_
   rintro e W1 ⟨rfl,rfl⟩
   rw [show kSize 8=4 from rfl]
   go_wp2_with fail
   refine (rsign_any _ _).mono ?_
   rintro e W1 ⟨rfl,rfl⟩
   rw [show kSign 8=false from rfl]
   go_wp2
   go_ret
   exact ⟨ret_int (by rw [P8.out];omega),HB.out⟩
 · go_enter Tryd.func50,Tryd.ntmps50
   go_wp2_with fail
   refine (rsize_any _ _).mono ?_
   rintro e W1 ⟨rfl,rfl⟩
   rw [show kSize 9=8 from rfl]
   go_wp2_with fail
   refine (rsign_any _ _).mono ?_
   rintro e W1 ⟨rfl,rfl⟩
   rw [show kSign 9=false from rfl]
   go_wp2
   go_ret
   exact ⟨ret_int (by rw [P9.out]),HB.out⟩
set_option maxRecDepth 100000 in
theorem numberE_any (ref lists n:Nat){b:Nat}{ss:List (SRec × Value)}{es:List (SCho × Value)}{sv ev:Value}(root:Int)(w:World)(h:SchRows b w ss es sv ev)(hr:ref<es.length)(hc:1≤es[ref].1.names.length)(hn:(n:Int)≤18446744073709551615) :
  Calls Tryd.prog 50 #[.agg #[sv,ev,.int .i64 root],.agg #[.int .u8 10,.int .i64 ref,.int .i64 lists],.int .u64 n] w fun e w'=>e=.returned (.int .u64 (numP es[ref].1.names.length 10 n:Nat))∧Below w.heap.size w w':=by
 obtain ⟨hb,hz1,hz2⟩:=two_start w #[sv,ev,.int .i64 root] #[.int .u8 10,.int .i64 ref,.int .i64 lists] 33 58
 obtain ⟨_,y0,y1,y2,_⟩:=blk3 hz2
 obtain ⟨_,z0,z1,z2,_⟩:=blk3 hz1
 have hf1:=row_few h.enums
 have hf2:=row_few (h.names _ (List.getElem_mem hr))
 obtain ⟨g,c,a,m,rfl,hc1,hg,x0,x1,_⟩:=(h.below hb).enum ref hr
 have HB:=Lib.hid hb
 have HN:=Lib.hid hn
 have HP:Hid (numP es[ref].1.names.length 10 n=n % es[ref].1.names.length):=Lib.hid rfl
 clear hb hz1 hz2 h y2 z0 z2 x0
 generalize es[ref].1.names.length=cnt at *
 have hw:IntKind.u64.wrap (cnt:Int)=cnt:=IntWalk.u64_in _ (by omega)
 have hq:(cnt:Int)≠0:=by omega
 have hq2:(0:Int)<cnt:=by omega
 go_enter Tryd.func50,Tryd.ntmps50
 go_wp2_with fail
 refine (rsize_any _ _).mono ?_
 rintro e W1 ⟨rfl,rfl⟩
 rw [show kSize 10=1 from rfl]
 go_wp2
 go_ret
 exact ⟨ret_int (by rw [HP.out];omega),HB.out⟩
end Go.Proofs.YtachghaegokpdaaDoor
namespace Go.Proofs.YtachghaegokpdaaDoor
open Go.ChangeShapes Go.WideShapes Go.ChangeAt Go.RowKit
def loopsOf:Code→List Code
 | .loop c=>c::loopsOf c
 | .seq a b=>loopsOf a++loopsOf b
 | .block _ c=>loopsOf c
 | .scope c=>loopsOf c
 | .cond _ a b=>loopsOf a++loopsOf b
 | _=>[]
noncomputable def madeLoop (n:Nat):Code:=((Tryd.f24.body.map loopsOf).getD []).getD n .skip
theorem arr_lit (t:Array Value)(h:t.size=241):t=((List.range 241).map fun n=>t.getD n undef).toArray:=by
 apply Array.ext'
 apply List.ext_getElem?
 intro i
 by_cases hi:i<241
 · have h':i<t.size:=by omega
   simp [hi,h',Array.getD]
 · have h':¬i<t.size:=by omega
   simp [hi,h']
set_option maxRecDepth 100000 in
theorem lit_all (u:Nat→Value):((List.range 241).map u).toArray=#[u 0,u 1,u 2,u 3,u 4,u 5,u 6,u 7,u 8,u 9,u 10,u 11,u 12,u 13,u 14,u 15,u 16,u 17,u 18,u 19,u 20,u 21,u 22,u 23,u 24,u 25,u 26,u 27,u 28,u 29,u 30,u 31,u 32,u 33,u 34,u 35,u 36,u 37,u 38,u 39,u 40,u 41,u 42,u 43,u 44,u 45,u 46,u 47,u 48,u 49,u 50,u 51,u 52,u 53,u 54,u 55,u 56,u 57,u 58,u 59,u 60,u 61,u 62,u 63,u 64,u 65,u 66,u 67,u 68,u 69,u 70,u 71,u 72,u 73,u 74,u 75,u 76,u 77,u 78,u 79,u 80,u 81,u 82,u 83,u 84,u 85,u 86,u 87,u 88,u 89,u 90,u 91,u 92,u 93,u 94,u 95,u 96,u 97,u 98,u 99,u 100,u 101,u 102,u 103,u 104,u 105,u 106,u 107,u 108,u 109,u 110,u 111,u 112,u 113,u 114,u 115,u 116,u 117,u 118,u 119,u 120,u 121,u 122,u 123,u 124,u 125,u 126,u 127,u 128,u 129,u 130,u 131,u 132,u 133,u 134,u 135,u 136,u 137,u 138,u 139,u 140,u 141,u 142,u 143,u 144,u 145,u 146,u 147,u 148,u 149,u 150,u 151,u 152,u 153,u 154,u 155,u 156,u 157,u 158,u 159,u 160,u 161,u 162,u 163,u 164,u 165,u 166,u 167,u 168,u 169,u 170,u 171,u 172,u 173,u 174,u 175,u 176,u 177,u 178,u 179,u 180,u 181,u 182,u 183,u 184,u 185,u 186,u 187,u 188,u 189,u 190,u 191,u 192,u 193,u 194,u 195,u 196,u 197,u 198,u 199,u 200,u 201,u 202,u 203,u 204,u 205,u 206,u 207,u 208,u 209,u 210,u 211,u 212,u 213,u 214,u 215,u 216,u 217,u 218,u 219,u 220,u 221,u 222,u 223,u 224,u 225,u 226,u 227,u 228,u 229,u 230,u 231,u 232,u 233,u 234,u 235,u 236,u 237,u 238,u 239,u 240]:=rfl
structure FrA (b i:Nat)(c:Act):Prop where
 df:c.defers=[]
 sz:c.tmps.size=241
 s1:c.tmps.getD 1 undef=.pointer (some ⟨b,0,none⟩)
 s2:c.tmps.getD 2 undef=.pointer (some ⟨b+1,0,none⟩)
 s3:c.tmps.getD 3 undef=.bool false
 s4:c.tmps.getD 4 undef=.pointer (some ⟨b+2,0,none⟩)
 s5:c.tmps.getD 5 undef=.int .i64 i
set_option maxRecDepth 100000 in
theorem fra_lit {b i:Nat}{c:Act}(h:FrA b i c):∃ u:Nat→Value,c=⟨#[u 0,.pointer (some ⟨b,0,none⟩),.pointer (some ⟨b+1,0,none⟩),.bool false,.pointer (some ⟨b+2,0,none⟩),.int .i64 i,u 6,u 7,u 8,u 9,u 10,u 11,u 12,u 13,u 14,u 15,u 16,u 17,u 18,u 19,u 20,u 21,u 22,u 23,u 24,u 25,u 26,u 27,u 28,u 29,u 30,u 31,u 32,u 33,u 34,u 35,u 36,u 37,u 38,u 39,u 40,u 41,u 42,u 43,u 44,u 45,u 46,u 47,u 48,u 49,u 50,u 51,u 52,u 53,u 54,u 55,u 56,u 57,u 58,u 59,u 60,u 61,u 62,u 63,u 64,u 65,u 66,u 67,u 68,u 69,u 70,u 71,u 72,u 73,u 74,u 75,u 76,u 77,u 78,u 79,u 80,u 81,u 82,u 83,u 84,u 85,u 86,u 87,u 88,u 89,u 90,u 91,u 92,u 93,u 94,u 95,u 96,u 97,u 98,u 99,u 100,u 101,u 102,u 103,u 104,u 105,u 106,u 107,u 108,u 109,u 110,u 111,u 112,u 113,u 114,u 115,u 116,u 117,u 118,u 119,u 120,u 121,u 122,u 123,u 124,u 125,u 126,u 127,u 128,u 129,u 130,u 131,u 132,u 133,u 134,u 135,u 136,u 137,u 138,u 139,u 140,u 141,u 142,u 143,u 144,u 145,u 146,u 147,u 148,u 149,u 150,u 151,u 152,u 153,u 154,u 155,u 156,u 157,u 158,u 159,u 160,u 161,u 162,u 163,u 164,u 165,u 166,u 167,u 168,u 169,u 170,u 171,u 172,u 173,u 174,u 175,u 176,u 177,u 178,u 179,u 180,u 181,u 182,u 183,u 184,u 185,u 186,u 187,u 188,u 189,u 190,u 191,u 192,u 193,u 194,u 195,u 196,u 197,u 198,u 199,u 200,u 201,u 202,u 203,u 204,u 205,u 206,u 207,u 208,u 209,u 210,u 211,u 212,u 213,u 214,u 215,u 216,u 217,u 218,u 219,u 220,u 221,u 222,u 223,u 224,u 225,u 226,u 227,u 228,u 229,u 230,u 231,u 232,u 233,u 234,u 235,u 236,u 237,u 238,u 239,u 240],[]⟩:=by
 obtain ⟨hd,hs,h1,h2,h3,h4,h5⟩:=h
 refine ⟨fun n=>c.tmps.getD n undef,?_⟩
 obtain ⟨t,d⟩:=c
 simp only at hd hs h1 h2 h3 h4 h5 ⊢
 subst hd
 congr 1
 refine (arr_lit t hs).trans ?_
 rw [lit_all]
 simp only [h1,h2,h3,h4,h5]
structure FrB (b i C k:Nat)(c:Act):Prop where
 df:c.defers=[]
 sz:c.tmps.size=241
 s1:c.tmps.getD 1 undef=.pointer (some ⟨b,0,none⟩)
 s2:c.tmps.getD 2 undef=.pointer (some ⟨b+1,0,none⟩)
 s3:c.tmps.getD 3 undef=.bool false
 s4:c.tmps.getD 4 undef=.pointer (some ⟨b+2,0,none⟩)
 s5:c.tmps.getD 5 undef=.int .i64 i
 s6:c.tmps.getD 6 undef=.pointer (some ⟨C,0,none⟩)
 s7:c.tmps.getD 7 undef=.int .i64 k
set_option maxRecDepth 100000 in
theorem frb_lit {b i C k:Nat}{c:Act}(h:FrB b i C k c):∃ u:Nat→Value,c=⟨#[u 0,.pointer (some ⟨b,0,none⟩),.pointer (some ⟨b+1,0,none⟩),.bool false,.pointer (some ⟨b+2,0,none⟩),.int .i64 i,.pointer (some ⟨C,0,none⟩),.int .i64 k,u 8,u 9,u 10,u 11,u 12,u 13,u 14,u 15,u 16,u 17,u 18,u 19,u 20,u 21,u 22,u 23,u 24,u 25,u 26,u 27,u 28,u 29,u 30,u 31,u 32,u 33,u 34,u 35,u 36,u 37,u 38,u 39,u 40,u 41,u 42,u 43,u 44,u 45,u 46,u 47,u 48,u 49,u 50,u 51,u 52,u 53,u 54,u 55,u 56,u 57,u 58,u 59,u 60,u 61,u 62,u 63,u 64,u 65,u 66,u 67,u 68,u 69,u 70,u 71,u 72,u 73,u 74,u 75,u 76,u 77,u 78,u 79,u 80,u 81,u 82,u 83,u 84,u 85,u 86,u 87,u 88,u 89,u 90,u 91,u 92,u 93,u 94,u 95,u 96,u 97,u 98,u 99,u 100,u 101,u 102,u 103,u 104,u 105,u 106,u 107,u 108,u 109,u 110,u 111,u 112,u 113,u 114,u 115,u 116,u 117,u 118,u 119,u 120,u 121,u 122,u 123,u 124,u 125,u 126,u 127,u 128,u 129,u 130,u 131,u 132,u 133,u 134,u 135,u 136,u 137,u 138,u 139,u 140,u 141,u 142,u 143,u 144,u 145,u 146,u 147,u 148,u 149,u 150,u 151,u 152,u 153,u 154,u 155,u 156,u 157,u 158,u 159,u 160,u 161,u 162,u 163,u 164,u 165,u 166,u 167,u 168,u 169,u 170,u 171,u 172,u 173,u 174,u 175,u 176,u 177,u 178,u 179,u 180,u 181,u 182,u 183,u 184,u 185,u 186,u 187,u 188,u 189,u 190,u 191,u 192,u 193,u 194,u 195,u 196,u 197,u 198,u 199,u 200,u 201,u 202,u 203,u 204,u 205,u 206,u 207,u 208,u 209,u 210,u 211,u 212,u 213,u 214,u 215,u 216,u 217,u 218,u 219,u 220,u 221,u 222,u 223,u 224,u 225,u 226,u 227,u 228,u 229,u 230,u 231,u 232,u 233,u 234,u 235,u 236,u 237,u 238,u 239,u 240],[]⟩:=by
 obtain ⟨hd,hs,h1,h2,h3,h4,h5,h6,h7⟩:=h
 refine ⟨fun n=>c.tmps.getD n undef,?_⟩
 obtain ⟨t,d⟩:=c
 simp only at hd hs h1 h2 h3 h4 h5 h6 h7 ⊢
 subst hd
 congr 1
 refine (arr_lit t hs).trans ?_
 rw [lit_all]
 simp only [h1,h2,h3,h4,h5,h6,h7]
structure FrC (b i:Nat)(c:Act):Prop where
 df:c.defers=[]
 sz:c.tmps.size=241
 s1:c.tmps.getD 1 undef=.pointer (some ⟨b,0,none⟩)
 s2:c.tmps.getD 2 undef=.pointer (some ⟨b+1,0,none⟩)
 s3:c.tmps.getD 3 undef=.bool false
 s4:c.tmps.getD 4 undef=.pointer (some ⟨b+2,0,none⟩)
 s8:c.tmps.getD 8 undef=.int .i64 i
set_option maxRecDepth 100000 in
theorem frc_lit {b i:Nat}{c:Act}(h:FrC b i c):∃ u:Nat→Value,c=⟨#[u 0,.pointer (some ⟨b,0,none⟩),.pointer (some ⟨b+1,0,none⟩),.bool false,.pointer (some ⟨b+2,0,none⟩),u 5,u 6,u 7,.int .i64 i,u 9,u 10,u 11,u 12,u 13,u 14,u 15,u 16,u 17,u 18,u 19,u 20,u 21,u 22,u 23,u 24,u 25,u 26,u 27,u 28,u 29,u 30,u 31,u 32,u 33,u 34,u 35,u 36,u 37,u 38,u 39,u 40,u 41,u 42,u 43,u 44,u 45,u 46,u 47,u 48,u 49,u 50,u 51,u 52,u 53,u 54,u 55,u 56,u 57,u 58,u 59,u 60,u 61,u 62,u 63,u 64,u 65,u 66,u 67,u 68,u 69,u 70,u 71,u 72,u 73,u 74,u 75,u 76,u 77,u 78,u 79,u 80,u 81,u 82,u 83,u 84,u 85,u 86,u 87,u 88,u 89,u 90,u 91,u 92,u 93,u 94,u 95,u 96,u 97,u 98,u 99,u 100,u 101,u 102,u 103,u 104,u 105,u 106,u 107,u 108,u 109,u 110,u 111,u 112,u 113,u 114,u 115,u 116,u 117,u 118,u 119,u 120,u 121,u 122,u 123,u 124,u 125,u 126,u 127,u 128,u 129,u 130,u 131,u 132,u 133,u 134,u 135,u 136,u 137,u 138,u 139,u 140,u 141,u 142,u 143,u 144,u 145,u 146,u 147,u 148,u 149,u 150,u 151,u 152,u 153,u 154,u 155,u 156,u 157,u 158,u 159,u 160,u 161,u 162,u 163,u 164,u 165,u 166,u 167,u 168,u 169,u 170,u 171,u 172,u 173,u 174,u 175,u 176,u 177,u 178,u 179,u 180,u 181,u 182,u 183,u 184,u 185,u 186,u 187,u 188,u 189,u 190,u 191,u 192,u 193,u 194,u 195,u 196,u 197,u 198,u 199,u 200,u 201,u 202,u 203,u 204,u 205,u 206,u 207,u 208,u 209,u 210,u 211,u 212,u 213,u 214,u 215,u 216,u 217,u 218,u 219,u 220,u 221,u 222,u 223,u 224,u 225,u 226,u 227,u 228,u 229,u 230,u 231,u 232,u 233,u 234,u 235,u 236,u 237,u 238,u 239,u 240],[]⟩:=by
 obtain ⟨hd,hs,h1,h2,h3,h4,h8⟩:=h
 refine ⟨fun n=>c.tmps.getD n undef,?_⟩
 obtain ⟨t,d⟩:=c
 simp only at hd hs h1 h2 h3 h4 h8 ⊢
 subst hd
 congr 1
 refine (arr_lit t hs).trans ?_
 rw [lit_all]
 simp only [h1,h2,h3,h4,h8]
structure FrD (b i:Nat)(a:Option Addr)(n c0 R k:Nat)(c:Act):Prop where
 df:c.defers=[]
 sz:c.tmps.size=241
 s1:c.tmps.getD 1 undef=.pointer (some ⟨b,0,none⟩)
 s2:c.tmps.getD 2 undef=.pointer (some ⟨b+1,0,none⟩)
 s3:c.tmps.getD 3 undef=.bool false
 s4:c.tmps.getD 4 undef=.pointer (some ⟨b+2,0,none⟩)
 s8:c.tmps.getD 8 undef=.int .i64 i
 s9:c.tmps.getD 9 undef=.slice a n c0
 s10:c.tmps.getD 10 undef=.pointer (some ⟨R,0,none⟩)
 s11:c.tmps.getD 11 undef=.int .i64 k
set_option maxRecDepth 100000 in
theorem frd_lit {b i:Nat}{a:Option Addr}{n c0 R k:Nat}{c:Act}(h:FrD b i a n c0 R k c):∃ u:Nat→Value,c=⟨#[u 0,.pointer (some ⟨b,0,none⟩),.pointer (some ⟨b+1,0,none⟩),.bool false,.pointer (some ⟨b+2,0,none⟩),u 5,u 6,u 7,.int .i64 i,.slice a n c0,.pointer (some ⟨R,0,none⟩),.int .i64 k,u 12,u 13,u 14,u 15,u 16,u 17,u 18,u 19,u 20,u 21,u 22,u 23,u 24,u 25,u 26,u 27,u 28,u 29,u 30,u 31,u 32,u 33,u 34,u 35,u 36,u 37,u 38,u 39,u 40,u 41,u 42,u 43,u 44,u 45,u 46,u 47,u 48,u 49,u 50,u 51,u 52,u 53,u 54,u 55,u 56,u 57,u 58,u 59,u 60,u 61,u 62,u 63,u 64,u 65,u 66,u 67,u 68,u 69,u 70,u 71,u 72,u 73,u 74,u 75,u 76,u 77,u 78,u 79,u 80,u 81,u 82,u 83,u 84,u 85,u 86,u 87,u 88,u 89,u 90,u 91,u 92,u 93,u 94,u 95,u 96,u 97,u 98,u 99,u 100,u 101,u 102,u 103,u 104,u 105,u 106,u 107,u 108,u 109,u 110,u 111,u 112,u 113,u 114,u 115,u 116,u 117,u 118,u 119,u 120,u 121,u 122,u 123,u 124,u 125,u 126,u 127,u 128,u 129,u 130,u 131,u 132,u 133,u 134,u 135,u 136,u 137,u 138,u 139,u 140,u 141,u 142,u 143,u 144,u 145,u 146,u 147,u 148,u 149,u 150,u 151,u 152,u 153,u 154,u 155,u 156,u 157,u 158,u 159,u 160,u 161,u 162,u 163,u 164,u 165,u 166,u 167,u 168,u 169,u 170,u 171,u 172,u 173,u 174,u 175,u 176,u 177,u 178,u 179,u 180,u 181,u 182,u 183,u 184,u 185,u 186,u 187,u 188,u 189,u 190,u 191,u 192,u 193,u 194,u 195,u 196,u 197,u 198,u 199,u 200,u 201,u 202,u 203,u 204,u 205,u 206,u 207,u 208,u 209,u 210,u 211,u 212,u 213,u 214,u 215,u 216,u 217,u 218,u 219,u 220,u 221,u 222,u 223,u 224,u 225,u 226,u 227,u 228,u 229,u 230,u 231,u 232,u 233,u 234,u 235,u 236,u 237,u 238,u 239,u 240],[]⟩:=by
 obtain ⟨hd,hs,h1,h2,h3,h4,h8,h9,h10,h11⟩:=h
 refine ⟨fun n=>c.tmps.getD n undef,?_⟩
 obtain ⟨t,d⟩:=c
 simp only at hd hs h1 h2 h3 h4 h8 h9 h10 h11 ⊢
 subst hd
 congr 1
 refine (arr_lit t hs).trans ?_
 rw [lit_all]
 simp only [h1,h2,h3,h4,h8,h9,h10,h11]
structure FrE (b i:Nat)(a:Option Addr)(n c0 R k T:Nat)(c:Act):Prop where
 df:c.defers=[]
 sz:c.tmps.size=241
 s1:c.tmps.getD 1 undef=.pointer (some ⟨b,0,none⟩)
 s2:c.tmps.getD 2 undef=.pointer (some ⟨b+1,0,none⟩)
 s3:c.tmps.getD 3 undef=.bool false
 s4:c.tmps.getD 4 undef=.pointer (some ⟨b+2,0,none⟩)
 s8:c.tmps.getD 8 undef=.int .i64 i
 s9:c.tmps.getD 9 undef=.slice a n c0
 s10:c.tmps.getD 10 undef=.pointer (some ⟨R,0,none⟩)
 s11:c.tmps.getD 11 undef=.int .i64 k
 s12:c.tmps.getD 12 undef=.pointer (some ⟨T,0,none⟩)
set_option maxRecDepth 100000 in
theorem fre_lit {b i:Nat}{a:Option Addr}{n c0 R k T:Nat}{c:Act}(h:FrE b i a n c0 R k T c):∃ u:Nat→Value,c=⟨#[u 0,.pointer (some ⟨b,0,none⟩),.pointer (some ⟨b+1,0,none⟩),.bool false,.pointer (some ⟨b+2,0,none⟩),u 5,u 6,u 7,.int .i64 i,.slice a n c0,.pointer (some ⟨R,0,none⟩),.int .i64 k,.pointer (some ⟨T,0,none⟩),u 13,u 14,u 15,u 16,u 17,u 18,u 19,u 20,u 21,u 22,u 23,u 24,u 25,u 26,u 27,u 28,u 29,u 30,u 31,u 32,u 33,u 34,u 35,u 36,u 37,u 38,u 39,u 40,u 41,u 42,u 43,u 44,u 45,u 46,u 47,u 48,u 49,u 50,u 51,u 52,u 53,u 54,u 55,u 56,u 57,u 58,u 59,u 60,u 61,u 62,u 63,u 64,u 65,u 66,u 67,u 68,u 69,u 70,u 71,u 72,u 73,u 74,u 75,u 76,u 77,u 78,u 79,u 80,u 81,u 82,u 83,u 84,u 85,u 86,u 87,u 88,u 89,u 90,u 91,u 92,u 93,u 94,u 95,u 96,u 97,u 98,u 99,u 100,u 101,u 102,u 103,u 104,u 105,u 106,u 107,u 108,u 109,u 110,u 111,u 112,u 113,u 114,u 115,u 116,u 117,u 118,u 119,u 120,u 121,u 122,u 123,u 124,u 125,u 126,u 127,u 128,u 129,u 130,u 131,u 132,u 133,u 134,u 135,u 136,u 137,u 138,u 139,u 140,u 141,u 142,u 143,u 144,u 145,u 146,u 147,u 148,u 149,u 150,u 151,u 152,u 153,u 154,u 155,u 156,u 157,u 158,u 159,u 160,u 161,u 162,u 163,u 164,u 165,u 166,u 167,u 168,u 169,u 170,u 171,u 172,u 173,u 174,u 175,u 176,u 177,u 178,u 179,u 180,u 181,u 182,u 183,u 184,u 185,u 186,u 187,u 188,u 189,u 190,u 191,u 192,u 193,u 194,u 195,u 196,u 197,u 198,u 199,u 200,u 201,u 202,u 203,u 204,u 205,u 206,u 207,u 208,u 209,u 210,u 211,u 212,u 213,u 214,u 215,u 216,u 217,u 218,u 219,u 220,u 221,u 222,u 223,u 224,u 225,u 226,u 227,u 228,u 229,u 230,u 231,u 232,u 233,u 234,u 235,u 236,u 237,u 238,u 239,u 240],[]⟩:=by
 obtain ⟨hd,hs,h1,h2,h3,h4,h8,h9,h10,h11,h12⟩:=h
 refine ⟨fun n=>c.tmps.getD n undef,?_⟩
 obtain ⟨t,d⟩:=c
 simp only at hd hs h1 h2 h3 h4 h8 h9 h10 h11 h12 ⊢
 subst hd
 congr 1
 refine (arr_lit t hs).trans ?_
 rw [lit_all]
 simp only [h1,h2,h3,h4,h8,h9,h10,h11,h12]
structure FrF (b i:Nat)(a:Option Addr)(n c0 R k T G:Nat)(c:Act):Prop where
 df:c.defers=[]
 sz:c.tmps.size=241
 s1:c.tmps.getD 1 undef=.pointer (some ⟨b,0,none⟩)
 s2:c.tmps.getD 2 undef=.pointer (some ⟨b+1,0,none⟩)
 s3:c.tmps.getD 3 undef=.bool false
 s4:c.tmps.getD 4 undef=.pointer (some ⟨b+2,0,none⟩)
 s8:c.tmps.getD 8 undef=.int .i64 i
 s9:c.tmps.getD 9 undef=.slice a n c0
 s10:c.tmps.getD 10 undef=.pointer (some ⟨R,0,none⟩)
 s11:c.tmps.getD 11 undef=.int .i64 k
 s12:c.tmps.getD 12 undef=.pointer (some ⟨T,0,none⟩)
 s13:c.tmps.getD 13 undef=.pointer (some ⟨G,0,none⟩)
set_option maxRecDepth 100000 in
theorem frf_lit {b i:Nat}{a:Option Addr}{n c0 R k T G:Nat}{c:Act}(h:FrF b i a n c0 R k T G c):∃ u:Nat→Value,c=⟨#[u 0,.pointer (some ⟨b,0,none⟩),.pointer (some ⟨b+1,0,none⟩),.bool false,.pointer (some ⟨b+2,0,none⟩),u 5,u 6,u 7,.int .i64 i,.slice a n c0,.pointer (some ⟨R,0,none⟩),.int .i64 k,.pointer (some ⟨T,0,none⟩),.pointer (some ⟨G,0,none⟩),u 14,u 15,u 16,u 17,u 18,u 19,u 20,u 21,u 22,u 23,u 24,u 25,u 26,u 27,u 28,u 29,u 30,u 31,u 32,u 33,u 34,u 35,u 36,u 37,u 38,u 39,u 40,u 41,u 42,u 43,u 44,u 45,u 46,u 47,u 48,u 49,u 50,u 51,u 52,u 53,u 54,u 55,u 56,u 57,u 58,u 59,u 60,u 61,u 62,u 63,u 64,u 65,u 66,u 67,u 68,u 69,u 70,u 71,u 72,u 73,u 74,u 75,u 76,u 77,u 78,u 79,u 80,u 81,u 82,u 83,u 84,u 85,u 86,u 87,u 88,u 89,u 90,u 91,u 92,u 93,u 94,u 95,u 96,u 97,u 98,u 99,u 100,u 101,u 102,u 103,u 104,u 105,u 106,u 107,u 108,u 109,u 110,u 111,u 112,u 113,u 114,u 115,u 116,u 117,u 118,u 119,u 120,u 121,u 122,u 123,u 124,u 125,u 126,u 127,u 128,u 129,u 130,u 131,u 132,u 133,u 134,u 135,u 136,u 137,u 138,u 139,u 140,u 141,u 142,u 143,u 144,u 145,u 146,u 147,u 148,u 149,u 150,u 151,u 152,u 153,u 154,u 155,u 156,u 157,u 158,u 159,u 160,u 161,u 162,u 163,u 164,u 165,u 166,u 167,u 168,u 169,u 170,u 171,u 172,u 173,u 174,u 175,u 176,u 177,u 178,u 179,u 180,u 181,u 182,u 183,u 184,u 185,u 186,u 187,u 188,u 189,u 190,u 191,u 192,u 193,u 194,u 195,u 196,u 197,u 198,u 199,u 200,u 201,u 202,u 203,u 204,u 205,u 206,u 207,u 208,u 209,u 210,u 211,u 212,u 213,u 214,u 215,u 216,u 217,u 218,u 219,u 220,u 221,u 222,u 223,u 224,u 225,u 226,u 227,u 228,u 229,u 230,u 231,u 232,u 233,u 234,u 235,u 236,u 237,u 238,u 239,u 240],[]⟩:=by
 obtain ⟨hd,hs,h1,h2,h3,h4,h8,h9,h10,h11,h12,h13⟩:=h
 refine ⟨fun n=>c.tmps.getD n undef,?_⟩
 obtain ⟨t,d⟩:=c
 simp only at hd hs h1 h2 h3 h4 h8 h9 h10 h11 h12 h13 ⊢
 subst hd
 congr 1
 refine (arr_lit t hs).trans ?_
 rw [lit_all]
 simp only [h1,h2,h3,h4,h8,h9,h10,h11,h12,h13]
end Go.Proofs.YtachghaegokpdaaDoor
namespace Go.Proofs.YtachghaegokpdaaDoor
open Go.ChangeShapes Go.WideShapes Go.ChangeAt Go.RowKit Go.Shelf
theorem rws_ne {w:World}{b b':Nat}{e e':TypeId}{s s':Nat}{v v':Value}{n n':Nat}{xs xs':List Value}(h:w.ownsRow b e s v n xs)(h':w.ownsRow b' e' s' v' n' xs')(hne:e≠e'):∀ k,v.ownBlock=some k→v'.ownBlock≠some k:=by
 intro k hk hk'
 rcases h.2 with ⟨rfl,_⟩|⟨g,cap,cur,rfl,_,hg,_⟩
 · simp [Value.ownBlock] at hk
 rcases h'.2 with ⟨rfl,_⟩|⟨g',cap',cur',rfl,_,hg',_⟩
 · simp [Value.ownBlock] at hk'
 simp [Value.ownBlock] at hk hk'
 subst hk
 subst hk'
 rw [hg] at hg'
 injection hg' with hg'
 injection hg' with _ ht
 exact hne ht
theorem rws_other {w w':World}{row:Option Nat}(hg:w.grownBy w' row){b:Nat}{e:TypeId}{s:Nat}{v:Value}{n:Nat}{xs:List Value}(h:w.ownsRow b e s v n xs)(hne:∀ k,v.ownBlock=some k→row≠some k):w'.ownsRow b e s v n xs:=by
 obtain ⟨hl,h'⟩:=h
 refine ⟨hl,?_⟩
 rcases h' with h1|⟨g',cap',cur,hv,h1,hg',h2⟩
 · exact .inl h1
 · have hlt:=blk_lt hg'
   subst hv
   exact .inr ⟨g',cap',cur,rfl,h1,(hg.block g' hlt (fun e=>hne g' (by simp [Value.ownBlock]) e.symm)).trans hg',h2⟩
theorem step2 {C:Nat}{w0 wr W2 W8:World}{nm nv v4:Value}{ty e:TypeId}{sz n m:Nat}{xs xs':List Value}(hb:Below C w0 wr)(hC:wr.heap[C]?=some (.cells #[nm,nv] ty (0,0)))(hrow:wr.ownsRow (C+1) e sz nv n xs)(h2:Below wr.heap.size wr W2)
  (hg:W2.grownBy W8 nv.ownBlock) (ho:W8.ownsRow (C+1) e sz v4 m xs') :
  Below C w0 (W8.setCell ⟨C,1,none⟩ v4)∧(W8.setCell ⟨C,1,none⟩ v4).heap[C]?=some (.cells #[nm,v4] ty (0,0))∧(W8.setCell ⟨C,1,none⟩ v4).ownsRow (C+1) e sz v4 m xs'∧W8.heap[C]?=some (.cells #[nm,nv] ty (0,0)):=by
 have hlt:=blk_lt hC
 have hC8:W8.heap[C]?=some (.cells #[nm,nv] ty (0,0)):=(hg.block C (Nat.lt_of_lt_of_le hlt h2.size) (fun e=>by have:=(ownsRow_lt hrow C e.symm).1;omega)).trans ((h2.block C hlt).trans hC)
 exact ⟨((hb.trans (h2.mono (Nat.le_of_lt hlt))).grown hg (by have:=h2.size;omega) (fun k hk=>by have:=(ownsRow_lt hrow k hk).1;omega)).setCell (Nat.le_refl _) v4,(blk_set hC8 1 v4).trans rfl,ownsRow_setCell_below ho (Nat.lt_succ_self C) v4,hC8⟩
theorem two_str (W:World)(x y:Int):(convert 22 9 (.slice (some ⟨W.heap.size,0,none⟩) 2 2)).run Tryd.prog (W.alloc (.cells #[.int .u8 x,.int .u8 y] 5))=.ok (.string (strOfNums [x,y])) (W.alloc (.cells #[.int .u8 x,.int .u8 y] 5)):=by
 refine run_convert_bytes_arg (P:=Tryd.prog) _ 22 5 Tryd.underlying22 Tryd.underlying5 W.heap.size 0 2 2 [x,y] rfl (fun k hk=>?_) 9 Tryd.underlying9
 have:k=0∨k=1:=by omega
 rcases this with rfl|rfl
 · rw [cell_of_row _ _ _ _ _ (0,0) (heap_alloc_new W _)]
   rfl
 · rw [cell_of_row _ _ _ _ _ (0,0) (heap_alloc_new W _)]
   rfl
def valsL (k:Nat):List ByteArray:=(List.range k).map valName
theorem valsL_succ (k:Nat):valsL (k+1)=valsL k++[valName k]:=by simp [valsL,List.range_succ]
theorem valsL_length (k:Nat):(valsL k).length=k:=by simp [valsL]
theorem strsCells_succ (k:Nat):strsCells (valsL (k+1))=strsCells (valsL k)++[.string (valName k)]:=by rw [valsL_succ,strsCells_snoc];rfl
set_option maxRecDepth 100000 in
theorem vals_wp {Q:Exit→Act→World→Prop}{c:Act}{w0:World}{b i C n0 c0 z B off:Nat}{x1 x2 x3 nm:Value}(hc:FrB b i C 0 c)(hbox:w0.heap[b]?=some (.cells #[.slice (some ⟨B,off,none⟩) n0 c0,x1,x2,x3] 25 (0,0)))(hbC:b<C)(hBC:B<C)
  (hz:w0.cell? ⟨B,off+i,none⟩=some (.int .u8 z)) (hz2:z≤255) (hi:i<n0) (hC:w0.heap[C]?=some (.cells #[nm,.slice none 0 0] 96 (0,0)))
  (hQ:∀ c' w' nv,FrB b i C (z % 32+1) c'→Below C w0 w'→w'.heap[C]?=some (.cells #[nm,nv] 96 (0,0))→w'.ownsRow (C+1) 9 1 nv (z % 32+1) (strsCells (valsL (z % 32+1)))→Q (.exit 2) c' w') :
  Code.wp Tryd.prog (Code.loop (madeLoop 1)) Q c w0:=by
 refine wp_loop (fun c' w'=>∃ (k:Nat) (nv:Value),k≤z % 32+1∧FrB b i C k c'∧Below C w0 w'∧w'.heap[C]?=some (.cells #[nm,nv] 96 (0,0))∧w'.ownsRow (C+1) 9 1 nv k (strsCells (valsL k)))
  (fun c' _=>z % 32+2-(intOf (c'.tmps.getD 7 undef)).toNat) ⟨0,_,Nat.zero_le _,hc,Below.refl _ _,hC,World.ownsRow_nil _ _ _ _⟩ ?_
 clear hc hC
 rintro c wr ⟨k,nv,hk,hc,hb,hC,hrow⟩
 have HB:=Lib.hid hb
 have HQ:=Lib.hid hQ
 have HCB:=Lib.hid hC
 have HROW:=Lib.hid hrow
 obtain ⟨u,rfl⟩:=frb_lit hc
 have hbx:=blk_below hbox hb hbC
 have y0:=(blk_cell hbx 0).trans rfl
 have hq:=(hb.cell (p:=⟨B,off+i,none⟩) hBC).trans hz
 have hmod:(z:Int) % 32=((z % 32:Nat):Int):=by omega
 have hz32:z % 32<32:=by omega
 obtain ⟨nva,nvc,rfl⟩:=ownsRow_form hrow
 obtain ⟨hCl,c0',c1',f0,f1⟩:=blk2 hC
 obtain ⟨i0,hi0,hzz0,hzz1,hzz2⟩:=info_parts str_info
 have I1:=Lib.hid hi0
 have I2:=Lib.hid hzz0
 have I3:=Lib.hid hzz1
 have I4:=Lib.hid hzz2
 have kc:=two_str
 generalize z % 32=cn at *
 clear hc hQ hb hC hrow hbx hz hbox hi0 hzz0 hzz1 hzz2
 conv=>arg 2;whnf
 by_cases hkl:k≤cn
 · have hsz:¬9223372036854775807<1+(strOfNums [97+(k:Int) % 26,97+(k:Int) / 26]).size:=by rw [strOfNums_size];simp
   obtain ⟨hb2,hB1,hB2⟩:=two_start wr #[.int .u8 (97+(k:Int) % 26),.int .u8 (97+(k:Int) / 26)] #[.string (valName k)] 5 9
   have HB2:=Lib.hid hb2
   have HBB:=Lib.hid hB2
   clear hb2 hB1 hB2
   go_wp2_with (at_builtin;refine wpList_append_own _ rfl (.tmp 65) (.tmp 77) 94 rfl (C+1) 9 i0 _ 1 16 Tryd.underlying94 I1.out I2.out I3.out I4.out rfl (by decide) _ k (strsCells (valsL k)) rfl (row_keep HB2.out HROW.out) _ 1 1 [.string (valName k)] rfl rfl (World.news_of_block HBB.out) (by intro u hu;rw [List.mem_singleton.1 hu];rfl) (by unfold maxLen;omega) (by omega) (by simp;omega) ?_;intro v4 W8 hown4 hg4 hx;clear hx;obtain ⟨s1,s2,s3,s4⟩:=step2 HB.out HCB.out HROW.out HB2.out hg4 hown4;obtain ⟨_,d0,d1,e0,e1⟩:=blk2 s4;have S1:=Lib.hid s1;have S2:=Lib.hid s2;have S3:=Lib.hid s3;obtain ⟨a4,m4,rfl⟩:=ownsRow_form hown4;clear s1 s2 s3 s4 hown4 hg4)
   refine ⟨⟨k+1,_,by omega,⟨rfl,rfl,rfl,rfl,rfl,rfl,rfl,rfl,rfl⟩,S1.out,S2.out,by rw [strsCells_succ];exact S3.out⟩,?_⟩
   show cn+2-(intOf (.int .i64 ((k:Int)+1))).toNat<cn+2-(intOf (.int .i64 (k:Int))).toNat
   simp [intOf];omega
 · obtain rfl:k=cn+1:=by omega
   clear hkl
   go_wp2
   exact HQ.out _ _ _ ⟨rfl,rfl,rfl,rfl,rfl,rfl,rfl,rfl,rfl⟩ HB.out HCB.out HROW.out
end Go.Proofs.YtachghaegokpdaaDoor
namespace Go.Proofs.YtachghaegokpdaaDoor
open Go.ChangeShapes Go.WideShapes Go.ChangeAt Go.RowKit Go.Shelf
theorem mem_snc {α:Type}{l:List α}{a p:α}(h:p ∈ l++[a]):p ∈ l∨p=a:=by
 rcases List.mem_append.1 h with h|h
 · exact .inl h
 · exact .inr (List.mem_singleton.1 h)
theorem SchAt.enum {A rt:Nat}{W W4:World}{ss:List (SRec × Value)}{es:List (SCho × Value)}{sv ev:Value}(h:SchAt A W ss es sv ev rt){q:SCho × Value}(hq:W.ownsRow (A+1) 9 1 q.2 q.1.names.length (strsCells q.1.names))
  (hg:W.grownBy W4 ev.ownBlock) {ev':Value} (hown:W4.ownsRow (A+1) 96 2 ev' (es.length+1) (schosCells es++schoCells q)):SchAt A (W4.setCell ⟨A,1,none⟩ ev') ss (es++[q]) sv ev' rt:=by
 have hA:∀ k,ev.ownBlock=some k→A≠k:=fun k hk=>by have:=(ownsRow_lt h.rows.enums k hk).1;omega
 have hb4:W4.heap[A]?=some (.cells #[sv,ev,.int .i64 rt] 33 (0,0)):=(hg.block A (blk_lt h.blk) (fun e=>hA A e.symm rfl)).trans h.blk
 have key:∀ {e:TypeId} {s:Nat} {v:Value} {n:Nat} {xs:List Value},W.ownsRow (A+1) e s v n xs→e≠96 → (W4.setCell ⟨A,1,none⟩ ev').ownsRow (A+1) e s v n xs:=fun ho hne =>
  ownsRow_setCell_below (rws_other hg ho (rws_ne ho h.rows.enums hne)) (Nat.lt_succ_self A) _
 refine ⟨(blk_set hb4 1 ev').trans rfl,key h.rows.structs (by decide),?_,fun r hr=>key (h.rows.fields r hr) (by decide),fun r hr=>?_⟩
 · rw [schosCells_snoc,List.length_append]
   exact ownsRow_setCell_below hown (Nat.lt_succ_self A) _
 · rcases mem_snc hr with hr|rfl
   · exact key (h.rows.names r hr) (by decide)
   · exact key hq (by decide)
theorem SchAt.strct {A rt:Nat}{W W4:World}{ss:List (SRec × Value)}{es:List (SCho × Value)}{sv ev:Value}(h:SchAt A W ss es sv ev rt){q:SRec × Value}(hq:W.ownsRow (A+1) 60 5 q.2 q.1.fields.length (sfldsCells q.1.fields))
  (hg:W.grownBy W4 sv.ownBlock) {sv':Value} (hown:W4.ownsRow (A+1) 36 2 sv' (ss.length+1) (srecsCells ss++srecCells q)):SchAt A (W4.setCell ⟨A,0,none⟩ sv') (ss++[q]) es sv' ev rt:=by
 have hA:∀ k,sv.ownBlock=some k→A≠k:=fun k hk=>by have:=(ownsRow_lt h.rows.structs k hk).1;omega
 have hb4:W4.heap[A]?=some (.cells #[sv,ev,.int .i64 rt] 33 (0,0)):=(hg.block A (blk_lt h.blk) (fun e=>hA A e.symm rfl)).trans h.blk
 have key:∀ {e:TypeId} {s:Nat} {v:Value} {n:Nat} {xs:List Value},W.ownsRow (A+1) e s v n xs→e≠36 → (W4.setCell ⟨A,0,none⟩ sv').ownsRow (A+1) e s v n xs:=fun ho hne =>
  ownsRow_setCell_below (rws_other hg ho (rws_ne ho h.rows.structs hne)) (Nat.lt_succ_self A) _
 refine ⟨(blk_set hb4 0 sv').trans rfl,?_,key h.rows.enums (by decide),fun r hr=>?_,fun r hr=>key (h.rows.names r hr) (by decide)⟩
 · rw [srecsCells_snoc,List.length_append]
   exact ownsRow_setCell_below hown (Nat.lt_succ_self A) _
 · rcases mem_snc hr with hr|rfl
   · exact key (h.rows.fields r hr) (by decide)
   · exact key hq (by decide)
theorem bel_app {A:Nat}{W W2 W4:World}{row:Option Nat}(h2:Below W.heap.size W W2)(hA:A<W.heap.size)(hg:W2.grownBy W4 row)(hr:∀ k,row=some k→A≤k)(i:Nat)(v:Value):Below A W (W4.setCell ⟨A,i,none⟩ v):=
 ((h2.mono (Nat.le_of_lt hA)).grown hg (by have:=h2.size;omega) hr).setCell (p:=⟨A,i,none⟩) (Nat.le_refl _) v
set_option maxRecDepth 100000 in
set_option maxHeartbeats 4000000 in
theorem enums_wp {Q:Exit→Act→World→Prop}{c:Act}{w w0:World}{p:Plan}{a0 a1:Option Addr}{n0 c0 n1 c1 b rt:Nat}(hp:IsPlan w p a0 n0 c0 a1 n1 c1)(h8:n0≤8)(hc:FrA b 0 c)
  (hk:MKeeps w b (.slice a0 n0 c0) (.slice a1 n1 c1) p.root p.tree w0) (hs:SchAt (b+2) w0 [] [] (.slice none 0 0) (.slice none 0 0) rt)
  (hQ:∀ c' w' es ev,FrA b n0 c'→MKeeps w b (.slice a0 n0 c0) (.slice a1 n1 c1) p.root p.tree w'→SchAt (b+2) w' [] es (.slice none 0 0) ev rt→es.map Prod.fst=chosP p n0→Q (.exit 0) c' w') :
  Code.wp Tryd.prog (Code.loop (madeLoop 0)) Q c w0:=by
 refine wp_loop (fun c' w'=>∃ (i:Nat) (es:List (SCho × Value)) (ev:Value),i≤n0∧FrA b i c'∧MKeeps w b (.slice a0 n0 c0) (.slice a1 n1 c1) p.root p.tree w'∧SchAt (b+2) w' [] es (.slice none 0 0) ev rt∧es.map Prod.fst=chosP p i)
  (fun c' _=>n0-(intOf (c'.tmps.getD 5 undef)).toNat) ⟨0,[],_,Nat.zero_le _,hc,hk,hs,rfl⟩ ?_
 clear hc hk hs
 rintro c wr ⟨i,es,ev,hi,hc,hk,hs,hes⟩
 have HP:=Lib.hid hp
 have HQ:=Lib.hid hQ
 have HK:=Lib.hid hk
 have HS:=Lib.hid hs
 have HES:=Lib.hid hes
 have hesl:es.length=i:=by have:=congrArg List.length hes;rw [chosP_length] at this;simpa using this
 obtain ⟨u,rfl⟩:=fra_lit hc
 have y0:=(blk_cell hk.box 0).trans rfl
 have hbl:b+2<wr.heap.size:=blk_lt hs.blk
 clear hc hQ hk hs hp hes
 conv=>arg 2;whnf
 by_cases hlt:i<n0
 · obtain ⟨hz2,B,off,rfl,hB0,hz⟩:=HP.out.e_at i hlt
   have hB:B<b:=by rw [HK.out.hb];exact hB0
   have HNS:Hid ((choP p i).names=valsL (p.enums.getD i 0 % 32+1)):=Lib.hid rfl
   generalize p.enums.getD i 0=z at *
   have HESL:=Lib.hid hesl
   have hesl2:es.length≤8:=by omega
   clear hesl
   have hzr:=(HK.out.bel.cell (p:=⟨B,off+i,none⟩) hB).trans hz
   have kc:=one_str
   have hsz:¬9223372036854775807<1+(strOfNums [97+(i:Int)]).size:=by rw [strOfNums_size];simp
   obtain ⟨hb2,hB1,hB2⟩:=two_start wr #[.int .u8 (97+(i:Int))] #[.string (enumName i),.slice none 0 0] 5 96
   have hzr2:=(hb2.cell (p:=⟨B,off+i,none⟩) (by show B<_;omega)).trans hzr
   have HB2:=Lib.hid hb2
   have HBB:=Lib.hid hB2
   have HZR2:=Lib.hid hzr2
   have HZ2:=Lib.hid hz2
   have HBX:=Lib.hid (blk_below HK.out.box hb2 (by omega))
   clear hz hzr hb2 hB1 hB2 hzr2 hB0
   go_wp2_with fail
   refine vals_wp (C:=wr.heap.size+1) (z:=z) (nm:=.string (enumName i)) ⟨rfl,rfl,rfl,rfl,rfl,rfl,rfl,rfl,rfl⟩ HBX.out (by omega) (by omega) HZR2.out HZ2.out hlt HBB.out ?_
   intro c2 w2 nv hf hbel hC2 hrow2
   obtain ⟨nva,nvc,rfl⟩:=ownsRow_form hrow2
   have hb3:Below wr.heap.size wr w2:=HB2.out.trans (hbel.mono (by omega))
   have hs2:=HS.out.below hb3
   have HS2:=Lib.hid hs2
   have HK2:=Lib.hid (HK.out.below hb3 (by omega))
   have HROW:=Lib.hid hrow2
   obtain ⟨_,z0,z1,z2,f0,f1,f2⟩:=blk3 hs2.blk
   obtain ⟨hCl,d0,d1,_⟩:=blk2 hC2
   obtain ⟨eva,evc,rfl⟩:=ownsRow_form hs2.rows.enums
   obtain ⟨i0,hi0,hzz0,hzz1,hzz2⟩:=info_parts scho_info
   have I1:=Lib.hid hi0
   have I2:=Lib.hid hzz0
   have I3:=Lib.hid hzz1
   have I4:=Lib.hid hzz2
   have hbs:b+2<w2.heap.size:=blk_lt hs2.blk
   have HBN:=Lib.hid (heap_alloc_new w2 (.cells #[.string (enumName i),.slice nva (z % 32+1) nvc] 96))
   have HBA:=Lib.hid ((Below.refl w2.heap.size w2).alloc (Nat.le_refl _) (.cells #[.string (enumName i),.slice nva (z % 32+1) nvc] 96))
   obtain ⟨u2,rfl⟩:=frb_lit hf
   clear hf hbel hC2 hrow2 hb3 hs2 hi0 hzz0 hzz1 hzz2 HS HK y0 kc hsz hz2
   simp only [Exit.inBlock,Exit.then]
   apply_assumption
   go_wp2_with (at_builtin;refine wpList_append_own _ rfl (.tmp 81) (.tmp 83) 31 rfl (b+2+1) 96 i0 _ 2 40 Tryd.underlying31 I1.out I2.out I3.out I4.out rfl (by decide) _ es.length (schosCells es) rfl (row_keep HBA.out HS2.out.rows.enums) _ 1 1 [.string (enumName i),.slice nva (z % 32+1) nvc] rfl rfl (World.news_of_block HBN.out) (by intro u hu;simp at hu;rcases hu with rfl|rfl<;>rfl) (by unfold maxLen;omega) (by omega) (by simp;omega) ?_;intro v4 W8 hown4 hg4 hx;clear hx;obtain ⟨a4,m4,rfl⟩:=ownsRow_form hown4;have s5:=SchAt.enum (q:=(choP p i,.slice nva (z % 32+1) nvc)) (HS2.out.below HBA.out) (by have h:=ownsRow_base (row_keep HBA.out HROW.out) (show b+2+1≤wr.heap.size+1+1 by omega);show World.ownsRow _ _ _ _ _ (choP p i).names.length (strsCells (choP p i).names);rw [HNS.out,valsL_length];exact h) hg4 hown4;have s4:W8.heap[b+2]?=some (.cells #[.slice none 0 0,.slice eva es.length evc,.int .i64 rt] 33 (0,0)):=(hg4.block (b+2) (by simp;omega) (fun e=>by have:=(ownsRow_lt HS2.out.rows.enums _ e.symm).1;omega)).trans (HS2.out.below HBA.out).blk;obtain ⟨_,p0,p1,p2,q0,q1,q2⟩:=blk3 s4;have S5:=Lib.hid s5;have S6:=Lib.hid (bel_app HBA.out hbs hg4 (fun k hk=>by have:=(ownsRow_lt HS2.out.rows.enums k hk).1;omega) 1 (.slice a4 (es.length+1) m4));clear s5 s4 hown4 hg4)
   refine ⟨⟨i+1,_,_,by omega,⟨rfl,rfl,rfl,rfl,rfl,rfl,rfl⟩,HK2.out.below S6.out (Nat.le_refl _),S5.out,by rw [List.map_append,HES.out,chosP_succ];rfl⟩,?_⟩
   show n0-(intOf (.int .i64 ((i:Int)+1))).toNat<n0-(intOf (.int .i64 (i:Int))).toNat
   simp [intOf];omega
 · obtain rfl:i=n0:=by omega
   clear hlt
   go_wp2
   exact HQ.out _ _ _ _ ⟨rfl,rfl,rfl,rfl,rfl,rfl,rfl⟩ HK.out HS.out HES.out
end Go.Proofs.YtachghaegokpdaaDoor
