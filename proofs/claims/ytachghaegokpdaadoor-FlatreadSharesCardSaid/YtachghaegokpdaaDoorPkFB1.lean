/-
  The statement of the law FlatreadLoops, from its walk: for every input that can be read the law returns true, and its arguments read as they did. Conditions: those of the given row (the listed tables hold what the program's text lays; the card ties them).
-/
import Derived.Test.YtachghaegokpdaaDoorPkFC1
import Derived.Test.YtachghaegokpdaaDoorPkFC2
import Derived.Test.YtachghaegokpdaaDoorPkFC8
import Derived.Test.YtachghaegokpdaaDoorPkFC11
import Derived.Test.YtachghaegokpdaaDoorPkFC41
import Derived.Laws.AppendOwn
import Derived.Laws.AppendOwnNone
import Derived.Deep.AppendLies
import Derived.OwnWalk
import Derived.Deep.AppendSrc
import Derived.Laws.MakeOwn
import Derived.Laws.CopyOwn
import Derived.Test.YtachghaegokpdaaDoorCards
import Derived.Test.YtachghaegokpdaaDoorTie
namespace Go.Proofs.YtachghaegokpdaaDoor
open Go.ChangeShapes Go.WideShapes Go.ChangeAt Go.RowKit
def OwnB (w:World)(base:Nat)(v:Value)(zs:List Int):Prop:=
 ∃ g cap,v=.slice (some ⟨g,0,none⟩) zs.length cap∧base≤g∧g<w.heap.size∧zs.length≤cap∧cap≤maxLen∧(∀ i,i<zs.length→w.cell? ⟨g,i,none⟩=some (.int .u8 (zs.getD i 0)))∧(∀ i,w.frozen? ⟨g,i,none⟩=false)
theorem ownB_of_row {w:World}{base:Nat}{v:Value}{n:Nat}{zs:List Int}{e:TypeId}(h:w.ownsRow base e 1 v n (u8s zs))(hne:v≠.slice none 0 0):OwnB w base v zs:=by
 obtain ⟨hl,h'⟩:=h
 rcases h' with ⟨rfl,_⟩|⟨g,cap,cur,rfl,hb,hg,hn,hm,hs,ht⟩
 · exact absurd rfl hne
 · have hn':n=zs.length:=by simpa [u8s] using hl.symm
   subst hn'
   have hlt:g<w.heap.size:=by
    rcases Nat.lt_or_ge g w.heap.size with h|h
    · exact h
    · rw [Array.getElem?_eq_none h] at hg;cases hg
   refine ⟨g,cap,rfl,hb,hlt,hn,hm,fun i hi=>?_,fun i=>?_⟩
   · have h1:(cur.toList.take (zs.length * 1))[i]?=some (Value.int .u8 (zs.getD i 0)):=by
      rw [ht];simp [u8s,List.getD,hi]
     rw [Nat.mul_one,List.getElem?_take,if_pos hi] at h1
     rw [cell_of_row w g i cur e (0,0) hg]
     simpa using h1
   · simp [World.frozen?,hg]
end Go.Proofs.YtachghaegokpdaaDoor
namespace Go.Proofs.YtachghaegokpdaaDoor
open Go.ChangeShapes Go.WideShapes Go.ChangeAt Go.RowKit
section
variable {P:Program} (w:World)
end
theorem OwnR.facts {w:World}{base:Nat}{e:TypeId}{g n cap:Nat}{zs:List Int}(h:OwnR w base e g n cap zs) :
  zs.length=n∧base≤g∧g<w.heap.size∧n≤cap∧cap≤maxLen∧(∀ i,i<zs.length→w.cell? ⟨g,i,none⟩=some (.int .u8 (zs.getD i 0)))∧(∀ i,w.frozen? ⟨g,i,none⟩=false):=by
 have hl:zs.length=n:=by have:=h.1;simpa [u8s] using this
 obtain ⟨g',cap',hv,h1,h2,h3,h4,h5,h6⟩:=ownB_of_row h (by intro h;cases h)
 cases hv
 exact ⟨hl,h1,h2,by omega,h4,h5,h6⟩
end Go.Proofs.YtachghaegokpdaaDoor
namespace Go.Proofs.YtachghaegokpdaaDoor
open Go.ChangeShapes Go.WideShapes Go.ChangeAt Go.RowKit
def zeros (n:Nat):List Int:=List.replicate n 0
end Go.Proofs.YtachghaegokpdaaDoor
namespace Go.Proofs.YtachghaegokpdaaDoor
open Go.ChangeShapes Go.WideShapes Go.ChangeAt Go.RowKit
theorem OwnR.of_block {w w':World}{base:Nat}{e:TypeId}{g n cap:Nat}{zs:List Int}(h:OwnR w base e g n cap zs)(hb:w'.heap[g]?=w.heap[g]?):OwnR w' base e g n cap zs:=by
 obtain ⟨hl,h'⟩:=h
 refine ⟨hl,?_⟩
 rcases h' with h1|⟨g',cap',cur,hv,h1,hg,h2⟩
 · exact .inl h1
 · cases hv
   exact .inr ⟨g,cap,cur,rfl,h1,hb.trans hg,h2⟩
theorem OwnR.below {w w':World}{base B:Nat}{e:TypeId}{g n cap:Nat}{zs:List Int}(h:OwnR w base e g n cap zs)(hb:Below B w w')(hg:g<B):OwnR w' base e g n cap zs:=h.of_block (hb.block g hg)
theorem OwnR.grown {w w':World}{base:Nat}{row:Option Nat}{e:TypeId}{g n cap:Nat}{zs:List Int}(h:OwnR w base e g n cap zs)(hb:w.grownBy w' row)(hg:some g≠row):OwnR w' base e g n cap zs:=h.of_block (hb.block g h.facts.2.2.1 hg)
theorem OwnR.part {P:Program}{w w':World}{base:Nat}{e:TypeId}{g n cap:Nat}{zs:List Int}(h:OwnR w base e g n cap zs)(hw:∀ i,w'.cell? ⟨g,i,none⟩=w.cell? ⟨g,i,none⟩)(t d:TypeId)(ht:P.underlying t=some (.slice e))(he:P.underlying e=some (.int .u8))(hd:P.underlying d=some .string)
  (k m c:Nat) (hfit:k+m≤n):(convert t d (.slice (some ⟨g,k,none⟩) m c)).run P w'=.ok (.string (strOfNums ((zs.drop k).take m))) w':=by
 obtain ⟨hl,_,_,_,_,hc,_⟩:=h.facts
 refine run_convert_bytes_arg (P:=P) w' t e ht he g k m c _ (by simp;omega) (fun i hi=>?_) d hd
 rw [hw,hc (k+i) (by omega)]
 simp [List.getD,hi]
theorem IsRow.part {P:Program}{w w':World}{b off len cap:Nat}{zs:List Int}{e:TypeId}(h:IsRow .u8 w (some ⟨b,off,none⟩) len cap zs)(hb:Below w.heap.size w w')(t d:TypeId)(ht:P.underlying t=some (.slice e))(he:P.underlying e=some (.int .u8))(hd:P.underlying d=some .string)
  (k m c:Nat) (hfit:k+m≤len):(convert t d (.slice (some ⟨b,off+k,none⟩) m c)).run P w'=.ok (.string (strOfNums (((zs.take len).drop k).take m))) w':=by
 obtain ⟨hl,_,hz,_,hp⟩:=h
 refine run_convert_bytes_arg (P:=P) w' t e ht he b (off+k) m c _ (by simp;omega) (fun i hi=>?_) d hd
 obtain ⟨b',off',he',hlt,hc⟩:=hp (by rintro rfl;simp at hz;omega)
 cases he'
 rw [Nat.add_assoc,(hb.cell (p:=⟨b,off+(k+i),none⟩) hlt).trans (hc (k+i) (by omega))]
 have h1:k+i<len:=by omega
 simp [List.getD,hi,h1]
theorem u8s_one (zs:List Int):∀ v ∈ u8s zs,v.oneCell'=true:=by
 intro v hv
 obtain ⟨z,_,rfl⟩:=List.mem_map.1 hv
 rfl
end Go.Proofs.YtachghaegokpdaaDoor
namespace Go.Proofs.YtachghaegokpdaaDoor
open Go.ChangeShapes Go.WideShapes Go.ChangeAt Go.RowKit
theorem zeroCells_u8 (m:Nat):Builtin.zeroCells (Value.int .u8 0).cells m=(u8s (zeros m)).toArray:=by
 apply Array.ext'
 simp only [Builtin.zeroCells]
 apply List.ext_getElem?
 intro i
 by_cases hi:i<m
 · simp [zeros,u8s,Value.cells,hi,Nat.mod_one]
 · simp [zeros,u8s,Value.cells,hi]
theorem u8s_append (a b:List Int):u8s (a++b)=u8s a++u8s b:=by simp [u8s]
theorem length_zeros (n:Nat):(zeros n).length=n:=by simp [zeros]
section
variable {P:Program} (w:World)
def OwnV (w:World)(base:Nat)(e:TypeId)(A:Option Addr)(cap:Nat)(zs:List Int):Prop:=w.ownsRow base e 1 (.slice A zs.length cap) zs.length (u8s zs)
def rowOf (A:Option Addr):Option Nat:=A.map (·.block)
theorem run_append_zeros_grow (t tx ty e:TypeId)(i:TypeInfo)(ht:P.underlying t=some (.slice e))(hk:P.underlying tx=some (.int .i64))(hi:P.info? e=some i)(hz:i.zero=some (.int .u8 0))(hsize:i.size=1)(hby:i.bytes=1)
  (A:Option Addr) (n cap:Nat) (olds:List Value) (hold:(Builtin.firstCells 1 n (.slice A n cap)).run P w.drew=.ok olds.toArray w.drew) (m:Nat) (hg:cap<n+m) (hbd:n+m≤140737488355328) :
  (Builtin.append_ #[t,tx] ty #[.slice A n cap,.int .i64 m]).run P w=.ok (.slice (some ⟨w.heap.size,0,none⟩) (n+m) (grownCap w (n+m) cap e))
    (w.drew.alloc (.cells ((olds++u8s (zeros m)).toArray++Builtin.zeroCells (Value.int .u8 0).cells (grownCap w (n+m) cap e-(n+m))) e)):=by
 have hwr:IntKind.i64.wrap (m:Int)=m:=IntWalk.i64_in m (by omega)
 have hm48:¬(281474976710656:Int)<(m:Int):=by omega
 have hm0:¬(m:Int)<0:=by omega
 have hn:¬(n+m≤cap):=by omega
 have h63':¬(9223372036854775807<((n:Int)+(m:Int))):=by omega
 have hfit:=growslice_fits (old:=cap) (need:=n+m) (bytes:=1) hg (by omega)
 have h48':¬(281474976710656<Builtin.nextslicecap (n+m) cap):=by omega
 have hzz:=zeroCells_u8 m
 by_cases h0:m=0
 · subst h0
   have hw0:IntKind.i64.wrap 0=0:=IntWalk.i64_in 0 (by decide)
   rw [Nat.add_zero] at hg
   have hn':¬n≤cap:=by omega
   have h63'':¬(9223372036854775807<(n:Int)):=by omega
   rw [Nat.add_zero] at h48'
   simp [Builtin.append_,run_underlying ht,run_underlying hk,sizeOf,typeInfo,zeroValue,hi,hz,hsize,hby,hw0,asInt,asIntOf,hn',h63'',h48',Question.forced,hold,newRow,grownCap]
   have hu:olds++u8s (zeros 0)=olds:=by simp [u8s,zeros]
   rw [hu]
 · simp [Builtin.append_,run_underlying ht,run_underlying hk,sizeOf,typeInfo,zeroValue,hi,hz,hsize,hby,hwr,asInt,asIntOf,hm48,hm0,hn,h63',h48',h0,Question.forced,hold,newRow,grownCap,hzz]
   congr 2
   apply Array.ext'
   simp [List.append_assoc]
theorem run_append_zeros_room (t tx ty e:TypeId)(i:TypeInfo)(ht:P.underlying t=some (.slice e))(hk:P.underlying tx=some (.int .i64))(hi:P.info? e=some i)(hz:i.zero=some (.int .u8 0))(hsize:i.size=1)(hby:i.bytes=1)
  (g n cap:Nat) (m:Nat) (w':World) (hroom:n+m≤cap) (hbd:n+m≤140737488355328) (hst:(storeCells (⟨g,n,none⟩:Addr) (u8s (zeros m))).run P w=.ok () w') :
  (Builtin.append_ #[t,tx] ty #[.slice (some ⟨g,0,none⟩) n cap,.int .i64 m]).run P w=.ok (.slice (some ⟨g,0,none⟩) (n+m) cap) w':=by
 have hwr:IntKind.i64.wrap (m:Int)=m:=IntWalk.i64_in m (by omega)
 have hm48:¬(281474976710656:Int)<(m:Int):=by omega
 have hm0:¬(m:Int)<0:=by omega
 have hzz:=zeroCells_u8 m
 by_cases h0:m=0
 · subst h0
   have hw0:IntKind.i64.wrap 0=0:=IntWalk.i64_in 0 (by decide)
   rw [Nat.add_zero] at hroom
   have hu:u8s (zeros 0)=[]:=rfl
   rw [hu] at hst
   simp [Builtin.append_,run_underlying ht,run_underlying hk,sizeOf,typeInfo,zeroValue,hi,hz,hsize,hby,hw0,asInt,asIntOf,hroom,Addr.add_lit,hst]
 · simp [Builtin.append_,run_underlying ht,run_underlying hk,sizeOf,typeInfo,zeroValue,hi,hz,hsize,hby,hwr,asInt,asIntOf,hm48,hm0,hroom,h0,hzz,Addr.add_lit,hst]
theorem run_append_zeros (base:Nat)(t tx ty e:TypeId)(i:TypeInfo)(ht:P.underlying t=some (.slice e))(hk:P.underlying tx=some (.int .i64))(hi:P.info? e=some i)(hz:i.zero=some (.int .u8 0))(hsize:i.size=1)(hby:i.bytes=1)
  (A:Option Addr) (cap:Nat) (zs:List Int) (hown:OwnV w base e A cap zs) (m:Nat) (hbd:zs.length+m≤140737488355328) (hbase:base≤w.heap.size) :
  ∃ A' cap' w',(Builtin.append_ #[t,tx] ty #[.slice A zs.length cap,.int .i64 m]).run P w=.ok (.slice A' (zs.length+m) cap') w'∧OwnV w' base e A' cap' (zs++zeros m)∧w.grownBy w' (rowOf A)∧(rowOf A'=rowOf A∨rowOf A'=some w.heap.size):=by
 have hnl:(u8s (zeros m)).length=m:=by simp [u8s,zeros]
 have hll:(zs++zeros m).length=zs.length+m:=by simp [zeros]
 have hlen:(u8s (zs++zeros m)).length=(zs.length+m) * 1:=by simp [u8s,zeros]
 have hoz:(u8s zs).length=zs.length:=by simp [u8s]
 have grown:∀ (old:Nat),old<zs.length+m→∀ (row:Option Nat),
   OwnV (w.drew.alloc (.cells ((u8s zs++u8s (zeros m)).toArray++Builtin.zeroCells (Value.int .u8 0).cells (grownCap w (zs.length+m) old e-(zs.length+m))) e)) base e (some ⟨w.heap.size,0,none⟩) (grownCap w (zs.length+m) old e) (zs++zeros m) ∧
   w.grownBy (w.drew.alloc (.cells ((u8s zs++u8s (zeros m)).toArray++Builtin.zeroCells (Value.int .u8 0).cells (grownCap w (zs.length+m) old e-(zs.length+m))) e)) row:=by
  intro old ho row
  have hge:=grownCap_ge w (zs.length+m) old e
  have hcm:grownCap w (zs.length+m) old e≤maxLen:=grownCap_le_maxLen w (zs.length+m) old e (by unfold maxLen;omega)
  refine ⟨?_,⟨rfl,rfl,rfl,by simp,fun k hk _=>Below.heap_alloc w.drew _ k hk⟩⟩
  unfold OwnV
  rw [hll]
  refine ⟨hlen,.inr ⟨w.heap.size,_,_,rfl,hbase,heap_alloc_new w.drew _,hge,hcm,?_,?_⟩⟩
  · simp only [Array.size_append,List.size_toArray,size_zeroCells,List.length_append,hoz,hnl,Value.cells]
    simp
    omega
  · rw [u8s_append]
    simp only [Array.toList_append]
    rw [←hlen,u8s_append]
    exact List.take_left
 have hown0:=hown
 unfold OwnV at hown
 rcases hown.2 with ⟨hv,hn⟩|⟨g,cap0,cur,hv,hbg,hg,hnc,hcm,hcs,htake⟩
 · injection hv with h1 h2 h3
   subst h1 h3
   have hzs:zs=[]:=List.eq_nil_of_length_eq_zero hn
   subst hzs
   by_cases hm:m=0
   · subst hm
     refine ⟨none,0,w,?_,by simpa [zeros] using hown0,⟨rfl,rfl,rfl,Nat.le_refl _,fun _ _ _=>rfl⟩,.inl rfl⟩
     have hw0:IntKind.i64.wrap 0=0:=IntWalk.i64_in 0 (by decide)
     simp [Builtin.append_,run_underlying ht,run_underlying hk,sizeOf,typeInfo,hi,hby,hw0,asInt,asIntOf]
   · have hr:=run_append_zeros_grow (P:=P) w t tx ty e i ht hk hi hz hsize hby none 0 0 [] (run_firstCells_none w.drew 1 0 0 0) m (by omega) (by simpa using hbd)
     have hgr:=grown 0 (by simp;omega) (rowOf none)
     exact ⟨_,_,_,hr,hgr.1,hgr.2,.inr rfl⟩
 · injection hv with h1 h2 h3
   subst h1 h3
   by_cases hroom:zs.length+m≤cap
   · have hfit:zs.length * 1+(u8s (zeros m)).length≤cur.size:=by rw [hnl,hcs];omega
     have hst:=run_storeCells_at P g zs.length e (u8s (zeros m)) 0 cur w hg (by simpa using hfit) (u8s_one _)
     simp only [Nat.add_zero] at hst
     have hr:=run_append_zeros_room (P:=P) w t tx ty e i ht hk hi hz hsize hby g zs.length cap m _ hroom hbd hst
     refine ⟨_,_,_,hr,?_,⟨rfl,rfl,rfl,by simp,fun k _ hk=>setRow_other w g k _ (fun e=>hk (by simp [rowOf,e]))⟩,.inl rfl⟩
     unfold OwnV
     rw [hll]
     refine ⟨hlen,.inr ⟨g,cap,_,rfl,hbg,setRow_heap w g cur _ e _ hg,hroom,hcm,?_,?_⟩⟩
     · simp only [List.size_toArray,List.length_append,List.length_take,List.length_drop,Array.length_toList]
       omega
     · rw [Nat.mul_one] at htake
       rw [htake,←hlen,u8s_append]
       exact List.take_left
   · have holds:∀ j u,(u8s zs)[j]?=some u→w.cell? ((⟨g,0,none⟩:Addr).add j)=some u:=hown.cells (g:=g) rfl
     have hf:=run_firstCells_some (P:=P) w.drew 1 zs.length ⟨g,0,none⟩ zs.length cap (u8s zs) hown.1 (by simpa using holds)
     have hr:=run_append_zeros_grow (P:=P) w t tx ty e i ht hk hi hz hsize hby (some ⟨g,0,none⟩) zs.length cap (u8s zs) hf m (by omega) hbd
     have hgr:=grown cap (by omega) (rowOf (some ⟨g,0,none⟩))
     exact ⟨_,_,_,hr,hgr.1,hgr.2,.inr rfl⟩
theorem wpList_app_zeros {ops:Array Oper}{rest:List Oper}{o:Oper}{a:Act}{Q:Exit→Act→World→Prop}(hgd:o.guard=none)(s x:Operand)(t tx:TypeId)
  (ho:o.op=.call { callee:=.builtin .append,args:=#[s,x],argTypes:=#[t,tx] })
  (base:Nat) (e:TypeId) (i:TypeInfo) (ht:P.underlying t=some (.slice e)) (hk:P.underlying tx=some (.int .i64)) (hi:P.info? e=some i) (hz:i.zero=some (.int .u8 0)) (hsize:i.size=1) (hby:i.bytes=1)
  (A:Option Addr) (cap:Nat) (zs:List Int) (n m:Nat) (hn:zs.length=n) (hs:a.eval s=.slice A n cap) (hown:OwnV w base e A cap zs) (hx:a.eval x=.int .i64 m) (hbd:n+m≤140737488355328) (hbase:base≤w.heap.size)
  (h:∀ A' cap' w',OwnV w' base e A' cap' (zs++zeros m)→w.grownBy w' (rowOf A)→(rowOf A'=rowOf A∨rowOf A'=some w.heap.size)→wpList P ops Q rest (a.put o.dst (.slice A' (n+m) cap')) w'):wpList P ops Q (o::rest) a w:=by
 subst hn
 obtain ⟨A',cap',w',hrun,h2,h3,h4⟩:=run_append_zeros (P:=P) w base t tx o.type e i ht hk hi hz hsize hby A cap zs hown m hbd hbase
 refine wpList_plain hgd fun _ hK=>?_
 unfold Oper.wp execOp
 simp only [ho,resolve,invoke,builtin,Sem.run_bind,Sem.run_pure,Result.andThen_ok,List.map_toArray,List.map_cons,List.map_nil,hs,hx,hrun]
 exact hK _ _ (h A' cap' w' h2 h3 h4)
end
end Go.Proofs.YtachghaegokpdaaDoor
namespace Go.Proofs.YtachghaegokpdaaDoor
open Go.RowKit
def lpS:SRec:=⟨⟨#[83]⟩,[⟨⟨#[120]⟩,13,0,0,0⟩]⟩
def lpB (x:Int):List Int:=[12,0,0,0,6,0,8,0,4,0,0,0,8,0,0,0,x,0,0,0]
def lpZ (m:Nat):List Int:=lpB (if m % 2=1 then 4 else 0)++zeros m
theorem lp_all:((List.range 256).all fun m=>(flatZ [cR lpS] [] (lpZ m) 12 13 0 0 0 ((lpZ m).length:Nat)).isNone)=true:=by kernel_rfl
theorem lp_none (fv:Value){m:Nat}(hm:m<256):flatZ (sRecs [(lpS,fv)]) ([].map (Prod.fst:SCho × Value→SCho)) (lpZ m) 12 13 ((0:Nat):Int) 0 0 ((lpZ m).length:Nat)=none:=by
 have h:=List.all_eq_true.1 lp_all m (List.mem_range.2 hm)
 exact Option.isNone_iff_eq_none.1 h
theorem lp_M (fv:Value):SchM [(lpS,fv)] ([].map (Prod.fst:SCho × Value→SCho)):=⟨(by decide:1≤16),fun q hq=>by
 rw [List.mem_singleton] at hq
 subst hq
 refine ⟨(by decide:1≤16),fun f hf=>?_⟩
 obtain rfl:f=⟨⟨#[120]⟩,13,0,0,0⟩:=by simpa [lpS] using hf
 exact ⟨⟨by decide,by decide,by decide,fun h=>absurd h (by decide),fun _=>(by decide:0<1)⟩,by decide,fun _ h=>absurd h (by decide)⟩⟩
theorem lp_D (fv:Value):∀ q ∈ [(lpS,fv)],DfltsOk ([].map (Prod.fst:SCho × Value→SCho)) (cR q.1).fields:=fun q hq=>by
 rw [List.mem_singleton] at hq
 subst hq
 intro f hf
 obtain rfl:f=⟨⟨#[120]⟩,13,0,0,0⟩:=by simpa [lpS,cR,cF] using hf
 exact ⟨by decide,fun h=>absurd h (by decide),fun _=>rfl⟩
theorem lp_F (fv:Value):FldsOk (crow [(lpS,fv)]):=fun q hq f hf=>by
 obtain ⟨x,hx,rfl⟩:=List.mem_map.1 hq
 rw [List.mem_singleton] at hx
 subst hx
 obtain rfl:f=⟨⟨#[120]⟩,13,0,0,0⟩:=by simpa [lpS,cR,cF] using hf
 decide
theorem lp_len (x:Int)(m:Nat):(lpB x++zeros m).length=20+m:=by
 rw [List.length_append,length_zeros]
 rfl
theorem lp_set (m:Nat):(lpB 0++zeros m).set 16 4=lpB 4++zeros m:=rfl
theorem lp_rng (x:Int)(hx:0≤x∧x≤255)(m:Nat):∀ z ∈ lpB x++zeros m,0≤z∧z≤255:=fun z hz=>by
 rcases List.mem_append.1 hz with h|h
 · simp only [lpB,List.mem_cons,List.not_mem_nil,or_false] at h
   omega
 · rw [zeros,List.mem_replicate] at h
   omega
end Go.Proofs.YtachghaegokpdaaDoor
namespace Go.Proofs.YtachghaegokpdaaDoor
open Go.ChangeShapes Go.WideShapes Go.ChangeAt Go.RowKit Go.Shelf
theorem u8_infoL:(Tryd.prog.info? 5).map (fun i=>(i.zero,i.size,i.bytes))=some (some (.int .u8 0),1,1):=by kernel_rfl
set_option maxRecDepth 100000 in
set_option maxHeartbeats 16000000 in
theorem floops_go (m:Nat)(hm:m<256)(w:World)(hT:Tabs w):Calls Tryd.prog 13 #[.int .u8 m] w fun e w'=>e=.returned (.bool true)∧Below w.heap.size w w':=by
 have HT:=Lib.hid hT
 have hm2:(m:Int)≤255:=by omega
 have hwm:=IntWalk.i64_in (m:Int) ⟨by omega,by omega⟩
 have hrem:=Int.tmod_eq_emod_of_nonneg (a:=(m:Int)) (b:=2) (by omega)
 have HM:=Lib.hid hm
 clear hT hm
 go_enter Tryd.func13,Tryd.ntmps13
 go_wp2_with fail
 refine (awake10_any w HT.out).mono ?_
 rintro e W1 ⟨rfl,hb1⟩
 have HB1:=Lib.hid hb1
 obtain ⟨hb,hq0,hq1,hq2⟩:=three_start W1 #[.string ⟨#[120]⟩,.int .u8 13,.int .i64 0,.int .i64 0,.int .u64 0] #[.string ⟨#[83]⟩,.slice (some ⟨W1.heap.size,0,none⟩) 1 1] #[.slice (some ⟨W1.heap.size+1,0,none⟩) 1 1,.slice none 0 0,.int .i64 0] 60 36 33
 have HSR:Hid (SchRows W1.heap.size (((W1.alloc (.cells #[.string ⟨#[120]⟩,.int .u8 13,.int .i64 0,.int .i64 0,.int .u64 0] 60)).alloc (.cells #[.string ⟨#[83]⟩,.slice (some ⟨W1.heap.size,0,none⟩) 1 1] 36)).alloc (.cells #[.slice (some ⟨W1.heap.size+1,0,none⟩) 1 1,.slice none 0 0,.int .i64 0] 33)) [(lpS,.slice (some ⟨W1.heap.size,0,none⟩) 1 1)] [] (.slice (some ⟨W1.heap.size+1,0,none⟩) 1 1) (.slice none 0 0)):=Lib.hid {
  structs:=own_blk hq1 (by omega) (by decide) rfl
  enums:=World.ownsRow_nil _ _ _ _
  fields:=fun q hq=>by rw [List.mem_singleton] at hq;subst hq;exact own_blk hq0 (Nat.le_refl _) (by decide) rfl
  names:=fun q hq=>by cases hq }
 have HB:=Lib.hid hb
 have HQ:Hid ((((W1.alloc (.cells #[.string ⟨#[120]⟩,.int .u8 13,.int .i64 0,.int .i64 0,.int .u64 0] 60)).alloc (.cells #[.string ⟨#[83]⟩,.slice (some ⟨W1.heap.size,0,none⟩) 1 1] 36)).alloc (.cells #[.slice (some ⟨W1.heap.size+1,0,none⟩) 1 1,.slice none 0 0,.int .i64 0] 33)).heap[W1.heap.size+1+1]?=some (.cells #[.slice (some ⟨W1.heap.size+1,0,none⟩) 1 1,.slice none 0 0,.int .i64 0] 33 (0,0))):=Lib.hid hq2
 clear hb hq0 hq1 hq2 hb1
 go_upto_region 4 with (fail)
 generalize (((W1.alloc (.cells #[.string ⟨#[120]⟩,.int .u8 13,.int .i64 0,.int .i64 0,.int .u64 0] 60)).alloc (.cells #[.string ⟨#[83]⟩,.slice (some ⟨W1.heap.size,0,none⟩) 1 1] 36)).alloc (.cells #[.slice (some ⟨W1.heap.size+1,0,none⟩) 1 1,.slice none 0 0,.int .i64 0] 33))=W2 at *
 have HOWN:Hid (OwnV (W2.alloc (.cells (u8s (lpB 0)).toArray 5)) W2.heap.size 5 (some ⟨W2.heap.size,0,none⟩) 20 (lpB 0)):=Lib.hid (own_blk (base:=W2.heap.size) (n:=20) (size:=1) (heap_alloc_new W2 (.cells (u8s (lpB 0)).toArray 5)) (Nat.le_refl _) (by decide) rfl)
 have hba:Below W2.heap.size W2 (W2.alloc (.cells (u8s (lpB 0)).toArray 5)):=(Below.refl _ _).alloc (Nat.le_refl _) _
 have HBA:=Lib.hid hba
 clear hba
 go_upto_region 5 with (fail)
 change Code.wp _ _ _ _ (W2.alloc (.cells (u8s (lpB 0)).toArray 5))
 generalize W2.alloc (.cells (u8s (lpB 0)).toArray 5)=W3 at *
 obtain ⟨i0,hi0,hzz0,hzz1,hzz2⟩:=info_parts u8_infoL
 have I1:=Lib.hid hi0
 have I2:=Lib.hid hzz0
 have I3:=Lib.hid hzz1
 have I4:=Lib.hid hzz2
 clear hi0 hzz0 hzz1 hzz2
 go_upto_region 6 with (at_builtin;refine wpList_app_zeros _ rfl (.tmp 16) (.tmp 18) 22 3 rfl W2.heap.size 5 i0 Tryd.underlying22 Tryd.underlying3 I1.out I2.out I3.out I4.out (some ⟨W2.heap.size,0,none⟩) 20 (lpB 0) 20 m rfl rfl HOWN.out rfl (by omega) HBA.out.size ?_;intro A4 c4 W4 hown4 hg4 hfr4;clear hfr4;have HO4:=Lib.hid hown4;have HB4:=Lib.hid (HBA.out.trans (⟨hg4.os,hg4.tape,hg4.output,hg4.size,fun k hk=>hg4.block k (Nat.lt_of_lt_of_le hk HBA.out.size) (fun e=>by simp [rowOf] at e;omega)⟩:Below W2.heap.size W3 W4));clear hown4 hg4)
 have HLN:=Lib.hid (lp_len 0 m)
 have HO5:Hid (W4.ownsRow W2.heap.size 5 1 (.slice A4 (20+m) c4) (20+m) (u8s (lpB 0++zeros m))):=Lib.hid (by have h:=HO4.out;unfold OwnV at h;rw [HLN.out] at h;exact h)
 obtain ⟨K,cK,hv,hcK,hKb,hKl,hcell⟩:=row_at HO5.out (by omega)
 obtain ⟨rfl,rfl⟩:=slice_inj hv
 have hKc:W4.cell? ⟨K,16,none⟩=some (.int .u8 0):=(hcell 16 (by omega)).trans rfl
 have hKf:W4.frozen? ⟨K,16,none⟩=false:=by
  rcases HO5.out.2 with ⟨h1,_⟩|⟨g,cap,cur,h1,_,h2,_⟩
  · cases h1
  · injection h1 with h1
    injection h1 with h1
    injection h1 with h1
    subst h1
    exact blk_frozen h2 16
 clear hcell hv I1 I2 I3 I4 HOWN HO4 HLN
 obtain ⟨par,hpar⟩:∃ par,(m:Int) % 2=par:=⟨_,rfl⟩
 rw [hpar] at hrem
 by_cases hodd:par=1
 · subst hodd
   have HMM:Hid (m % 2=1):=Lib.hid (by omega)
   have HO6:=Lib.hid (own_put HO5.out 16 (.int .u8 4))
   have HB6:=Lib.hid (HB4.out.setCell (p:=⟨K,16,none⟩) hKb (.int .u8 4))
   have h16:(16:Int)<20+(m:Int):=by omega
   go_upto_region 8 with (fail)
   clear hKc hKf
   generalize W4.setCell ⟨K,16,none⟩ (.int .u8 4)=W5 at *
   have HZS:Hid ((u8s (lpB 0++zeros m)).set 16 (.int .u8 4)=u8s (lpZ m)):=Lib.hid (by
    unfold lpZ
    rw [HMM.out,if_pos rfl,←lp_set]
    simp only [u8s,List.map_set])
   rw [HZS.out] at HO6
   have HRG:=Lib.hid (lp_rng 4 (by decide) m)
   have HEQ:Hid (lpZ m=lpB 4++zeros m):=Lib.hid (by unfold lpZ;rw [HMM.out,if_pos rfl])
   rw [←HEQ.out] at HRG
   have HLN2:Hid ((lpZ m).length=20+m):=Lib.hid (by rw [HEQ.out];exact lp_len _ m)
   have HIN:Hid (Bytes W5 (some ⟨K,0,none⟩) (lpZ m)):=Lib.hid (Bytes.mono (by rw [hide_size];exact Nat.le_refl _) (fun p x hp=>(hide_some hp).2) (bytes_own (S:=fun _=>false) HO6.out HRG.out (fun _ _=>rfl)).1)
   have HCP:=Lib.hid hcK
   have HQ5:=Lib.hid (blk_below HQ.out HB6.out (blk_lt HQ.out))
   have HBW:=Lib.hid ((HB1.out.trans (HB.out.mono HB1.out.size)).trans (HB6.out.mono (Nat.le_trans HB1.out.size HB.out.size)))
   have HA5:Hid (Amb w.heap.size W5):=Lib.hid (fun V hV=>HT.out.below (Nat.le_refl _) (HBW.out.trans hV))
   have HR5:=Lib.hid (HSR.out.below HB6.out)
   have HWL:=Lib.hid HBW.out.size
   clear hcK hKb hKl hrem HO5 HO6 HB4 HB6 HBA HSR HQ HT HRG HEQ HMM
   have HEN:Hid (Calls Tryd.prog 39 #[] W5.drew fun e w'=>e=.returned (.pointer (some ⟨W5.heap.size,0,none⟩))∧w'.heap[W5.heap.size]?=some (.cells #[.int .i64 1099511627776,.bool false] 140 (0,0))∧Below W5.heap.size W5.drew w'):=Lib.hid (enough_any W5.drew)
   have HRD:Hid (∀ V,Below W5.heap.size W5 V→V.heap[W5.heap.size]?=some (.cells #[.int .i64 1099511627776,.bool false] 140 (0,0))→Calls Tryd.prog 38 #[.agg #[.slice (some ⟨W1.heap.size+1,0,none⟩) 1 1,.slice none 0 0,.int .i64 0],.slice (some ⟨K,0,none⟩) (20+m) c4,.pointer (some ⟨W5.heap.size,0,none⟩)] V fun e w'=>Below W5.heap.size W5 w'∧e=.returned (.tuple #[.nilIface,.int .i64 20])):=Lib.hid (fun V hV hm'=>by
    have h5:=fread_any V (B:=w.heap.size) (ss:=[(lpS,.slice (some ⟨W1.heap.size,0,none⟩) 1 1)]) (es:=[]) (bc:=c4) 0 (HR5.out.below hV) (lp_M _) (lp_D _) ⟨by decide,fun q hq=>by cases hq⟩ (by decide:0<1) (HIN.out.below (Nat.le_refl _) hV) (by rw [HLN2.out];omega) (by rw [HLN2.out];exact HCP.out) hm' (by omega) HWL.out (HA5.out.below (hV.mono HWL.out))
    rw [HLN2.out] at h5
    refine h5.mono ?_
    rintro e w' ⟨hx,ml',mo,hm'',hpost⟩
    refine ⟨hV.trans ((hx.mono hV.size).below (Nat.le_refl _)),?_⟩
    rcases hpost with ⟨v,l,x,h1,h2,h3,h4,_⟩|⟨h1,h2⟩|⟨_,h1,h2⟩
    · rw [lp_none _ HM.out] at h2
      cases h2
    · exact h1
    · exfalso
      rw [HLN2.out] at h2
      omega)
   have HTD:Hid (∀ V,Below W5.heap.size W5 V→Calls Tryd.prog 36 #[.agg #[.slice (some ⟨W1.heap.size+1,0,none⟩) 1 1,.slice none 0 0,.int .i64 0],.slice (some ⟨K,0,none⟩) (20+m) c4] V fun e w'=>e=.returned (.bool true)∧Below V.heap.size V w'):=Lib.hid (fun V hV=>by
    have h5:=ftold_any V (ss:=[(lpS,.slice (some ⟨W1.heap.size,0,none⟩) 1 1)]) (es:=[]) (bc:=c4) 0 (HR5.out.below hV) (lp_M _) (lp_D _) ⟨by decide,fun q hq=>by cases hq⟩ (lp_F _) (by decide:0<1) (HIN.out.below (Nat.le_refl _) hV) (by rw [HLN2.out];omega) (by rw [HLN2.out];exact HCP.out) (fun X hX=>HA5.out X ((hV.mono HWL.out).trans (hX.mono (Nat.le_trans HWL.out hV.size))))
    rw [HLN2.out] at h5
    exact h5)
   obtain ⟨_,s0,s1,s2,_⟩:=blk3 HQ5.out
   refine wp_region_noPanic ?_
   refine wp_region_held_drew (S:=(fun w'=>w'.cell? ⟨W1.heap.size+1+1,0,none⟩=some (.slice (some ⟨W1.heap.size+1,0,none⟩) 1 1)∧w'.cell? ⟨W1.heap.size+1+1,1,none⟩=some (.slice none 0 0)∧w'.cell? ⟨W1.heap.size+1+1,2,none⟩=some (.int .i64 0))) (by kernel_rfl) ⟨s0,s1,s2⟩ ?_
   intro hS
   refine wpAnyH_take (i:=0) (v:=.agg #[.slice (some ⟨W1.heap.size+1,0,none⟩) 1 1,.slice none 0 0,.int .i64 0]) rfl (by kernel_rfl) (by kernel_rfl) (by kernel_rfl) (fun _ _ _ h=>h) (Or.inl ⟨by rfl,?_⟩) hS ?_
   · intro w' hSw
     obtain ⟨s0,s1,s2⟩:=hSw
     go_simp
   simp only [Act.put,List.getElem_toArray,List.getElem_cons_zero,List.setIfInBounds_toArray,List.set_cons_zero,List.set_cons_succ]
   refine wpAnyH_take (i:=1) (v:=.slice (some ⟨K,0,none⟩) (20+m) c4) rfl (by kernel_rfl) (by kernel_rfl) (by kernel_rfl) (fun _ _ _ h=>h) (Or.inl ⟨by rfl,?_⟩) hS ?_
   · intro w' hSw
     obtain ⟨s0,s1,s2⟩:=hSw
     go_simp
   simp only [Act.put,List.getElem_toArray,List.getElem_cons_succ,List.getElem_cons_zero,List.setIfInBounds_toArray,List.set_cons_zero,List.set_cons_succ]
   refine wpAnyH_ready (rs:=[2]) (by kernel_rfl) (by decide) (AllReadyH.cons rfl (fun K hK=>?_) AllReadyH.nil)
   rw [if_pos (by kernel_rfl)]
   go_simp
   refine HEN.out.mono ?_
   rintro e W6 ⟨rfl,hmt,hb6⟩
   have hb6':Below W5.heap.size W5 W6:=(Below.refl _ W5).drew.trans hb6
   have n0:=cell_stays hb6' s0
   have n1:=cell_stays hb6' s1
   have n2:=cell_stays hb6' s2
   refine hK.out _ _ ⟨n0,n1,n2⟩ (fun hS=>?_)
   clear n0 n1 n2
   refine wpAnyH_ready (rs:=[3]) (by kernel_rfl) (by decide) (AllReadyH.cons rfl (fun K hK=>?_) AllReadyH.nil)
   rw [if_pos (by kernel_rfl)]
   go_simp
   refine (HRD.out W6 hb6' hmt).mono ?_
   rintro e W7 ⟨hb7,rfl⟩
   have n0:=cell_stays hb7 s0
   have n1:=cell_stays hb7 s1
   have n2:=cell_stays hb7 s2
   refine hK.out _ _ ⟨n0,n1,n2⟩ (fun hS=>?_)
   clear n0 n1 n2
   refine wpAnyH_take (i:=4) (v:=.tuple #[.nilIface,.int .i64 20]) rfl (by kernel_rfl) (by kernel_rfl) (by kernel_rfl) (fun _ _ _ h=>h) (Or.inl ⟨by rfl,?_⟩) hS ?_
   · intro w' hSw
     obtain ⟨s0,s1,s2⟩:=hSw
     go_simp
   simp only [Act.put,List.getElem_toArray,List.getElem_cons_succ,List.getElem_cons_zero,List.setIfInBounds_toArray,List.set_cons_zero,List.set_cons_succ]
   refine wpAnyH_take (i:=5) (v:=.nilIface) rfl (by kernel_rfl) (by kernel_rfl) (by kernel_rfl) (fun _ _ _ h=>h) (Or.inl ⟨by rfl,?_⟩) hS ?_
   · intro w' hSw
     obtain ⟨s0,s1,s2⟩:=hSw
     go_simp
   simp only [Act.put,List.getElem_toArray,List.getElem_cons_succ,List.getElem_cons_zero,List.setIfInBounds_toArray,List.set_cons_zero,List.set_cons_succ]
   refine wpAnyH_take (i:=6) (v:=.int .i64 20) rfl (by kernel_rfl) (by kernel_rfl) (by kernel_rfl) (fun _ _ _ h=>h) (Or.inl ⟨by rfl,?_⟩) hS ?_
   · intro w' hSw
     obtain ⟨s0,s1,s2⟩:=hSw
     go_simp
   simp only [Act.put,List.getElem_toArray,List.getElem_cons_succ,List.getElem_cons_zero,List.setIfInBounds_toArray,List.set_cons_zero,List.set_cons_succ]
   refine wpAnyH_take (i:=7) (v:=.nilIface) rfl (by kernel_rfl) (by kernel_rfl) (by kernel_rfl) (fun _ _ _ h=>h) (Or.inl ⟨by rfl,?_⟩) hS ?_
   · intro w' hSw
     obtain ⟨s0,s1,s2⟩:=hSw
     go_simp
   simp only [Act.put,List.getElem_toArray,List.getElem_cons_succ,List.getElem_cons_zero,List.setIfInBounds_toArray,List.set_cons_zero,List.set_cons_succ]
   refine wpAnyH_take (i:=8) (v:=.int .i64 20) rfl (by kernel_rfl) (by kernel_rfl) (by kernel_rfl) (fun _ _ _ h=>h) (Or.inl ⟨by rfl,?_⟩) hS ?_
   · intro w' hSw
     obtain ⟨s0,s1,s2⟩:=hSw
     go_simp
   simp only [Act.put,List.getElem_toArray,List.getElem_cons_succ,List.getElem_cons_zero,List.setIfInBounds_toArray,List.set_cons_zero,List.set_cons_succ]
   refine wpAnyH_done (by kernel_rfl) ?_ _
   refine NoPanic.normal ?_
   try simp only [Exit.then]
   have HB7:=Lib.hid hb7
   have HQ7:=Lib.hid (blk_below HQ5.out hb7 (blk_lt HQ5.out))
   clear hb7 hb6 hb6' hmt hS s0 s1 s2
   obtain ⟨_,s0,s1,s2,_⟩:=blk3 HQ7.out
   go_wp2_with fail
   refine (HTD.out W7 HB7.out).mono ?_
   rintro e W8 ⟨rfl,hb8⟩
   have HB8:=Lib.hid (HB7.out.trans (hb8.mono HB7.out.size))
   clear hb8 s0 s1 s2
   go_wp2
   go_ret
   exact ⟨rfl,HBW.out.trans (HB8.out.mono HBW.out.size)⟩
 · have hev:par=0:=by omega
   subst hev
   have HMM:Hid (¬m % 2=1):=Lib.hid (by omega)
   have HO6:=HO5
   have HB6:=HB4
   go_upto_region 8 with (fail)
   clear hKc hKf
   have HEQ:Hid (lpZ m=lpB 0++zeros m):=Lib.hid (by unfold lpZ;rw [if_neg HMM.out])
   rw [←HEQ.out] at HO6
   have HRG:=Lib.hid (lp_rng 0 (by decide) m)
   rw [←HEQ.out] at HRG
   have HLN2:Hid ((lpZ m).length=20+m):=Lib.hid (by rw [HEQ.out];exact lp_len _ m)
   have HIN:Hid (Bytes W4 (some ⟨K,0,none⟩) (lpZ m)):=Lib.hid (Bytes.mono (by rw [hide_size];exact Nat.le_refl _) (fun p x hp=>(hide_some hp).2) (bytes_own (S:=fun _=>false) HO6.out HRG.out (fun _ _=>rfl)).1)
   have HCP:=Lib.hid hcK
   have HQ5:=Lib.hid (blk_below HQ.out HB6.out (blk_lt HQ.out))
   have HBW:=Lib.hid ((HB1.out.trans (HB.out.mono HB1.out.size)).trans (HB6.out.mono (Nat.le_trans HB1.out.size HB.out.size)))
   have HA5:Hid (Amb w.heap.size W4):=Lib.hid (fun V hV=>HT.out.below (Nat.le_refl _) (HBW.out.trans hV))
   have HR5:=Lib.hid (HSR.out.below HB6.out)
   have HWL:=Lib.hid HBW.out.size
   clear hcK hKb hKl hrem HO5 HO6 HB4 HB6 HBA HSR HQ HT HRG HEQ HMM
   have HEN:Hid (Calls Tryd.prog 39 #[] W4.drew fun e w'=>e=.returned (.pointer (some ⟨W4.heap.size,0,none⟩))∧w'.heap[W4.heap.size]?=some (.cells #[.int .i64 1099511627776,.bool false] 140 (0,0))∧Below W4.heap.size W4.drew w'):=Lib.hid (enough_any W4.drew)
   have HRD:Hid (∀ V,Below W4.heap.size W4 V→V.heap[W4.heap.size]?=some (.cells #[.int .i64 1099511627776,.bool false] 140 (0,0))→Calls Tryd.prog 38 #[.agg #[.slice (some ⟨W1.heap.size+1,0,none⟩) 1 1,.slice none 0 0,.int .i64 0],.slice (some ⟨K,0,none⟩) (20+m) c4,.pointer (some ⟨W4.heap.size,0,none⟩)] V fun e w'=>Below W4.heap.size W4 w'∧e=.returned (.tuple #[.nilIface,.int .i64 20])):=Lib.hid (fun V hV hm'=>by
    have h5:=fread_any V (B:=w.heap.size) (ss:=[(lpS,.slice (some ⟨W1.heap.size,0,none⟩) 1 1)]) (es:=[]) (bc:=c4) 0 (HR5.out.below hV) (lp_M _) (lp_D _) ⟨by decide,fun q hq=>by cases hq⟩ (by decide:0<1) (HIN.out.below (Nat.le_refl _) hV) (by rw [HLN2.out];omega) (by rw [HLN2.out];exact HCP.out) hm' (by omega) HWL.out (HA5.out.below (hV.mono HWL.out))
    rw [HLN2.out] at h5
    refine h5.mono ?_
    rintro e w' ⟨hx,ml',mo,hm'',hpost⟩
    refine ⟨hV.trans ((hx.mono hV.size).below (Nat.le_refl _)),?_⟩
    rcases hpost with ⟨v,l,x,h1,h2,h3,h4,_⟩|⟨h1,h2⟩|⟨_,h1,h2⟩
    · rw [lp_none _ HM.out] at h2
      cases h2
    · exact h1
    · exfalso
      rw [HLN2.out] at h2
      omega)
   have HTD:Hid (∀ V,Below W4.heap.size W4 V→Calls Tryd.prog 36 #[.agg #[.slice (some ⟨W1.heap.size+1,0,none⟩) 1 1,.slice none 0 0,.int .i64 0],.slice (some ⟨K,0,none⟩) (20+m) c4] V fun e w'=>e=.returned (.bool true)∧Below V.heap.size V w'):=Lib.hid (fun V hV=>by
    have h5:=ftold_any V (ss:=[(lpS,.slice (some ⟨W1.heap.size,0,none⟩) 1 1)]) (es:=[]) (bc:=c4) 0 (HR5.out.below hV) (lp_M _) (lp_D _) ⟨by decide,fun q hq=>by cases hq⟩ (lp_F _) (by decide:0<1) (HIN.out.below (Nat.le_refl _) hV) (by rw [HLN2.out];omega) (by rw [HLN2.out];exact HCP.out) (fun X hX=>HA5.out X ((hV.mono HWL.out).trans (hX.mono (Nat.le_trans HWL.out hV.size))))
    rw [HLN2.out] at h5
    exact h5)
   obtain ⟨_,s0,s1,s2,_⟩:=blk3 HQ5.out
   refine wp_region_noPanic ?_
   refine wp_region_held_drew (S:=(fun w'=>w'.cell? ⟨W1.heap.size+1+1,0,none⟩=some (.slice (some ⟨W1.heap.size+1,0,none⟩) 1 1)∧w'.cell? ⟨W1.heap.size+1+1,1,none⟩=some (.slice none 0 0)∧w'.cell? ⟨W1.heap.size+1+1,2,none⟩=some (.int .i64 0))) (by kernel_rfl) ⟨s0,s1,s2⟩ ?_
   intro hS
   refine wpAnyH_take (i:=0) (v:=.agg #[.slice (some ⟨W1.heap.size+1,0,none⟩) 1 1,.slice none 0 0,.int .i64 0]) rfl (by kernel_rfl) (by kernel_rfl) (by kernel_rfl) (fun _ _ _ h=>h) (Or.inl ⟨by rfl,?_⟩) hS ?_
   · intro w' hSw
     obtain ⟨s0,s1,s2⟩:=hSw
     go_simp
   simp only [Act.put,List.getElem_toArray,List.getElem_cons_zero,List.setIfInBounds_toArray,List.set_cons_zero,List.set_cons_succ]
   refine wpAnyH_take (i:=1) (v:=.slice (some ⟨K,0,none⟩) (20+m) c4) rfl (by kernel_rfl) (by kernel_rfl) (by kernel_rfl) (fun _ _ _ h=>h) (Or.inl ⟨by rfl,?_⟩) hS ?_
   · intro w' hSw
     obtain ⟨s0,s1,s2⟩:=hSw
     go_simp
   simp only [Act.put,List.getElem_toArray,List.getElem_cons_succ,List.getElem_cons_zero,List.setIfInBounds_toArray,List.set_cons_zero,List.set_cons_succ]
   refine wpAnyH_ready (rs:=[2]) (by kernel_rfl) (by decide) (AllReadyH.cons rfl (fun K hK=>?_) AllReadyH.nil)
   rw [if_pos (by kernel_rfl)]
   go_simp
   refine HEN.out.mono ?_
   rintro e W6 ⟨rfl,hmt,hb6⟩
   have hb6':Below W4.heap.size W4 W6:=(Below.refl _ W4).drew.trans hb6
   have n0:=cell_stays hb6' s0
   have n1:=cell_stays hb6' s1
   have n2:=cell_stays hb6' s2
   refine hK.out _ _ ⟨n0,n1,n2⟩ (fun hS=>?_)
   clear n0 n1 n2
   refine wpAnyH_ready (rs:=[3]) (by kernel_rfl) (by decide) (AllReadyH.cons rfl (fun K hK=>?_) AllReadyH.nil)
   rw [if_pos (by kernel_rfl)]
   go_simp
   refine (HRD.out W6 hb6' hmt).mono ?_
   rintro e W7 ⟨hb7,rfl⟩
   have n0:=cell_stays hb7 s0
   have n1:=cell_stays hb7 s1
   have n2:=cell_stays hb7 s2
   refine hK.out _ _ ⟨n0,n1,n2⟩ (fun hS=>?_)
   clear n0 n1 n2
   refine wpAnyH_take (i:=4) (v:=.tuple #[.nilIface,.int .i64 20]) rfl (by kernel_rfl) (by kernel_rfl) (by kernel_rfl) (fun _ _ _ h=>h) (Or.inl ⟨by rfl,?_⟩) hS ?_
   · intro w' hSw
     obtain ⟨s0,s1,s2⟩:=hSw
     go_simp
   simp only [Act.put,List.getElem_toArray,List.getElem_cons_succ,List.getElem_cons_zero,List.setIfInBounds_toArray,List.set_cons_zero,List.set_cons_succ]
   refine wpAnyH_take (i:=5) (v:=.nilIface) rfl (by kernel_rfl) (by kernel_rfl) (by kernel_rfl) (fun _ _ _ h=>h) (Or.inl ⟨by rfl,?_⟩) hS ?_
   · intro w' hSw
     obtain ⟨s0,s1,s2⟩:=hSw
     go_simp
   simp only [Act.put,List.getElem_toArray,List.getElem_cons_succ,List.getElem_cons_zero,List.setIfInBounds_toArray,List.set_cons_zero,List.set_cons_succ]
   refine wpAnyH_take (i:=6) (v:=.int .i64 20) rfl (by kernel_rfl) (by kernel_rfl) (by kernel_rfl) (fun _ _ _ h=>h) (Or.inl ⟨by rfl,?_⟩) hS ?_
   · intro w' hSw
     obtain ⟨s0,s1,s2⟩:=hSw
     go_simp
   simp only [Act.put,List.getElem_toArray,List.getElem_cons_succ,List.getElem_cons_zero,List.setIfInBounds_toArray,List.set_cons_zero,List.set_cons_succ]
   refine wpAnyH_take (i:=7) (v:=.nilIface) rfl (by kernel_rfl) (by kernel_rfl) (by kernel_rfl) (fun _ _ _ h=>h) (Or.inl ⟨by rfl,?_⟩) hS ?_
   · intro w' hSw
     obtain ⟨s0,s1,s2⟩:=hSw
     go_simp
   simp only [Act.put,List.getElem_toArray,List.getElem_cons_succ,List.getElem_cons_zero,List.setIfInBounds_toArray,List.set_cons_zero,List.set_cons_succ]
   refine wpAnyH_take (i:=8) (v:=.int .i64 20) rfl (by kernel_rfl) (by kernel_rfl) (by kernel_rfl) (fun _ _ _ h=>h) (Or.inl ⟨by rfl,?_⟩) hS ?_
   · intro w' hSw
     obtain ⟨s0,s1,s2⟩:=hSw
     go_simp
   simp only [Act.put,List.getElem_toArray,List.getElem_cons_succ,List.getElem_cons_zero,List.setIfInBounds_toArray,List.set_cons_zero,List.set_cons_succ]
   refine wpAnyH_done (by kernel_rfl) ?_ _
   refine NoPanic.normal ?_
   try simp only [Exit.then]
   have HB7:=Lib.hid hb7
   have HQ7:=Lib.hid (blk_below HQ5.out hb7 (blk_lt HQ5.out))
   clear hb7 hb6 hb6' hmt hS s0 s1 s2
   obtain ⟨_,s0,s1,s2,_⟩:=blk3 HQ7.out
   go_wp2_with fail
   refine (HTD.out W7 HB7.out).mono ?_
   rintro e W8 ⟨rfl,hb8⟩
   have HB8:=Lib.hid (HB7.out.trans (hb8.mono HB7.out.size))
   clear hb8 s0 s1 s2
   go_wp2
   go_ret
   exact ⟨rfl,HBW.out.trans (HB8.out.mono HBW.out.size)⟩
theorem flatreadLoops_walk (more:Int)(w:World)(h1:(Lit.int .u8 more).wf=true)(hT:Tabs w) :
  Calls Tryd.prog 13 #[.int .u8 more] w fun e w'=>e=.returned (.bool true)∧Below w.heap.size w w':=by
 have hb:=bounds_u8 h1
 obtain ⟨x,rfl⟩:∃ x:Nat,more=x:=⟨more.toNat,by omega⟩
 exact floops_go x (by omega) w hT
end Go.Proofs.YtachghaegokpdaaDoor
namespace Go.Proofs.YtachghaegokpdaaDoor
open Go.ChangeShapes Go.WideShapes Go.ChangeAt Go.RowKit
open Go.ChangeMaps (open_string shut_string)
namespace flatreadLoopsFrame
theorem laid_met (os:Os):laidMet Tryd.prog Rows.flatreadLoopsRow.laid ((laidWorld os).forCall (fun _ _=>0) ⟨#[],#[Value.int .u8 0],[]⟩).memory:=
 laidMet_of_run' 8 (by kernel_rfl) (by kernel_rfl)
theorem reads (os:Os){H:Type}(enc:TypeId × Value→H):∃ places,DataW.whole enc Tryd.prog ((laidWorld os).forCall (fun _ _=>0) ⟨#[],#[Value.int .u8 0],[]⟩).memory Tryd.f13.params.toList Rows.flatreadLoopsSpec.vars false #[Value.int .u8 0].toList 8=some ([.lit (.int .u8 0)],[],places):=
 ⟨[],by kernel_rfl⟩
set_option maxRecDepth 100000 in
theorem contract (H:Type)(enc:TypeId × Value→H)(W:World)(base:Nat)(args:Array Value)(ds gs:List (DataW H))(before:List MemPlace)
  (hval0:∀ (j:Nat) t v,Tryd.f13.params[j]?=some t→args[j]?=some v→Value.okWide Tryd.prog W .any base t v)
  (hW:DataW.Whole enc Tryd.prog Tryd.f13.params.toList Rows.flatreadLoopsSpec.vars false W args.toList ds gs before) (hL:laidMetH Tryd.prog Rows.flatreadLoopsRow.laid W) :
  Calls Tryd.prog 13 args W fun e W'=>∃ v,e=.returned v∧Rows.flatreadLoopsSpec.post enc Tryd.prog Tryd.f13 false true false false W args v W':=by
 have hval:∀ (j:Nat) t v,Tryd.f13.params[j]?=some t→args[j]?=some v→Value.okWide Tryd.prog W .any base t v:=hval0
 have hW':=hW
 obtain ⟨p,q,hA0,hV,rfl,_hfz,_hnd⟩:=hW
 have hA:DataW.TrodAll enc Tryd.prog W 0 (fun _=>true) true Tryd.f13.params.toList args.toList ds p:=hA0
 rw [Tryd.params13] at hA hval
 obtain ⟨v0,vs0,d0,ds0,p0,q0,hargs,rfl,rfl,h0,r0⟩:=trodAll_cons hA
 obtain ⟨rfl,rfl,rfl⟩:=trodAll_nil r0
 obtain rfl:args=#[v0]:=by cases args;simp_all
 obtain ⟨rfl,rfl⟩:=trodVars_none hV
 obtain ⟨a0,rfl,rfl,rfl,w0⟩:=open_int Tryd.underlying5 (hval 0 5 v0 rfl rfl) h0
 clear hA0 hval0
 refine (flatreadLoops_walk a0 W w0 (tabs_of_laid hL)).mono fun e W' ⟨he,bel⟩=>?_
 subst he
 exact ⟨_,rfl,_,_,_,[],_,[],hW',trodAll_mk1 (shut_bool Tryd.underlying4 _),(trodAll_cons_mk (shut_int Tryd.underlying5 w0) trodAll_mk0),rfl,bel.frame _,fun h=>by cases h⟩
set_option maxRecDepth 100000 in
theorem lifted (os:Os)(started:os.Started)(H:Type)(enc:TypeId × Value→H)(F:Stop.Interp) :
  ReturnsInHanded {} Tryd.checked os 13 .any ((OpenSpec.ofChange Rows.flatreadLoopsSpec).preRow enc Tryd.prog Tryd.f13 Rows.flatreadLoopsRow.domain false Rows.flatreadLoopsRow.laid) (((OpenSpec.ofChange Rows.flatreadLoopsSpec).at F).post enc Tryd.prog Tryd.f13 false true false false):=by
 obtain ⟨places,hx⟩:=reads os enc
 refine returnsInHanded_of_row (C:=Tryd.checked) (s:=OpenSpec.ofChange Rows.flatreadLoopsSpec) own started (by kernel_rfl) Tryd.func13
  (witness_row_at (enc:=enc) (C:=Tryd.checked) false (laidWorld os) #[Value.int .u8 0] rfl (by kernel_rfl) (by kernel_rfl) (by kernel_rfl)
   (OpenSpec.preRow_of_cond 8 hx (by kernel_rfl) (fun k hk=>by cases hk) (by kernel_rfl) (laid_met os))) ?_
 intro W base args ds gs before hval hW _ _ _ hL _ _
 exact contract H enc W base args ds gs before hval hW hL
theorem said:Rows.FlatreadLoopsSaid:=
 OpenClaim.holds_of_cond 13 Tryd.f13 rfl rfl rfl rfl rfl rfl rfl ⟨rfl,rfl,rfl,rfl,rfl⟩ rfl rfl rfl rfl rfl (by kernel_rfl) Tryd.func13 (by kernel_rfl)
  (of_decide_eq_true (by kernel_rfl)) (by unfold Func.isWrapper;first|(rw [if_pos (by decide +kernel)];kernel_rfl)|(rw [if_neg (by decide +kernel)];exact ⟨rfl,rfl⟩))
  (fun os started H enc _ F=>by rw [OpenClaim.pre_eq_preRow];exact lifted os started H enc F)
theorem plain (f:FuncId)(fn:Func)(hf:Tryd.pinned.checked.prog.funcNamed "transom/transomlaw10.FlatreadLoops" = some f)(hfn:Tryd.pinned.checked.prog.funcs[f]?=some fn) :
  false=Tryd.pinned.checked.prog.looks []∧∀ (j:Nat) t,fn.params[j]?=some t→Tryd.pinned.checked.prog.wantsStandIn t=false:=by
 obtain rfl:f=13 := Option.some.inj ((show Tryd.prog.funcNamed "transom/transomlaw10.FlatreadLoops" = some 13 by kernel_rfl).symm.trans hf) |>.symm
 obtain rfl:fn=Tryd.f13 := (Option.some.inj (Tryd.func13.symm.trans hfn)).symm
 refine ⟨by kernel_rfl,fun j t ht=>?_⟩
 rw [Tryd.params13] at ht
 have hm:t=5 := by simpa using Array.mem_of_getElem? ht
 rcases hm with rfl
 exact (show Tryd.prog.wantsStandIn 5 = false by kernel_rfl)
end flatreadLoopsFrame
theorem flatreadLoops_card:Rows.FlatreadLoopsCardSaid:=
 Claim7.holds_tied_plain_at .later [] _ _ _ _ flatreadLoopsFrame.said (fun _ h=>by cases h) (by kernel_rfl) (fun _ h=>by cases h) flatreadLoops_row_tie rfl ⟨rfl,rfl⟩ (by kernel_rfl) rfl flatreadLoopsFrame.plain (by kernel_rfl)
end Go.Proofs.YtachghaegokpdaaDoor
