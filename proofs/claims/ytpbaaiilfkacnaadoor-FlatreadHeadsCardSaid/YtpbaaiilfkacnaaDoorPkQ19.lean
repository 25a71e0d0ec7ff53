/-
  The hand's value: of a number's type. Conditions: those that each theorem names.
-/
import Derived.Test.YtpbaaiilfkacnaaDoorPkQ15
import Derived.Laws.CopyOwn
import Derived.Deep.Slices
import Derived.Lib.SmallJoins
namespace Go.Proofs.YtpbaaiilfkacnaaDoor
open Go.RowKit
set_option maxRecDepth 100000
set_option maxHeartbeats 16000000
section
open Go.ChangeShapes Go.WideShapes Go.ChangeAt
theorem OwnR.of_block {w w':World}{base:Nat}{e:TypeId}{g n cap:Nat}{zs:List Int}(h:OwnR w base e g n cap zs)(hb:w'.heap[g]?=w.heap[g]?):OwnR w' base e g n cap zs:=by
 obtain ⟨hl,h'⟩:=h;refine ⟨hl,?_⟩;rcases h' with h1|⟨g',cap',cur,hv,h1,hg,h2⟩
 · exact .inl h1
 · cases hv;exact .inr ⟨g,cap,cur,rfl,h1,hb.trans hg,h2⟩
theorem OwnR.below {w w':World}{base B:Nat}{e:TypeId}{g n cap:Nat}{zs:List Int}(h:OwnR w base e g n cap zs)(hb:Below B w w')(hg:g<B):OwnR w' base e g n cap zs:=h.of_block (hb.block g hg)
theorem OwnR.grown {w w':World}{base:Nat}{row:Option Nat}{e:TypeId}{g n cap:Nat}{zs:List Int}(h:OwnR w base e g n cap zs)(hb:w.grownBy w' row)(hg:some g≠row):OwnR w' base e g n cap zs:=h.of_block (hb.block g h.facts.2.2.1 hg)
theorem OwnR.part {P:Program}{w w':World}{base:Nat}{e:TypeId}{g n cap:Nat}{zs:List Int}(h:OwnR w base e g n cap zs)(hw:∀ i,w'.cell? ⟨g,i,none⟩=w.cell? ⟨g,i,none⟩)(t d:TypeId)(ht:P.underlying t=some (.slice e))(he:P.underlying e=some (.int .u8))(hd:P.underlying d=some .string)
  (k m c:Nat) (hfit:k+m≤n):(convert t d (.slice (some ⟨g,k,none⟩) m c)).run P w'=.ok (.string (strOfNums ((zs.drop k).take m))) w':=by
 obtain ⟨hl,_,_,_,_,hc,_⟩:=h.facts;refine run_convert_bytes_arg (P:=P) w' t e ht he g k m c _ (by simp;omega) (fun i hi=>?_) d hd;rw [hw,hc (k+i) (by omega)];simp [List.getD,hi]
theorem IsRow.part {P:Program}{w w':World}{b off len cap:Nat}{zs:List Int}{e:TypeId}(h:IsRow .u8 w (some ⟨b,off,none⟩) len cap zs)(hb:Below w.heap.size w w')(t d:TypeId)(ht:P.underlying t=some (.slice e))(he:P.underlying e=some (.int .u8))(hd:P.underlying d=some .string)
  (k m c:Nat) (hfit:k+m≤len):(convert t d (.slice (some ⟨b,off+k,none⟩) m c)).run P w'=.ok (.string (strOfNums (((zs.take len).drop k).take m))) w':=by
 obtain ⟨hl,_,hz,_,hp⟩:=h;refine run_convert_bytes_arg (P:=P) w' t e ht he b (off+k) m c _ (by simp;omega) (fun i hi=>?_) d hd;obtain ⟨b',off',he',hlt,hc⟩:=hp (by rintro rfl;simp at hz;omega);cases he';rw [Nat.add_assoc,(hb.cell (p:=⟨b,off+(k+i),none⟩) hlt).trans (hc (k+i) (by omega))];have h1:k+i<len:=by omega
 simp [List.getD,hi,h1]
theorem aBL (zs:List Int):∀ v ∈ eI zs,v.oneCell'=true:=by intro v hv;obtain ⟨z,_,rfl⟩:=rX.1 hv;rfl
theorem aEZ:(Tryd.prog.info? 5).map (·.size)=some 1:=by kernel_rfl
theorem pY (m:Nat):Builtin.zeroCells (Value.int .u8 0).cells m=(eI (aR m)).toArray:=by
 apply Array.ext'
 simp only [Builtin.zeroCells];apply List.ext_getElem?
 intro i;by_cases hi:i<m
 · simp [aR,eI,Value.cells,hi,Nat.mod_one]
 · simp [aR,eI,Value.cells,hi]
theorem oW (a b:List Int):eI (a++b)=eI a++eI b:=by simp [eI]
section
variable {P:Program} (w:World)
def kV (w:World)(base:Nat)(e:TypeId)(A:Option Addr)(cap:Nat)(zs:List Int):Prop:=w.ownsRow base e 1 (.slice A zs.length cap) zs.length (eI zs)
def fV (A:Option Addr):Option Nat:=A.map (·.block)
theorem dI (A:Option Addr)(n cap:Nat):(Value.slice A n cap).ownBlock=fV A:=by cases A<;>rfl
theorem iQ (t tx ty e:TypeId)(i:TypeInfo)(ht:P.underlying t=some (.slice e))(hk:P.underlying tx=some (.int .i64))(hi:P.info? e=some i)(hz:i.zero=some (.int .u8 0))(hsize:i.size=1)(hby:i.bytes=1)
  (A:Option Addr) (n cap:Nat) (olds:List Value) (hold:(Builtin.firstCells 1 n (.slice A n cap)).run P w.drew=.ok olds.toArray w.drew) (m:Nat) (hg:cap<n+m) (hbd:n+m≤140737488355328) :
  (Builtin.append_ #[t,tx] ty #[.slice A n cap,.int .i64 m]).run P w=.ok (.slice (some ⟨w.heap.size,0,none⟩) (n+m) (grownCap w (n+m) cap e))
    (w.drew.alloc (.cells ((olds++eI (aR m)).toArray++Builtin.zeroCells (Value.int .u8 0).cells (grownCap w (n+m) cap e-(n+m))) e)):=by
 have hwr:IntKind.i64.wrap (m:Int)=m:=cU m;have hm48:¬(281474976710656:Int)<(m:Int):=by omega
 have hm0:¬(m:Int)<0:=by omega
 have hn:¬(n+m≤cap):=by omega
 have h63':¬(9223372036854775807<((n:Int)+(m:Int))):=by omega
 have hfit:=growslice_fits (old:=cap) (need:=n+m) (bytes:=1) hg (by omega);have h48':¬(281474976710656<Builtin.nextslicecap (n+m) cap):=by omega
 have hzz:=pY m;by_cases h0:m=0
 · subst h0;have hw0:IntKind.i64.wrap 0=0:=IntWalk.i64_in 0 (by decide);rw [Nat.add_zero] at hg;have hn':¬n≤cap:=by omega
   have h63'':¬(9223372036854775807<(n:Int)):=by omega
   rw [Nat.add_zero] at h48';simp [Builtin.append_,run_underlying ht,run_underlying hk,sizeOf,typeInfo,zeroValue,hi,hz,hsize,hby,hw0,asInt,asIntOf,hn',h63'',h48',Question.forced,hold,newRow,grownCap];have hu:olds++eI (aR 0)=olds:=by simp [eI,aR]
   rw [hu]
 · simp [Builtin.append_,run_underlying ht,run_underlying hk,sizeOf,typeInfo,zeroValue,hi,hz,hsize,hby,hwr,asInt,asIntOf,hm48,hm0,hn,h63',h48',h0,Question.forced,hold,newRow,grownCap,hzz];congr 2
   apply Array.ext'
   simp [List.append_assoc]
theorem mY (t tx ty e:TypeId)(i:TypeInfo)(ht:P.underlying t=some (.slice e))(hk:P.underlying tx=some (.int .i64))(hi:P.info? e=some i)(hz:i.zero=some (.int .u8 0))(hsize:i.size=1)(hby:i.bytes=1)
  (g n cap:Nat) (m:Nat) (w':World) (hroom:n+m≤cap) (hbd:n+m≤140737488355328) (hst:(storeCells (⟨g,n,none⟩:Addr) (eI (aR m))).run P w=.ok () w') :
  (Builtin.append_ #[t,tx] ty #[.slice (some ⟨g,0,none⟩) n cap,.int .i64 m]).run P w=.ok (.slice (some ⟨g,0,none⟩) (n+m) cap) w':=by
 have hwr:IntKind.i64.wrap (m:Int)=m:=cU m;have hm48:¬(281474976710656:Int)<(m:Int):=by omega
 have hm0:¬(m:Int)<0:=by omega
 have hzz:=pY m;by_cases h0:m=0
 · subst h0;have hw0:IntKind.i64.wrap 0=0:=IntWalk.i64_in 0 (by decide);rw [Nat.add_zero] at hroom;have hu:eI (aR 0)=[]:=rfl;rw [hu] at hst;simp [Builtin.append_,run_underlying ht,run_underlying hk,sizeOf,typeInfo,zeroValue,hi,hz,hsize,hby,hw0,asInt,asIntOf,hroom,Addr.add_lit,hst]
 · simp [Builtin.append_,run_underlying ht,run_underlying hk,sizeOf,typeInfo,zeroValue,hi,hz,hsize,hby,hwr,asInt,asIntOf,hm48,hm0,hroom,h0,hzz,Addr.add_lit,hst]
theorem iX (base:Nat)(t tx ty e:TypeId)(i:TypeInfo)(ht:P.underlying t=some (.slice e))(hk:P.underlying tx=some (.int .i64))(hi:P.info? e=some i)(hz:i.zero=some (.int .u8 0))(hsize:i.size=1)(hby:i.bytes=1)
  (A:Option Addr) (cap:Nat) (zs:List Int) (hown:kV w base e A cap zs) (m:Nat) (hbd:zs.length+m≤140737488355328) (hbase:base≤w.heap.size) :
  ∃ A' cap' w',(Builtin.append_ #[t,tx] ty #[.slice A zs.length cap,.int .i64 m]).run P w=.ok (.slice A' (zs.length+m) cap') w'∧kV w' base e A' cap' (zs++aR m)∧w.grownBy w' (fV A)∧(fV A'=fV A∨fV A'=some w.heap.size):=by
 have hnl:(eI (aR m)).length=m:=by simp [eI,aR]
 have hll:(zs++aR m).length=zs.length+m:=by simp [aR]
 have hlen:(eI (zs++aR m)).length=(zs.length+m) * 1:=by simp [eI,aR]
 have hoz:(eI zs).length=zs.length:=by simp [eI]
 have grown:∀ (old:Nat),old<zs.length+m→∀ (row:Option Nat),
   kV (w.drew.alloc (.cells ((eI zs++eI (aR m)).toArray++Builtin.zeroCells (Value.int .u8 0).cells (grownCap w (zs.length+m) old e-(zs.length+m))) e)) base e (some ⟨w.heap.size,0,none⟩) (grownCap w (zs.length+m) old e) (zs++aR m) ∧
   w.grownBy (w.drew.alloc (.cells ((eI zs++eI (aR m)).toArray++Builtin.zeroCells (Value.int .u8 0).cells (grownCap w (zs.length+m) old e-(zs.length+m))) e)) row:=by
  intro old ho row;have hge:=grownCap_ge w (zs.length+m) old e;have hcm:grownCap w (zs.length+m) old e≤maxLen:=grownCap_le_maxLen w (zs.length+m) old e (by unfold maxLen;omega);refine ⟨?_,⟨rfl,rfl,rfl,by simp,fun k hk _=>Below.heap_alloc w.drew _ k hk⟩⟩;unfold kV;rw [hll];refine ⟨hlen,.inr ⟨w.heap.size,_,_,rfl,hbase,cN w.drew _,hge,hcm,?_,?_⟩⟩
  · simp only [Array.size_append,List.size_toArray,size_zeroCells,List.length_append,hoz,hnl,Value.cells];simp;omega
  · rw [oW];simp only [Array.toList_append];rw [←hlen,oW];exact List.take_left
 have hown0:=hown;unfold kV at hown;rcases hown.2 with ⟨hv,hn⟩|⟨g,cap0,cur,hv,hbg,hg,hnc,hcm,hcs,htake⟩
 · injection hv with h1 h2 h3;subst h1 h3;have hzs:zs=[]:=List.eq_nil_of_length_eq_zero hn;subst hzs;by_cases hm:m=0
   · subst hm;refine ⟨none,0,w,?_,by simpa [aR] using hown0,⟨rfl,rfl,rfl,Nat.le_refl _,fun _ _ _=>rfl⟩,.inl rfl⟩;have hw0:IntKind.i64.wrap 0=0:=IntWalk.i64_in 0 (by decide);simp [Builtin.append_,run_underlying ht,run_underlying hk,sizeOf,typeInfo,hi,hby,hw0,asInt,asIntOf]
   · have hr:=iQ (P:=P) w t tx ty e i ht hk hi hz hsize hby none 0 0 [] (run_firstCells_none w.drew 1 0 0 0) m (by omega) (by simpa using hbd);have hgr:=grown 0 (by simp;omega) (fV none);exact ⟨_,_,_,hr,hgr.1,hgr.2,.inr rfl⟩
 · injection hv with h1 h2 h3;subst h1 h3;by_cases hroom:zs.length+m≤cap
   · have hfit:zs.length * 1+(eI (aR m)).length≤cur.size:=by rw [hnl,hcs];omega
     have hst:=run_storeCells_at P g zs.length e (eI (aR m)) 0 cur w hg (by simpa using hfit) (aBL _);simp only [Nat.add_zero] at hst;have hr:=mY (P:=P) w t tx ty e i ht hk hi hz hsize hby g zs.length cap m _ hroom hbd hst;refine ⟨_,_,_,hr,?_,⟨rfl,rfl,rfl,by simp,fun k _ hk=>setRow_other w g k _ (fun e=>hk (by simp [fV,e]))⟩,.inl rfl⟩;unfold kV;rw [hll];refine ⟨hlen,.inr ⟨g,cap,_,rfl,hbg,setRow_heap w g cur _ e _ hg,hroom,hcm,?_,?_⟩⟩
     · simp only [List.size_toArray,List.length_append,List.length_take,List.length_drop,Array.length_toList];omega
     · rw [Nat.mul_one] at htake;rw [htake,←hlen,oW];exact List.take_left
   · have holds:∀ j u,(eI zs)[j]?=some u→w.cell? ((⟨g,0,none⟩:Addr).add j)=some u:=hown.cells (g:=g) rfl;have hf:=run_firstCells_some (P:=P) w.drew 1 zs.length ⟨g,0,none⟩ zs.length cap (eI zs) hown.1 (by simpa using holds);have hr:=iQ (P:=P) w t tx ty e i ht hk hi hz hsize hby (some ⟨g,0,none⟩) zs.length cap (eI zs) hf m (by omega) hbd;have hgr:=grown cap (by omega) (fV (some ⟨g,0,none⟩));exact ⟨_,_,_,hr,hgr.1,hgr.2,.inr rfl⟩
end
theorem kX {α:Type}(P:Nat→α→Prop)(d:α):∀ (n:Nat),(∀ r,r<n→∃ x,P r x)→∃ L:List α,L.length=n∧∀ r,r<n→P r (L.getD r d)
 | 0,_=>⟨[],rfl,fun r hr=>absurd hr (Nat.not_lt_zero r)⟩
 | n+1,h=>by
  obtain ⟨L,hL,hP⟩:=kX P d n (fun r hr=>h r (by omega));obtain ⟨x,hx⟩:=h n (Nat.lt_succ_self n);refine ⟨L++[x],by simp [hL],fun r hr=>?_⟩;rcases Nat.lt_or_ge r n with h1|h1
  · rw [List.getD,List.getElem?_append_left (by omega),←List.getD];exact hP r h1
  · obtain rfl:r=n:=by omega
    rw [List.getD,List.getElem?_append_right (by omega),hL,Nat.sub_self];exact hx
theorem aAl:∀ {cs:List Value},cs.length=5→∃ v0 v1 v2 v3 v4,cs=[v0,v1,v2,v3,v4]
 | [v0,v1,v2,v3,v4],_=>⟨v0,v1,v2,v3,v4,rfl⟩
theorem aCS:∀ {cs:List Value},cs.length=1→∃ v0,cs=[v0]
 | [v0],_=>⟨v0,rfl⟩
theorem qI {m:Int}(h:(Lit.int .u8 m).wf=true):∃ k:Nat,m=k∧k≤255:=by obtain ⟨h0,h1⟩:=bounds_u8 h;exact ⟨m.toNat,by omega,by omega⟩
theorem aEH {m:Int}(h:(Lit.int .u64 m).wf=true):∃ k:Nat,m=k∧(k:Int)≤18446744073709551615:=by obtain ⟨h0,h1⟩:=bounds_u64 h;exact ⟨m.toNat,by omega,by omega⟩
theorem kP {H:Type}{enc:TypeId × Value→H}{W:World}{t:TypeId}{k:IntKind}{n:Nat}{v:Value}{xs:List (DataW H × List MemPlace)}{i:Nat}(ht:Tryd.prog.underlying t=some (.int k))(hi:i<xs.length)(h:DataW.trod enc Tryd.prog W 0 (fun _=>true) true n t [v]=xs[i]?):∃ m,v=.int k m∧(Lit.int k m).wf=true:=by rw [iO hi] at h;obtain ⟨m,h1,_,h2⟩:=DataW.trod_int ht h;exact ⟨m,by simpa using h1,h2⟩
def aAn (W:World)(a:Option Addr)(k:Nat)(f:PF):Prop:=
 ∃ b' off',a=some ⟨b',off',none⟩∧b'<W.heap.size∧W.cell? ⟨b',off'+k * 5,none⟩=some (.int .u8 (f.kind:Nat))∧W.cell? ⟨b',off'+k * 5+1,none⟩=some (.int .u8 (f.lists:Nat))∧W.cell? ⟨b',off'+k * 5+2,none⟩=some (.int .u8 (f.ref:Nat))∧W.cell? ⟨b',off'+k * 5+3,none⟩=some (.int .u8 (f.name:Nat))∧W.cell? ⟨b',off'+k * 5+4,none⟩=some (.int .u64 (f.dflt:Nat)) ∧
  f.kind≤255∧f.lists≤255∧f.ref≤255∧f.name≤255∧(f.dflt:Int)≤18446744073709551615
theorem zC {H:Type}{enc:TypeId × Value→H}{W:World}{n:Nat}{v:Value}{x:DataW H × List MemPlace}(h:DataW.trod enc Tryd.prog W 0 (fun _=>true) true n 87 [v]=some x) :
  ∃ a m c,v=.slice a m c∧m≤c∧c≤maxLen∧∃ l:List PF,l.length=m∧∀ k,k<m→aAn W a k (l.getD k nA):=by
 rcases Deep.open_slice Tryd.underlying87 h with ⟨hcs,_⟩|⟨y,l,c,m,n',Ds,Pl,hcs,_,hl,hm,hmm,_,hx⟩
 · simp at hcs;subst hcs;exact ⟨none,0,0,rfl,Nat.le_refl _,Nat.zero_le _,[],rfl,fun k hk=>absurd hk (Nat.not_lt_zero k)⟩
 · simp at hcs;subst hcs;simp only [if_true] at hmm;have c5:Tryd.prog.cellsOf 89 = 5:=by kernel_rfl
   rw [c5] at hx;refine ⟨some y,l,c,rfl,hl,hm,kX _ nA l (fun r hlt=>?_)⟩;obtain ⟨cs,h1,h2⟩:=hx r (by omega);obtain ⟨_,hcl,hc⟩:=World.cells?_some h1;obtain ⟨_,hcl0,hc0⟩:=World.cells?_some (hx 0 (by omega)).choose_spec.1;obtain ⟨b,off,spot⟩:=y;have hspot:spot=none:=by have h0:=hc0 0 (by omega);rw [iO (by omega)] at h0;simpa [Addr.add] using World.cell?_spot h0
   subst hspot;obtain ⟨xs,n2,_,_,_,hxl,hfs⟩:=DataW.trod_struct Tryd.underlying89 h2;obtain ⟨v0,v1,v2,v3,v4,rfl⟩:=aAl hcl;have k8:Tryd.prog.cellsOf 5 = 1:=by kernel_rfl
   have k64:Tryd.prog.cellsOf 35 = 1:=by kernel_rfl
   have f0:DataW.trod enc Tryd.prog W 0 (fun _=>true) true n2 5 (([v0,v1,v2,v3,v4].drop 0).take (Tryd.prog.cellsOf 5))=xs[0]?:=hfs 0 _ rfl;rw [k8] at f0;have f1:DataW.trod enc Tryd.prog W 0 (fun _=>true) true n2 5 (([v0,v1,v2,v3,v4].drop 1).take (Tryd.prog.cellsOf 5))=xs[1]?:=hfs 1 _ rfl;rw [k8] at f1;have f2:DataW.trod enc Tryd.prog W 0 (fun _=>true) true n2 5 (([v0,v1,v2,v3,v4].drop 2).take (Tryd.prog.cellsOf 5))=xs[2]?:=hfs 2 _ rfl;rw [k8] at f2;have f3:DataW.trod enc Tryd.prog W 0 (fun _=>true) true n2 5 (([v0,v1,v2,v3,v4].drop 3).take (Tryd.prog.cellsOf 5))=xs[3]?:=hfs 3 _ rfl;rw [k8] at f3;have f4:DataW.trod enc Tryd.prog W 0 (fun _=>true) true n2 35 (([v0,v1,v2,v3,v4].drop 4).take (Tryd.prog.cellsOf 35))=xs[4]?:=hfs 4 _ rfl;rw [k64] at f4;have hx5:xs.length=5:=hxl
   obtain ⟨z0,rfl,w0⟩:=kP Tryd.underlying5 (by omega) f0;obtain ⟨z1,rfl,w1⟩:=kP Tryd.underlying5 (by omega) f1;obtain ⟨z2,rfl,w2⟩:=kP Tryd.underlying5 (by omega) f2;obtain ⟨z3,rfl,w3⟩:=kP Tryd.underlying5 (by omega) f3;obtain ⟨z4,rfl,w4⟩:=kP Tryd.underlying35 (by omega) f4;obtain ⟨q0,rfl,l0⟩:=qI w0;obtain ⟨q1,rfl,l1⟩:=qI w1;obtain ⟨q2,rfl,l2⟩:=qI w2;obtain ⟨q3,rfl,l3⟩:=qI w3;obtain ⟨q4,rfl,l4⟩:=aEH w4;have hcell:∀ i,i<5→W.cell? ⟨b,off+r * 5+i,none⟩=[Value.int .u8 q0,.int .u8 q1,.int .u8 q2,.int .u8 q3,.int .u64 q4][i]?:=fun i hi=>by have:=hc i hi;rw [Deep.add_add,Go.WideShapes.add_plain,←Nat.add_assoc] at this;exact this
   have e0:=hcell 0 (by omega);exact ⟨⟨q0,q1,q2,q3,q4⟩,b,off,rfl,World.block_lt_of_cell? _ _ e0,e0,hcell 1 (by omega),hcell 2 (by omega),hcell 3 (by omega),hcell 4 (by omega),l0,l1,l2,l3,l4⟩
theorem wT {H:Type}{enc:TypeId × Value→H}{W:World}{n:Nat}{v:Value}{x:DataW H × List MemPlace}(h:DataW.trod enc Tryd.prog W 0 (fun _=>true) true n 23 [v]=some x) :
  ∃ a1 n1 c1,v=.slice a1 n1 c1∧n1≤c1∧c1≤maxLen∧∃ L:List (List PF),L.length=n1∧∀ r,r<n1→∃ b off a m c,a1=some ⟨b,off,none⟩∧b<W.heap.size∧W.cell? ⟨b,off+r,none⟩=some (.slice a m c)∧(L.getD r []).length=m∧m≤c∧c≤maxLen∧∀ k,k<m→aAn W a k ((L.getD r []).getD k nA):=by
 rcases Deep.open_slice Tryd.underlying23 h with ⟨hcs,_⟩|⟨y,l,c,m,n',Ds,Pl,hcs,_,hl,hm,hmm,_,hx⟩
 · simp at hcs;subst hcs;exact ⟨none,0,0,rfl,Nat.le_refl _,Nat.zero_le _,[],rfl,fun k hk=>absurd hk (Nat.not_lt_zero k)⟩
 · simp at hcs;subst hcs;simp only [if_true] at hmm;have c1:Tryd.prog.cellsOf 87 = 1:=by kernel_rfl
   rw [c1] at hx;refine ⟨some y,l,c,rfl,hl,hm,?_⟩;refine kX (fun r (q:List PF)=>∃ b off a m c,some y=some ⟨b,off,none⟩∧b<W.heap.size∧W.cell? ⟨b,off+r,none⟩=some (.slice a m c)∧q.length=m∧m≤c∧c≤maxLen∧∀ k,k<m→aAn W a k (q.getD k nA)) [] l (fun r hlt=>?_);obtain ⟨cs,h1,h2⟩:=hx r (by omega);obtain ⟨_,hcl,hc⟩:=World.cells?_some h1;obtain ⟨_,hcl0,hc0⟩:=World.cells?_some (hx 0 (by omega)).choose_spec.1;obtain ⟨b,off,spot⟩:=y;have hspot:spot=none:=by have h0:=hc0 0 (by omega);rw [iO (by omega)] at h0;simpa [Addr.add] using World.cell?_spot h0
   subst hspot;obtain ⟨v0,rfl⟩:=aCS hcl;obtain ⟨a,m',c',rfl,g1,g2,q,g3,g4⟩:=zC h2;have e0:W.cell? ⟨b,off+r,none⟩=some (.slice a m' c'):=by have:=hc 0 (by omega);rw [Deep.add_add,Go.WideShapes.add_plain,Nat.add_zero,Nat.mul_one] at this;exact this
   exact ⟨q,b,off,a,m',c',rfl,World.block_lt_of_cell? _ _ e0,e0,g3,g1,g2,g4⟩
theorem aCK {H:Type}{enc:TypeId × Value→H}{W:World}{base:Nat}{v:Value}{d:DataW H}{p:List MemPlace}(hv:Value.okWide Tryd.prog W .any base 25 v)(h:DataW.Trod enc Tryd.prog W 0 (fun _=>true) true 25 v d p) :
  ∃ (q:dM) (a0:Option Addr) (n0 e0:Nat) (a1:Option Addr) (n1 c1:Nat),v=.agg #[.slice a0 n0 e0,.slice a1 n1 c1,.int .u8 q.root,.bool q.tree]∧IsPlan W q a0 n0 e0 a1 n1 c1:=by
 obtain ⟨v0,v1,v2,v3,y0,y1,y2,y3,n,rfl,rfl,rfl,h0,h1,h2,h3⟩:=Joins.open_agg4 Tryd.underlying25 (by kernel_rfl) (by kernel_rfl) hv h;obtain ⟨m2,e2,_,w2⟩:=DataW.trod_int Tryd.underlying5 h2;obtain ⟨b3,e3,_⟩:=DataW.trod_bool Tryd.underlying4 h3;simp at e2 e3;subst e2;subst e3;obtain ⟨rt,rfl,hrt⟩:=qI w2;obtain ⟨a0,n0,e0,zs,hv0,hrow⟩:∃ a0 n0 e0 zs,v0=.slice a0 n0 e0∧IsRow .u8 W a0 n0 e0 zs:=by
  rcases open_ints Tryd.underlying22 Tryd.underlying5 (by kernel_rfl) h0 with ⟨hcs,_⟩|⟨x,l,c,zs,hcs,_,hl,hm,hz,_,hcell,hwz⟩
  · exact ⟨none,0,0,[],by simpa using hcs,mH _ _ _⟩
  · exact ⟨some x,l,c,zs,by simpa using hcs,nH hl hm (by simpa using hz) hcell hwz⟩
 subst hv0;obtain ⟨a1,n1,c1,rfl,hn1,hc1,L,hL,hLs⟩:=wT h1;refine ⟨⟨(zs.take n0).map Int.toNat,L,rt,b3⟩,a0,n0,e0,a1,n1,c1,rfl,?_,hL,⟨hrow.1,hrow.2.1⟩,⟨hn1,hc1⟩,hrt,?_,?_⟩
 · have h1:=hrow.1;have h2:=hrow.2.2.1;simp;omega
 · intro j hj;have g1:=hrow.1;have g2:=hrow.2.2.1;have hjz:j<zs.length:=by omega
   have hw:=hrow.2.2.2.1 _ (jK hjz);obtain ⟨k,hk,hk2⟩:=qI hw;have he:((zs.take n0).map Int.toNat).getD j 0=k:=by rw [List.getD,List.getElem?_map,List.getElem?_take,bG hj,iO hjz,hk];simp
   obtain ⟨b,off,ha,hb,hcell⟩:=hrow.2.2.2.2 (by intro e;rw [e] at hjz;simp at hjz);show ((zs.take n0).map Int.toNat).getD j 0≤255∧_;rw [he];refine ⟨hk2,b,off,ha,hb,?_⟩;rw [hcell j hjz,List.getD,iO hjz,Option.getD_some,hk]
 · intro r hr;obtain ⟨b,off,a,m,c,ha,hb,hcell,hlen,hm,hc,hfl⟩:=hLs r hr;refine ⟨b,off,a,m,c,ha,hb,hcell,hlen,hm,hc,fun k hk=>?_⟩;obtain ⟨b',off',g⟩:=hfl k hk;exact ⟨b',off',_,rfl,g⟩
end
def nU (d:Nat)(v:PV):Bool:=v.num==d&&v.bytes.isEmpty&&v.kids.isEmpty && !v.has
theorem aAX (d:Nat)(v:PV):nU d v=true ↔ v=dY d:=by obtain ⟨n,bs,ks,h⟩:=v;simp only [nU,dY,PV.num,PV.bytes,PV.kids,PV.has,Bool.and_eq_true,beq_iff_eq,List.isEmpty_iff,Bool.not_eq_true',PV.mk.injEq];exact ⟨fun ⟨⟨⟨a,b⟩,c⟩,d⟩=>⟨a,b,c,d⟩,fun ⟨a,b,c,d⟩=>⟨⟨⟨a,b⟩,c⟩,d⟩⟩
def cQ (m:Nat)(zs:List Int):List Int:=zs++aR ((m-zs.length % m) % m)
def hI (s:Nat)(n:Int)(zs:List Int):List Int:=zs++dP (aR s) 0 n s
def kL (a s:Nat)(n:Int)(zs:List Int):List Int:=dP zs a n s
def eK (f:Nat→List Int→List Int)(zs:List Int):Nat→List Int
 | 0=>zs
 | j+1=>f j (eK f zs j)
abbrev tC:=Nat→Int→Int→PV→Nat→List Int→List Int
def eJ (fs:List SFld)(vs:List PV):List Bool:=(List.range fs.length).map fun i => !nU (fs.getD i ⟨⟨#[]⟩,0,0,0,0⟩).dflt (vs.getD i (dY 0))
def nR (th:List Bool):Nat→Nat
 | 0=>0
 | j+1=>if th.getD j false=true then j+1 else nR th j
def uL (ss:List bK)(ref:Int):bK:=ss.getD ref.toNat ⟨⟨#[]⟩,[]⟩
def oP (fs:List SFld)(th:List Bool)(zs:List Int):List Int:=
 eK (fun i=>hI 2 ((bP fs th 4).pl.getD i 0)) (hI 2 (bP fs th 4).size (hI 2 (4+2 * (nR th fs.length:Int)) (cQ 2 zs))) (nR th fs.length)
def yS (b:Bool)(f:List Int→List Int)(zs:List Int):List Int:=
 match b with
 | true=>f zs
 | false=>zs
def lM (ss:List bK)(nx:tC)(ref:Int)(v:PV)(frm:Nat)(zs:List Int):List Int:=
 let fs:=(uL ss ref).fields
 let th:=eJ fs v.kids
 let st:=bP fs th 4
 let z1:=cQ st.al.toNat (oP fs th zs)
 let z2:=hI 4 ((z1.length:Int)-((cQ 2 zs).length:Int)) z1
 let z3:=kL frm 4 ((z1.length:Int)-frm) z2
 let z4:=z3++aR (z1.length+st.size.toNat-z3.length)
 eK (fun i=>yS (th.getD i false) (nx (fs.getD i ⟨⟨#[]⟩,0,0,0,0⟩).kind (fs.getD i ⟨⟨#[]⟩,0,0,0,0⟩).ref (fs.getD i ⟨⟨#[]⟩,0,0,0,0⟩).lists (v.kids.getD i (dY 0)) (z1.length+(st.pl.getD i 0).toNat))) z4 fs.length
def gR (nx:tC)(k:Nat)(ref lists:Int)(v:PV)(frm:Nat)(zs:List Int):List Int:=
 let step:=(bN k lists).toNat
 let z0:=cQ 4 zs
 let z1:=if step=8∧(z0.length+4) % 8≠0 then z0++aR 4 else z0
 let z2:=kL frm 4 ((z1.length:Int)-frm) (hI 4 (v.kids.length:Nat) z1)
 eK (fun i=>nx k ref lists (v.kids.getD i (dY 0)) (z1.length+4+i * step)) (z2++aR (step * v.kids.length)) v.kids.length
def lH (k:Nat)(v:PV)(at':Nat)(zs:List Int):List Int:=
 kL at' 4 (((cQ 4 zs).length:Int)-at') (hI 4 (v.bytes.length:Nat) (cQ 4 zs))++v.bytes++(if k=11 then [0] else [])
def oL (ss:List bK)(nx:tC)(k:Nat)(ref lists:Int)(v:PV)(at':Nat)(zs:List Int):List Int:=
 if cK k lists=true then kL at' (aP k).toNat v.num zs
 else if 0<lists then gR nx k ref (lists-1) v at' zs
 else if k=13 then lM ss nx ref v at' zs
 else lH k v at' zs
def fJ (ss:List bK):Nat→tC
 | 0=>fun _ _ _ _ _ zs=>zs
 | r+1=>oL ss (fJ ss r)
def tO (ss:List bK)(room:Nat)(root:Int)(v:PV):List Int:=lM ss (fJ ss room) root v 0 (aR 4)
theorem iK (m:Nat)(zs:List Int):zs.length≤(cQ m zs).length:=by simp [cQ]
theorem bC (s:Nat)(n:Int)(zs:List Int):(hI s n zs).length=zs.length+s:=by simp [hI,fT,aR]
theorem bX (a s:Nat)(n:Int)(zs:List Int):(kL a s n zs).length=zs.length:=fT ..
theorem gU {f:Nat→List Int→List Int}(hf:∀ i zs,zs.length≤(f i zs).length)(zs:List Int):∀ n,zs.length≤(eK f zs n).length
 | 0=>Nat.le_refl _
 | n+1=>eM (gU hf zs n) (hf n _)
theorem aDl (fs:List SFld)(th:List Bool)(zs:List Int):zs.length≤(oP fs th zs).length:=by refine eM ?_ (gU (fun i zs=>by rw [bC];omega) _ _);rw [bC,bC];have:=iK 2 zs;omega
def aDK (nx:tC):Prop:=∀ k ref lists v a zs,zs.length≤(nx k ref lists v a zs).length
theorem vV {ss:List bK}{nx:tC}(hn:aDK nx)(ref:Int)(v:PV)(frm:Nat)(zs:List Int):zs.length≤(lM ss nx ref v frm zs).length:=by refine eM ?_ (gU (fun i zs=>by unfold yS;split;exact hn ..;exact Nat.le_refl _) _ _);rw [List.length_append,bX,bC];have h1:=aDl (uL ss ref).fields (eJ (uL ss ref).fields v.kids) zs;have h2:=iK (bP (uL ss ref).fields (eJ (uL ss ref).fields v.kids) 4).al.toNat (oP (uL ss ref).fields (eJ (uL ss ref).fields v.kids) zs);omega
theorem aDy {nx:tC}(hn:aDK nx)(k:Nat)(ref lists:Int)(v:PV)(frm:Nat)(zs:List Int):zs.length≤(gR nx k ref lists v frm zs).length:=by
 refine eM ?_ (gU (fun i zs=>hn ..) _ _);rw [List.length_append,bX,bC];have h1:=iK 4 zs;split
 · rw [List.length_append];omega
 · omega
theorem aCO (k:Nat)(v:PV)(a:Nat)(zs:List Int):zs.length≤(lH k v a zs).length:=by have h1:=iK 4 zs;simp only [lH,List.length_append,bX,bC];omega
theorem hH (ss:List bK):∀ r,aDK (fJ ss r)
 | 0=>fun _ _ _ _ _ _=>Nat.le_refl _
 | r+1=>fun k ref lists v a zs=>by
  show zs.length≤(oL ss (fJ ss r) k ref lists v a zs).length;unfold oL;split
  · rw [bX];exact Nat.le_refl _
  · split
    · exact aDy (hH ss r) ..
    · split
      · exact vV (hH ss r) ..
      · exact aCO ..
theorem aCt (ss:List bK)(room:Nat)(root:Int)(v:PV):4≤(tO ss room root v).length:=by have h:=vV (ss:=ss) (hH ss room) root v 0 (aR 4);rw [show (aR 4).length=4 from rfl] at h;exact h
section
open Go.ChangeShapes Go.WideShapes Go.ChangeAt Go.Shelf
theorem aD7 (k r left:Nat){d fk:Nat}{fr fl:Int}{nm:ByteArray}{sure:Bool}{b g i bc:Nat}{a:Option Addr}{bs:List Int}{ss:List (bK × Value)}{es:List (aX × Value)}{sv ev:Value}{root:Int}{w:World}(ht:uO (es.map Prod.fst) k r)(hd:(d:Int)≤18446744073709551615)(hdf:dV (es.map Prod.fst) k r 0 d=true)(hs:Src g a bs bc w i)(hg:∀ W,Exc g w.heap.size w W→SchRows b W ss es sv ev) :
  Calls Tryd.prog 41 #[.agg #[sv,ev,.int .i64 root],.agg #[.int .u8 k,.int .i64 r,.int .i64 0],.pointer (some ⟨g,0,none⟩),.int .i64 left,.agg #[.string nm,.int .u8 fk,.int .i64 fr,.int .i64 fl,.int .u64 d],.bool sure] w (lC g a bs bc i w ((fF ss).map Prod.fst) (es.map Prod.fst) left k r 0 sure):=by
 have hlo:=ht.lo;have hhi:=ht.hi;have HT:=aA ht;have HD:=aA hd;have HDF:=aA hdf;clear ht hd hdf;obtain ⟨h0,h1,h2,h3,h4,h5,h6⟩:=kO w #[sv,ev,.int .i64 root] #[.int .u8 k,.int .i64 r,.int .i64 0] #[.string nm,.int .u8 fk,.int .i64 fr,.int .i64 fl,.int .u64 d] #[.int .u64 0,.slice none 0 0,.slice none 0 0,.bool false] #[.int .u64 0,.slice none 0 0,.slice none 0 0,.bool false] 31 75 77 38 38;have HGL:=aA (aD hs.blk);have HS0:=aA hs;have HS:=aA (hs.below h0);have HG:=aA hg;have HB:=aA h0;have Q1:=aA h1;have Q2:=aA h2;have Q3:=aA h3;have Q4:=aA h4;have Q5:=aA h5;have HSZ:=aA h6;clear h0 h1 h2 h3 h4 h5 h6 hs hg;go_enter Tryd.func41,Tryd.ntmps41;go_upto_region 2 with (fail)
 generalize (((((w.alloc (.cells #[sv,ev,.int .i64 root] 31)).alloc (.cells #[.int .u8 k,.int .i64 r,.int .i64 0] 75)).alloc (.cells #[.string nm,.int .u8 fk,.int .i64 fr,.int .i64 fl,.int .u64 d] 77)).alloc (.cells #[.int .u64 0,.slice none 0 0,.slice none 0 0,.bool false] 38)).alloc (.cells #[.int .u64 0,.slice none 0 0,.slice none 0 0,.bool false] 38))=W0 at *;go_wp2_with fail;refine (kT g a bs bc i W0 HS.out).mono ?_;rintro e W1 ⟨c,i1,rfl,hc,hi1,hs1,hx1⟩;have hgl:=HGL.out;have HS1:=aA hs1;have HX1:=aA ((Exc.of_below HB.out).thenB bD hx1);have HB1:=aA (eM (Nat.le_of_eq HSZ.out) hx1.size);have R1:=aA (aZ Q1.out hx1 (aD Q1.out) (by omega));have R2:=aA (aZ Q2.out hx1 (aD Q2.out) (by omega));have R3:=aA (aZ Q3.out hx1 (aD Q3.out) (by omega));have R4:=aA (aZ Q4.out hx1 (aD Q4.out) (by omega))
 have R5:=aA (aZ Q5.out hx1 (aD Q5.out) (by omega));clear hs1 hx1 HS Q1 Q2 Q3 Q4 Q5 HSZ HB hgl;have hk13:((k:Int)==13)=false:=by simp;omega
 obtain ⟨_,s0,s1,s2,_⟩:=aS R1.out;obtain ⟨_,t0,t1,t2,_⟩:=aS R2.out;obtain ⟨_,f0,f1,f2,f3,f4⟩:=lL R3.out;have hin:dE k 0=true:=by
  have hk:k=1∨k=2∨k=3∨k=4∨k=5∨k=6∨k=7∨k=8∨k=9∨k=10:=by omega
  rcases hk with rfl|rfl|rfl|rfl|rfl|rfl|rfl|rfl|rfl|rfl<;>decide
 go_wp2_with fail;refine (mG k r 0 W1 (by omega)).mono ?_;rintro e W2 ⟨rfl,hb2⟩;rw [hin];have HS2:=aA (HS1.out.below hb2);have HX2:=aA (HX1.out.bel bD hb2);have R12:=aA (aE R1.out hb2 (aD R1.out));have R22:=aA (aE R2.out hb2 (aD R2.out));have R32:=aA (aE R3.out hb2 (aD R3.out));have R42:=aA (aE R4.out hb2 (aD R4.out));have R52:=aA (aE R5.out hb2 (aD R5.out));clear hb2 hin s0 s1 s2 t0 t1 t2 f0 f1 f2 f3 f4 R1 R2 R3 R4 R5 HS1 HX1;obtain ⟨_,s0,s1,s2,_⟩:=aS R12.out;obtain ⟨_,t0,t1,t2,_⟩:=aS R22.out;obtain ⟨_,f0,f1,f2,f3,f4⟩:=lL R32.out;go_wp2_with fail;refine (aAp k r c d fk fr fl nm root W2 HT.out HS2.out (fun W hW=>HG.out W (HX2.out.thenB bD hW)) hc HD.out HDF.out).mono ?_;rintro e W3 ⟨z,i3,rfl,hz,hfz,hi3,hs3,hx3⟩;have hgl:=HGL.out;have HS3:=aA hs3;have HFZ:=aA hfz;have HX3:=aA (HX2.out.thenB bD hx3);have R43:=aA (aZ R42.out hx3 (aD R42.out) (by omega))
 have R53:=aA (aZ R52.out hx3 (aD R52.out) (by omega));clear s0 s1 s2 t0 t1 t2 f0 f1 f2 f3 f4 hs3 hx3 R12 R22 R32 R42 R52 hfz hgl;obtain ⟨_,u0,u1,u2,u3⟩:=aF R43.out;obtain ⟨_,v0,v1,v2,v3⟩:=aF R53.out;have p0:=aB R43.out 0;have p1:=aB R43.out 1;have p2:=aB R43.out 2;have p3:=aB R43.out 3;have q0:=aB R53.out 0;go_wp2;refine aI (fun Wf=>Wf.heap[w.heap.size+1+1+1]?=some (.cells #[.int .u64 z,.slice none 0 0,.slice none 0 0,.bool false] 38 (0,0))∧Exc g w.heap.size w Wf∧Src g a bs bc Wf i3) ⟨?_,?_,?_⟩ ?_
 · exact aO (bA R43.out (by simp) _) _ _ _ _
 · exact yO HX3.out (lD (lD (Nat.le_succ _))) (by omega) _ _ _ _ _ _
 · have hgl:=HGL.out;exact HS0.out.at (yO HX3.out (lD (lD (Nat.le_succ _))) (by omega) _ _ _ _ _ _) HS3.out (aC7 _ (by omega) (by omega) _ _ _ _ _ _)
 · rintro Wf ⟨e1,e2,e3⟩;obtain ⟨_,d0,d1,d2,d3⟩:=aF e1;exact dZ (v:=.agg #[.int .u64 z,.slice none 0 0,.slice none 0 0,.bool false]) (by simp [results,Tryd.results41,go_sem,d0,d1,d2,d3]) rfl ⟨dY z,_,i3,rfl,qQ _ _ z hz,⟨aD4 (vY hlo hhi) HFZ.out,aFL z⟩,fun h=>by omega,by omega,e3,e2⟩
end
end Go.Proofs.YtpbaaiilfkacnaaDoor
