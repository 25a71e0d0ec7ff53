/-
  A world in which the listed tables lie as the program's text lays them. No conditions.
-/
import Derived.Test.YtpbaaiilfkacnaaDoorPkQ3
import Derived.Deep.DeepHandedRow
import Derived.Laws.AppendOwn
import Derived.Laws.AppendOwnNone
import Derived.Deep.AppendSrc
import Derived.Laws.MakeOwn
import Derived.Lib.LaidTab
namespace Go.Proofs.YtpbaaiilfkacnaaDoor
open Go.ChangeShapes Go.WideShapes Go.ChangeAt Go.RowKit
theorem own:ownKnob Tryd.prog.godebug=none:=by kernel_rfl
theorem pK:laidOutB Tryd.prog=true:=by kernel_rfl
def IsRow (k:IntKind)(w:World)(a:Option Addr)(len cap:Nat)(zs:List Int):Prop:=
 len≤cap∧cap≤maxLen∧zs.length=cap∧(∀ n ∈ zs,(Lit.int k n).wf=true) ∧
 (zs≠[]→∃ b off,a=some ⟨b,off,none⟩∧b<w.heap.size∧∀ j,j<zs.length→w.cell? ⟨b,off+j,none⟩=some (.int k (zs.getD j 0)))
theorem mH (k:IntKind)(w:World)(a:Option Addr):IsRow k w a 0 0 []:=
 ⟨Nat.le_refl _,Nat.zero_le _,rfl,(fun n h=>by simp at h),(fun h=>absurd rfl h)⟩
theorem nH {k:IntKind}{w:World}{x:Addr}{len cap:Nat}{zs:List Int}(hl:len≤cap)(hm:cap≤maxLen)(hz:zs.length=cap)
  (hc:∀ i,i<zs.length→w.cell? (x.add i)=some (.int k (zs.getD i 0))) (hw:∀ n ∈ zs,(Lit.int k n).wf=true):IsRow k w (some x) len cap zs:=by
 refine ⟨hl,hm,hz,hw,fun hne=>?_⟩;have h0:0<zs.length:=List.length_pos_iff.2 hne;obtain ⟨b,off,rfl,hc'⟩:=ints_at hc h0;exact ⟨b,off,rfl,World.block_lt_of_cell? _ _ (hc' 0 h0),hc'⟩
def SrcRow (w:World)(A:Option Addr)(m c:Nat)(news:List Value):Prop:=
 news.length=m∧(∀ u ∈ news,u.oneCell'=true)∧((A=none∧m=0∧c=0)∨∃ ad,A=some ad∧∀ j u,news[j]?=some u→w.cell? (ad.add j)=some u)
def eI (zs:List Int):List Value:=zs.map (Value.int .u8)
theorem IsRow.src {w w':World}{a:Option Addr}{len cap:Nat}{zs:List Int}(h:IsRow .u8 w a len cap zs)(hb:Below w.heap.size w w'):SrcRow w' a len cap (eI (zs.take len)):=by
 obtain ⟨hl,_,hz,_,hp⟩:=h;refine ⟨by simp [eI];omega,fun u hu=>?_,?_⟩
 · obtain ⟨z,_,rfl⟩:=rX.1 hu;rfl
 · cases a with
   | none =>
    have h0:zs.length=0:=by
     rcases Nat.eq_zero_or_pos zs.length with h|h
     · exact h
     · obtain ⟨_,_,e,_⟩:=hp (by intro h';rw [h'] at h;simp at h);cases e
    exact .inl ⟨rfl,by omega,by omega⟩
   | some ad =>
    refine .inr ⟨ad,rfl,fun j u hu=>?_⟩;have hj:j<len∧j<zs.length:=by have:=(List.getElem?_eq_some_iff.1 hu).1;simp [eI] at this;omega
    obtain ⟨b,off,e,hlt,hc⟩:=hp (by intro h;rw [h] at hj;simp at hj);injection e with e;subst e;have h1:=(hb.cell (p:=⟨b,off+j,none⟩) hlt).trans (hc j hj.2);have h2:(eI (zs.take len))[j]?=some (Value.int .u8 (zs.getD j 0)):=by simp [eI,List.getD,hj.1,hj.2]
    rw [h2] at hu;rw [Go.WideShapes.add_plain,h1];exact hu
def aGF (w:World)(base:Nat)(v:Value)(zs:List Int):Prop:=
 ∃ g cap,v=.slice (some ⟨g,0,none⟩) zs.length cap∧base≤g∧g<w.heap.size∧zs.length≤cap∧cap≤maxLen∧(∀ i,i<zs.length→w.cell? ⟨g,i,none⟩=some (.int .u8 (zs.getD i 0)))∧(∀ i,w.frozen? ⟨g,i,none⟩=false)
theorem zL {w:World}{base:Nat}{v:Value}{n:Nat}{zs:List Int}{e:TypeId}(h:w.ownsRow base e 1 v n (eI zs))(hne:v≠.slice none 0 0):aGF w base v zs:=by
 obtain ⟨hl,h'⟩:=h;rcases h' with ⟨rfl,_⟩|⟨g,cap,cur,rfl,hb,hg,hn,hm,hs,ht⟩
 · exact absurd rfl hne
 · have hn':n=zs.length:=by simpa [eI] using hl.symm
   subst hn';have hlt:g<w.heap.size:=by
    rcases Nat.lt_or_ge g w.heap.size with h|h
    · exact h
    · rw [Array.getElem?_eq_none h] at hg;cases hg
   refine ⟨g,cap,rfl,hb,hlt,hn,hm,fun i hi=>?_,fun i=>?_⟩
   · have h1:(cur.toList.take (zs.length * 1))[i]?=some (Value.int .u8 (zs.getD i 0)):=by
      rw [ht];simp [eI,List.getD,hi]
     rw [Nat.mul_one,List.getElem?_take,bG hi] at h1;rw [cell_of_row w g i cur e (0,0) hg];simpa using h1
   · simp [World.frozen?,hg]
theorem aEw:(Tryd.prog.info? 5).map (fun i=>(i.zero,i.size,i.bytes))=some (some (.int .u8 0),1,1):=by kernel_rfl
section
variable {P:Program} (w:World)
end
theorem SrcRow.toSrc {P:Program}{w:World}{A:Option Addr}{m c:Nat}{news:List Value}{t e:TypeId}(ht:P.underlying t=some (.slice e))(h:SrcRow w A m c news):Go.Src P 1 t (.slice A m c) m news w:=by
 obtain ⟨hl,h1,hA⟩:=h;rcases hA with ⟨rfl,rfl,rfl⟩|⟨ad,rfl,hc⟩
 · have hn:news=[]:=List.eq_nil_of_length_eq_zero hl;subst hn;exact Go.Src.ofNil w ht 0
 · exact Go.Src.ofSlice w ht ad m c news (by simpa using hl) hc h1
def OwnR (w:World)(base:Nat)(e:TypeId)(g n cap:Nat)(zs:List Int):Prop:=w.ownsRow base e 1 (.slice (some ⟨g,0,none⟩) n cap) n (eI zs)
theorem OwnR.facts {w:World}{base:Nat}{e:TypeId}{g n cap:Nat}{zs:List Int}(h:OwnR w base e g n cap zs) :
  zs.length=n∧base≤g∧g<w.heap.size∧n≤cap∧cap≤maxLen∧(∀ i,i<zs.length→w.cell? ⟨g,i,none⟩=some (.int .u8 (zs.getD i 0)))∧(∀ i,w.frozen? ⟨g,i,none⟩=false):=by
 have hl:zs.length=n:=by have:=h.1;simpa [eI] using this
 obtain ⟨g',cap',hv,h1,h2,h3,h4,h5,h6⟩:=zL h (by intro h;cases h);cases hv;exact ⟨hl,h1,h2,by omega,h4,h5,h6⟩
def lF (n:Int)(k:Nat):Int:=IntKind.u8.wrap (n / 2 ^ (8 * k))
theorem vP (n:Int)(k:Nat):0≤lF n k∧lF n k≤255:=by unfold lF;rw [IntKind.wrap_u8];omega
def dP (zs:List Int)(a:Nat)(n:Int):Nat→List Int
 | 0=>zs
 | k+1=>(dP zs a n k).set (a+k) (lF n k)
theorem fT (zs:List Int)(a:Nat)(n:Int):∀ k,(dP zs a n k).length=zs.length
 | 0=>rfl
 | k+1=>by simp [dP,fT zs a n k]
theorem qE (zs:List Int)(a:Nat)(n:Int):∀ (k j:Nat),a+k≤zs.length→(dP zs a n k).getD j 0=if a≤j∧j<a+k then lF n (j-a) else zs.getD j 0
 | 0,j,_=>by simp [dP];omega
 | k+1,j,h=>by
  have ih:=qE zs a n k j (by omega);have hl:=fT zs a n k;simp only [dP];by_cases hj:j=a+k
  · subst hj;rw [bG (by omega),show a+k-a=k from by omega];simp [List.getD,hl,show a+k<zs.length by omega]
  · have e:((dP zs a n k).set (a+k) (lF n k)).getD j 0=(dP zs a n k).getD j 0:=by
     simp only [List.getD];rw [List.getElem?_set_ne (by omega)]
    rw [e,ih];by_cases h1:a≤j∧j<a+k
    · rw [bG h1,bG (by omega)]
    · rw [if_neg h1,if_neg (by omega)]
theorem OwnR.set {w:World}{base:Nat}{e:TypeId}{g n cap:Nat}{zs:List Int}(h:OwnR w base e g n cap zs)(j:Nat)(b:Int):OwnR (w.setCell ⟨g,j,none⟩ (.int .u8 b)) base e g n cap (zs.set j b):=by
 obtain ⟨hl,h'⟩:=h;rcases h' with ⟨hv,_⟩|⟨g',cap',cur,hv,hb,hg,hn,hm,hs,ht⟩
 · cases hv
 · cases hv;refine ⟨by simpa [eI] using hl,.inr ⟨g,cap,cur.setIfInBounds j (.int .u8 b),rfl,hb,?_,hn,hm,by simpa using hs,?_⟩⟩
   · simp [World.setCell,Array.getElem?_modify,hg]
   · have e1:eI (zs.set j b)=(eI zs).set j (.int .u8 b):=by simp [eI,List.map_set]
     rw [e1,←ht];simp [List.take_set]
def aR (n:Nat):List Int:=List.replicate n 0
theorem tQ (n:Nat):(madeCells (Value.int .u8 0).cells n).toList=eI (aR n):=by
 apply List.ext_getElem?
 intro i;by_cases hi:i<n
 · simp [madeCells,aR,eI,Value.cells,hi,Nat.mod_one]
 · simp [madeCells,aR,eI,hi]
theorem aAH {w:World}{base base':Nat}{e:TypeId}{g n cap:Nat}{zs:List Int}(h:OwnR w base e g n cap zs)(hb:base'≤base):OwnR w base' e g n cap zs:=by
 obtain ⟨hl,h'⟩:=h;refine ⟨hl,?_⟩;rcases h' with h1|⟨g',cap',cur,h1,h2,h3⟩
 · exact .inl h1
 · exact .inr ⟨g',cap',cur,h1,eM hb h2,h3⟩
theorem yM (base:Nat)(x:Int)(n:Nat)(w:World)(hbase:base≤w.heap.size)(hn:n≤8) :
  Calls Tryd.prog 87 #[.int .u64 x,.int .i64 n] w fun e w'=>∃ g,e=.returned (.slice (some ⟨g,0,none⟩) n n)∧OwnR w' base 5 g n n (dP (aR n) 0 x n)∧Below w.heap.size w w':=by
 obtain ⟨i0,hi0,hz0,hz1,hz2⟩:=info_parts aEw;have I1:=aA hi0;have I2:=aA hz0;have I3:=aA hz1;have I4:=aA hz2;clear hi0 hz0 hz1 hz2;go_enter Tryd.func87,Tryd.ntmps87;go_wp2_with (at_make;refine wpList_make_full _ rfl _ _ 22 rfl w.heap.size 5 i0 (.int .u8 0) 1 Tryd.underlying22 I1.out I2.out I3.out .i64 .i64 _ _ n rfl rfl rfl rfl (by rw [I4.out];omega) (by unfold maxLen;omega) bD ?_;intro w2 hown2 hg2);have hown:OwnR w2 w.heap.size 5 w.heap.size n n (aR n):=by unfold OwnR;rw [←tQ,show n=n * 1 from (Nat.mul_one n).symm];simpa using hown2
 have HO:=aA hown;have HG:=aA ((bH w.heap.size w).grown hg2 bD (by simp));clear hown hown2 hg2;go_loopw [6] (fun i wr=>∃ k:Nat,k≤n∧i=.int .i64 k∧OwnR wr w.heap.size 5 w.heap.size n n (dP (aR n) 0 x k)∧Below w.heap.size w wr) (fun i _=>(n-intOf i).toNat)
 case atStart=>exact ⟨0,Nat.zero_le _,rfl,HO.out,HG.out⟩
 case round =>
  obtain ⟨k,hk,rfl,hown,hgr⟩:=hrel;have HR:=aA hown;have HB:=aA hgr;clear hown hgr;by_cases hlt:k<n
  · obtain ⟨hl,_,_,hc,_,hcell,hfz⟩:=HR.out.facts;have c1:=hcell k (by omega);have c2:=hfz k;clear hcell hfz hl;go_wp2;go_roundw
    case rel =>
     refine ⟨k+1,by omega,by go_num,?_,?_⟩
     · have h:=HR.out.set k (lF x k);simp only [dP,Nat.zero_add];exact h
     · exact HB.out.setCell bD _
    case measure=>simp [intOf];omega
  · go_wp2;go_ret;obtain rfl:n=k:=by omega
    exact ⟨w.heap.size,rfl,aAH HR.out hbase,HB.out⟩
theorem yU (b off n cap:Nat)(w:World)(f:Nat→Int)(hn8:n≤8)(hc:∀ i,i<n→w.cell? ⟨b,off+i,none⟩=some (.int .u8 (f i)))(hb:∀ i,i<n→0≤f i∧f i≤255) :
  Calls Tryd.prog 117 #[.slice (some ⟨b,off,none⟩) n cap] w fun e w'=>e=.returned (.int .u64 (mE f n))∧w=w':=by
 have HB:=aA hb;have HC:=aA hc;clear hc hb;go_enter Tryd.func117,Tryd.ntmps117;go_wp2
 go_loop [3,4] (fun x i=>∃ k:Nat,k≤n∧i=.int .i64 k∧x=.int .u64 (mE f k)) (fun _ i=>(n-intOf i).toNat)
 case atStart=>exact ⟨0,Nat.zero_le _,rfl,rfl⟩
 case round =>
  obtain ⟨k,hk,rfl,rfl⟩:=hrel;by_cases hlt:k<n
  · have hcl:=HC.out k hlt;have b1:=pM f n HB.out k (by omega);have b2:=HB.out k hlt;have E:=aA (aD5 k (by omega) (mE f k) (f k) b1.1 b1.2 b2.1 b2.2);clear b1 b2;go_wp2
    go_round
    case rel=>exact ⟨k+1,by omega,by go_num,by rw [E.out];rfl⟩
    case measure=>simp [intOf];omega
  · go_wp2;go_ret;obtain rfl:n=k:=by omega
    exact ⟨rfl,rfl⟩
section
variable {P:Program} (w:World)
theorem iD (base:Nat)(t tx ty e:TypeId)(i:TypeInfo)(z:Value)(size:Nat)(ht:P.underlying t=some (.slice e))(hi:P.info? e=some i)(hz:i.zero=some z)(hsize:i.size=size)(hzs:z.cells.size=size)
  (v:Value) (n:Nat) (xs:List Value) (hown:w.ownsRow base e size v n xs) (x:Value) (m:Nat) (news:List Value) (hs:Go.Src P size tx x m news w)
  (h63:n+m≤maxLen) (hbytes:(n+m) * i.bytes≤140737488355328) (hbase:base≤w.heap.size) :
  ∃ v' w',(Builtin.append_ #[t,tx] ty #[v,x]).run P w=.ok v' w'∧w'.ownsRow base e size v' (n+m) (xs++news)∧w.grownBy w' v.ownBlock∧(v'.ownBlock=v.ownBlock∨v'.ownBlock=some w.heap.size):=by
 have hsmall:((n+m:Nat):Int)≤9223372036854775807:=by simp only [maxLen] at h63;omega
 have hnl:news.length=m * size:=hs.newsLen;have hxl:xs.length=n * size:=hown.1;have hlen:(xs++news).length=(n+m) * size:=by rw [List.length_append,hxl,hnl,Nat.add_mul]
 have hs':Go.Src P i.size tx x m news w:=by rw [hsize];exact hs
 have grown:∀ (old:Nat) (row:Option Nat),
   (w.drew.alloc (.cells ((xs++news).toArray++Builtin.zeroCells z.cells (grownCap w (n+m) old e-(n+m))) e)).ownsRow base e size
    (.slice (some ⟨w.heap.size,0,none⟩) (n+m) (grownCap w (n+m) old e)) (n+m) (xs++news) ∧
   w.grownBy (w.drew.alloc (.cells ((xs++news).toArray++Builtin.zeroCells z.cells (grownCap w (n+m) old e-(n+m))) e)) row:=by
  intro old row;have hge:=grownCap_ge w (n+m) old e;have hcm:grownCap w (n+m) old e≤maxLen:=grownCap_le_maxLen w (n+m) old e h63;refine ⟨⟨hlen,.inr ⟨w.heap.size,_,_,rfl,hbase,cN w.drew _,hge,hcm,?_,?_⟩⟩,⟨rfl,rfl,rfl,by simp,fun k hk _=>Below.heap_alloc w.drew _ k hk⟩⟩
  · rw [Array.size_append,List.size_toArray,size_zeroCells,hzs,hlen,←Nat.add_mul,Nat.add_sub_cancel' hge]
  · simp only [Array.toList_append];rw [←hlen];exact List.take_left
 rcases hown.2 with ⟨rfl,rfl⟩|⟨g,cap,cur,rfl,hbg,hg,hnc,hcm,hcs,htake⟩
 · have hx:xs=[]:=List.eq_nil_of_length_eq_zero (by rw [hxl,Nat.zero_mul]);subst hx;by_cases hm:m=0
   · subst hm;have hn:news=[]:=List.eq_nil_of_length_eq_zero (by rw [hnl,Nat.zero_mul]);subst hn;refine ⟨.slice none 0 0,w,?_,World.ownsRow_nil w base e size,⟨rfl,rfl,rfl,Nat.le_refl _,fun _ _ _=>rfl⟩,.inl rfl⟩;rcases hs.kind with ⟨e',hk⟩|hk<;>simp [Builtin.append_,run_underlying ht,run_underlying hk,sizeOf,typeInfo,hi,hs'.len,hs'.cells]
   · have hr:=run_append_grow_src (P:=P) w t tx ty e i z ht hi hz none 0 0 [] (run_firstCells_none w.drew i.size 0 0 0) x m news hs' (by omega) (by omega) (growslice_fits (by omega) (by simpa using hbytes));have hgr:=grown 0 (Value.ownBlock (.slice none 0 0));exact ⟨_,_,hr,hgr.1,hgr.2,.inr rfl⟩
 · by_cases hroom:n+m≤cap
   · have hfit:n * i.size+news.length≤cur.size:=by
      rw [hsize,hnl,hcs,←Nat.add_mul];exact Nat.mul_le_mul_right _ hroom
     have hst:=run_storeCells_at P g (n * i.size) e news 0 cur w hg (by simpa using hfit) hs.one;simp only [Nat.add_zero] at hst;have hr:(Builtin.append_ #[t,tx] ty #[.slice (some ⟨g,0,none⟩) n cap,x]).run P w=.ok (.slice (some ⟨g,0,none⟩) (n+m) cap) (w.setRow g (cur.toList.take (n * i.size)++news++cur.toList.drop (n * i.size+news.length)).toArray):=by rcases hs.kind with ⟨e',hk⟩|hk<;>simp [Builtin.append_,run_underlying ht,run_underlying hk,sizeOf,typeInfo,hi,hs'.len,hroom,hs'.cells,Addr.add_lit,hst]
     refine ⟨_,_,hr,⟨hlen,.inr ⟨g,cap,_,rfl,hbg,setRow_heap w g cur _ e _ hg,hroom,hcm,?_,?_⟩⟩,⟨rfl,rfl,rfl,by simp,fun k _ hk=>setRow_other w g k _ (fun e=>hk (by simp [Value.ownBlock,e]))⟩,.inl rfl⟩
     · simp only [List.size_toArray,List.length_append,List.length_take,List.length_drop,Array.length_toList];rw [←hcs];omega
     · rw [hsize,htake,←hlen];exact List.take_left
   · have holds:∀ j u,xs[j]?=some u→w.cell? ((⟨g,0,none⟩:Addr).add j)=some u:=hown.cells (g:=g) rfl;have hf:=run_firstCells_some (P:=P) w.drew i.size n ⟨g,0,none⟩ n cap xs (by rw [hsize];exact hown.1) (by simpa using holds);have hr:=run_append_grow_src (P:=P) w t tx ty e i z ht hi hz (some ⟨g,0,none⟩) n cap xs hf x m news hs' (by omega) hsmall (growslice_fits (by omega) hbytes);have hgr:=grown cap (Value.ownBlock (.slice (some ⟨g,0,none⟩) n cap));exact ⟨_,_,hr,hgr.1,hgr.2,.inr rfl⟩
theorem pN {ops:Array Oper}{rest:List Oper}{o:Oper}{a:Act}{Q:Exit→Act→World→Prop}(hgd:o.guard=none)(s x:Operand)(t tx:TypeId)
  (ho:o.op=.call { callee:=.builtin .append,args:=#[s,x],argTypes:=#[t,tx] })
  (base:Nat) (e:TypeId) (i:TypeInfo) (z:Value) (size:Nat) (ht:P.underlying t=some (.slice e)) (hi:P.info? e=some i) (hz:i.zero=some z) (hsize:i.size=size) (hzs:z.cells.size=size)
  (v:Value) (n:Nat) (xs:List Value) (hs:a.eval s=v) (hown:w.ownsRow base e size v n xs) (y:Value) (m:Nat) (news:List Value) (hx:a.eval x=y) (hr:Go.Src P size tx y m news w)
  (h63:n+m≤maxLen) (hbytes:(n+m) * i.bytes≤140737488355328) (hbase:base≤w.heap.size)
  (h:∀ v' w',w'.ownsRow base e size v' (n+m) (xs++news)→w.grownBy w' v.ownBlock→(v'.ownBlock=v.ownBlock∨v'.ownBlock=some w.heap.size)→wpList P ops Q rest (a.put o.dst v') w'):wpList P ops Q (o::rest) a w:=by
 refine wpList_plain hgd fun K hK=>?_;obtain ⟨v',w',hrun,h2,h3,h4⟩:=iD (P:=P) w base t tx o.type e i z size ht hi hz hsize hzs v n xs hown y m news hr h63 hbytes hbase;unfold Oper.wp execOp;simp only [ho,resolve,invoke,builtin,Sem.run_bind,Sem.run_pure,Result.andThen_ok,List.map_toArray,List.map_cons,List.map_nil,hs,hx,hrun];exact hK _ _ (h v' w' h2 h3 h4)
theorem fK {ops:Array Oper}{rest:List Oper}{o:Oper}{a:Act}{Q:Exit→Act→World→Prop}(hgd:o.guard=none)(s x:Operand)(t tx:TypeId)
  (ho:o.op=.call { callee:=.builtin .append,args:=#[s,x],argTypes:=#[t,tx] })
  (base:Nat) (e:TypeId) (i:TypeInfo) (z:Value) (size:Nat) (ht:P.underlying t=some (.slice e)) (hi:P.info? e=some i) (hz:i.zero=some z) (hsize:i.size=size) (hzs:z.cells.size=size)
  (v:Value) (hs:a.eval s=v) (hown:w.ownsRow base e size v 0 []) (y:Value) (m:Nat) (news:List Value) (hx:a.eval x=y) (hr:Go.Src P size tx y m news w)
  (h63:m≤maxLen) (hbytes:m * i.bytes≤140737488355328) (hbase:base≤w.heap.size)
  (h:∀ v' w',w'.ownsRow base e size v' m news→w.grownBy w' v.ownBlock→(v'.ownBlock=v.ownBlock∨v'.ownBlock=some w.heap.size)→wpList P ops Q rest (a.put o.dst v') w'):wpList P ops Q (o::rest) a w:=
 pN w hgd s x t tx ho base e i z size ht hi hz hsize hzs v 0 [] hs hown y m news hx hr (by rw [cX];exact h63) (by rw [cX];exact hbytes) hbase (fun v' w' h2 h3 h4=>h v' w' (by rw [cX,List.nil_append] at h2;exact h2) h3 h4)
end
section
open Go.Shelf
section
variable {P:Program} {ops:Array Oper} {Q:Exit→Act→World→Prop} {md:Region.Mode} {s:Nat} {U V:World→Prop}
def aEo (s:Nat)(U V:World→Prop)(listed:Array Bool)(w:World):Prop:=U w∧(listed.getD s true=false→V w)
def gE (P:Program)(md:Region.Mode)(ops:Array Oper)(Q:Exit→Act→World→Prop)(s:Nat)(U V:World→Prop)(fuel:Nat):Array Bool→Act→World→Prop:=
 Nat.rec (fun l a w=>Region.ready md ops l=[]∧Q .normal a w) (fun _ next l a w=>(Region.ready md ops l=[]→Q .normal a w)∧∀ i,i ∈ Region.ready md ops l→wpOp P ops Q i (fun b v=>aEo s U V (l.setIfInBounds i true) v∧next (l.setIfInBounds i true) b v) a w) fuel
theorem aC0 (n:Nat):∀ (l:Array Bool) (a:Act) (w:World),gE P md ops Q s U V n l a w→wpAny P md ops Q n l a w:=by
 induction n with
 | zero=>exact fun _ _ _ h=>h
 | succ n ih=>exact fun l a w h=>⟨h.1,fun i hi=>wpOp_mono (fun b v k=>ih _ b v k.2) (h.2 i hi)⟩
def nK (md:Region.Mode)(ops:Array Oper)(s i:Nat):Bool:=
 match ops[s]? with
 | some o=>o.after.any (fun e=>Region.binds md e&&e.on==i) && !(i==s)
 | none=>false
theorem aA2 {i:Nat}(h:nK md ops s i=true):i≠s∧∃ o,ops[s]?=some o∧∃ e ∈ o.after,Region.binds md e=true∧e.on=i:=by
 unfold nK at h;split at h
 · rename_i o ho
   simp only [Bool.and_eq_true,Array.any_eq_true',Bool.not_eq_true',beq_eq_false_iff_ne,beq_iff_eq] at h;obtain ⟨⟨e,he,hb,hi⟩,hne⟩:=h;exact ⟨hne,o,ho,e,he,hb,hi⟩
 · cases h
theorem aBo {i:Nat}{oi:Oper}{v:Value}(hi:ops[i]?=some oi)(hw:nK md ops s i=true)(hsel:∀ (j:Nat) (o:Oper) c b,ops[j]?=some o→o.op≠.select c b)(hQ:∀ p b u,Q (.panic p) (b.put oi.dst v) u→Q (.panic p) b u)(n:Nat) :
  ∀ (l:Array Bool) (a:Act) (w:World),(∀ j oj,ops[j]?=some oj→j≠i→l.getD j true=false→(∀ e ∈ oj.after,Region.binds md e=true→e.on≠i)→oi.apart ops oj=true)→i ∈ Region.ready md ops l→l.getD s true=false →
   YieldsIf P ops (fun u=>U u∧V u) oi v a→U w→V w→gE P md ops Q s U V n (l.setIfInBounds i true) (a.put oi.dst v) w→gE P md ops Q s U V (n+1) l a w:=by
 obtain ⟨his,os,hos,e0,he0,hb0,hi0⟩:=aA2 hw;have main:∀ (l:Array Bool) (a:Act) (w:World),i ∈ Region.ready md ops l→YieldsIf P ops (fun u=>U u∧V u) oi v a→U w→V w→(n':Nat)→gE P md ops Q s U V n' (l.setIfInBounds i true) (a.put oi.dst v) w →
   wpOp P ops Q i (fun b u=>aEo s U V (l.setIfInBounds i true) u∧gE P md ops Q s U V n' (l.setIfInBounds i true) b u) a w:=fun l a w _ hy hU hV _ H=>hy.wpOp hi ⟨hU,hV⟩ ⟨⟨hU,fun _=>hV⟩,H⟩
 induction n with
 | zero =>
  intro l a w _ hr _ hy hU hV H;refine ⟨fun h0=>(by rw [h0] at hr;cases hr),fun j hj=>?_⟩;rcases Nat.decEq j i with hne|rfl
  · have h1:=ready_mono hj hne;rw [H.1] at h1;cases h1
  · exact main l a w hr hy hU hV 0 H
 | succ n ih =>
  intro l a w hfree hr hl hy hU hV H;refine ⟨fun h0=>(by rw [h0] at hr;cases hr),fun j hj=>?_⟩;rcases Nat.decEq j i with hne|rfl
  · obtain ⟨hun,oj,hoj,hdone⟩:=mem_ready.1 hj;have hoff:=(mem_ready.1 hr).1;have hno:∀ e ∈ oj.after,Region.binds md e=true→e.on≠i:=by
     rintro e he hb rfl;have h1:=hdone e he hb;rcases Nat.lt_or_ge e.on l.size with hlt|hge
     · simp [hlt] at h1 hoff;rw [hoff] at h1;cases h1
     · simp [Array.getElem?_eq_none hge] at h1
    have hjs:j≠s:=by rintro rfl;rw [hos] at hoj;injection hoj with hoj;subst hoj;exact hno e0 he0 hb0 hi0
    have hkept:((l.setIfInBounds i true).setIfInBounds j true).getD s true=false:=by rw [getD_set_ne true hjs,getD_set_ne true his];exact hl
    refine wpOp_mono (fun b u k=>?_) (wpOp_putIf (S:=fun u=>U u∧V u) hoj (hfree j oj hoj hne hun hno) (fun c b=>hsel i oi c b hi) (fun c b=>hsel j oj c b hoj) hQ hy (H.2 j (ready_mono hj hne)));obtain ⟨hy',⟨hU',hV'⟩,hrest⟩:=k;refine ⟨⟨hU',fun _=>hV' hkept⟩,ih (l.setIfInBounds j true) b u (fun m om hm hmi hmun hmno=>hfree m om hm hmi ?_ hmno) (ready_mono hr (Ne.symm hne)) (by rw [getD_set_ne true hjs];exact hl) hy' hU' (hV' hkept) ?_⟩
    · rcases Nat.decEq j m with hjm|rfl
      · rwa [getD_set_ne true hjm] at hmun
      · exact hun
    · rw [Array.setIfInBounds_comm _ _ hne];exact hrest
  · exact main l a w hr hy hU hV (n+1) H
theorem aCo {i:Nat}{oi:Oper}{v:Value}{n:Nat}{l:Array Bool}{a:Act}{w:World}(hi:ops[i]?=some oi)(hs:Region.noSelect ops=true)(hf:Region.free md ops l i=true)(hr:(Region.ready md ops l).contains i=true)(hw:nK md ops s i=true)(hl:l.getD s true=false)
  (hQ:∀ p b u,Q (.panic p) (b.put oi.dst v) u→Q (.panic p) b u) (hy:YieldsIf P ops (fun u=>U u∧V u) oi v a) (hU:U w) (hV:V w) (h:gE P md ops Q s U V n (l.setIfInBounds i true) (a.put oi.dst v) w):gE P md ops Q s U V (n+1) l a w:=
 aBo hi hw (Region.noSelect_spec hs) hQ n l a w (Region.free_spec hi hf) (by simpa using hr) hl hy hU hV h
theorem cA {i:Nat}{o:Oper}{n:Nat}{l:Array Bool}{a:Act}{w:World}(hr:Region.ready md ops l=[i])(ho:ops[i]?=some o)
  (h:∀ K:Act→World→Prop,Hid (∀ b u,U u→V u→gE P md ops Q s U V n (l.setIfInBounds i true) b u→K b u)→if Region.wanted o (yielded ops a.tmps)=true then Oper.wp P o a w K Q else K (a.put o.dst undef) w):gE P md ops Q s U V (n+1) l a w:=by
 refine ⟨fun h0=>(by rw [hr] at h0;cases h0),fun j hj=>?_⟩;rw [hr] at hj;obtain rfl:=List.mem_singleton.1 hj;have k:=h (fun b u=>aEo s U V (l.setIfInBounds j true) u∧gE P md ops Q s U V n (l.setIfInBounds j true) b u) (aA fun b u hU hV hh=>⟨⟨hU,fun _=>hV⟩,hh⟩);unfold wpOp;simp only [ho];by_cases hw:Region.wanted o (yielded ops a.tmps)=true
 · rw [bG hw] at k ⊢;exact .inl k
 · rw [if_neg hw] at k ⊢;exact k
theorem eW {o:Oper}{n:Nat}{l:Array Bool}{a:Act}{w:World}(hr:Region.ready md ops l=[s])(ho:ops[s]?=some o)
  (h:∀ K:Act→World→Prop,Hid (∀ b u,U u→gE P md ops Q s U V n (l.setIfInBounds s true) b u→K b u)→if Region.wanted o (yielded ops a.tmps)=true then Oper.wp P o a w K Q else K (a.put o.dst undef) w):gE P md ops Q s U V (n+1) l a w:=by
 have hset:(l.setIfInBounds s true).getD s true=true:=by
  rcases Nat.lt_or_ge s l.size with hlt|hge
  · simp [hlt]
  · simp [Array.getElem?_eq_none (show (l.setIfInBounds s true).size≤s by simpa using hge)]
 refine ⟨fun h0=>(by rw [hr] at h0;cases h0),fun j hj=>?_⟩;rw [hr] at hj;obtain rfl:=List.mem_singleton.1 hj;have k:=h (fun b u=>aEo j U V (l.setIfInBounds j true) u∧gE P md ops Q j U V n (l.setIfInBounds j true) b u) (aA fun b u hU hh=>⟨⟨hU,fun h1=>by rw [hset] at h1;cases h1⟩,hh⟩);unfold wpOp;simp only [ho];by_cases hw:Region.wanted o (yielded ops a.tmps)=true
 · rw [bG hw] at k ⊢;exact .inl k
 · rw [if_neg hw] at k ⊢;exact k
theorem eX {l:Array Bool}{a:Act}{w:World}(hr:Region.ready md ops l=[])(h:Q .normal a w)(n:Nat):gE P md ops Q s U V n l a w:=by
 cases n with
 | zero=>exact ⟨hr,h⟩
 | succ n=>exact ⟨fun _=>h,fun i hi=>by rw [hr] at hi;cases hi⟩
theorem eG {id:Nat}{a:Act}{w:World}(s:Nat)(U V:World→Prop)(hm:P.follows .mixedOrders=true)(h:gE P .any ops Q s U V ops.size (Array.replicate ops.size false) a w.drew):(Code.region id ops true).wp P Q a w:=
 wp_region_any hm (aC0 _ _ _ _ h)
end
theorem aD0 (k:Int):0≤aP k∧aP k≤8:=by
 unfold aP;split
 · omega
 · split
   · omega
   · split
     · omega
     · split<;>omega
theorem zP (kind ref lists:Nat)(w:World) :
  Calls Tryd.prog 51 #[.agg #[.int .u8 kind,.int .i64 ref,.int .i64 lists]] w fun e w'=>e=.returned (.bool (dE kind lists))∧Below w.heap.size w w':=by
 have h0:=cN w (.cells #[.int .u8 kind,.int .i64 ref,.int .i64 lists] 75);have HB:=aA ((bH w.heap.size w).alloc bD (.cells #[.int .u8 kind,.int .i64 ref,.int .i64 lists] 75));obtain ⟨_,x0,x1,x2,_⟩:=aS h0;clear h0;by_cases hl:lists=0
 · have HS:Hid (dE kind lists=decide (0<aP kind)):=aA (by unfold dE;rw [fO hl,Bool.true_and]);subst hl;go_enter Tryd.func51,Tryd.ntmps51;go_wp2_with fail;refine (lO _ _).mono ?_;rintro e W1 ⟨rfl,rfl⟩;generalize aP (kind:Int)=z at *;go_wp2;go_ret;exact ⟨bZ HS.out.symm,HB.out⟩
 · have HS:Hid (dE kind lists=false):=aA (by unfold dE;rw [iB hl,Bool.false_and]);have hl1:((lists:Int)==0)=false:=by simp;omega
   clear hl;go_enter Tryd.func51,Tryd.ntmps51;go_wp2;go_ret;exact ⟨bZ HS.out.symm,HB.out⟩
def hY (n m:Int):Int:=(n+m-1) / m * m
def aDn:SFld:=⟨⟨#[]⟩,0,0,0,0⟩
theorem aEX (l:List Int)(k:Nat)(z:Int):(eO l).toArray.setIfInBounds k (.int .i64 z)=(eO (l.set k z)).toArray:=by rw [gJ,gJ,List.map_set];simp
theorem aCV (n:Nat):(eO (List.replicate n 0))=List.replicate n (.int .i64 0):=by rw [gJ];simp
def gW (f:SFld):Int:=if dE f.kind f.lists=true then aP f.kind else 4
structure lQ where
 pl:List Int
 size:Int
 al:Int
def jV (z:Int)(b:Bool)(f:SFld)(k:Nat)(s:lQ):lQ:=
 if b=true∧gW f=z then ⟨s.pl.set k (hY s.size z),hY s.size z+z,max s.al z⟩ else s
def eA (z:Int)(fs:List SFld)(th:List Bool)(s:lQ):Nat→lQ
 | 0=>s
 | k+1=>jV z (th.getD k false) (fs.getD k aDn) k (eA z fs th s k)
def inlinesL:List Int:=[8,4,2,1]
def bP (fs:List SFld)(th:List Bool):Nat→lQ
 | 0=>⟨List.replicate fs.length 0,4,4⟩
 | z+1=>eA (inlinesL.getD z 0) fs th (bP fs th z) fs.length
theorem kS (z:Nat)(h:z<4):inlinesL.getD z 0=8∨inlinesL.getD z 0=4∨inlinesL.getD z 0=2∨inlinesL.getD z 0=1:=by
 have:z=0∨z=1∨z=2∨z=3:=by omega
 rcases this with rfl|rfl|rfl|rfl<;>decide
theorem sA {n z:Int}(hz:z=8∨z=4∨z=2∨z=1)(_h:0≤n):n≤hY n z∧hY n z≤n+7:=by unfold hY;rcases hz with rfl|rfl|rfl|rfl<;>omega
theorem aEs {n c z:Int}(hz:z=8∨z=4∨z=2∨z=1)(h1:n≤c)(h2:c≤hY n z)(h3:¬c % z=0):c+1≤hY n z:=by unfold hY at *;rcases hz with rfl|rfl|rfl|rfl<;>omega
theorem aEd {n c z:Int}(hz:z=8∨z=4∨z=2∨z=1)(h1:n≤c)(h2:c≤hY n z)(h3:c % z=0):c=hY n z:=by unfold hY at *;rcases hz with rfl|rfl|rfl|rfl<;>omega
theorem aAZ {z:Int}{fs:List SFld}{th:List Bool}{s:lQ}{k:Nat}(hk:k<fs.length)(ht:k<th.length):eA z fs th s (k+1)=jV z th[k] fs[k] k (eA z fs th s k):=by show jV z (th.getD k false) (fs.getD k aDn) k _=_;rw [List.getD,iO ht,List.getD,iO hk,Option.getD_some,Option.getD_some]
theorem nB {z:Int}(hz:z=8∨z=4∨z=2∨z=1)(fs:List SFld)(th:List Bool)(s:lQ)(h0:4≤s.size)(h4:4≤s.al)(h8:s.al≤8):∀ k:Nat,(eA z fs th s k).pl.length=s.pl.length∧4≤(eA z fs th s k).size∧(eA z fs th s k).size≤s.size+15 * k∧4≤(eA z fs th s k).al∧(eA z fs th s k).al≤8
 | 0=>by simp [eA];omega
 | k+1=>by
  obtain ⟨h1,h2,h3,h5,h6⟩:=nB hz fs th s h0 h4 h8 k;have hm:=sA hz (show 0≤(eA z fs th s k).size by omega);unfold eA jV;split
  · simp only [List.length_set];refine ⟨h1,?_,?_,?_,?_⟩
    · omega
    · omega
    · omega
    · omega
  · omega
theorem jS (fs:List SFld)(th:List Bool):∀ z:Nat,z≤4→(bP fs th z).pl.length=fs.length∧4≤(bP fs th z).size∧(bP fs th z).size≤4+15 * (fs.length * z:Nat)∧4≤(bP fs th z).al∧(bP fs th z).al≤8
 | 0,_=>by simp [bP]
 | z+1,hz=>by obtain ⟨h1,h2,h3,h5,h6⟩:=jS fs th z (by omega);have hu:=nB (kS z (by omega)) fs th (bP fs th z) h2 h5 h6 fs.length;rw [Nat.mul_succ];unfold bP;obtain ⟨g1,g2,g3,g4,g5⟩:=hu;refine ⟨g1.trans h1,g2,?_,g4,g5⟩;generalize fs.length * z=q at *;omega
theorem aAa {z:Int}{b:Bool}{f:SFld}{k:Nat}{s:lQ}(hb:b=true)(hi:gW f=z):jV z b f k s=⟨s.pl.set k (hY s.size z),hY s.size z+z,max s.al z⟩:=bG ⟨hb,hi⟩
theorem tI {z:Int}{b:Bool}{f:SFld}{k:Nat}{s:lQ}(h:b=false∨¬gW f=z):jV z b f k s=s:=by
 refine if_neg (fun hc=>?_);rcases h with h|h
 · rw [h] at hc;exact absurd hc.1 (by decide)
 · exact h hc.2
theorem zB {fn:ByteArray}{fk fr fl fd:Nat}(h:dE fk fl=true):gW ⟨fn,fk,fr,fl,fd⟩=aP fk:=bG h
theorem aBB {fn:ByteArray}{fk fr fl fd:Nat}(h:dE fk fl=false):gW ⟨fn,fk,fr,fl,fd⟩=4:=if_neg (by rw [h];decide)
theorem sG (f:SFld):0≤gW f∧gW f≤8:=by
 unfold gW;split
 · exact aD0 _
 · omega
theorem yA (fn:ByteArray)(fk fr fl fd:Nat)(w:World) :
  Calls Tryd.prog 83 #[.agg #[.string fn,.int .u8 fk,.int .i64 fr,.int .i64 fl,.int .u64 fd]] w fun e w'=>e=.returned (.int .i64 (gW ⟨fn,fk,fr,fl,fd⟩))∧Below w.heap.size w w':=by
 have hq:=cN w (.cells #[.string fn,.int .u8 fk,.int .i64 fr,.int .i64 fl,.int .u64 fd] 77);have HB:=aA ((bH w.heap.size w).alloc bD (.cells #[.string fn,.int .u8 fk,.int .i64 fr,.int .i64 fl,.int .u64 fd] 77));go_enter Tryd.func83,Tryd.ntmps83;go_upto_region 1 with (fail);generalize w.alloc (.cells #[.string fn,.int .u8 fk,.int .i64 fr,.int .i64 fl,.int .u64 fd] 77)=W1 at *;have hlt:=aD hq;have y1:=(aU hq 1).trans rfl;have y2:=(aU hq 2).trans rfl;have y3:=(aU hq 3).trans rfl;have HQ:=aA hq;clear hq;go_wp2_with fail;refine (zP fk fr fl W1).mono ?_;rintro e W2 ⟨rfl,hb2⟩;have HB2:=aA (HB.out.trans (hb2.mono HB.out.size));have z1:=(aU (aE HQ.out hb2 hlt) 1).trans rfl;clear hb2 y1 y2 y3;cases hnum:dE fk fl
 · have HE:=aA (aBB (fn:=fn) (fr:=fr) (fd:=fd) hnum);clear hnum;go_wp2;go_ret;exact ⟨cH HE.out.symm,HB2.out⟩
 · have HE:=aA (zB (fn:=fn) (fr:=fr) (fd:=fd) hnum);clear hnum;go_wp2_with fail;refine (lO (fk:Int) W2).mono ?_;rintro e W3 ⟨rfl,rfl⟩;go_wp2;go_ret;exact ⟨cH HE.out.symm,HB2.out⟩
def zZ (b:Bool):List Value:=[.bool b]
def cE (l:List Bool):List Value:=l.flatMap zZ
theorem aDN {w:World}{base:Nat}{v:Value}{l:List Bool}(h:w.ownsRow base 4 1 v l.length (cE l))(k:Nat)(hk:k<l.length) :
  ∃ g c,v=.slice (some ⟨g,0,none⟩) l.length c∧l.length≤c∧g<w.heap.size∧w.cell? ⟨g,k,none⟩=some (.bool l[k]):=by
 obtain ⟨g,c,hv,hc,hg,hcell⟩:=eP zZ 1 (fun _=>rfl) h k hk;have h0:=hcell 0 (by omega);rw [Nat.mul_one,Nat.add_zero] at h0;exact ⟨g,c,hv,hc,hg,h0⟩
end
section
variable {P:Program} (w:World)
theorem rV {ops:Array Oper}{o:Oper}{a:Act}{K:Act→World→Prop}{Q:Exit→Act→World→Prop}{E:Prop}(hgd:o.guard=none)(s x:Operand)(t u:TypeId)
  (ho:o.op=.call { callee:=.builtin .append,args:=#[s,x],argTypes:=#[t,u] }) (v y v':Value) (w':World) (hs:a.eval s=v) (hx:a.eval x=y) (hr:(Builtin.append_ #[t,u] o.type #[v,y]).run P w=.ok v' w') (h:K (a.put o.dst v') w') :
  if Region.wanted o (yielded ops a.tmps)=true then Oper.wp P o a w K Q else E:=by
 have hw:Region.wanted o (yielded ops a.tmps)=true:=by simp [Region.wanted,hgd]
 rw [bG hw];unfold Oper.wp execOp;simp only [ho,resolve,invoke,builtin,Sem.run_bind,Sem.run_pure,Result.andThen_ok,List.map_toArray,List.map_cons,List.map_nil,hs,hx,hr];exact h
end
noncomputable def qN (os:Os):World:=
 { World.holding Tryd.prog os ⟨#[],#[],[]⟩ with heap:=(((World.holding Tryd.prog os ⟨#[],#[],[]⟩).heap.modify 2 (fun
   | .cells _ t frozen=>.cells (Lib.firstTab.map (Value.int .u8)).toArray t frozen
   | o=>o)).modify 3 (fun
   | .cells _ t frozen=>.cells ((List.range 32).map fun i=>Value.int .u8 (if i % 2=0 then Lib.accLo (i / 2) else Lib.accHi (i / 2))).toArray t frozen
   | o=>o)) }
section
variable {P : Program} {ops : Array Oper} {Q : Exit → Act → World → Prop} {md : Region.Mode} {s : Nat} {U V S : World → Prop}
theorem tt (i : Nat) (v : Value) {oi : Oper} {n : Nat} {l : Array Bool} {a : Act} {w : World} (hU : U w) (hV : V w) (hy : ∀ w', U w' ∧ V w' → (execOp a.eval oi).run P w' = .ok (.value v) w') (h : gE P md ops Q s U V n (l.setIfInBounds i true) (a.put oi.dst v) w)
    (hi : ops[i]? = some oi := by rfl) (hw : Region.wanted oi (yielded ops a.tmps) = true := by rfl) (hs : Region.noSelect ops = true := by kernel_rfl) (hf : Region.free md ops l i = true := by kernel_rfl) (hr : (Region.ready md ops l).contains i = true := by kernel_rfl) (hq : nK md ops s i = true := by kernel_rfl) (hl : l.getD s true = false := by kernel_rfl) (hQ : ∀ p b u, Q (.panic p) (b.put oi.dst v) u → Q (.panic p) b u := by exact fun _ _ _ h => h) :
    gE P md ops Q s U V (n + 1) l a w := aCo hi hs hf hr hq hl hQ (.inl ⟨hw, hy⟩) hU hV h
end
end Go.Proofs.YtpbaaiilfkacnaaDoor
