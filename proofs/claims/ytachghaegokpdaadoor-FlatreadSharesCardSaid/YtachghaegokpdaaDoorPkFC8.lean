/-
  A world in which the listed tables lie as the program's text lays them. No conditions.
-/
import Derived.Test.YtachghaegokpdaaDoorPkFC1
import Derived.Test.YtachghaegokpdaaDoorPkFC2
import Derived.Test.YtachghaegokpdaaDoorPkFC3
import Derived.Test.YtachghaegokpdaaDoorPkFC4
import Derived.Test.YtachghaegokpdaaDoorPkFC6
import Derived.Test.YtachghaegokpdaaDoorRows
import Derived.WalkKit
import Derived.ProofKit
import Derived.OpenShut
import Derived.ShutString
import Derived.ChangeOld
import Derived.Below
import Derived.Deep.DeepHandedRow
import Derived.Laws.AppendOwn
import Derived.Laws.AppendOwnNone
import Derived.Deep.AppendLies
import Derived.OwnWalk
import Derived.Deep.AppendSrc
import Derived.Laws.MakeOwn
import Derived.WalkLawsBesides
import Derived.WalkSpells
import Derived.Lib.Hide
import Derived.Outline
import Derived.Handy
import Derived.Deep.RegionHeld3
import Derived.Deep.Cut
import Derived.BigQuiet
import Derived.Lib.LaidTab
namespace Go.Proofs.YtachghaegokpdaaDoor
open Go.ChangeShapes Go.WideShapes Go.ChangeAt Go.RowKit
theorem own:ownKnob Tryd.prog.godebug=none:=by kernel_rfl
def IsRow (k:IntKind)(w:World)(a:Option Addr)(len cap:Nat)(zs:List Int):Prop:=
 len≤cap∧cap≤maxLen∧zs.length=cap∧(∀ n ∈ zs,(Lit.int k n).wf=true) ∧
 (zs≠[]→∃ b off,a=some ⟨b,off,none⟩∧b<w.heap.size∧∀ j,j<zs.length→w.cell? ⟨b,off+j,none⟩=some (.int k (zs.getD j 0)))
end Go.Proofs.YtachghaegokpdaaDoor
namespace Go.Proofs.YtachghaegokpdaaDoor
open Go.ChangeShapes Go.WideShapes Go.ChangeAt Go.RowKit
def SrcRow (w:World)(A:Option Addr)(m c:Nat)(news:List Value):Prop:=
 news.length=m∧(∀ u ∈ news,u.oneCell'=true)∧((A=none∧m=0∧c=0)∨∃ ad,A=some ad∧∀ j u,news[j]?=some u→w.cell? (ad.add j)=some u)
def u8s (zs:List Int):List Value:=zs.map (Value.int .u8)
theorem IsRow.src {w w':World}{a:Option Addr}{len cap:Nat}{zs:List Int}(h:IsRow .u8 w a len cap zs)(hb:Below w.heap.size w w'):SrcRow w' a len cap (u8s (zs.take len)):=by
 obtain ⟨hl,_,hz,_,hp⟩:=h
 refine ⟨by simp [u8s];omega,fun u hu=>?_,?_⟩
 · obtain ⟨z,_,rfl⟩:=List.mem_map.1 hu
   rfl
 · cases a with
   | none =>
    have h0:zs.length=0:=by
     rcases Nat.eq_zero_or_pos zs.length with h|h
     · exact h
     · obtain ⟨_,_,e,_⟩:=hp (by intro h';rw [h'] at h;simp at h)
       cases e
    exact .inl ⟨rfl,by omega,by omega⟩
   | some ad =>
    refine .inr ⟨ad,rfl,fun j u hu=>?_⟩
    have hj:j<len∧j<zs.length:=by
     have:=(List.getElem?_eq_some_iff.1 hu).1
     simp [u8s] at this
     omega
    obtain ⟨b,off,e,hlt,hc⟩:=hp (by intro h;rw [h] at hj;simp at hj)
    injection e with e
    subst e
    have h1:=(hb.cell (p:=⟨b,off+j,none⟩) hlt).trans (hc j hj.2)
    have h2:(u8s (zs.take len))[j]?=some (Value.int .u8 (zs.getD j 0)):=by
     simp [u8s,List.getD,hj.1,hj.2]
    rw [h2] at hu
    rw [Go.WideShapes.add_plain,h1]
    exact hu
end Go.Proofs.YtachghaegokpdaaDoor
namespace Go.Proofs.YtachghaegokpdaaDoor
open Go.ChangeShapes Go.WideShapes Go.ChangeAt Go.RowKit
section
variable {P:Program} (w:World)
end
def OwnR (w:World)(base:Nat)(e:TypeId)(g n cap:Nat)(zs:List Int):Prop:=w.ownsRow base e 1 (.slice (some ⟨g,0,none⟩) n cap) n (u8s zs)
end Go.Proofs.YtachghaegokpdaaDoor
namespace Go.Proofs.YtachghaegokpdaaDoor
open Go.ChangeShapes Go.WideShapes Go.ChangeAt Go.RowKit
theorem OwnR.set {w:World}{base:Nat}{e:TypeId}{g n cap:Nat}{zs:List Int}(h:OwnR w base e g n cap zs)(j:Nat)(b:Int):OwnR (w.setCell ⟨g,j,none⟩ (.int .u8 b)) base e g n cap (zs.set j b):=by
 obtain ⟨hl,h'⟩:=h
 rcases h' with ⟨hv,_⟩|⟨g',cap',cur,hv,hb,hg,hn,hm,hs,ht⟩
 · cases hv
 · cases hv
   refine ⟨by simpa [u8s] using hl,.inr ⟨g,cap,cur.setIfInBounds j (.int .u8 b),rfl,hb,?_,hn,hm,by simpa using hs,?_⟩⟩
   · simp [World.setCell,Array.getElem?_modify,hg]
   · have e1:u8s (zs.set j b)=(u8s zs).set j (.int .u8 b):=by simp [u8s,List.map_set]
     rw [e1,←ht]
     simp [List.take_set]
end Go.Proofs.YtachghaegokpdaaDoor
namespace Go.Proofs.YtachghaegokpdaaDoor
open Go.ChangeShapes Go.WideShapes Go.ChangeAt Go.RowKit
theorem rnum_any (b off n cap:Nat)(w:World)(f:Nat→Int)(hn8:n≤8)(hc:∀ i,i<n→w.cell? ⟨b,off+i,none⟩=some (.int .u8 (f i)))(hb:∀ i,i<n→0≤f i∧f i≤255) :
  Calls Tryd.prog 110 #[.slice (some ⟨b,off,none⟩) n cap] w fun e w'=>e=.returned (.int .u64 (leNum f n))∧w=w':=by
 have HB:=Lib.hid hb
 have HC:=Lib.hid hc
 clear hc hb
 go_enter Tryd.func110,Tryd.ntmps110
 go_wp2
 go_loop [3,4] (fun x i=>∃ k:Nat,k≤n∧i=.int .i64 k∧x=.int .u64 (leNum f k)) (fun _ i=>(n-intOf i).toNat)
 case atStart=>exact ⟨0,Nat.zero_le _,rfl,rfl⟩
 case round =>
  obtain ⟨k,hk,rfl,rfl⟩:=hrel
  by_cases hlt:k<n
  · have hcl:=HC.out k hlt
    have b1:=leNum_bd f n HB.out k (by omega)
    have b2:=HB.out k hlt
    have E:=Lib.hid (add_byte k (by omega) (leNum f k) (f k) b1.1 b1.2 b2.1 b2.2)
    clear b1 b2
    go_wp2
    go_round
    case rel=>exact ⟨k+1,by omega,by go_num,by rw [E.out];rfl⟩
    case measure=>simp [intOf];omega
  · go_wp2
    go_ret
    obtain rfl:n=k:=by omega
    exact ⟨rfl,rfl⟩
end Go.Proofs.YtachghaegokpdaaDoor
namespace Go.Proofs.YtachghaegokpdaaDoor
open Go.ChangeShapes Go.WideShapes Go.ChangeAt Go.RowKit
section
variable {P:Program} (w:World)
theorem run_append_any (base:Nat)(t tx ty e:TypeId)(i:TypeInfo)(z:Value)(size:Nat)(ht:P.underlying t=some (.slice e))(hi:P.info? e=some i)(hz:i.zero=some z)(hsize:i.size=size)(hzs:z.cells.size=size)
  (v:Value) (n:Nat) (xs:List Value) (hown:w.ownsRow base e size v n xs) (x:Value) (m:Nat) (news:List Value) (hs:Go.Src P size tx x m news w)
  (h63:n+m≤maxLen) (hbytes:(n+m) * i.bytes≤140737488355328) (hbase:base≤w.heap.size) :
  ∃ v' w',(Builtin.append_ #[t,tx] ty #[v,x]).run P w=.ok v' w'∧w'.ownsRow base e size v' (n+m) (xs++news)∧w.grownBy w' v.ownBlock∧(v'.ownBlock=v.ownBlock∨v'.ownBlock=some w.heap.size):=by
 have hsmall:((n+m:Nat):Int)≤9223372036854775807:=by simp only [maxLen] at h63;omega
 have hnl:news.length=m * size:=hs.newsLen
 have hxl:xs.length=n * size:=hown.1
 have hlen:(xs++news).length=(n+m) * size:=by rw [List.length_append,hxl,hnl,Nat.add_mul]
 have hs':Go.Src P i.size tx x m news w:=by rw [hsize];exact hs
 have grown:∀ (old:Nat) (row:Option Nat),
   (w.drew.alloc (.cells ((xs++news).toArray++Builtin.zeroCells z.cells (grownCap w (n+m) old e-(n+m))) e)).ownsRow base e size
    (.slice (some ⟨w.heap.size,0,none⟩) (n+m) (grownCap w (n+m) old e)) (n+m) (xs++news) ∧
   w.grownBy (w.drew.alloc (.cells ((xs++news).toArray++Builtin.zeroCells z.cells (grownCap w (n+m) old e-(n+m))) e)) row:=by
  intro old row
  have hge:=grownCap_ge w (n+m) old e
  have hcm:grownCap w (n+m) old e≤maxLen:=grownCap_le_maxLen w (n+m) old e h63
  refine ⟨⟨hlen,.inr ⟨w.heap.size,_,_,rfl,hbase,heap_alloc_new w.drew _,hge,hcm,?_,?_⟩⟩,⟨rfl,rfl,rfl,by simp,fun k hk _=>Below.heap_alloc w.drew _ k hk⟩⟩
  · rw [Array.size_append,List.size_toArray,size_zeroCells,hzs,hlen,←Nat.add_mul,Nat.add_sub_cancel' hge]
  · simp only [Array.toList_append]
    rw [←hlen]
    exact List.take_left
 rcases hown.2 with ⟨rfl,rfl⟩|⟨g,cap,cur,rfl,hbg,hg,hnc,hcm,hcs,htake⟩
 · have hx:xs=[]:=List.eq_nil_of_length_eq_zero (by rw [hxl,Nat.zero_mul])
   subst hx
   by_cases hm:m=0
   · subst hm
     have hn:news=[]:=List.eq_nil_of_length_eq_zero (by rw [hnl,Nat.zero_mul])
     subst hn
     refine ⟨.slice none 0 0,w,?_,World.ownsRow_nil w base e size,⟨rfl,rfl,rfl,Nat.le_refl _,fun _ _ _=>rfl⟩,.inl rfl⟩
     rcases hs.kind with ⟨e',hk⟩|hk<;>simp [Builtin.append_,run_underlying ht,run_underlying hk,sizeOf,typeInfo,hi,hs'.len,hs'.cells]
   · have hr:=run_append_grow_src (P:=P) w t tx ty e i z ht hi hz none 0 0 [] (run_firstCells_none w.drew i.size 0 0 0) x m news hs' (by omega) (by omega) (growslice_fits (by omega) (by simpa using hbytes))
     have hgr:=grown 0 (Value.ownBlock (.slice none 0 0))
     exact ⟨_,_,hr,hgr.1,hgr.2,.inr rfl⟩
 · by_cases hroom:n+m≤cap
   · have hfit:n * i.size+news.length≤cur.size:=by
      rw [hsize,hnl,hcs,←Nat.add_mul]
      exact Nat.mul_le_mul_right _ hroom
     have hst:=run_storeCells_at P g (n * i.size) e news 0 cur w hg (by simpa using hfit) hs.one
     simp only [Nat.add_zero] at hst
     have hr:(Builtin.append_ #[t,tx] ty #[.slice (some ⟨g,0,none⟩) n cap,x]).run P w=.ok (.slice (some ⟨g,0,none⟩) (n+m) cap) (w.setRow g (cur.toList.take (n * i.size)++news++cur.toList.drop (n * i.size+news.length)).toArray):=by
      rcases hs.kind with ⟨e',hk⟩|hk<;>simp [Builtin.append_,run_underlying ht,run_underlying hk,sizeOf,typeInfo,hi,hs'.len,hroom,hs'.cells,Addr.add_lit,hst]
     refine ⟨_,_,hr,⟨hlen,.inr ⟨g,cap,_,rfl,hbg,setRow_heap w g cur _ e _ hg,hroom,hcm,?_,?_⟩⟩,⟨rfl,rfl,rfl,by simp,fun k _ hk=>setRow_other w g k _ (fun e=>hk (by simp [Value.ownBlock,e]))⟩,.inl rfl⟩
     · simp only [List.size_toArray,List.length_append,List.length_take,List.length_drop,Array.length_toList]
       rw [←hcs]
       omega
     · rw [hsize,htake,←hlen]
       exact List.take_left
   · have holds:∀ j u,xs[j]?=some u→w.cell? ((⟨g,0,none⟩:Addr).add j)=some u:=hown.cells (g:=g) rfl
     have hf:=run_firstCells_some (P:=P) w.drew i.size n ⟨g,0,none⟩ n cap xs (by rw [hsize];exact hown.1) (by simpa using holds)
     have hr:=run_append_grow_src (P:=P) w t tx ty e i z ht hi hz (some ⟨g,0,none⟩) n cap xs hf x m news hs' (by omega) hsmall (growslice_fits (by omega) hbytes)
     have hgr:=grown cap (Value.ownBlock (.slice (some ⟨g,0,none⟩) n cap))
     exact ⟨_,_,hr,hgr.1,hgr.2,.inr rfl⟩
theorem wpList_append_any {ops:Array Oper}{rest:List Oper}{o:Oper}{a:Act}{Q:Exit→Act→World→Prop}(hgd:o.guard=none)(s x:Operand)(t tx:TypeId)
  (ho:o.op=.call { callee:=.builtin .append,args:=#[s,x],argTypes:=#[t,tx] })
  (base:Nat) (e:TypeId) (i:TypeInfo) (z:Value) (size:Nat) (ht:P.underlying t=some (.slice e)) (hi:P.info? e=some i) (hz:i.zero=some z) (hsize:i.size=size) (hzs:z.cells.size=size)
  (v:Value) (n:Nat) (xs:List Value) (hs:a.eval s=v) (hown:w.ownsRow base e size v n xs) (y:Value) (m:Nat) (news:List Value) (hx:a.eval x=y) (hr:Go.Src P size tx y m news w)
  (h63:n+m≤maxLen) (hbytes:(n+m) * i.bytes≤140737488355328) (hbase:base≤w.heap.size)
  (h:∀ v' w',w'.ownsRow base e size v' (n+m) (xs++news)→w.grownBy w' v.ownBlock→(v'.ownBlock=v.ownBlock∨v'.ownBlock=some w.heap.size)→wpList P ops Q rest (a.put o.dst v') w'):wpList P ops Q (o::rest) a w:=by
 refine wpList_plain hgd fun K hK=>?_
 obtain ⟨v',w',hrun,h2,h3,h4⟩:=run_append_any (P:=P) w base t tx o.type e i z size ht hi hz hsize hzs v n xs hown y m news hr h63 hbytes hbase
 unfold Oper.wp execOp
 simp only [ho,resolve,invoke,builtin,Sem.run_bind,Sem.run_pure,Result.andThen_ok,List.map_toArray,List.map_cons,List.map_nil,hs,hx,hrun]
 exact hK _ _ (h v' w' h2 h3 h4)
theorem wpList_append_first {ops:Array Oper}{rest:List Oper}{o:Oper}{a:Act}{Q:Exit→Act→World→Prop}(hgd:o.guard=none)(s x:Operand)(t tx:TypeId)
  (ho:o.op=.call { callee:=.builtin .append,args:=#[s,x],argTypes:=#[t,tx] })
  (base:Nat) (e:TypeId) (i:TypeInfo) (z:Value) (size:Nat) (ht:P.underlying t=some (.slice e)) (hi:P.info? e=some i) (hz:i.zero=some z) (hsize:i.size=size) (hzs:z.cells.size=size)
  (v:Value) (hs:a.eval s=v) (hown:w.ownsRow base e size v 0 []) (y:Value) (m:Nat) (news:List Value) (hx:a.eval x=y) (hr:Go.Src P size tx y m news w)
  (h63:m≤maxLen) (hbytes:m * i.bytes≤140737488355328) (hbase:base≤w.heap.size)
  (h:∀ v' w',w'.ownsRow base e size v' m news→w.grownBy w' v.ownBlock→(v'.ownBlock=v.ownBlock∨v'.ownBlock=some w.heap.size)→wpList P ops Q rest (a.put o.dst v') w'):wpList P ops Q (o::rest) a w:=
 wpList_append_any w hgd s x t tx ho base e i z size ht hi hz hsize hzs v 0 [] hs hown y m news hx hr (by rw [Nat.zero_add];exact h63) (by rw [Nat.zero_add];exact hbytes) hbase (fun v' w' h2 h3 h4=>h v' w' (by rw [Nat.zero_add,List.nil_append] at h2;exact h2) h3 h4)
end
end Go.Proofs.YtachghaegokpdaaDoor
namespace Go.Proofs.YtachghaegokpdaaDoor
open Go.ChangeShapes Go.WideShapes Go.ChangeAt Go.RowKit Go.Shelf
section
variable {P:Program} {ops:Array Oper} {Q:Exit→Act→World→Prop} {md:Region.Mode} {s:Nat} {U V:World→Prop}
def Till (s:Nat)(U V:World→Prop)(listed:Array Bool)(w:World):Prop:=U w∧(listed.getD s true=false→V w)
def wpTill (P:Program)(md:Region.Mode)(ops:Array Oper)(Q:Exit→Act→World→Prop)(s:Nat)(U V:World→Prop)(fuel:Nat):Array Bool→Act→World→Prop:=
 Nat.rec (fun l a w=>Region.ready md ops l=[]∧Q .normal a w) (fun _ next l a w=>(Region.ready md ops l=[]→Q .normal a w)∧∀ i,i ∈ Region.ready md ops l→wpOp P ops Q i (fun b v=>Till s U V (l.setIfInBounds i true) v∧next (l.setIfInBounds i true) b v) a w) fuel
theorem till_any (n:Nat):∀ (l:Array Bool) (a:Act) (w:World),wpTill P md ops Q s U V n l a w→wpAny P md ops Q n l a w:=by
 induction n with
 | zero=>exact fun _ _ _ h=>h
 | succ n ih=>exact fun l a w h=>⟨h.1,fun i hi=>wpOp_mono (fun b v k=>ih _ b v k.2) (h.2 i hi)⟩
def waitsFor (md:Region.Mode)(ops:Array Oper)(s i:Nat):Bool:=
 match ops[s]? with
 | some o=>o.after.any (fun e=>Region.binds md e&&e.on==i) && !(i==s)
 | none=>false
theorem waits_spec {i:Nat}(h:waitsFor md ops s i=true):i≠s∧∃ o,ops[s]?=some o∧∃ e ∈ o.after,Region.binds md e=true∧e.on=i:=by
 unfold waitsFor at h
 split at h
 · rename_i o ho
   simp only [Bool.and_eq_true,Array.any_eq_true',Bool.not_eq_true',beq_eq_false_iff_ne,beq_iff_eq] at h
   obtain ⟨⟨e,he,hb,hi⟩,hne⟩:=h
   exact ⟨hne,o,ho,e,he,hb,hi⟩
 · cases h
theorem till_first {i:Nat}{oi:Oper}{v:Value}(hi:ops[i]?=some oi)(hw:waitsFor md ops s i=true)(hsel:∀ (j:Nat) (o:Oper) c b,ops[j]?=some o→o.op≠.select c b)(hQ:∀ p b u,Q (.panic p) (b.put oi.dst v) u→Q (.panic p) b u)(n:Nat) :
  ∀ (l:Array Bool) (a:Act) (w:World),(∀ j oj,ops[j]?=some oj→j≠i→l.getD j true=false→(∀ e ∈ oj.after,Region.binds md e=true→e.on≠i)→oi.apart ops oj=true)→i ∈ Region.ready md ops l→l.getD s true=false →
   YieldsIf P ops (fun u=>U u∧V u) oi v a→U w→V w→wpTill P md ops Q s U V n (l.setIfInBounds i true) (a.put oi.dst v) w→wpTill P md ops Q s U V (n+1) l a w:=by
 obtain ⟨his,os,hos,e0,he0,hb0,hi0⟩:=waits_spec hw
 have main:∀ (l:Array Bool) (a:Act) (w:World),i ∈ Region.ready md ops l→YieldsIf P ops (fun u=>U u∧V u) oi v a→U w→V w→(n':Nat)→wpTill P md ops Q s U V n' (l.setIfInBounds i true) (a.put oi.dst v) w →
   wpOp P ops Q i (fun b u=>Till s U V (l.setIfInBounds i true) u∧wpTill P md ops Q s U V n' (l.setIfInBounds i true) b u) a w:=fun l a w _ hy hU hV _ H=>hy.wpOp hi ⟨hU,hV⟩ ⟨⟨hU,fun _=>hV⟩,H⟩
 induction n with
 | zero =>
  intro l a w _ hr _ hy hU hV H
  refine ⟨fun h0=>(by rw [h0] at hr;cases hr),fun j hj=>?_⟩
  rcases Nat.decEq j i with hne|rfl
  · have h1:=ready_mono hj hne
    rw [H.1] at h1
    cases h1
  · exact main l a w hr hy hU hV 0 H
 | succ n ih =>
  intro l a w hfree hr hl hy hU hV H
  refine ⟨fun h0=>(by rw [h0] at hr;cases hr),fun j hj=>?_⟩
  rcases Nat.decEq j i with hne|rfl
  · obtain ⟨hun,oj,hoj,hdone⟩:=mem_ready.1 hj
    have hoff:=(mem_ready.1 hr).1
    have hno:∀ e ∈ oj.after,Region.binds md e=true→e.on≠i:=by
     rintro e he hb rfl
     have h1:=hdone e he hb
     rcases Nat.lt_or_ge e.on l.size with hlt|hge
     · simp [hlt] at h1 hoff
       rw [hoff] at h1
       cases h1
     · simp [Array.getElem?_eq_none hge] at h1
    have hjs:j≠s:=by
     rintro rfl
     rw [hos] at hoj
     injection hoj with hoj
     subst hoj
     exact hno e0 he0 hb0 hi0
    have hkept:((l.setIfInBounds i true).setIfInBounds j true).getD s true=false:=by rw [getD_set_ne true hjs,getD_set_ne true his];exact hl
    refine wpOp_mono (fun b u k=>?_) (wpOp_putIf (S:=fun u=>U u∧V u) hoj (hfree j oj hoj hne hun hno) (fun c b=>hsel i oi c b hi) (fun c b=>hsel j oj c b hoj) hQ hy (H.2 j (ready_mono hj hne)))
    obtain ⟨hy',⟨hU',hV'⟩,hrest⟩:=k
    refine ⟨⟨hU',fun _=>hV' hkept⟩,ih (l.setIfInBounds j true) b u (fun m om hm hmi hmun hmno=>hfree m om hm hmi ?_ hmno) (ready_mono hr (Ne.symm hne)) (by rw [getD_set_ne true hjs];exact hl) hy' hU' (hV' hkept) ?_⟩
    · rcases Nat.decEq j m with hjm|rfl
      · rwa [getD_set_ne true hjm] at hmun
      · exact hun
    · rw [Array.setIfInBounds_comm _ _ hne]
      exact hrest
  · exact main l a w hr hy hU hV (n+1) H
theorem till_take {i:Nat}{oi:Oper}{v:Value}{n:Nat}{l:Array Bool}{a:Act}{w:World}(hi:ops[i]?=some oi)(hs:Region.noSelect ops=true)(hf:Region.free md ops l i=true)(hr:(Region.ready md ops l).contains i=true)(hw:waitsFor md ops s i=true)(hl:l.getD s true=false)
  (hQ:∀ p b u,Q (.panic p) (b.put oi.dst v) u→Q (.panic p) b u) (hy:YieldsIf P ops (fun u=>U u∧V u) oi v a) (hU:U w) (hV:V w) (h:wpTill P md ops Q s U V n (l.setIfInBounds i true) (a.put oi.dst v) w):wpTill P md ops Q s U V (n+1) l a w:=
 till_first hi hw (Region.noSelect_spec hs) hQ n l a w (Region.free_spec hi hf) (by simpa using hr) hl hy hU hV h
theorem till_one {i:Nat}{o:Oper}{n:Nat}{l:Array Bool}{a:Act}{w:World}(hr:Region.ready md ops l=[i])(ho:ops[i]?=some o)
  (h:∀ K:Act→World→Prop,Hid (∀ b u,U u→V u→wpTill P md ops Q s U V n (l.setIfInBounds i true) b u→K b u)→if Region.wanted o (yielded ops a.tmps)=true then Oper.wp P o a w K Q else K (a.put o.dst undef) w):wpTill P md ops Q s U V (n+1) l a w:=by
 refine ⟨fun h0=>(by rw [hr] at h0;cases h0),fun j hj=>?_⟩
 rw [hr] at hj
 obtain rfl:=List.mem_singleton.1 hj
 have k:=h (fun b u=>Till s U V (l.setIfInBounds j true) u∧wpTill P md ops Q s U V n (l.setIfInBounds j true) b u) (Lib.hid fun b u hU hV hh=>⟨⟨hU,fun _=>hV⟩,hh⟩)
 unfold wpOp
 simp only [ho]
 by_cases hw:Region.wanted o (yielded ops a.tmps)=true
 · rw [if_pos hw] at k ⊢
   exact .inl k
 · rw [if_neg hw] at k ⊢
   exact k
theorem till_last {o:Oper}{n:Nat}{l:Array Bool}{a:Act}{w:World}(hr:Region.ready md ops l=[s])(ho:ops[s]?=some o)
  (h:∀ K:Act→World→Prop,Hid (∀ b u,U u→wpTill P md ops Q s U V n (l.setIfInBounds s true) b u→K b u)→if Region.wanted o (yielded ops a.tmps)=true then Oper.wp P o a w K Q else K (a.put o.dst undef) w):wpTill P md ops Q s U V (n+1) l a w:=by
 have hset:(l.setIfInBounds s true).getD s true=true:=by
  rcases Nat.lt_or_ge s l.size with hlt|hge
  · simp [hlt]
  · simp [Array.getElem?_eq_none (show (l.setIfInBounds s true).size≤s by simpa using hge)]
 refine ⟨fun h0=>(by rw [hr] at h0;cases h0),fun j hj=>?_⟩
 rw [hr] at hj
 obtain rfl:=List.mem_singleton.1 hj
 have k:=h (fun b u=>Till j U V (l.setIfInBounds j true) u∧wpTill P md ops Q j U V n (l.setIfInBounds j true) b u) (Lib.hid fun b u hU hh=>⟨⟨hU,fun h1=>by rw [hset] at h1;cases h1⟩,hh⟩)
 unfold wpOp
 simp only [ho]
 by_cases hw:Region.wanted o (yielded ops a.tmps)=true
 · rw [if_pos hw] at k ⊢
   exact .inl k
 · rw [if_neg hw] at k ⊢
   exact k
theorem till_done {l:Array Bool}{a:Act}{w:World}(hr:Region.ready md ops l=[])(h:Q .normal a w)(n:Nat):wpTill P md ops Q s U V n l a w:=by
 cases n with
 | zero=>exact ⟨hr,h⟩
 | succ n=>exact ⟨fun _=>h,fun i hi=>by rw [hr] at hi;cases hi⟩
theorem till_start {id:Nat}{a:Act}{w:World}(s:Nat)(U V:World→Prop)(hm:P.follows .mixedOrders=true)(h:wpTill P .any ops Q s U V ops.size (Array.replicate ops.size false) a w.drew):(Code.region id ops true).wp P Q a w:=
 wp_region_any hm (till_any _ _ _ _ h)
end
end Go.Proofs.YtachghaegokpdaaDoor
namespace Go.Proofs.YtachghaegokpdaaDoor
open Go.ChangeShapes Go.WideShapes Go.ChangeAt Go.RowKit Go.Shelf
def inlP (f:SFld):Int:=if isNumP f.kind f.lists=true then kSize f.kind else 4
theorem inlP_num {fn:ByteArray}{fk fr fl fd:Nat}(h:isNumP fk fl=true):inlP ⟨fn,fk,fr,fl,fd⟩=kSize fk:=if_pos h
theorem inlP_no {fn:ByteArray}{fk fr fl fd:Nat}(h:isNumP fk fl=false):inlP ⟨fn,fk,fr,fl,fd⟩=4:=if_neg (by rw [h];decide)
theorem inlP_bd (f:SFld):0≤inlP f∧inlP f≤8:=by
 unfold inlP
 split
 · exact kSize_bd _
 · omega
theorem linline_any (fn:ByteArray)(fk fr fl fd:Nat)(w:World) :
  Calls Tryd.prog 81 #[.agg #[.string fn,.int .u8 fk,.int .i64 fr,.int .i64 fl,.int .u64 fd]] w fun e w'=>e=.returned (.int .i64 (inlP ⟨fn,fk,fr,fl,fd⟩))∧Below w.heap.size w w':=by
 have hq:=heap_alloc_new w (.cells #[.string fn,.int .u8 fk,.int .i64 fr,.int .i64 fl,.int .u64 fd] 60)
 have HB:=Lib.hid ((Below.refl w.heap.size w).alloc (Nat.le_refl _) (.cells #[.string fn,.int .u8 fk,.int .i64 fr,.int .i64 fl,.int .u64 fd] 60))
 go_enter Tryd.func81,Tryd.ntmps81
 go_upto_region 1 with (fail)
 generalize w.alloc (.cells #[.string fn,.int .u8 fk,.int .i64 fr,.int .i64 fl,.int .u64 fd] 60)=W1 at *
 have hlt:=blk_lt hq
 have y1:=(blk_cell hq 1).trans rfl
 have y2:=(blk_cell hq 2).trans rfl
 have y3:=(blk_cell hq 3).trans rfl
 have HQ:=Lib.hid hq
 clear hq
 go_wp2_with fail
 refine (lnumber_any fk fr fl W1).mono ?_
 rintro e W2 ⟨rfl,hb2⟩
 have HB2:=Lib.hid (HB.out.trans (hb2.mono HB.out.size))
 have z1:=(blk_cell (blk_below HQ.out hb2 hlt) 1).trans rfl
 clear hb2 y1 y2 y3
 cases hnum:isNumP fk fl
 · have HE:=Lib.hid (inlP_no (fn:=fn) (fr:=fr) (fd:=fd) hnum)
   clear hnum
   go_wp2
   go_ret
   exact ⟨ret_int HE.out.symm,HB2.out⟩
 · have HE:=Lib.hid (inlP_num (fn:=fn) (fr:=fr) (fd:=fd) hnum)
   clear hnum
   go_wp2_with fail
   refine (wsize_any (fk:Int) W2).mono ?_
   rintro e W3 ⟨rfl,rfl⟩
   go_wp2
   go_ret
   exact ⟨ret_int HE.out.symm,HB2.out⟩
end Go.Proofs.YtachghaegokpdaaDoor
namespace Go.Proofs.YtachghaegokpdaaDoor
open Go.ChangeShapes Go.WideShapes Go.ChangeAt Go.RowKit Go.Shelf
theorem rinline_any (fn:ByteArray)(fk fr fl fd:Nat)(w:World)(hk:fk≤255) :
  Calls Tryd.prog 94 #[.agg #[.string fn,.int .u8 fk,.int .i64 fr,.int .i64 fl,.int .u64 fd]] w fun e w'=>e=.returned (.int .i64 (inlP ⟨fn,fk,fr,fl,fd⟩))∧Below w.heap.size w w':=by
 have hq:=heap_alloc_new w (.cells #[.string fn,.int .u8 fk,.int .i64 fr,.int .i64 fl,.int .u64 fd] 60)
 have HB:=Lib.hid ((Below.refl w.heap.size w).alloc (Nat.le_refl _) (.cells #[.string fn,.int .u8 fk,.int .i64 fr,.int .i64 fl,.int .u64 fd] 60))
 have hw:=IntWalk.i64_in (fk:Int) (by omega)
 go_enter Tryd.func94,Tryd.ntmps94
 go_upto_region 1 with (fail)
 generalize w.alloc (.cells #[.string fn,.int .u8 fk,.int .i64 fr,.int .i64 fl,.int .u64 fd] 60)=W1 at *
 have hlt:=blk_lt hq
 have y1:=(blk_cell hq 1).trans rfl
 have y2:=(blk_cell hq 2).trans rfl
 have y3:=(blk_cell hq 3).trans rfl
 have HQ:=Lib.hid hq
 clear hq
 go_wp2_with fail
 refine (isnum_any fk fr fl W1 hk).mono ?_
 rintro e W2 ⟨rfl,hb2⟩
 have HB2:=Lib.hid (HB.out.trans (hb2.mono HB.out.size))
 have z1:=(blk_cell (blk_below HQ.out hb2 hlt) 1).trans rfl
 clear hb2 y1 y2 y3
 cases hnum:isNumP fk fl
 · have HE:=Lib.hid (inlP_no (fn:=fn) (fr:=fr) (fd:=fd) hnum)
   clear hnum
   go_wp2
   go_ret
   exact ⟨ret_int HE.out.symm,HB2.out⟩
 · have HE:=Lib.hid (inlP_num (fn:=fn) (fr:=fr) (fd:=fd) hnum)
   clear hnum
   go_wp2_with fail
   refine (rsize_any (fk:Int) W2).mono ?_
   rintro e W3 ⟨rfl,rfl⟩
   go_wp2
   go_ret
   exact ⟨ret_int HE.out.symm,HB2.out⟩
end Go.Proofs.YtachghaegokpdaaDoor
namespace Go.Proofs.YtachghaegokpdaaDoor
open Go.ChangeShapes Go.WideShapes Go.ChangeAt Go.RowKit Go.Shelf
theorem u8_nums {x y:Int}(hx:0≤x∧x≤255)(hy:0≤y∧y≤255)(h:UInt8.ofNat x.toNat=UInt8.ofNat y.toNat):x=y:=by
 have h1:=congrArg UInt8.toNat h
 simp only [UInt8.toNat_ofNat'] at h1
 omega
theorem nums_inj:∀ (a b:List Int),(∀ z ∈ a,0≤z∧z≤255)→(∀ z ∈ b,0≤z∧z≤255)→(a.map fun n=>UInt8.ofNat n.toNat)=(b.map fun n=>UInt8.ofNat n.toNat)→a=b
 | [],[],_,_,_=>rfl
 | [],y::b,_,_,h=>by simp at h
 | x::a,[],_,_,h=>by simp at h
 | x::a,y::b,ha,hb,h=>by
  rw [List.map_cons,List.map_cons,List.cons.injEq] at h
  rw [u8_nums (ha x (by simp)) (hb y (by simp)) h.1,nums_inj a b (fun z hz=>ha z (by simp [hz])) (fun z hz=>hb z (by simp [hz])) h.2]
theorem mem_range {a:List Int}(h:∀ i,0≤a.getD i 0∧a.getD i 0≤255):∀ z ∈ a,0≤z∧z≤255:=fun z hz=>by
 obtain ⟨i,hi,rfl⟩:=List.getElem_of_mem hz
 have:=h i
 rwa [List.getD,List.getElem?_eq_getElem hi,Option.getD_some] at this
theorem strOf_inj {a b:List Int}(ha:∀ i,0≤a.getD i 0∧a.getD i 0≤255)(hb:∀ i,0≤b.getD i 0∧b.getD i 0≤255)(h:strOfNums a=strOfNums b):a=b:=by
 have h1:=congrArg (fun s:ByteArray=>s.data.toList) h
 exact nums_inj a b (mem_range ha) (mem_range hb) h1
theorem conv_bytes {W:World}{p:Option Addr}{zs:List Int}(h:Bytes W p zs)(c:Nat):(convert 22 9 (.slice p zs.length c)).run Tryd.prog W=.ok (.string (strOfNums zs)) W:=by
 by_cases hz:zs=[]
 · subst hz
   exact conv_zero W _ 5 _ Tryd.underlying22 Tryd.underlying5 Tryd.underlying9 p c
 · obtain ⟨b,off,rfl,_,hc⟩:=h.2 hz
   exact run_convert_bytes_arg W _ 5 Tryd.underlying22 Tryd.underlying5 b off zs.length c zs rfl hc _ Tryd.underlying9
theorem sb_yes {a b:ByteArray}(h:a=b):(a.toList==b.toList)=true:=by rw [h];exact beq_self_eq_true _
theorem sb_no {a b:ByteArray}(h:a≠b):(a.toList==b.toList)=false:=by
 rw [beq_eq_false_iff_ne]
 intro e
 rw [ByteArray.toList_eq,ByteArray.toList_eq] at e
 apply h
 obtain ⟨⟨a⟩⟩:=a
 obtain ⟨⟨b⟩⟩:=b
 have e2:a=b:=e
 rw [e2]
def SamePost (a b:PV)(e:Ending):Prop:=∃ r,e=.returned (.bool r)∧(r=true ↔ a=b)
def SameAt (a:PV):Prop:=∀ (W:World) (b:PV) (va vb:Value),IsV W a va→IsV W b vb →
    Calls Tryd.prog 29 #[va,vb] W fun e w'=>SamePost a b e∧Below W.heap.size W w'
def SmAt (W0:World)(ks ls:List PV)(i:Value)(W:World):Prop:=∃ j:Nat,j≤ks.length∧i=.int .i64 j∧Below W0.heap.size W0 W∧ks.take j=ls.take j
theorem ret_no {a b:PV}(h:a≠b){W w:World}(hb:Below w.heap.size w W):SamePost a b (.returned (.bool false))∧Below w.heap.size w W:=⟨⟨false,rfl,by simp [h]⟩,hb⟩
set_option maxRecDepth 100000 in
set_option maxHeartbeats 16000000 in
theorem same_step (n:Nat)(bs:List Int)(ks:List PV)(hh:Bool)(hnext:∀ q ∈ ks,SameAt q):SameAt (.mk n bs ks hh):=by
 intro w b va vb ha hb'
 obtain ⟨m,cs,ls,gg⟩:=b
 obtain ⟨ba,ka,bc,kc,rfl,hn,hby,hbl,hbm,hkl,hkm,hks⟩:=ha.form
 obtain ⟨bb,kb2,bd,kd,rfl,hm,hcy,hcl,hcm,hll,hlm,hls⟩:=hb'.form
 simp only [PV.num,PV.bytes,PV.kids,PV.has] at hn hby hbl hbm hkl hkm hks hm hcy hcl hcm hll hlm hls ⊢
 obtain ⟨hb,hq1,hq2⟩:=two_start w #[.int .u64 n,.slice ba bs.length bc,.slice ka ks.length kc,.bool hh] #[.int .u64 m,.slice bb cs.length bd,.slice kb2 ls.length kd,.bool gg] 49 49
 have HB:=Lib.hid hb
 have HQ1:=Lib.hid hq1
 have HQ2:=Lib.hid hq2
 have HKS:=Lib.hid (KidsAt.later (w:=w) (ks:=ks) (ka:=ka) hks hb)
 have HLS:=Lib.hid (KidsAt.later (w:=w) (ks:=ls) (ka:=kb2) hls hb)
 have HNX:=Lib.hid hnext
 have HNB:=Lib.hid (fun h:bs=cs=>congrArg strOfNums h)
 have HINJ:=Lib.hid (fun h:strOfNums bs=strOfNums cs=>strOf_inj hby.1 hcy.1 h)
 have k1:=conv_bytes (hby.below (Nat.le_refl _) hb) bc
 have k2:=conv_bytes (hcy.below (Nat.le_refl _) hb) bd
 clear hb hq1 hq2 hks hls hnext ha hb' hby hcy hbl hbm hcl hcm hkl hll
 go_enter Tryd.func29,Tryd.ntmps29
 go_upto_region 1 with (fail)
 generalize (w.alloc (.cells #[.int .u64 n,.slice ba bs.length bc,.slice ka ks.length kc,.bool hh] 49)).alloc (.cells #[.int .u64 m,.slice bb cs.length bd,.slice kb2 ls.length kd,.bool gg] 49)=W0 at *
 generalize w.heap.size+1=V at *
 obtain ⟨_,s0,s1,s2,s3⟩:=blk4p HQ1.out
 obtain ⟨_,v0,v1,v2,v3⟩:=blk4p HQ2.out
 generalize strOfNums bs=S1 at *
 generalize strOfNums cs=S2 at *
 by_cases h1:n=m
 case neg =>
  have t1:((n:Int) != (m:Int))=true:=by simp;omega
  have HN:Hid (PV.mk n bs ks hh≠.mk m cs ls gg):=Lib.hid (fun h=>h1 (congrArg PV.num h))
  clear h1
  go_wp2
  go_ret
  exact ret_no HN.out HB.out
 case pos =>
 have t1:((n:Int) != (m:Int))=false:=by simp;omega
 by_cases h2:S1=S2
 case neg =>
  have t2:=sb_no h2
  have HN:Hid (PV.mk n bs ks hh≠.mk m cs ls gg):=Lib.hid (fun h=>h2 (HNB.out (congrArg PV.bytes h)))
  clear h1 h2
  go_wp2
  go_ret
  exact ret_no HN.out HB.out
 case pos =>
 have t2:=sb_yes h2
 have HBS:=Lib.hid (HINJ.out h2)
 have HNM:=Lib.hid h1
 clear HINJ h1
 by_cases h3:hh=gg
 case neg =>
  have t3:(hh != gg)=true:=bne_iff_ne.2 h3
  have HN:Hid (PV.mk n bs ks hh≠.mk m cs ls gg):=Lib.hid (fun h=>h3 (congrArg PV.has h))
  clear h2 t3
  go_wp2
  go_ret
  exact ret_no HN.out HB.out
 case pos =>
 have t3:(hh != gg)=false:=by rw [h3];simp
 have HHG:=Lib.hid h3
 by_cases h4:ks.length=ls.length
 case neg =>
  have t4:((ks.length:Int) != (ls.length:Int))=true:=by simp;omega
  have HN:Hid (PV.mk n bs ks hh≠.mk m cs ls gg):=Lib.hid (fun h=>h4 (congrArg (fun v=>(PV.kids v).length) h))
  clear h4 h3 h2
  go_wp2
  go_ret
  exact ret_no HN.out HB.out
 case pos =>
 have t4:((ks.length:Int) != (ls.length:Int))=false:=by simp;omega
 have HLEN:=Lib.hid h4
 clear h4 h3 h2
 go_wp2_with fail
 go_loopw [5] (fun i wr=>SmAt W0 ks ls i wr) (fun i _=>ks.length-(intOf i).toNat)
 case atStart=>exact ⟨0,Nat.zero_le _,rfl,Below.refl _ _,rfl⟩
 case round =>
  obtain ⟨j,hj,rfl,hb,hall⟩:=hrel
  have HALL:=Lib.hid hall
  have HBW:=Lib.hid hb
  clear hall hb k1 k2 s0 s1 s2 s3 v0 v1 v2 v3 t1 t2 t3 t4
  obtain ⟨_,s0,s1,s2,s3⟩:=blk4p (blk_below HQ1.out HBW.out (blk_lt HQ1.out))
  obtain ⟨_,v0,v1,v2,v3⟩:=blk4p (blk_below HQ2.out HBW.out (blk_lt HQ2.out))
  clear s0 s1 s3 v0 v1 v3
  by_cases hjl:j<ks.length
  · have hji:(j:Int)<ks.length:=by omega
    have hji0:(0:Int)≤(j:Int):=by omega
    have hjm:j<ls.length:=by have:=HLEN.out;omega
    have hjmi:(j:Int)<ls.length:=by omega
    obtain ⟨kb,ko,u0,u1,u2,u3,rfl,c0,c1,c2,c3,hiv⟩:=HKS.out.later HBW.out j hjl
    obtain ⟨lb,lo,x0,x1,x2,x3,rfl,d0,d1,d2,d3,hjv⟩:=HLS.out.later HBW.out j hjm
    have HSM:=Lib.hid (fun W (hb:Below wr.heap.size wr W)=>HNX.out ks[j] (List.getElem_mem hjl) W ls[j] _ _ (hiv.later hb) (hjv.later hb))
    have HTK:Hid (ks.take (j+1)=ls.take (j+1) ↔ ks[j]=ls[j]):=Lib.hid (by
     rw [List.take_succ_eq_append_getElem hjl,List.take_succ_eq_append_getElem hjm,HALL.out]
     constructor
     · intro h
       have h2:=List.append_cancel_left h
       injection h2
     · intro h
       rw [h])
    have HNE:Hid (ks[j]≠ls[j]→PV.mk n bs ks hh≠.mk m cs ls gg):=Lib.hid (fun hne h=>by
     have h1:ks=ls:=congrArg PV.kids h
     subst h1
     exact hne rfl)
    generalize ks[j]=q at *
    generalize ls[j]=p at *
    clear hiv hjv
    go_upto_region 6 with (fail)
    refine wp_region_noPanic ?_
    refine wp_region_held_drew (S:=(fun w'=>w'.cell? ⟨w.heap.size,2,none⟩=some (.slice (some ⟨kb,ko,none⟩) ks.length kc)∧w'.cell? ⟨V,2,none⟩=some (.slice (some ⟨lb,lo,none⟩) ls.length kd)∧w'.cell? ⟨kb,ko+j * 4,none⟩=some u0∧w'.cell? ⟨kb,ko+j * 4+1,none⟩=some u1∧w'.cell? ⟨kb,ko+j * 4+2,none⟩=some u2∧w'.cell? ⟨kb,ko+j * 4+3,none⟩=some u3∧w'.cell? ⟨lb,lo+j * 4,none⟩=some x0∧w'.cell? ⟨lb,lo+j * 4+1,none⟩=some x1∧w'.cell? ⟨lb,lo+j * 4+2,none⟩=some x2∧w'.cell? ⟨lb,lo+j * 4+3,none⟩=some x3)) (by kernel_rfl) ⟨s2,v2,c0,c1,c2,c3,d0,d1,d2,d3⟩ ?_
    intro hS
    refine wpAnyH_take (i:=0) (v:=.pointer (some ⟨w.heap.size,2,none⟩)) rfl (by kernel_rfl) (by kernel_rfl) (by kernel_rfl) (fun _ _ _ h=>h) (Or.inl ⟨by rfl,?_⟩) hS ?_
    · intro w' hSw
      obtain ⟨s2,v2,c0,c1,c2,c3,d0,d1,d2,d3⟩:=hSw
      go_simp
    simp only [Act.put,List.getElem_toArray,List.getElem_cons_zero,List.setIfInBounds_toArray,List.set_cons_zero,List.set_cons_succ]
    refine wpAnyH_take (i:=1) (v:=.slice (some ⟨kb,ko,none⟩) ks.length kc) rfl (by kernel_rfl) (by kernel_rfl) (by kernel_rfl) (fun _ _ _ h=>h) (Or.inl ⟨by rfl,?_⟩) hS ?_
    · intro w' hSw
      obtain ⟨s2,v2,c0,c1,c2,c3,d0,d1,d2,d3⟩:=hSw
      go_simp
    simp only [Act.put,List.getElem_toArray,List.getElem_cons_succ,List.getElem_cons_zero,List.setIfInBounds_toArray,List.set_cons_zero,List.set_cons_succ]
    refine wpAnyH_take (i:=2) (v:=.int .i64 j) rfl (by kernel_rfl) (by kernel_rfl) (by kernel_rfl) (fun _ _ _ h=>h) (Or.inl ⟨by rfl,?_⟩) hS ?_
    · intro w' hSw
      obtain ⟨s2,v2,c0,c1,c2,c3,d0,d1,d2,d3⟩:=hSw
      go_simp
    simp only [Act.put,List.getElem_toArray,List.getElem_cons_succ,List.getElem_cons_zero,List.setIfInBounds_toArray,List.set_cons_zero,List.set_cons_succ]
    refine wpAnyH_take (i:=3) (v:=.pointer (some ⟨kb,ko+j * 4,none⟩)) rfl (by kernel_rfl) (by kernel_rfl) (by kernel_rfl) (fun _ _ _ h=>h) (Or.inl ⟨by rfl,?_⟩) hS ?_
    · intro w' hSw
      obtain ⟨s2,v2,c0,c1,c2,c3,d0,d1,d2,d3⟩:=hSw
      go_simp
    simp only [Act.put,List.getElem_toArray,List.getElem_cons_succ,List.getElem_cons_zero,List.setIfInBounds_toArray,List.set_cons_zero,List.set_cons_succ]
    refine wpAnyH_take (i:=4) (v:=.agg #[u0,u1,u2,u3]) rfl (by kernel_rfl) (by kernel_rfl) (by kernel_rfl) (fun _ _ _ h=>h) (Or.inl ⟨by rfl,?_⟩) hS ?_
    · intro w' hSw
      obtain ⟨s2,v2,c0,c1,c2,c3,d0,d1,d2,d3⟩:=hSw
      go_simp
    simp only [Act.put,List.getElem_toArray,List.getElem_cons_succ,List.getElem_cons_zero,List.setIfInBounds_toArray,List.set_cons_zero,List.set_cons_succ]
    refine wpAnyH_take (i:=5) (v:=.pointer (some ⟨V,2,none⟩)) rfl (by kernel_rfl) (by kernel_rfl) (by kernel_rfl) (fun _ _ _ h=>h) (Or.inl ⟨by rfl,?_⟩) hS ?_
    · intro w' hSw
      obtain ⟨s2,v2,c0,c1,c2,c3,d0,d1,d2,d3⟩:=hSw
      go_simp
    simp only [Act.put,List.getElem_toArray,List.getElem_cons_succ,List.getElem_cons_zero,List.setIfInBounds_toArray,List.set_cons_zero,List.set_cons_succ]
    refine wpAnyH_take (i:=6) (v:=.slice (some ⟨lb,lo,none⟩) ls.length kd) rfl (by kernel_rfl) (by kernel_rfl) (by kernel_rfl) (fun _ _ _ h=>h) (Or.inl ⟨by rfl,?_⟩) hS ?_
    · intro w' hSw
      obtain ⟨s2,v2,c0,c1,c2,c3,d0,d1,d2,d3⟩:=hSw
      go_simp
    simp only [Act.put,List.getElem_toArray,List.getElem_cons_succ,List.getElem_cons_zero,List.setIfInBounds_toArray,List.set_cons_zero,List.set_cons_succ]
    refine wpAnyH_take (i:=7) (v:=.int .i64 j) rfl (by kernel_rfl) (by kernel_rfl) (by kernel_rfl) (fun _ _ _ h=>h) (Or.inl ⟨by rfl,?_⟩) hS ?_
    · intro w' hSw
      obtain ⟨s2,v2,c0,c1,c2,c3,d0,d1,d2,d3⟩:=hSw
      go_simp
    simp only [Act.put,List.getElem_toArray,List.getElem_cons_succ,List.getElem_cons_zero,List.setIfInBounds_toArray,List.set_cons_zero,List.set_cons_succ]
    refine wpAnyH_take (i:=8) (v:=.pointer (some ⟨lb,lo+j * 4,none⟩)) rfl (by kernel_rfl) (by kernel_rfl) (by kernel_rfl) (fun _ _ _ h=>h) (Or.inl ⟨by rfl,?_⟩) hS ?_
    · intro w' hSw
      obtain ⟨s2,v2,c0,c1,c2,c3,d0,d1,d2,d3⟩:=hSw
      go_simp
    simp only [Act.put,List.getElem_toArray,List.getElem_cons_succ,List.getElem_cons_zero,List.setIfInBounds_toArray,List.set_cons_zero,List.set_cons_succ]
    refine wpAnyH_take (i:=9) (v:=.agg #[x0,x1,x2,x3]) rfl (by kernel_rfl) (by kernel_rfl) (by kernel_rfl) (fun _ _ _ h=>h) (Or.inl ⟨by rfl,?_⟩) hS ?_
    · intro w' hSw
      obtain ⟨s2,v2,c0,c1,c2,c3,d0,d1,d2,d3⟩:=hSw
      go_simp
    simp only [Act.put,List.getElem_toArray,List.getElem_cons_succ,List.getElem_cons_zero,List.setIfInBounds_toArray,List.set_cons_zero,List.set_cons_succ]
    refine wpAnyH_ready (rs:=[10]) (by kernel_rfl) (by decide) (AllReadyH.cons rfl (fun K hK=>?_) AllReadyH.nil)
    rw [if_pos (by kernel_rfl)]
    go_simp
    refine (HSM.out _ (Below.refl _ wr).drew).mono ?_
    rintro e W3 ⟨⟨r,rfl,hiff⟩,hb3⟩
    have hx:Below wr.heap.size wr W3:=(Below.refl _ wr).drew.trans hb3
    have HB3:=Lib.hid (HBW.out.trans (hx.mono HBW.out.size))
    have zs2:=cell_stays hx s2
    have zv2:=cell_stays hx v2
    have zc0:=cell_stays hx c0
    have zc1:=cell_stays hx c1
    have zc2:=cell_stays hx c2
    have zc3:=cell_stays hx c3
    have zd0:=cell_stays hx d0
    have zd1:=cell_stays hx d1
    have zd2:=cell_stays hx d2
    have zd3:=cell_stays hx d3
    refine hK.out _ _ ⟨zs2,zv2,zc0,zc1,zc2,zc3,zd0,zd1,zd2,zd3⟩ (fun hS=>?_)
    cases r with
    | false =>
     have HNQ:Hid (q≠p):=Lib.hid (fun h=>by have h2:=hiff.2 h;cases h2)
     clear hiff
     refine wpAnyH_take (i:=11) (v:=.bool true) rfl (by kernel_rfl) (by kernel_rfl) (by kernel_rfl) (fun _ _ _ h=>h) (Or.inl ⟨by rfl,?_⟩) hS ?_
     · intro w' hSw
       obtain ⟨s2,v2,c0,c1,c2,c3,d0,d1,d2,d3⟩:=hSw
       go_simp
     simp only [Act.put,List.getElem_toArray,List.getElem_cons_succ,List.getElem_cons_zero,List.setIfInBounds_toArray,List.set_cons_zero,List.set_cons_succ]
     refine wpAnyH_done (by kernel_rfl) ?_ _
     refine NoPanic.normal ?_
     simp only [Exit.then]
     go_wp2
     go_ret
     exact ret_no (HNE.out HNQ.out) (HB.out.trans (HB3.out.mono HB.out.size))
    | true =>
     have HYQ:=Lib.hid (hiff.1 rfl)
     clear hiff
     refine wpAnyH_take (i:=11) (v:=.bool false) rfl (by kernel_rfl) (by kernel_rfl) (by kernel_rfl) (fun _ _ _ h=>h) (Or.inl ⟨by rfl,?_⟩) hS ?_
     · intro w' hSw
       obtain ⟨s2,v2,c0,c1,c2,c3,d0,d1,d2,d3⟩:=hSw
       go_simp
     simp only [Act.put,List.getElem_toArray,List.getElem_cons_succ,List.getElem_cons_zero,List.setIfInBounds_toArray,List.set_cons_zero,List.set_cons_succ]
     refine wpAnyH_done (by kernel_rfl) ?_ _
     refine NoPanic.normal ?_
     simp only [Exit.then]
     go_wp2
     go_roundw
     case rel=>exact ⟨j+1,by omega,by go_num,HB3.out,HTK.out.2 HYQ.out⟩
     case measure=>simp [intOf];omega
  · obtain rfl:j=ks.length:=by omega
    have HEQ:Hid (PV.mk n bs ks hh=.mk m cs ls gg):=Lib.hid (by
     have h:=HALL.out
     rw [List.take_length,HLEN.out,List.take_length] at h
     rw [HNM.out,HBS.out,h,HHG.out])
    have hlt:¬(ks.length:Int)<ks.length:=Int.lt_irrefl _
    go_wp2
    go_ret
    exact ⟨⟨true,rfl,⟨fun _=>by have h:=HEQ.out;rw [HHG.out] at h;exact h,fun _=>rfl⟩⟩,HB.out.trans (HBW.out.mono HB.out.size)⟩
theorem same_any:(a:PV)→SameAt a
 | .mk n bs ks hh=>same_step n bs ks hh (fun q _=>same_any q)
end Go.Proofs.YtachghaegokpdaaDoor
namespace Go.Proofs.YtachghaegokpdaaDoor
open Go.ChangeShapes Go.WideShapes Go.ChangeAt Go.RowKit
noncomputable def laidWorld (os:Os):World:=
 { World.holding Tryd.prog os ⟨#[],#[],[]⟩ with heap:=(((World.holding Tryd.prog os ⟨#[],#[],[]⟩).heap.modify 1 (fun
   | .cells _ t frozen=>.cells (Lib.firstTab.map (Value.int .u8)).toArray t frozen
   | o=>o)).modify 2 (fun
   | .cells _ t frozen=>.cells ((List.range 32).map fun i=>Value.int .u8 (if i % 2=0 then Lib.accLo (i / 2) else Lib.accHi (i / 2))).toArray t frozen
   | o=>o)) }
end Go.Proofs.YtachghaegokpdaaDoor
