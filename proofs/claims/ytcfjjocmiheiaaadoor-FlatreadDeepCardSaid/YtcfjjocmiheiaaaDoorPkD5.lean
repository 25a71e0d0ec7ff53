/-
  Package flatread: a table's sizes; what it holds; where its fields stand; a struct's fields. Conditions: those that each theorem names.
-/
import Derived.Test.YtcfjjocmiheiaaaDoorPkD2
import Derived.Test.YtcfjjocmiheiaaaDoorPkD4
import Derived.Deep.AppendSrc
import Derived.Laws.MakeOwn
import Derived.OwnWalk
import Derived.Test.YtcfjjocmiheiaaaDoorRows
import Derived.WalkKit
import Derived.ProofKit
import Derived.OpenShut
import Derived.ShutString
import Derived.ChangeOld
import Derived.Below
import Derived.WalkLawsBesides
import Derived.WalkSpells
import Derived.Lib.Hide
import Derived.Outline
import Derived.Handy
import Derived.Deep.RegionHeld3
import Derived.Deep.Cut
import Derived.Deep.AppendLies
import Derived.BigQuiet
namespace Go.Proofs.YtcfjjocmiheiaaaDoor
open Go.ChangeShapes Go.WideShapes Go.ChangeAt Go.RowKit
section
variable {P:Program} (w:World)
theorem run_append_any (base:Nat)(t tx ty e:TypeId)(i:TypeInfo)(z:Value)(size:Nat)(ht:P.underlying t=some (.slice e))(hi:P.info? e=some i)(hz:i.zero=some z)(hsize:i.size=size)(hzs:z.cells.size=size)
  (v:Value) (n:Nat) (xs:List Value) (hown:w.ownsRow base e size v n xs) (x:Value) (m:Nat) (news:List Value) (hs:Go.Src P size tx x m news w)
  (h63:n+m≤maxLen) (hbytes:(n+m) * i.bytes≤140737488355328) (hbase:base≤w.heap.size) :
  ∃ v' w',(Builtin.append_ #[t,tx] ty #[v,x]).run P w=.ok v' w'∧w'.ownsRow base e size v' (n+m) (xs++news)∧w.grownBy w' v.ownBlock∧(v'.ownBlock=v.ownBlock∨v'.ownBlock=some w.heap.size):=by
 have hsmall:((n+m:Nat):Int)≤9223372036854775807:=by simp only [maxLen] at h63;omega
 have hnl:news.length=m * size:=hs.newsLen
 have hxl:xs.length=n * size:=hown.1
 have hlen:(xs++news).length=(n+m) * size:=by rw [List.length_append,hxl,hnl,Nat.add_mul]
 have hs':Go.Src P i.size tx x m news w:=by rw [hsize];exact hs
 have grown:∀ (old:Nat) (row:Option Nat),
   (w.drew.alloc (.cells ((xs++news).toArray++Builtin.zeroCells z.cells (grownCap w (n+m) old e-(n+m))) e)).ownsRow base e size
    (.slice (some ⟨w.heap.size,0,none⟩) (n+m) (grownCap w (n+m) old e)) (n+m) (xs++news) ∧
   w.grownBy (w.drew.alloc (.cells ((xs++news).toArray++Builtin.zeroCells z.cells (grownCap w (n+m) old e-(n+m))) e)) row:=by
  intro old row
  have hge:=grownCap_ge w (n+m) old e
  have hcm:grownCap w (n+m) old e≤maxLen:=grownCap_le_maxLen w (n+m) old e h63
  refine ⟨⟨hlen,.inr ⟨w.heap.size,_,_,rfl,hbase,heap_alloc_new w.drew _,hge,hcm,?_,?_⟩⟩,⟨rfl,rfl,rfl,by simp,fun k hk _=>Below.heap_alloc w.drew _ k hk⟩⟩
  · rw [Array.size_append,List.size_toArray,size_zeroCells,hzs,hlen,←Nat.add_mul,Nat.add_sub_cancel' hge]
  · simp only [Array.toList_append]
    rw [←hlen]
    exact List.take_left
 rcases hown.2 with ⟨rfl,rfl⟩|⟨g,cap,cur,rfl,hbg,hg,hnc,hcm,hcs,htake⟩
 · have hx:xs=[]:=List.eq_nil_of_length_eq_zero (by rw [hxl,Nat.zero_mul])
   subst hx
   by_cases hm:m=0
   · subst hm
     have hn:news=[]:=List.eq_nil_of_length_eq_zero (by rw [hnl,Nat.zero_mul])
     subst hn
     refine ⟨.slice none 0 0,w,?_,World.ownsRow_nil w base e size,⟨rfl,rfl,rfl,Nat.le_refl _,fun _ _ _=>rfl⟩,.inl rfl⟩
     rcases hs.kind with ⟨e',hk⟩|hk<;>simp [Builtin.append_,run_underlying ht,run_underlying hk,sizeOf,typeInfo,hi,hs'.len,hs'.cells]
   · have hr:=run_append_grow_src (P:=P) w t tx ty e i z ht hi hz none 0 0 [] (run_firstCells_none w.drew i.size 0 0 0) x m news hs' (by omega) (by omega) (growslice_fits (by omega) (by simpa using hbytes))
     have hgr:=grown 0 (Value.ownBlock (.slice none 0 0))
     exact ⟨_,_,hr,hgr.1,hgr.2,.inr rfl⟩
 · by_cases hroom:n+m≤cap
   · have hfit:n * i.size+news.length≤cur.size:=by
      rw [hsize,hnl,hcs,←Nat.add_mul]
      exact Nat.mul_le_mul_right _ hroom
     have hst:=run_storeCells_at P g (n * i.size) e news 0 cur w hg (by simpa using hfit) hs.one
     simp only [Nat.add_zero] at hst
     have hr:(Builtin.append_ #[t,tx] ty #[.slice (some ⟨g,0,none⟩) n cap,x]).run P w=.ok (.slice (some ⟨g,0,none⟩) (n+m) cap) (w.setRow g (cur.toList.take (n * i.size)++news++cur.toList.drop (n * i.size+news.length)).toArray):=by
      rcases hs.kind with ⟨e',hk⟩|hk<;>simp [Builtin.append_,run_underlying ht,run_underlying hk,sizeOf,typeInfo,hi,hs'.len,hroom,hs'.cells,Addr.add_lit,hst]
     refine ⟨_,_,hr,⟨hlen,.inr ⟨g,cap,_,rfl,hbg,setRow_heap w g cur _ e _ hg,hroom,hcm,?_,?_⟩⟩,⟨rfl,rfl,rfl,by simp,fun k _ hk=>setRow_other w g k _ (fun e=>hk (by simp [Value.ownBlock,e]))⟩,.inl rfl⟩
     · simp only [List.size_toArray,List.length_append,List.length_take,List.length_drop,Array.length_toList]
       rw [←hcs]
       omega
     · rw [hsize,htake,←hlen]
       exact List.take_left
   · have holds:∀ j u,xs[j]?=some u→w.cell? ((⟨g,0,none⟩:Addr).add j)=some u:=hown.cells (g:=g) rfl
     have hf:=run_firstCells_some (P:=P) w.drew i.size n ⟨g,0,none⟩ n cap xs (by rw [hsize];exact hown.1) (by simpa using holds)
     have hr:=run_append_grow_src (P:=P) w t tx ty e i z ht hi hz (some ⟨g,0,none⟩) n cap xs hf x m news hs' (by omega) hsmall (growslice_fits (by omega) hbytes)
     have hgr:=grown cap (Value.ownBlock (.slice (some ⟨g,0,none⟩) n cap))
     exact ⟨_,_,hr,hgr.1,hgr.2,.inr rfl⟩
theorem wpList_append_any {ops:Array Oper}{rest:List Oper}{o:Oper}{a:Act}{Q:Exit→Act→World→Prop}(hgd:o.guard=none)(s x:Operand)(t tx:TypeId)
  (ho:o.op=.call { callee:=.builtin .append,args:=#[s,x],argTypes:=#[t,tx] })
  (base:Nat) (e:TypeId) (i:TypeInfo) (z:Value) (size:Nat) (ht:P.underlying t=some (.slice e)) (hi:P.info? e=some i) (hz:i.zero=some z) (hsize:i.size=size) (hzs:z.cells.size=size)
  (v:Value) (n:Nat) (xs:List Value) (hs:a.eval s=v) (hown:w.ownsRow base e size v n xs) (y:Value) (m:Nat) (news:List Value) (hx:a.eval x=y) (hr:Go.Src P size tx y m news w)
  (h63:n+m≤maxLen) (hbytes:(n+m) * i.bytes≤140737488355328) (hbase:base≤w.heap.size)
  (h:∀ v' w',w'.ownsRow base e size v' (n+m) (xs++news)→w.grownBy w' v.ownBlock→(v'.ownBlock=v.ownBlock∨v'.ownBlock=some w.heap.size)→wpList P ops Q rest (a.put o.dst v') w'):wpList P ops Q (o::rest) a w:=by
 refine wpList_plain hgd fun K hK=>?_
 obtain ⟨v',w',hrun,h2,h3,h4⟩:=run_append_any (P:=P) w base t tx o.type e i z size ht hi hz hsize hzs v n xs hown y m news hr h63 hbytes hbase
 unfold Oper.wp execOp
 simp only [ho,resolve,invoke,builtin,Sem.run_bind,Sem.run_pure,Result.andThen_ok,List.map_toArray,List.map_cons,List.map_nil,hs,hx,hrun]
 exact hK _ _ (h v' w' h2 h3 h4)
theorem wpList_append_first {ops:Array Oper}{rest:List Oper}{o:Oper}{a:Act}{Q:Exit→Act→World→Prop}(hgd:o.guard=none)(s x:Operand)(t tx:TypeId)
  (ho:o.op=.call { callee:=.builtin .append,args:=#[s,x],argTypes:=#[t,tx] })
  (base:Nat) (e:TypeId) (i:TypeInfo) (z:Value) (size:Nat) (ht:P.underlying t=some (.slice e)) (hi:P.info? e=some i) (hz:i.zero=some z) (hsize:i.size=size) (hzs:z.cells.size=size)
  (v:Value) (hs:a.eval s=v) (hown:w.ownsRow base e size v 0 []) (y:Value) (m:Nat) (news:List Value) (hx:a.eval x=y) (hr:Go.Src P size tx y m news w)
  (h63:m≤maxLen) (hbytes:m * i.bytes≤140737488355328) (hbase:base≤w.heap.size)
  (h:∀ v' w',w'.ownsRow base e size v' m news→w.grownBy w' v.ownBlock→(v'.ownBlock=v.ownBlock∨v'.ownBlock=some w.heap.size)→wpList P ops Q rest (a.put o.dst v') w'):wpList P ops Q (o::rest) a w:=
 wpList_append_any w hgd s x t tx ho base e i z size ht hi hz hsize hzs v 0 [] hs hown y m news hx hr (by rw [Nat.zero_add];exact h63) (by rw [Nat.zero_add];exact hbytes) hbase (fun v' w' h2 h3 h4=>h v' w' (by rw [Nat.zero_add,List.nil_append] at h2;exact h2) h3 h4)
end
end Go.Proofs.YtcfjjocmiheiaaaDoor
namespace Go.Proofs.YtcfjjocmiheiaaaDoor
open Go.ChangeShapes Go.WideShapes Go.ChangeAt Go.RowKit Go.Shelf
section
variable {P:Program} {ops:Array Oper} {Q:Exit→Act→World→Prop} {md:Region.Mode} {s:Nat} {U V:World→Prop}
def Till (s:Nat)(U V:World→Prop)(listed:Array Bool)(w:World):Prop:=U w∧(listed.getD s true=false→V w)
def wpTill (P:Program)(md:Region.Mode)(ops:Array Oper)(Q:Exit→Act→World→Prop)(s:Nat)(U V:World→Prop)(fuel:Nat):Array Bool→Act→World→Prop:=
 Nat.rec (fun l a w=>Region.ready md ops l=[]∧Q .normal a w) (fun _ next l a w=>(Region.ready md ops l=[]→Q .normal a w)∧∀ i,i ∈ Region.ready md ops l→wpOp P ops Q i (fun b v=>Till s U V (l.setIfInBounds i true) v∧next (l.setIfInBounds i true) b v) a w) fuel
theorem till_any (n:Nat):∀ (l:Array Bool) (a:Act) (w:World),wpTill P md ops Q s U V n l a w→wpAny P md ops Q n l a w:=by
 induction n with
 | zero=>exact fun _ _ _ h=>h
 | succ n ih=>exact fun l a w h=>⟨h.1,fun i hi=>wpOp_mono (fun b v k=>ih _ b v k.2) (h.2 i hi)⟩
def waitsFor (md:Region.Mode)(ops:Array Oper)(s i:Nat):Bool:=
 match ops[s]? with
 | some o=>o.after.any (fun e=>Region.binds md e&&e.on==i) && !(i==s)
 | none=>false
theorem waits_spec {i:Nat}(h:waitsFor md ops s i=true):i≠s∧∃ o,ops[s]?=some o∧∃ e ∈ o.after,Region.binds md e=true∧e.on=i:=by
 unfold waitsFor at h
 split at h
 · rename_i o ho
   simp only [Bool.and_eq_true,Array.any_eq_true',Bool.not_eq_true',beq_eq_false_iff_ne,beq_iff_eq] at h
   obtain ⟨⟨e,he,hb,hi⟩,hne⟩:=h
   exact ⟨hne,o,ho,e,he,hb,hi⟩
 · cases h
theorem till_first {i:Nat}{oi:Oper}{v:Value}(hi:ops[i]?=some oi)(hw:waitsFor md ops s i=true)(hsel:∀ (j:Nat) (o:Oper) c b,ops[j]?=some o→o.op≠.select c b)(hQ:∀ p b u,Q (.panic p) (b.put oi.dst v) u→Q (.panic p) b u)(n:Nat) :
  ∀ (l:Array Bool) (a:Act) (w:World),(∀ j oj,ops[j]?=some oj→j≠i→l.getD j true=false→(∀ e ∈ oj.after,Region.binds md e=true→e.on≠i)→oi.apart ops oj=true)→i ∈ Region.ready md ops l→l.getD s true=false →
   YieldsIf P ops (fun u=>U u∧V u) oi v a→U w→V w→wpTill P md ops Q s U V n (l.setIfInBounds i true) (a.put oi.dst v) w→wpTill P md ops Q s U V (n+1) l a w:=by
 obtain ⟨his,os,hos,e0,he0,hb0,hi0⟩:=waits_spec hw
 have main:∀ (l:Array Bool) (a:Act) (w:World),i ∈ Region.ready md ops l→YieldsIf P ops (fun u=>U u∧V u) oi v a→U w→V w→(n':Nat)→wpTill P md ops Q s U V n' (l.setIfInBounds i true) (a.put oi.dst v) w →
   wpOp P ops Q i (fun b u=>Till s U V (l.setIfInBounds i true) u∧wpTill P md ops Q s U V n' (l.setIfInBounds i true) b u) a w:=fun l a w _ hy hU hV _ H=>hy.wpOp hi ⟨hU,hV⟩ ⟨⟨hU,fun _=>hV⟩,H⟩
 induction n with
 | zero =>
  intro l a w _ hr _ hy hU hV H
  refine ⟨fun h0=>(by rw [h0] at hr;cases hr),fun j hj=>?_⟩
  rcases Nat.decEq j i with hne|rfl
  · have h1:=ready_mono hj hne
    rw [H.1] at h1
    cases h1
  · exact main l a w hr hy hU hV 0 H
 | succ n ih =>
  intro l a w hfree hr hl hy hU hV H
  refine ⟨fun h0=>(by rw [h0] at hr;cases hr),fun j hj=>?_⟩
  rcases Nat.decEq j i with hne|rfl
  · obtain ⟨hun,oj,hoj,hdone⟩:=mem_ready.1 hj
    have hoff:=(mem_ready.1 hr).1
    have hno:∀ e ∈ oj.after,Region.binds md e=true→e.on≠i:=by
     rintro e he hb rfl
     have h1:=hdone e he hb
     rcases Nat.lt_or_ge e.on l.size with hlt|hge
     · simp [hlt] at h1 hoff
       rw [hoff] at h1
       cases h1
     · simp [Array.getElem?_eq_none hge] at h1
    have hjs:j≠s:=by
     rintro rfl
     rw [hos] at hoj
     injection hoj with hoj
     subst hoj
     exact hno e0 he0 hb0 hi0
    have hkept:((l.setIfInBounds i true).setIfInBounds j true).getD s true=false:=by rw [getD_set_ne true hjs,getD_set_ne true his];exact hl
    refine wpOp_mono (fun b u k=>?_) (wpOp_putIf (S:=fun u=>U u∧V u) hoj (hfree j oj hoj hne hun hno) (fun c b=>hsel i oi c b hi) (fun c b=>hsel j oj c b hoj) hQ hy (H.2 j (ready_mono hj hne)))
    obtain ⟨hy',⟨hU',hV'⟩,hrest⟩:=k
    refine ⟨⟨hU',fun _=>hV' hkept⟩,ih (l.setIfInBounds j true) b u (fun m om hm hmi hmun hmno=>hfree m om hm hmi ?_ hmno) (ready_mono hr (Ne.symm hne)) (by rw [getD_set_ne true hjs];exact hl) hy' hU' (hV' hkept) ?_⟩
    · rcases Nat.decEq j m with hjm|rfl
      · rwa [getD_set_ne true hjm] at hmun
      · exact hun
    · rw [Array.setIfInBounds_comm _ _ hne]
      exact hrest
  · exact main l a w hr hy hU hV (n+1) H
theorem till_take {i:Nat}{oi:Oper}{v:Value}{n:Nat}{l:Array Bool}{a:Act}{w:World}(hi:ops[i]?=some oi)(hs:Region.noSelect ops=true)(hf:Region.free md ops l i=true)(hr:(Region.ready md ops l).contains i=true)(hw:waitsFor md ops s i=true)(hl:l.getD s true=false)
  (hQ:∀ p b u,Q (.panic p) (b.put oi.dst v) u→Q (.panic p) b u) (hy:YieldsIf P ops (fun u=>U u∧V u) oi v a) (hU:U w) (hV:V w) (h:wpTill P md ops Q s U V n (l.setIfInBounds i true) (a.put oi.dst v) w):wpTill P md ops Q s U V (n+1) l a w:=
 till_first hi hw (Region.noSelect_spec hs) hQ n l a w (Region.free_spec hi hf) (by simpa using hr) hl hy hU hV h
theorem till_one {i:Nat}{o:Oper}{n:Nat}{l:Array Bool}{a:Act}{w:World}(hr:Region.ready md ops l=[i])(ho:ops[i]?=some o)
  (h:∀ K:Act→World→Prop,Hid (∀ b u,U u→V u→wpTill P md ops Q s U V n (l.setIfInBounds i true) b u→K b u)→if Region.wanted o (yielded ops a.tmps)=true then Oper.wp P o a w K Q else K (a.put o.dst undef) w):wpTill P md ops Q s U V (n+1) l a w:=by
 refine ⟨fun h0=>(by rw [hr] at h0;cases h0),fun j hj=>?_⟩
 rw [hr] at hj
 obtain rfl:=List.mem_singleton.1 hj
 have k:=h (fun b u=>Till s U V (l.setIfInBounds j true) u∧wpTill P md ops Q s U V n (l.setIfInBounds j true) b u) (Lib.hid fun b u hU hV hh=>⟨⟨hU,fun _=>hV⟩,hh⟩)
 unfold wpOp
 simp only [ho]
 by_cases hw:Region.wanted o (yielded ops a.tmps)=true
 · rw [if_pos hw] at k ⊢
   exact .inl k
 · rw [if_neg hw] at k ⊢
   exact k
theorem till_last {o:Oper}{n:Nat}{l:Array Bool}{a:Act}{w:World}(hr:Region.ready md ops l=[s])(ho:ops[s]?=some o)
  (h:∀ K:Act→World→Prop,Hid (∀ b u,U u→wpTill P md ops Q s U V n (l.setIfInBounds s true) b u→K b u)→if Region.wanted o (yielded ops a.tmps)=true then Oper.wp P o a w K Q else K (a.put o.dst undef) w):wpTill P md ops Q s U V (n+1) l a w:=by
 have hset:(l.setIfInBounds s true).getD s true=true:=by
  rcases Nat.lt_or_ge s l.size with hlt|hge
  · simp [hlt]
  · simp [Array.getElem?_eq_none (show (l.setIfInBounds s true).size≤s by simpa using hge)]
 refine ⟨fun h0=>(by rw [hr] at h0;cases h0),fun j hj=>?_⟩
 rw [hr] at hj
 obtain rfl:=List.mem_singleton.1 hj
 have k:=h (fun b u=>Till j U V (l.setIfInBounds j true) u∧wpTill P md ops Q j U V n (l.setIfInBounds j true) b u) (Lib.hid fun b u hU hh=>⟨⟨hU,fun h1=>by rw [hset] at h1;cases h1⟩,hh⟩)
 unfold wpOp
 simp only [ho]
 by_cases hw:Region.wanted o (yielded ops a.tmps)=true
 · rw [if_pos hw] at k ⊢
   exact .inl k
 · rw [if_neg hw] at k ⊢
   exact k
theorem till_done {l:Array Bool}{a:Act}{w:World}(hr:Region.ready md ops l=[])(h:Q .normal a w)(n:Nat):wpTill P md ops Q s U V n l a w:=by
 cases n with
 | zero=>exact ⟨hr,h⟩
 | succ n=>exact ⟨fun _=>h,fun i hi=>by rw [hr] at hi;cases hi⟩
theorem till_start {id:Nat}{a:Act}{w:World}(s:Nat)(U V:World→Prop)(hm:P.follows .mixedOrders=true)(h:wpTill P .any ops Q s U V ops.size (Array.replicate ops.size false) a w.drew):(Code.region id ops true).wp P Q a w:=
 wp_region_any hm (till_any _ _ _ _ h)
end
end Go.Proofs.YtcfjjocmiheiaaaDoor
namespace Go.Proofs.YtcfjjocmiheiaaaDoor
open Go.ChangeShapes Go.WideShapes Go.ChangeAt Go.RowKit
structure Exw (R S B:Nat)(w w':World):Prop where
 os:w'.os=w.os
 tape:w'.tape=w.tape
 output:w'.output=w.output
 size:w.heap.size≤w'.heap.size
 block:∀ k,k<B→k≠R→k≠S→w'.heap[k]?=w.heap[k]?
theorem Exw.refl (R S B:Nat)(w:World):Exw R S B w w:=⟨rfl,rfl,rfl,Nat.le_refl _,fun _ _ _ _=>rfl⟩
theorem Exw.trans {R S B:Nat}{a b c:World}(h:Exw R S B a b)(k:Exw R S B b c):Exw R S B a c:=
 ⟨k.os.trans h.os,k.tape.trans h.tape,k.output.trans h.output,Nat.le_trans h.size k.size,fun i hi h1 h2=>(k.block i hi h1 h2).trans (h.block i hi h1 h2)⟩
theorem Exw.mono {R S B B':Nat}{w w':World}(h:Exw R S B w w')(hB:B'≤B):Exw R S B' w w':=⟨h.os,h.tape,h.output,h.size,fun k hk h1 h2=>h.block k (Nat.lt_of_lt_of_le hk hB) h1 h2⟩
theorem Exw.of_below {R S B:Nat}{w w':World}(h:Below B w w'):Exw R S B w w':=⟨h.os,h.tape,h.output,h.size,fun k hk _ _=>h.block k hk⟩
theorem Exw.then {R S:Nat}{a b c:World}(h:Exw R S a.heap.size a b)(k:Exw R S b.heap.size b c):Exw R S a.heap.size a c:=h.trans (k.mono h.size)
theorem Exw.bel {R S:Nat}{a b c:World}(h:Exw R S a.heap.size a b)(k:Below b.heap.size b c):Exw R S a.heap.size a c:=h.then (.of_below k)
theorem Exw.after {R S:Nat}{a b c:World}(h:Below a.heap.size a b)(k:Exw R S b.heap.size b c):Exw R S a.heap.size a c:=(Exw.of_below h).then k
theorem Exw.setCell {R S B:Nat}{a w:World}(h:Exw R S B a w){p:Addr}(hp:p.block=R∨p.block=S∨B≤p.block)(u:Value):Exw R S B a (w.setCell p u):=
 ⟨h.os,h.tape,h.output,by rw [show (w.setCell p u).heap.size=w.heap.size by simp [World.setCell]];exact h.size,fun k hk h1 h2=>(Below.heap_setCell _ _ _ _ (by omega)).trans (h.block k hk h1 h2)⟩
theorem Exw.drew {R S B:Nat}{a w:World}(h:Exw R S B a w):Exw R S B a w.drew:=⟨h.os,h.tape,h.output,h.size,h.block⟩
theorem Exw.drewN {R S B:Nat}{a w:World}(h:Exw R S B a w)(n:Nat):Exw R S B a (w.drewN n):=h.trans ⟨rfl,rfl,rfl,Nat.le_refl _,fun _ _ _ _=>rfl⟩
theorem Exw.cell {R S B:Nat}{w w':World}(h:Exw R S B w w'){p:Addr}(hp:p.block<B)(h1:p.block≠R)(h2:p.block≠S):w'.cell? p=w.cell? p:=World.cell?_of_block (w:=w) (h.block p.block hp h1 h2)
theorem Exw.below {R S B:Nat}{w w':World}(h:Exw R S B w w')(hR:B≤R)(hS:B≤S):Below B w w':=⟨h.os,h.tape,h.output,h.size,fun k hk=>h.block k hk (by omega) (by omega)⟩
theorem cell_exw {R S:Nat}{w W:World}(h:Exw R S w.heap.size w W){p:Addr}{v:Value}(hp:w.cell? p=some v)(h1:p.block≠R)(h2:p.block≠S):W.cell? p=some v:=(h.cell (World.block_lt_of_cell? _ _ hp) h1 h2).trans hp
theorem blk_exw {R S B g:Nat}{w W:World}{o:Obj}(h:w.heap[g]?=some o)(hb:Exw R S B w W)(hg:g<B)(h1:g≠R)(h2:g≠S):W.heap[g]?=some o:=(hb.block g hg h1 h2).trans h
theorem Exw.ownsRow {R S:Nat}{w w':World}(h:Exw R S w.heap.size w w'){base:Nat}{e:TypeId}{size:Nat}{v:Value}{n:Nat}{xs:List Value}(ho:w.ownsRow base e size v n xs)(hR:v.ownBlock≠some R)(hS:v.ownBlock≠some S):w'.ownsRow base e size v n xs:=by
 obtain ⟨hl,h'⟩:=ho
 refine ⟨hl,?_⟩
 rcases h' with h1|⟨g,cap,cur,hv,hb,hg,hrest⟩
 · exact .inl h1
 · subst hv
   exact .inr ⟨g,cap,cur,rfl,hb,blk_exw hg h (blk_lt hg) (fun e=>hR (by rw [e];rfl)) (fun e=>hS (by rw [e];rfl)),hrest⟩
end Go.Proofs.YtcfjjocmiheiaaaDoor
namespace Go.Proofs.YtcfjjocmiheiaaaDoor
open Go.ChangeShapes Go.WideShapes Go.ChangeAt Go.RowKit
theorem zeroCells_u8 (m:Nat):Builtin.zeroCells (Value.int .u8 0).cells m=(u8s (zeros m)).toArray:=by
 apply Array.ext'
 simp only [Builtin.zeroCells]
 apply List.ext_getElem?
 intro i
 by_cases hi:i<m
 · simp [zeros,u8s,Value.cells,hi,Nat.mod_one]
 · simp [zeros,u8s,Value.cells,hi]
theorem u8s_append (a b:List Int):u8s (a++b)=u8s a++u8s b:=by simp [u8s]
section
variable {P:Program} (w:World)
def OwnV (w:World)(base:Nat)(e:TypeId)(A:Option Addr)(cap:Nat)(zs:List Int):Prop:=w.ownsRow base e 1 (.slice A zs.length cap) zs.length (u8s zs)
def rowOf (A:Option Addr):Option Nat:=A.map (·.block)
theorem ownBlock_rowOf (A:Option Addr)(n cap:Nat):(Value.slice A n cap).ownBlock=rowOf A:=by cases A<;>rfl
theorem run_append_zeros_grow (t tx ty e:TypeId)(i:TypeInfo)(ht:P.underlying t=some (.slice e))(hk:P.underlying tx=some (.int .i64))(hi:P.info? e=some i)(hz:i.zero=some (.int .u8 0))(hsize:i.size=1)(hby:i.bytes=1)
  (A:Option Addr) (n cap:Nat) (olds:List Value) (hold:(Builtin.firstCells 1 n (.slice A n cap)).run P w.drew=.ok olds.toArray w.drew) (m:Nat) (hg:cap<n+m) (hbd:n+m≤140737488355328) :
  (Builtin.append_ #[t,tx] ty #[.slice A n cap,.int .i64 m]).run P w=.ok (.slice (some ⟨w.heap.size,0,none⟩) (n+m) (grownCap w (n+m) cap e))
    (w.drew.alloc (.cells ((olds++u8s (zeros m)).toArray++Builtin.zeroCells (Value.int .u8 0).cells (grownCap w (n+m) cap e-(n+m))) e)):=by
 have hwr:IntKind.i64.wrap (m:Int)=m:=IntWalk.i64_in m (by omega)
 have hm48:¬(281474976710656:Int)<(m:Int):=by omega
 have hm0:¬(m:Int)<0:=by omega
 have hn:¬(n+m≤cap):=by omega
 have h63':¬(9223372036854775807<((n:Int)+(m:Int))):=by omega
 have hfit:=growslice_fits (old:=cap) (need:=n+m) (bytes:=1) hg (by omega)
 have h48':¬(281474976710656<Builtin.nextslicecap (n+m) cap):=by omega
 have hzz:=zeroCells_u8 m
 by_cases h0:m=0
 · subst h0
   have hw0:IntKind.i64.wrap 0=0:=IntWalk.i64_in 0 (by decide)
   rw [Nat.add_zero] at hg
   have hn':¬n≤cap:=by omega
   have h63'':¬(9223372036854775807<(n:Int)):=by omega
   rw [Nat.add_zero] at h48'
   simp [Builtin.append_,run_underlying ht,run_underlying hk,sizeOf,typeInfo,zeroValue,hi,hz,hsize,hby,hw0,asInt,asIntOf,hn',h63'',h48',Question.forced,hold,newRow,grownCap]
   have hu:olds++u8s (zeros 0)=olds:=by simp [u8s,zeros]
   rw [hu]
 · simp [Builtin.append_,run_underlying ht,run_underlying hk,sizeOf,typeInfo,zeroValue,hi,hz,hsize,hby,hwr,asInt,asIntOf,hm48,hm0,hn,h63',h48',h0,Question.forced,hold,newRow,grownCap,hzz]
   congr 2
   apply Array.ext'
   simp [List.append_assoc]
theorem run_append_zeros_room (t tx ty e:TypeId)(i:TypeInfo)(ht:P.underlying t=some (.slice e))(hk:P.underlying tx=some (.int .i64))(hi:P.info? e=some i)(hz:i.zero=some (.int .u8 0))(hsize:i.size=1)(hby:i.bytes=1)
  (g n cap:Nat) (m:Nat) (w':World) (hroom:n+m≤cap) (hbd:n+m≤140737488355328) (hst:(storeCells (⟨g,n,none⟩:Addr) (u8s (zeros m))).run P w=.ok () w') :
  (Builtin.append_ #[t,tx] ty #[.slice (some ⟨g,0,none⟩) n cap,.int .i64 m]).run P w=.ok (.slice (some ⟨g,0,none⟩) (n+m) cap) w':=by
 have hwr:IntKind.i64.wrap (m:Int)=m:=IntWalk.i64_in m (by omega)
 have hm48:¬(281474976710656:Int)<(m:Int):=by omega
 have hm0:¬(m:Int)<0:=by omega
 have hzz:=zeroCells_u8 m
 by_cases h0:m=0
 · subst h0
   have hw0:IntKind.i64.wrap 0=0:=IntWalk.i64_in 0 (by decide)
   rw [Nat.add_zero] at hroom
   have hu:u8s (zeros 0)=[]:=rfl
   rw [hu] at hst
   simp [Builtin.append_,run_underlying ht,run_underlying hk,sizeOf,typeInfo,zeroValue,hi,hz,hsize,hby,hw0,asInt,asIntOf,hroom,Addr.add_lit,hst]
 · simp [Builtin.append_,run_underlying ht,run_underlying hk,sizeOf,typeInfo,zeroValue,hi,hz,hsize,hby,hwr,asInt,asIntOf,hm48,hm0,hroom,h0,hzz,Addr.add_lit,hst]
theorem run_append_zeros (base:Nat)(t tx ty e:TypeId)(i:TypeInfo)(ht:P.underlying t=some (.slice e))(hk:P.underlying tx=some (.int .i64))(hi:P.info? e=some i)(hz:i.zero=some (.int .u8 0))(hsize:i.size=1)(hby:i.bytes=1)
  (A:Option Addr) (cap:Nat) (zs:List Int) (hown:OwnV w base e A cap zs) (m:Nat) (hbd:zs.length+m≤140737488355328) (hbase:base≤w.heap.size) :
  ∃ A' cap' w',(Builtin.append_ #[t,tx] ty #[.slice A zs.length cap,.int .i64 m]).run P w=.ok (.slice A' (zs.length+m) cap') w'∧OwnV w' base e A' cap' (zs++zeros m)∧w.grownBy w' (rowOf A)∧(rowOf A'=rowOf A∨rowOf A'=some w.heap.size):=by
 have hnl:(u8s (zeros m)).length=m:=by simp [u8s,zeros]
 have hll:(zs++zeros m).length=zs.length+m:=by simp [zeros]
 have hlen:(u8s (zs++zeros m)).length=(zs.length+m) * 1:=by simp [u8s,zeros]
 have hoz:(u8s zs).length=zs.length:=by simp [u8s]
 have grown:∀ (old:Nat),old<zs.length+m→∀ (row:Option Nat),
   OwnV (w.drew.alloc (.cells ((u8s zs++u8s (zeros m)).toArray++Builtin.zeroCells (Value.int .u8 0).cells (grownCap w (zs.length+m) old e-(zs.length+m))) e)) base e (some ⟨w.heap.size,0,none⟩) (grownCap w (zs.length+m) old e) (zs++zeros m) ∧
   w.grownBy (w.drew.alloc (.cells ((u8s zs++u8s (zeros m)).toArray++Builtin.zeroCells (Value.int .u8 0).cells (grownCap w (zs.length+m) old e-(zs.length+m))) e)) row:=by
  intro old ho row
  have hge:=grownCap_ge w (zs.length+m) old e
  have hcm:grownCap w (zs.length+m) old e≤maxLen:=grownCap_le_maxLen w (zs.length+m) old e (by unfold maxLen;omega)
  refine ⟨?_,⟨rfl,rfl,rfl,by simp,fun k hk _=>Below.heap_alloc w.drew _ k hk⟩⟩
  unfold OwnV
  rw [hll]
  refine ⟨hlen,.inr ⟨w.heap.size,_,_,rfl,hbase,heap_alloc_new w.drew _,hge,hcm,?_,?_⟩⟩
  · simp only [Array.size_append,List.size_toArray,size_zeroCells,List.length_append,hoz,hnl,Value.cells]
    simp
    omega
  · rw [u8s_append]
    simp only [Array.toList_append]
    rw [←hlen,u8s_append]
    exact List.take_left
 have hown0:=hown
 unfold OwnV at hown
 rcases hown.2 with ⟨hv,hn⟩|⟨g,cap0,cur,hv,hbg,hg,hnc,hcm,hcs,htake⟩
 · injection hv with h1 h2 h3
   subst h1 h3
   have hzs:zs=[]:=List.eq_nil_of_length_eq_zero hn
   subst hzs
   by_cases hm:m=0
   · subst hm
     refine ⟨none,0,w,?_,by simpa [zeros] using hown0,⟨rfl,rfl,rfl,Nat.le_refl _,fun _ _ _=>rfl⟩,.inl rfl⟩
     have hw0:IntKind.i64.wrap 0=0:=IntWalk.i64_in 0 (by decide)
     simp [Builtin.append_,run_underlying ht,run_underlying hk,sizeOf,typeInfo,hi,hby,hw0,asInt,asIntOf]
   · have hr:=run_append_zeros_grow (P:=P) w t tx ty e i ht hk hi hz hsize hby none 0 0 [] (run_firstCells_none w.drew 1 0 0 0) m (by omega) (by simpa using hbd)
     have hgr:=grown 0 (by simp;omega) (rowOf none)
     exact ⟨_,_,_,hr,hgr.1,hgr.2,.inr rfl⟩
 · injection hv with h1 h2 h3
   subst h1 h3
   by_cases hroom:zs.length+m≤cap
   · have hfit:zs.length * 1+(u8s (zeros m)).length≤cur.size:=by rw [hnl,hcs];omega
     have hst:=run_storeCells_at P g zs.length e (u8s (zeros m)) 0 cur w hg (by simpa using hfit) (u8s_one _)
     simp only [Nat.add_zero] at hst
     have hr:=run_append_zeros_room (P:=P) w t tx ty e i ht hk hi hz hsize hby g zs.length cap m _ hroom hbd hst
     refine ⟨_,_,_,hr,?_,⟨rfl,rfl,rfl,by simp,fun k _ hk=>setRow_other w g k _ (fun e=>hk (by simp [rowOf,e]))⟩,.inl rfl⟩
     unfold OwnV
     rw [hll]
     refine ⟨hlen,.inr ⟨g,cap,_,rfl,hbg,setRow_heap w g cur _ e _ hg,hroom,hcm,?_,?_⟩⟩
     · simp only [List.size_toArray,List.length_append,List.length_take,List.length_drop,Array.length_toList]
       omega
     · rw [Nat.mul_one] at htake
       rw [htake,←hlen,u8s_append]
       exact List.take_left
   · have holds:∀ j u,(u8s zs)[j]?=some u→w.cell? ((⟨g,0,none⟩:Addr).add j)=some u:=hown.cells (g:=g) rfl
     have hf:=run_firstCells_some (P:=P) w.drew 1 zs.length ⟨g,0,none⟩ zs.length cap (u8s zs) hown.1 (by simpa using holds)
     have hr:=run_append_zeros_grow (P:=P) w t tx ty e i ht hk hi hz hsize hby (some ⟨g,0,none⟩) zs.length cap (u8s zs) hf m (by omega) hbd
     have hgr:=grown cap (by omega) (rowOf (some ⟨g,0,none⟩))
     exact ⟨_,_,_,hr,hgr.1,hgr.2,.inr rfl⟩
end
end Go.Proofs.YtcfjjocmiheiaaaDoor
namespace Go.Proofs.YtcfjjocmiheiaaaDoor
open Go.ChangeShapes Go.WideShapes Go.ChangeAt Go.RowKit Go.Shelf
theorem quiet_same2 {P:Program}{f:FuncId}{args:Array Value}{w:World}{k n:Nat}{v:Value}
  (h:Calls P f args (w.drewN (k+n)) fun e w'=>e=.returned v∧w.drewN (k+n)=w'):Calls P f args (w.drewN (k+n)) fun e w''=>e=.returned v∧∃ m,w''=w.drewN (k+m):=
 h.mono fun _ _ ⟨he,hm⟩=>⟨he,n,hm.symm⟩
set_option maxRecDepth 100000 in
set_option maxHeartbeats 4000000 in
theorem ftarget_any (w:World){base m:Nat}{bp:Option Addr}{bc:Nat}{sv ev:Value}{zs:List Int}{fs:List (List CFld × Value)}{ns:List Nat}(h:IsMsg base w m bp bc sv ev zs fs ns)(k:Nat)(ref lists at':Int)(d:Nat)(there:Bool) :
  Calls Tryd.prog 96 #[.pointer (some ⟨m,0,none⟩),kidV k ref lists at' d there] w fun e w'=>e=.returned (optV (if there=true then jumpZ zs at' else none))∧Below w.heap.size w w':=by
 have hb:=(Below.refl w.heap.size w).alloc (Nat.le_refl _) (.cells #[.int .u8 k,.int .i64 ref,.int .i64 lists,.int .i64 at',.int .u64 d,.bool there] 166)
 have HB:=Lib.hid hb
 have HM:=Lib.hid (h.below hb)
 obtain ⟨_,x0,x1,x2,x3,x4,x5⟩:=blk6 (heap_alloc_new w (.cells #[.int .u8 k,.int .i64 ref,.int .i64 lists,.int .i64 at',.int .u64 d,.bool there] 166))
 clear hb h
 unfold kidV
 cases there with
 | false =>
  go_enter Tryd.func96,Tryd.ntmps96
  go_wp2
  go_ret2
  exact ⟨rfl,HB.out⟩
 | true =>
  obtain ⟨_,m0,m1,m2,_⟩:=blk3 HM.out.blk
  rw [if_pos rfl]
  have HBY:=Lib.hid HM.out.bytes
  have hlen:=HM.out.len
  obtain ⟨jv,hjv⟩:∃ jv,jumpZ zs at'=jv:=⟨_,rfl⟩
  rw [hjv]
  have HJ0:=Lib.hid hjv
  clear hjv
  go_enter Tryd.func96,Tryd.ntmps96
  go_upto_region 3 with (fail)
  generalize w.alloc (.cells #[.int .u8 k,.int .i64 ref,.int .i64 lists,.int .i64 at',.int .u64 d,.bool true] 166)=W0 at *
  by_cases hin:inZ (lenZ zs) at' 4=true
  · have hld:=leAt_4 zs at'.toNat HBY.out.1
    have hat:=inZ_iff.1 hin
    have HL:Hid (∀ n,Calls Tryd.prog 123 #[.slice bp zs.length bc,.int .i64 at',.int .i64 4] (W0.drewN n) fun e w'=>e=.returned (.tuple #[.int .u64 (leAt zs at'.toNat 4),.bool true])∧W0.drewN n=w'):=Lib.hid (fun n=>load_in bp bc zs at' 4 _ (HBY.out.below (Nat.le_refl _) (bel_drewN (Below.refl _ _) n)) hlen hin (by decide))
    have hz:lenZ zs=(zs.length:Int):=rfl
    rw [hz] at *
    have hj:jumpZ zs at'=if at'+leAt zs at'.toNat 4≤(zs.length:Int) then some (at'+leAt zs at'.toNat 4) else none:=by
     unfold jumpZ
     rw [if_pos hin]
     rfl
    have HJ:=Lib.hid (HJ0.out.symm.trans hj)
    clear hj hin HJ0
    generalize leAt zs at'.toNat 4=z at *
    have hcv:=IntWalk.i64_in z ⟨by omega,by omega⟩
    go_quiet (first|(go_at_call 123;exact quiet_same (HL.out _)))
    go_wp2_with fail
    by_cases hle:at'+z≤(zs.length:Int)
    · have HJ2:Hid (jv=some (at'+z)):=Lib.hid (HJ.out.trans (if_pos hle))
      have HN:=Lib.hid (fun W=>next_yes at' z zs.length W (by omega) (by omega) (by omega) (by omega) (by omega))
      go_quiet (first|(go_at_call 85;exact quiet_same2 (HN.out _)))
      go_wp2
      go_ret2
      exact ⟨by rw [HJ2.out];rfl,by first|exact bel_drewN HB.out _|exact bel_drewN (bel_drewN HB.out _) _⟩
    · have HJ2:Hid (jv=none):=Lib.hid (HJ.out.trans (if_neg hle))
      have HN:=Lib.hid (fun W=>next_no at' z zs.length W (by omega) (by omega))
      go_quiet (first|(go_at_call 85;exact quiet_same2 (HN.out _)))
      go_wp2
      go_ret2
      exact ⟨by rw [HJ2.out];rfl,by first|exact bel_drewN HB.out _|exact bel_drewN (bel_drewN HB.out _) _⟩
  · have HJ:Hid (jv=none):=Lib.hid (HJ0.out.symm.trans (by unfold jumpZ;rw [if_neg hin]))
    go_quiet (first|(go_at_call 123;exact quiet_same (load_out bp bc zs at' 4 _ hlen hin)))
    go_wp2
    go_ret2
    exact ⟨by rw [HJ.out];rfl,by first|exact bel_drewN HB.out _|exact bel_drewN (bel_drewN HB.out _) _⟩
end Go.Proofs.YtcfjjocmiheiaaaDoor
namespace Go.Proofs.YtcfjjocmiheiaaaDoor
open Go.ChangeShapes Go.WideShapes Go.ChangeAt Go.RowKit Go.Shelf
set_option maxHeartbeats 4000000 in
theorem fsized_any (a b c d:Int)(w:World)(hd:0≤d) :
  Calls Tryd.prog 124 #[.agg #[.int .i64 a,.int .i64 b,.int .i64 c,.int .i64 d]] w fun e w'=>e=.returned (.bool (decide (4≤b∧4≤d∧d % 2=0)))∧Below w.heap.size w w':=by
 have HB:=Lib.hid ((Below.refl w.heap.size w).alloc (Nat.le_refl _) (.cells #[.int .i64 a,.int .i64 b,.int .i64 c,.int .i64 d] 118))
 obtain ⟨_,x0,x1,x2,x3⟩:=blk4p (heap_alloc_new w (.cells #[.int .i64 a,.int .i64 b,.int .i64 c,.int .i64 d] 118))
 have e2:d.tmod 2=d % 2:=Int.tmod_eq_emod_of_nonneg hd
 have h2:d % 2=0∨d % 2=1:=by omega
 obtain ⟨r,hr⟩:∃ r,decide (4≤b∧4≤d∧d % 2=0)=r:=⟨_,rfl⟩
 rw [hr]
 have HR:=Lib.hid hr.symm
 clear hr
 by_cases h0:4≤b
 · by_cases h1:4≤d
   · rcases h2 with h2|h2
     · have HV:Hid (r=true):=Lib.hid (HR.out.trans (decide_eq_true ⟨h0,h1,h2⟩))
       rw [h2] at e2
       clear h2
       go_enter Tryd.func124,Tryd.ntmps124
       go_wp2
       go_ret
       exact ⟨ret_bool HV.out.symm,HB.out⟩
     · have HV:Hid (r=false):=Lib.hid (HR.out.trans (decide_eq_false (by omega)))
       rw [h2] at e2
       clear h2
       go_enter Tryd.func124,Tryd.ntmps124
       go_wp2
       go_ret
       exact ⟨ret_bool HV.out.symm,HB.out⟩
   · have HV:Hid (r=false):=Lib.hid (HR.out.trans (decide_eq_false (by omega)))
     clear h2 e2
     go_enter Tryd.func124,Tryd.ntmps124
     go_wp2
     go_ret
     exact ⟨ret_bool HV.out.symm,HB.out⟩
 · have HV:Hid (r=false):=Lib.hid (HR.out.trans (decide_eq_false (by omega)))
   clear h2 e2
   go_enter Tryd.func124,Tryd.ntmps124
   go_wp2
   go_ret
   exact ⟨ret_bool HV.out.symm,HB.out⟩
set_option maxHeartbeats 4000000 in
theorem fholds_any (t:TabZ)(p at' size:Int)(w:World)(ha : -1000000000000≤at'∧at'≤1000000000000)(hs:0≤size∧size≤8) :
  Calls Tryd.prog 102 #[tabV t p,.int .i64 at',.int .i64 size] w fun e w'=>e=.returned (.bool (decide (4≤at'∧at'+size≤t.own)))∧Below w.heap.size w w':=by
 have HB:=Lib.hid ((Below.refl w.heap.size w).alloc (Nat.le_refl _) (.cells #[.int .i64 p,.int .i64 t.own,.int .i64 t.la,.int .i64 t.size] 118))
 obtain ⟨_,x0,x1,x2,x3⟩:=blk4p (heap_alloc_new w (.cells #[.int .i64 p,.int .i64 t.own,.int .i64 t.la,.int .i64 t.size] 118))
 have hw:=IntWalk.i64_in (at'+size) (by omega)
 obtain ⟨r,hr⟩:∃ r,decide (4≤at'∧at'+size≤t.own)=r:=⟨_,rfl⟩
 rw [hr]
 have HR:=Lib.hid hr.symm
 clear hr
 unfold tabV
 generalize t.own=b at *
 by_cases h0:4≤at'
 · by_cases h1:at'+size≤b
   · have HV:Hid (r=true):=Lib.hid (HR.out.trans (decide_eq_true ⟨h0,h1⟩))
     go_enter Tryd.func102,Tryd.ntmps102
     go_wp2
     go_ret
     exact ⟨ret_bool HV.out.symm,HB.out⟩
   · have HV:Hid (r=false):=Lib.hid (HR.out.trans (decide_eq_false (by omega)))
     go_enter Tryd.func102,Tryd.ntmps102
     go_wp2
     go_ret
     exact ⟨ret_bool HV.out.symm,HB.out⟩
 · have HV:Hid (r=false):=Lib.hid (HR.out.trans (decide_eq_false (by omega)))
   go_enter Tryd.func102,Tryd.ntmps102
   go_wp2
   go_ret
   exact ⟨ret_bool HV.out.symm,HB.out⟩
set_option maxRecDepth 100000 in
set_option maxHeartbeats 4000000 in
theorem ffield_any (w:World){base m:Nat}{bp:Option Addr}{bc:Nat}{sv ev:Value}{zs:List Int}{fs:List (List CFld × Value)}{ns:List Nat}(h:IsMsg base w m bp bc sv ev zs fs ns)(t:TabZ)(p:Int)(j:Nat)(hj:j≤1000000)
  (ht:inZ (lenZ zs) t.la t.size=true∧t.size % 2=0) :
  Calls Tryd.prog 127 #[.pointer (some ⟨m,0,none⟩),tabV t p,.int .i64 j] w fun e w'=>e=.returned (.int .i64 (offZ zs t j))∧Below w.heap.size w w':=by
 have hb:=(Below.refl w.heap.size w).alloc (Nat.le_refl _) (.cells #[.int .i64 p,.int .i64 t.own,.int .i64 t.la,.int .i64 t.size] 118)
 have HB:=Lib.hid hb
 have HM:=Lib.hid (h.below hb)
 obtain ⟨_,x0,x1,x2,x3⟩:=blk4p (heap_alloc_new w (.cells #[.int .i64 p,.int .i64 t.own,.int .i64 t.la,.int .i64 t.size] 118))
 obtain ⟨_,m0,m1,m2,_⟩:=blk3 HM.out.blk
 have HBY:=Lib.hid HM.out.bytes
 have hlen:=HM.out.len
 have htt:=inZ_iff.1 ht.1
 have hz:lenZ zs=(zs.length:Int):=rfl
 rw [hz] at htt
 have hw1:=IntWalk.i64_in (2 * (j:Int)) (by omega)
 have hw2:=IntWalk.i64_in (4+2 * (j:Int)) (by omega)
 have HEV:=Lib.hid ht.2
 obtain ⟨r,hr⟩:∃ r,offZ zs t j=r:=⟨_,rfl⟩
 rw [hr]
 have HR:=Lib.hid hr.symm
 have hb0:=hb
 clear hr hb h ht
 unfold tabV
 by_cases h0:4+2 * (j:Int)<t.size
 · have hin:inZ (lenZ zs) (t.la+(4+2 * (j:Int))) 2=true:=inZ_iff.2 (by have:=HEV.out;rw [hz];omega)
   have HL:Hid (∀ W,Below (w.alloc (.cells #[.int .i64 p,.int .i64 t.own,.int .i64 t.la,.int .i64 t.size] 118)).heap.size (w.alloc (.cells #[.int .i64 p,.int .i64 t.own,.int .i64 t.la,.int .i64 t.size] 118)) W→Calls Tryd.prog 123 #[.slice bp zs.length bc,.int .i64 (t.la+(4+2 * (j:Int))),.int .i64 2] W fun e w'=>e=.returned (.tuple #[.int .u64 (leAt zs (t.la+(4+2 * (j:Int))).toNat 2),.bool true])∧W=w'):=
    Lib.hid (fun W hb=>load_in bp bc zs (t.la+(4+2 * (j:Int))) 2 W (HBY.out.below (Nat.le_refl _) hb) hlen hin (by decide))
   have HV:Hid (r=leAt zs (t.la+(4+2 * (j:Int))).toNat 2):=Lib.hid (HR.out.trans (by
    unfold offZ
    rw [if_pos h0,show t.la.toNat+4+2 * j=(t.la+(4+2 * (j:Int))).toNat by omega]))
   have hld:=leAt_2 zs (t.la+(4+2 * (j:Int))).toNat HBY.out.1
   have hw3:=IntWalk.i64_in (t.la+(4+2 * (j:Int))) (by omega)
   generalize leAt zs (t.la+(4+2 * (j:Int))).toNat 2=z at *
   have hcv:=IntWalk.i64_in z ⟨by omega,by omega⟩
   have h0':¬t.size≤4+2 * (j:Int):=by omega
   clear hin hb0
   generalize t.la=la at *
   generalize t.size=sz at *
   generalize t.own=ow at *
   go_enter Tryd.func127,Tryd.ntmps127
   go_upto_region 4 with (fail)
   generalize w.alloc (.cells #[.int .i64 p,.int .i64 ow,.int .i64 la,.int .i64 sz] 118)=W0 at *
   go_quiet (first|(go_at_call 123;exact quiet_same (HL.out _ (bel_drewN (Below.refl _ _) _))))
   go_wp2
   go_ret
   exact ⟨ret_int HV.out.symm,bel_drewN HB.out _⟩
 · have HV:Hid (r=0):=Lib.hid (HR.out.trans (by unfold offZ;rw [if_neg h0]))
   generalize t.la=la at *
   generalize t.size=sz at *
   generalize t.own=ow at *
   go_enter Tryd.func127,Tryd.ntmps127
   go_wp2
   go_ret
   exact ⟨ret_int HV.out.symm,HB.out⟩
end Go.Proofs.YtcfjjocmiheiaaaDoor
