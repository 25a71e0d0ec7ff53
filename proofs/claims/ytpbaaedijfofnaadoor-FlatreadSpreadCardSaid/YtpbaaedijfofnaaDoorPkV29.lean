/-
  What a law over a plan and bytes has in hand: a made schema's enums and defaults, bytes that came in. Conditions: those that each theorem names.
-/
import Derived.Test.YtpbaaedijfofnaaDoorPkV1
import Derived.Test.YtpbaaedijfofnaaDoorPkV3
import Derived.Test.YtpbaaedijfofnaaDoorPkV6
import Derived.Test.YtpbaaedijfofnaaDoorPkV8
import Derived.Test.YtpbaaedijfofnaaDoorPkV9
import Derived.Test.YtpbaaedijfofnaaDoorPkV12
import Derived.Test.YtpbaaedijfofnaaDoorPkV16
import Derived.Test.YtpbaaedijfofnaaDoorPkV19
import Derived.Test.YtpbaaedijfofnaaDoorPkV21
import Derived.Deep.RegionHeld3
namespace Go.Proofs.YtpbaaedijfofnaaDoor
open Go.ChangeShapes Go.WideShapes Go.ChangeAt Go.RowKit Go.Shelf
theorem own_put {W:World}{base sz n c K:Nat}{e:TypeId}{xs:List Value}(h:W.ownsRow base e sz (.slice (some ⟨K,0,none⟩) n c) n xs)(k:Nat)(u:Value):(W.setCell ⟨K,k,none⟩ u).ownsRow base e sz (.slice (some ⟨K,0,none⟩) n c) n (xs.set k u):=by
 obtain ⟨hl,h'⟩:=h
 refine ⟨by rw [List.length_set];exact hl,?_⟩
 rcases h' with ⟨h1,_⟩|⟨g,cap,cur,hv,hb,hg,hnc,hm,hs,ht⟩
 · cases h1
 · injection hv with h1 h2 h3
   injection h1 with h1
   injection h1 with h1 _ _
   subst h1 h3
   refine .inr ⟨K,c,cur.setIfInBounds k u,rfl,hb,blk_set hg k u,hnc,hm,by rw [Array.size_setIfInBounds];exact hs,?_⟩
   rw [Array.toList_setIfInBounds,List.take_set,ht]
theorem kvs_set:∀ (l:List KV) (i:Nat) (q:KV),i<l.length→((((kvsCells l).set (i * 4) q.c0).set (i * 4+1) q.c1).set (i * 4+2) q.c2).set (i * 4+3) q.c3=kvsCells (l.set i q)
 | [],_,_,h=>absurd h (Nat.not_lt_zero _)
 | p::l,0,q,_=>rfl
 | p::l,i+1,q,h=>by
  have ih:=kvs_set l i q (by simpa using h)
  have e:∀ k,(i+1) * 4+k=(i * 4+k)+4:=fun k=>by omega
  have e0:(i+1) * 4=i * 4+4:=by omega
  show ((((p.c0::p.c1::p.c2::p.c3::kvsCells l).set ((i+1) * 4) q.c0).set ((i+1) * 4+1) q.c1).set ((i+1) * 4+2) q.c2).set ((i+1) * 4+3) q.c3=p.c0::p.c1::p.c2::p.c3::kvsCells (l.set i q)
  rw [e0,show i * 4+4+1=i * 4+1+4 by omega,show i * 4+4+2=i * 4+2+4 by omega,show i * 4+4+3=i * 4+3+4 by omega]
  simp only [List.set_cons_succ]
  rw [ih]
end Go.Proofs.YtpbaaedijfofnaaDoor
namespace Go.Proofs.YtpbaaedijfofnaaDoor
open Go.ChangeShapes Go.WideShapes Go.ChangeAt Go.RowKit Go.Shelf
theorem blk_one {w:World}{g:Nat}{x:Value}{t:TypeId}(h:w.heap[g]?=some (.cells #[x] t (0,0))):g<w.heap.size∧w.cell? ⟨g,0,none⟩=some x∧w.frozen? ⟨g,0,none⟩=false:=
 ⟨blk_lt h,(blk_cell h 0).trans rfl,blk_frozen h 0⟩
def TreePost (w:World)(q:PV)(e:Ending)(w':World):Prop:=(∃ val,e=.returned (.tuple #[val,.bool true])∧VH (newS w.heap.size) w' q val)∧Below w.heap.size w w'
theorem pv_eq (q:PV):q=.mk q.num q.bytes q.kids q.has:=by cases q;rfl
theorem tree_end {w W:World}{q:PV}{val:Value}{R N:Nat}(hB:Below w.heap.size w W)(hR:w.heap.size≤R)(hN:R<N)(hv:VH (newS N) W q val)(x y z u:Value):VH (newS w.heap.size) (set4 W R x y z u) q val∧Below w.heap.size w (set4 W R x y z u):=
 ⟨hv.step (by rw [set4_size];exact Nat.le_refl _) (fun k hk hS=>by
  have h1:N≤k:=by unfold newS at hS;simpa using hS
  exact ⟨by unfold newS;simp;omega,set4_blk W (by omega) _ _ _ _⟩),below_set4 hB hR _ _ _ _⟩
theorem rowB_bytes {W:World}{base n cap:Nat}{A:Option Addr}{zs:List Int}(h:W.ownsRow base 5 1 (.slice A n cap) n (u8Cells zs))(hz:∀ z ∈ zs,0≤z∧z≤255):Bytes W A zs∧zs.length=n:=by
 obtain ⟨h1,h2⟩:=bytes_own (S:=fun _=>false) h hz (fun _ _=>rfl)
 exact ⟨Bytes.mono (by rw [hide_size];exact Nat.le_refl _) (fun p x hp=>(hide_some hp).2) h1,h2⟩
theorem bytes_mem {w:World}{p:Option Addr}{zs:List Int}(h:Bytes w p zs):∀ z ∈ zs,0≤z∧z≤255:=fun z hz=>by
 obtain ⟨i,hi,rfl⟩:=List.mem_iff_getElem.1 hz
 have h1:=h.1 i
 rw [List.getD,List.getElem?_eq_getElem hi,Option.getD_some] at h1
 exact h1
theorem val_infoT:(Tryd.prog.info? 36).map (fun i=>(i.zero,i.size,i.bytes))=some (some (.agg #[.int .u64 0,.slice none 0 0,.slice none 0 0,.bool false]),4,64):=by kernel_rfl
def nilKV:KV:=⟨nilV,.int .u64 0,.slice none 0 0,.slice none 0 0,.bool false⟩
theorem rowN_kv (n:Nat):rowN (List.replicate n 0)=kvsCells (List.replicate n nilKV):=by
 induction n with
 | zero=>rfl
 | succ n ih =>
  rw [List.replicate_succ,List.replicate_succ]
  show cellN 0++rowN (List.replicate n 0)=kvCells nilKV++kvsCells (List.replicate n nilKV)
  rw [ih]
  rfl
end Go.Proofs.YtpbaaedijfofnaaDoor
namespace Go.Proofs.YtpbaaedijfofnaaDoor
open Go.ChangeShapes Go.WideShapes Go.ChangeAt Go.RowKit Go.Shelf
structure Meth (d:Nat)(T:TypeId)(r:Value)(name:String)(f:FuncId)(rv:Value):Prop where
 finds:∀ (N:Nat) (W:World),(method (N+d) T r name).run Tryd.prog W=.ok (f,rv) W
 enters:∀ (args:Array Value) (W:World),(callFunc f args).run Tryd.prog W=.ok (.enter f args) W
theorem Meth.at {d:Nat}{T:TypeId}{r:Value}{name:String}{f:FuncId}{rv:Value}(h:Meth d T r name f rv)(hd:d≤2)(M:Nat)(W:World)(hN:M=Tryd.prog.types.size+Made.depth):(method M T r name).run Tryd.prog W=.ok (f,rv) W:=by
 obtain ⟨N,rfl⟩:∃ N,M=N+d:=by
  generalize Tryd.prog.types.size=s at hN
  have h2:2≤Made.depth:=by decide
  exact ⟨M-d,by omega⟩
 exact h.finds N W
def Says (d:Nat)(w:World)(v:Value)(name:String)(i:Int)(Q:World→Ending→World→Prop):Prop:=
 ∃ T r f rv,v=.iface T r∧Meth d T r name f rv∧∀ W,Below w.heap.size w W→Calls Tryd.prog f #[rv,.int .i64 i] W fun e w'=>Q W e w'∧Below W.heap.size W w'
def SubQ (next:World→Value→Nat→Int→Int→PV→Prop)(b:Bool)(k:Nat)(ref lists:Int)(q:PV)(e:Ending)(w':World):Prop:=
 (∃ sv,e=.returned (if b=true then .tuple #[sv,.bool true] else sv)∧next w' sv k ref lists q)∨(b=true∧e=.returned (.tuple #[.nilIface,.bool false])∧q=nilV)
def dep (b:Bool):Nat:=if b=true then 2 else 1
structure AskOk (next:World→Value→Nat→Int→Int→PV→Prop)(b:Bool)(w:World)(v:Value)(i k:Nat)(ref lists:Int)(q:PV):Prop where
 sort:1≤sortP k lists
 num:sortP k lists=1→q=numV q.num∧(q.num:Int)≤18446744073709551615∧Says (dep b) w v "Num" i (fun _ e _=>e=.returned (.int .u64 q.num))
 bytes:sortP k lists=2→q=.mk 0 q.bytes [] false∧q.bytes.length≤1000000∧Says (dep b) w v "Bytes" i (fun _ e w'=>∃ A c,e=.returned (.slice A q.bytes.length c)∧Bytes w' A q.bytes)
 list:sortP k lists=3→Says (dep b) w v "List" i (fun _ e w'=>∃ lv,e=.returned lv∧next w' lv k ref lists q)
 sub:sortP k lists=4→Says (dep b) w v "Sub" i (fun _ e w'=>SubQ next b k ref lists q e w')
theorem AskOk.iface {next:World→Value→Nat→Int→Int→PV→Prop}{b:Bool}{w:World}{v:Value}{i k:Nat}{ref lists:Int}{q:PV}(h:AskOk next b w v i k ref lists q):∃ T r,v=.iface T r:=by
 have h1:=h.sort
 have h2:sortP k lists≤4:=by unfold sortP;split<;>(try split)<;>(try split)<;>(try split)<;>(try split)<;>omega
 have h3:sortP k lists=1∨sortP k lists=2∨sortP k lists=3∨sortP k lists=4:=by omega
 rcases h3 with h3|h3|h3|h3
 · obtain ⟨_,_,T,r,_,_,hv,_⟩:=h.num h3
   exact ⟨T,r,hv⟩
 · obtain ⟨_,_,T,r,_,_,hv,_⟩:=h.bytes h3
   exact ⟨T,r,hv⟩
 · obtain ⟨T,r,_,_,hv,_⟩:=h.list h3
   exact ⟨T,r,hv⟩
 · obtain ⟨T,r,_,_,hv,_⟩:=h.sub h3
   exact ⟨T,r,hv⟩
structure ListHead (w:World)(v:Value)(q:PV):Prop where
 bare:q.num=0∧q.bytes=[]∧q.has=false
 few:q.kids.length≤1000000
 len:(v=.nilIface∧q.kids=[])∨∃ T r f rv,v=.iface T r∧Meth 1 T r "Len" f rv∧∀ W,Below w.heap.size w W→Calls Tryd.prog f #[rv] W fun e w'=>e=.returned (.int .i64 q.kids.length)∧Below W.heap.size W w'
def recAt (ss:List CRec)(ref:Int):CRec:=ss.getD ref.toNat ⟨⟨#[]⟩,[]⟩
structure StructHead (ss:List CRec)(v:Value)(ref:Int)(q:PV):Prop where
 there:∃ T r,v=.iface T r
 bare:q.num=0∧q.bytes=[]∧q.has=true
 within:0≤ref∧ref<ss.length
 few:q.kids.length=(recAt ss ref).fields.length
def Shown (ss:List CRec):Nat→World→Value→Nat→Int→Int→PV→Prop
 | 0,w,v,k,_,lists,q=>sortP k lists=3∧ListHead w v q∧q.kids=[]
 | r+1,w,v,k,ref,lists,q =>
  (sortP k lists=3∧ListHead w v q∧∀ j (hj:j<q.kids.length),AskOk (Shown ss r) false w v j k ref (lists-1) (q.kids[j]'hj)) ∨
  (sortP k lists=4∧StructHead ss v ref q∧∀ j (hj:j<q.kids.length) (hf:j<(recAt ss ref).fields.length),AskOk (Shown ss r) true w v j ((recAt ss ref).fields[j]'hf).kind ((recAt ss ref).fields[j]'hf).ref ((recAt ss ref).fields[j]'hf).lists (q.kids[j]'hj))
theorem Says.later {d:Nat}{w w2:World}{v:Value}{name:String}{i:Int}{Q:World→Ending→World→Prop}(h:Says d w v name i Q)(hb:Below w.heap.size w w2):Says d w2 v name i Q:=by
 obtain ⟨T,r,f,rv,hv,hm,hc⟩:=h
 exact ⟨T,r,f,rv,hv,hm,fun W hW=>hc W (hb.trans (hW.mono hb.size))⟩
theorem AskOk.later {next:World→Value→Nat→Int→Int→PV→Prop}{b:Bool}{w w2:World}{v:Value}{i k:Nat}{ref lists:Int}{q:PV}(h:AskOk next b w v i k ref lists q)(hb:Below w.heap.size w w2):AskOk next b w2 v i k ref lists q:=
 ⟨h.sort,fun hs=>⟨(h.num hs).1,(h.num hs).2.1,(h.num hs).2.2.later hb⟩,fun hs=>⟨(h.bytes hs).1,(h.bytes hs).2.1,(h.bytes hs).2.2.later hb⟩,fun hs=>(h.list hs).later hb,fun hs=>(h.sub hs).later hb⟩
theorem ListHead.later {w w2:World}{v:Value}{q:PV}(h:ListHead w v q)(hb:Below w.heap.size w w2):ListHead w2 v q:=
 ⟨h.bare,h.few,by
  rcases h.len with h1|⟨T,r,f,rv,hv,hm,hc⟩
  · exact .inl h1
  · exact .inr ⟨T,r,f,rv,hv,hm,fun W hW=>hc W (hb.trans (hW.mono hb.size))⟩⟩
theorem Shown.later {ss:List CRec}:∀ (n:Nat) {w w2:World} {v:Value} {k:Nat} {ref lists:Int} {q:PV},Shown ss n w v k ref lists q→Below w.heap.size w w2→Shown ss n w2 v k ref lists q
 | 0,_,_,_,_,_,_,_,h,hb=>⟨h.1,h.2.1.later hb,h.2.2⟩
 | _+1,_,_,_,_,_,_,_,h,hb=>by
  rcases h with ⟨h1,h2,h3⟩|⟨h1,h2,h3⟩
  · exact .inl ⟨h1,h2.later hb,fun j hj=>(h3 j hj).later hb⟩
  · exact .inr ⟨h1,h2,fun j hj hf=>(h3 j hj hf).later hb⟩
set_option maxRecDepth 100000 in
theorem elem_num {T:TypeId}{r rv:Value}{f:FuncId}(h:Meth 1 T r "Num" f rv)(N:Nat)(W:World):(method (N+2) 235 (.agg #[.iface T r]) "Num").run Tryd.prog W=.ok (f,rv) W:=
 (show _=(method (N+1) T r "Num").run Tryd.prog W by kernel_rfl).trans (h.finds N W)
set_option maxRecDepth 100000 in
theorem elem_bytes {T:TypeId}{r rv:Value}{f:FuncId}(h:Meth 1 T r "Bytes" f rv)(N:Nat)(W:World):(method (N+2) 235 (.agg #[.iface T r]) "Bytes").run Tryd.prog W=.ok (f,rv) W:=
 (show _=(method (N+1) T r "Bytes").run Tryd.prog W by kernel_rfl).trans (h.finds N W)
set_option maxRecDepth 100000 in
theorem elem_list {T:TypeId}{r rv:Value}{f:FuncId}(h:Meth 1 T r "List" f rv)(N:Nat)(W:World):(method (N+2) 235 (.agg #[.iface T r]) "List").run Tryd.prog W=.ok (f,rv) W:=
 (show _=(method (N+1) T r "List").run Tryd.prog W by kernel_rfl).trans (h.finds N W)
set_option maxRecDepth 100000 in
theorem elem_sub (v:Value)(N:Nat)(W:World):(method (N+2) 235 (.agg #[v]) "Sub").run Tryd.prog W=.ok (184,.agg #[v]) W:=by kernel_rfl
end Go.Proofs.YtpbaaedijfofnaaDoor
namespace Go.Proofs.YtpbaaedijfofnaaDoor
open Go.ChangeShapes Go.WideShapes Go.ChangeAt Go.RowKit Go.Shelf
theorem dflt_nums {p:Plan}{ss:List (SRec × Value)}(hss:ss.map Prod.fst=recsP p p.structs.length):∀ q ∈ crow ss,∀ f ∈ q.1.fields,sortP f.kind f.lists≠1→f.dflt=0:=by
 intro q hq f hf hs
 obtain ⟨i,hi,_,_,hall⟩:=made_fld hss q hq
 obtain ⟨k,hk,rfl⟩:=hall f hf
 generalize (p.structs.getD i []).getD k noPF=x at *
 show (if isNumP (kindP p i x) (x.lists % 4)=true then numP _ _ _ else 0:Nat)=0
 refine if_neg fun h=>hs ?_
 unfold isNumP at h
 rw [Bool.and_eq_true,decide_eq_true_iff,decide_eq_true_iff] at h
 show sortP (kindP p i x) ((x.lists % 4:Nat):Int)=1
 unfold sortP
 rw [h.1]
 simp [h.2]
end Go.Proofs.YtpbaaedijfofnaaDoor
namespace Go.Proofs.YtpbaaedijfofnaaDoor
open Go.ChangeShapes Go.WideShapes Go.ChangeAt Go.RowKit Go.Shelf
def DfltsOk (es:List SCho)(fs:List CFld):Prop:=∀ f ∈ fs,(1≤f.kind∧f.kind≤13∧0≤f.lists)∧(sortP f.kind f.lists=1→fitsT es f.kind f.ref f.lists f.dflt=true)∧(sortP f.kind f.lists≠1→f.dflt=0)
theorem fieldsP_at (f:Nat→Int→Int→PV→Bool)(xs:List CFld)(ks:List PV)(h:fieldsP f xs ks=true):∀ i (hx:i<xs.length) (hk:i<ks.length),f xs[i].kind xs[i].ref xs[i].lists ks[i]=true:=by
 induction xs generalizing ks with
 | nil=>intro i hx;exact absurd hx (Nat.not_lt_zero i)
 | cons x xs ih =>
  cases ks with
  | nil=>intro i _ hk;exact absurd hk (Nat.not_lt_zero i)
  | cons v vs =>
   have h2:(f x.kind x.ref x.lists v&&fieldsP f xs vs)=true:=h
   rw [Bool.and_eq_true] at h2
   intro i hx hk
   cases i with
   | zero=>exact h2.1
   | succ i=>exact ih vs h2.2 i (by simpa using hx) (by simpa using hk)
theorem fits_kids {ss:List CRec}{es:List SCho}{room i:Nat}{v:PV}(hi:i<ss.length)(hh:v.has=true)(hf:fitsP ss es (room+1) 13 i 0 v=true):v.kids.length=ss[i].fields.length∧∀ k (hx:k<ss[i].fields.length) (hk:k<v.kids.length),fitsP ss es room ss[i].fields[k].kind ss[i].fields[k].ref ss[i].fields[k].lists v.kids[k]=true:=by
 have hget:ss.getD ((i:Nat):Int).toNat ⟨⟨#[]⟩,[]⟩=ss[i]:=by rw [Int.toNat_natCast,List.getD,List.getElem?_eq_getElem hi,Option.getD_some]
 rw [fitsP_eq,show sortP 13 0=4 from rfl,Bool.and_eq_true] at hf
 have h2:(!v.has||structP ss es (room+1) i v.kids)=true:=hf.2
 rw [hh] at h2
 have h3:structP ss es (room+1) i v.kids=true:=h2
 unfold structP at h3
 rw [hget,Nat.add_sub_cancel,Bool.and_eq_true,Bool.and_eq_true,Bool.and_eq_true] at h3
 exact ⟨of_decide_eq_true h3.2.2.1,fieldsP_at _ _ _ h3.2.2.2⟩
end Go.Proofs.YtpbaaedijfofnaaDoor
namespace Go.Proofs.YtpbaaedijfofnaaDoor
open Go.ChangeShapes Go.WideShapes Go.ChangeAt Go.RowKit Go.Shelf
theorem viewT_no (T:TypeId)(v:Value)(W:World):(binOp .eql 42 (.iface T v) .nilIface).run Tryd.prog W=.ok (.bool false) W:=run_eql_held_nil W _ T v (by kernel_rfl)
theorem itemsT_no (T:TypeId)(v:Value)(W:World):(binOp .eql 146 (.iface T v) .nilIface).run Tryd.prog W=.ok (.bool false) W:=run_eql_held_nil W _ T v (by kernel_rfl)
theorem itemsT_yes (W:World):(binOp .eql 146 .nilIface .nilIface).run Tryd.prog W=.ok (.bool true) W:=run_eql_nil_nil W _ (by kernel_rfl)
set_option maxRecDepth 100000 in
set_option maxHeartbeats 4000000 in
theorem slength_any (w:World)(q:PV)(v:Value)(h:ListHead w v q) :
  Calls Tryd.prog 65 #[v] w fun e w'=>e=.returned (.int .i64 q.kids.length)∧Below w.heap.size w w':=by
 rcases h.len with ⟨rfl,hq⟩|⟨T,r,f,rv,rfl,hm,hc⟩
 · rw [hq]
   have e0:=itemsT_yes
   clear h hq
   go_enter Tryd.func65,Tryd.ntmps65
   go_wp2
   go_ret
   exact ⟨rfl,Below.refl _ _⟩
 · have e0:=itemsT_no T r
   have mN:=hm.at (by decide)
   have eN:=hm.enters
   have HC:=Lib.hid hc
   clear h hm hc
   go_enter Tryd.func65,Tryd.ntmps65
   go_wp2_with fail
   refine (HC.out w (Below.refl _ _)).mono ?_
   rintro e W1 ⟨rfl,hb1⟩
   have HB1:=Lib.hid hb1
   clear hb1
   go_wp2
   go_ret
   exact ⟨rfl,HB1.out⟩
set_option maxRecDepth 100000 in
set_option maxHeartbeats 4000000 in
theorem esubT_any (next:World→Value→Nat→Int→Int→PV→Prop)(w:World)(v:Value)(i k:Nat)(ref lists:Int)(q:PV)(h:Says 1 w v "Sub" i (fun _ e w'=>SubQ next false k ref lists q e w'))(W:World)(hb:Below w.heap.size w W) :
  (∀ a b x,next a x k ref lists q→Below a.heap.size a b→next b x k ref lists q)→Calls Tryd.prog 184 #[.agg #[v],.int .i64 i] W fun e w'=>SubQ next true k ref lists q e w'∧Below W.heap.size W w':=by
 intro hlater
 obtain ⟨T,r,f,rv,rfl,hm,hc⟩:=h
 have hba:=(Below.refl W.heap.size W).alloc (Nat.le_refl _) (.cells #[.iface T r] 235)
 have HB:=Lib.hid hba
 obtain ⟨_,s0,_⟩:=blk_one (heap_alloc_new W (.cells #[.iface T r] 235))
 have mN:=hm.at (by decide)
 have eN:=hm.enters
 have HC:=Lib.hid (hc _ (hb.trans (hba.mono hb.size)))
 clear hba hm hc hb
 go_enter Tryd.func184,Tryd.ntmps184
 go_upto_region 1 with (fail)
 generalize W.alloc (.cells #[.iface T r] 235)=W0 at *
 go_wp2_with fail
 refine HC.out.mono ?_
 rintro e W1 ⟨hs,hb1⟩
 rcases hs with ⟨sv,rfl,hsv⟩|⟨hf,_⟩
 case inr=>cases hf
 have HB1:=Lib.hid (HB.out.trans (hb1.mono HB.out.size))
 have HSV:=Lib.hid hsv
 simp only [Bool.false_eq_true,if_false]
 clear hb1 hsv s0 HC mN eN
 go_wp2
 go_ret2
 exact ⟨.inl ⟨_,rfl,HSV.out⟩,HB1.out⟩
theorem ask_elem {ss:List CRec}{r:Nat}{w:World}{v:Value}{i k:Nat}{ref lists:Int}{q:PV}(h:AskOk (Shown ss r) false w v i k ref lists q):AskOk (Shown ss r) true w (.iface 235 (.agg #[v])) i k ref lists q:=by
 refine ⟨h.sort,fun hs=>?_,fun hs=>?_,fun hs=>?_,fun hs=>?_⟩
 · obtain ⟨h1,h2,T,r,f,rv,rfl,hm,hc⟩:=h.num hs
   exact ⟨h1,h2,_,_,f,rv,rfl,⟨elem_num hm,hm.enters⟩,hc⟩
 · obtain ⟨h1,h2,T,r,f,rv,rfl,hm,hc⟩:=h.bytes hs
   exact ⟨h1,h2,_,_,f,rv,rfl,⟨elem_bytes hm,hm.enters⟩,hc⟩
 · obtain ⟨T,r,f,rv,rfl,hm,hc⟩:=h.list hs
   exact ⟨_,_,f,rv,rfl,⟨elem_list hm,hm.enters⟩,hc⟩
 · exact ⟨_,_,184,_,rfl,⟨elem_sub v,enters_of Tryd.func184 (by kernel_rfl) rfl⟩,fun W hW=>esubT_any _ w v i k ref lists q (h.sub hs) W hW (fun a b x hx hb=>hx.later _ hb)⟩
end Go.Proofs.YtpbaaedijfofnaaDoor
namespace Go.Proofs.YtpbaaedijfofnaaDoor
open Go.ChangeShapes Go.WideShapes Go.ChangeAt Go.RowKit Go.Shelf
structure WrSt (W:World)(base wk:Nat)(A:Option Addr)(cap:Nat)(sv ev:Value)(root:Int)(zs:List Int):Prop where
 blk:W.heap[wk]?=some (.cells #[sv,ev,.int .i64 root,.slice A zs.length cap] 118 (0,0))
 own:OwnV W base 5 A cap zs
 rng:∀ z ∈ zs,0≤z∧z≤255
 hb:base≤wk
structure Wx (wk:Nat)(A A':Option Addr)(w w':World):Prop where
 os:w'.os=w.os
 tape:w'.tape=w.tape
 output:w'.output=w.output
 size:w.heap.size≤w'.heap.size
 block:∀ k,k<w.heap.size→k≠wk→some k≠rowOf A→w'.heap[k]?=w.heap[k]?
 row:rowOf A'=rowOf A∨∃ k,rowOf A'=some k∧w.heap.size≤k
theorem Wx.refl (wk:Nat)(A:Option Addr)(w:World):Wx wk A A w w:=⟨rfl,rfl,rfl,Nat.le_refl _,fun _ _ _ _=>rfl,.inl rfl⟩
theorem Wx.trans {wk:Nat}{A A1 A2:Option Addr}{w w1 w2:World}(h:Wx wk A A1 w w1)(k:Wx wk A1 A2 w1 w2):Wx wk A A2 w w2:=by
 refine ⟨k.os.trans h.os,k.tape.trans h.tape,k.output.trans h.output,Nat.le_trans h.size k.size,fun i hi h1 h2=>(k.block i (Nat.lt_of_lt_of_le hi h.size) h1 ?_).trans (h.block i hi h1 h2),?_⟩
 · rcases h.row with e|⟨j,e,hj⟩
   · rw [e];exact h2
   · rw [e];intro e2;injection e2 with e2;omega
 · rcases k.row with e|⟨j,e,hj⟩
   · rcases h.row with e'|⟨j,e',hj⟩
     · exact .inl (e.trans e')
     · exact .inr ⟨j,e.trans e',hj⟩
   · exact .inr ⟨j,e,Nat.le_trans h.size hj⟩
theorem Wx.of_below {wk:Nat}(A:Option Addr){w w':World}(h:Below w.heap.size w w'):Wx wk A A w w':=⟨h.os,h.tape,h.output,h.size,fun k hk _ _=>h.block k hk,.inl rfl⟩
theorem Wx.cell {wk:Nat}{A A':Option Addr}{w w':World}(h:Wx wk A A' w w'){p:Addr}{v:Value}(hp:w.cell? p=some v)(h1:p.block≠wk)(h2:some p.block≠rowOf A):w'.cell? p=some v:=
 (World.cell?_of_block (h.block p.block (World.block_lt_of_cell? w p hp) h1 h2)).trans hp
theorem Wx.blk {wk g:Nat}{A A':Option Addr}{w w':World}{o:Obj}(h:Wx wk A A' w w')(hg:w.heap[g]?=some o)(hl:g<w.heap.size)(h1:g≠wk)(h2:some g≠rowOf A):w'.heap[g]?=some o:=(h.block g hl h1 h2).trans hg
theorem Wx.below {wk base:Nat}{A A':Option Addr}{w w':World}(h:Wx wk A A' w w')(hb:base≤wk)(ha:∀ k,rowOf A=some k→base≤k)(hB:base≤w.heap.size):Below base w w':=
 ⟨h.os,h.tape,h.output,h.size,fun k hk=>h.block k (by omega) (by omega) (fun e=>by have:=ha k e.symm;omega)⟩
theorem Wx.ownsRow {wk:Nat}{A A':Option Addr}{w w':World}(h:Wx wk A A' w w'){base:Nat}{e:TypeId}{size:Nat}{v:Value}{n:Nat}{xs:List Value}(ho:w.ownsRow base e size v n xs)(h1:v.ownBlock≠some wk)(h2:∀ k,v.ownBlock=some k→some k≠rowOf A):w'.ownsRow base e size v n xs:=by
 obtain ⟨hl,h3⟩:=ho
 refine ⟨hl,?_⟩
 rcases h3 with h3|⟨g,cap,cur,rfl,hg,hblk,h4⟩
 · exact .inl h3
 · exact .inr ⟨g,cap,cur,rfl,hg,h.blk hblk (blk_lt hblk) (fun e=>h1 (by rw [e];rfl)) (h2 g rfl),h4⟩
section
variable {w:World} {base wk:Nat} {A:Option Addr} {cap:Nat} {sv ev:Value} {root:Int} {zs:List Int}
theorem WrSt.below {w':World}(h:WrSt w base wk A cap sv ev root zs)(hb:Below w.heap.size w w'):WrSt w' base wk A cap sv ev root zs:=
 ⟨blk_below h.blk hb (blk_lt h.blk),row_keep hb h.own,h.rng,h.hb⟩
theorem WrSt.ne (h:WrSt w base wk A cap sv ev root zs):rowOf A≠some wk:=by
 have h1:=row_other h.own h.blk (by decide)
 rw [ownBlock_rowOf] at h1
 exact h1
theorem WrSt.row (h:WrSt w base wk A cap sv ev root zs):∀ k,rowOf A=some k→base≤k∧k<w.heap.size:=fun k hk=>ownsRow_lt h.own k (by rw [ownBlock_rowOf];exact hk)
theorem WrSt.few (h:WrSt w base wk A cap sv ev root zs):zs.length≤cap:=by
 have h1:=row_cap (show w.ownsRow base 5 1 (.slice A zs.length cap) zs.length (u8s zs) from h.own)
 exact h1
theorem laid_mem {zs:List Int}(h:∀ z ∈ zs,0≤z∧z≤255)(a:Nat)(n:Int):∀ k,∀ z ∈ laidOver zs a n k,0≤z∧z≤255
 | 0,z,hz=>h z hz
 | k+1,z,hz=>by
  rcases List.mem_or_eq_of_mem_set hz with h1|h1
  · exact laid_mem h a n k z h1
  · subst h1;exact byteAt_bd n k
theorem zeros_mem {s:Nat}{z:Int}(hz:z ∈ zeros s):z=0:=(List.mem_replicate.1 hz).2
theorem laid_rng (s:Nat)(n:Int):∀ z ∈ laidOver (zeros s) 0 n s,0≤z∧z≤255:=laid_mem (fun z hz=>by rw [zeros_mem hz];decide) 0 n s
theorem srcrow_of {W:World}{b:Nat}{e:TypeId}{g n c:Nat}{ys:List Int}(h:OwnR W b e g n c ys):SrcRow W (some ⟨g,0,none⟩) n c (u8s ys):=by
 have hf:=h.facts
 refine ⟨by simp [u8s,hf.1],fun u hu=>?_,.inr ⟨_,rfl,fun j u hj=>?_⟩⟩
 · obtain ⟨z,_,rfl⟩:=List.mem_map.1 hu
   rfl
 · have hjl:j<ys.length:=by
    rcases Nat.lt_or_ge j ys.length with h1|h1
    · exact h1
    · rw [List.getElem?_eq_none (by simpa [u8s] using h1)] at hj;cases hj
   have h1:=hf.2.2.2.2.2.1 j hjl
   rw [show u8s ys=ys.map (.int .u8) from rfl,List.getElem?_map,List.getElem?_eq_getElem hjl] at hj
   injection hj with hj
   subst hj
   rw [List.getD,List.getElem?_eq_getElem hjl,Option.getD_some] at h1
   rw [show (⟨g,0,none⟩:Addr).add j=⟨g,j,none⟩ from by cases j<;>simp [Addr.add]]
   exact h1
theorem row_keep_set {W:World}{b:Nat}{e:TypeId}{g1 g n c j:Nat}{u:Value}{ys:List Int}(h:OwnR W b e g1 n c ys)(hne:g≠g1):OwnR (W.setCell ⟨g,j,none⟩ u) b e g1 n c ys:=
 ((Exw.refl g g _ W).setCell (p:=⟨g,j,none⟩) (.inl rfl) u).ownsRow h (fun e=>by injection e with e;exact hne e.symm) (fun e=>by injection e with e;exact hne e.symm)
def WrPost (r:Value)(base wk:Nat)(A:Option Addr)(sv ev:Value)(root:Int)(zs':List Int)(w:World)(e:Ending)(w':World):Prop:=e=.returned r∧∃ A' cap',WrSt w' base wk A' cap' sv ev root zs'∧Wx wk A A' w w'
theorem wr_app {W7 W8:World}(h:WrSt w base wk A cap sv ev root zs)(h7:Below w.heap.size w W7)(hg:W7.grownBy W8 (rowOf A)){v4:Value}{news:List Int}(ho:W8.ownsRow base 5 1 v4 (zs.length+news.length) (u8s (zs++news)))(hrow:v4.ownBlock=rowOf A∨v4.ownBlock=some W7.heap.size)(hr:∀ z ∈ news,0≤z∧z≤255) :
  ∃ A' cap',v4=.slice A' (zs.length+news.length) cap'∧W8.heap[wk]?=some (.cells #[sv,ev,.int .i64 root,.slice A zs.length cap] 118 (0,0))∧WrSt (W8.setCell ⟨wk,3,none⟩ v4) base wk A' cap' sv ev root (zs++news)∧Wx wk A A' w (W8.setCell ⟨wk,3,none⟩ v4):=by
 obtain ⟨A',cap',rfl⟩:=ownsRow_form ho
 have hwl:=blk_lt h.blk
 have hs7:=h7.size
 have hs8:=hg.size
 have h8:W8.heap[wk]?=some (.cells #[sv,ev,.int .i64 root,.slice A zs.length cap] 118 (0,0)):=(hg.block wk (by omega) (fun e=>h.ne e.symm)).trans (blk_below h.blk h7 hwl)
 rw [ownBlock_rowOf] at hrow
 have hne:(Value.slice A' (zs.length+news.length) cap').ownBlock≠some wk:=by
  rw [ownBlock_rowOf]
  rcases hrow with e|e
  · rw [e];exact h.ne
  · rw [e];intro e2;injection e2 with e2;omega
 refine ⟨A',cap',rfl,h8,⟨?_,?_,?_,h.hb⟩,⟨?_,?_,?_,?_,?_,?_⟩⟩
 · rw [List.length_append]
   exact (blk_set h8 3 _).trans rfl
 · unfold OwnV
   rw [List.length_append]
   exact ((Exw.refl wk wk _ W8).setCell (p:=⟨wk,3,none⟩) (.inl rfl) _).ownsRow ho hne hne
 · intro z hz
   rcases List.mem_append.1 hz with h1|h1
   · exact h.rng z h1
   · exact hr z h1
 · exact hg.os.trans h7.os
 · exact hg.tape.trans h7.tape
 · exact hg.output.trans h7.output
 · simp [World.setCell];omega
 · intro k hk h1 h2
   exact (Below.heap_setCell _ _ _ _ (by show k≠wk;exact h1)).trans ((hg.block k (by omega) h2).trans (h7.block k hk))
 · rcases hrow with e|e
   · exact .inl e
   · exact .inr ⟨_,e,hs7⟩
theorem wr_app2 {W7 W8:World}(h:WrSt w base wk A cap sv ev root zs)(h7:Below w.heap.size w W7){v:Value}{n n4:Nat}(hv:v=.slice A n cap)(hg:W7.grownBy W8 v.ownBlock){v4:Value}{news:List Int}(hn4:zs.length+news.length=n4)(ho:W8.ownsRow base 5 1 v4 n4 (u8s (zs++news)))(hrow:v4.ownBlock=v.ownBlock∨v4.ownBlock=some W7.heap.size)(hr:∀ z ∈ news,0≤z∧z≤255) :
  ∃ A' cap',v4=.slice A' n4 cap'∧W8.heap[wk]?=some (.cells #[sv,ev,.int .i64 root,.slice A zs.length cap] 118 (0,0))∧WrSt (W8.setCell ⟨wk,3,none⟩ v4) base wk A' cap' sv ev root (zs++news)∧Wx wk A A' w (W8.setCell ⟨wk,3,none⟩ v4):=by
 subst hv hn4
 rw [ownBlock_rowOf] at hg hrow
 exact wr_app h h7 hg ho hrow hr
theorem wr_set {W7:World}{g:Nat}(h:WrSt w base wk (some ⟨g,0,none⟩) cap sv ev root zs)(h7:Below w.heap.size w W7)(j:Nat)(b:Int)(hb:0≤b∧b≤255) :
  WrSt (W7.setCell ⟨g,j,none⟩ (.int .u8 b)) base wk (some ⟨g,0,none⟩) cap sv ev root (zs.set j b)∧Wx wk (some ⟨g,0,none⟩) (some ⟨g,0,none⟩) w (W7.setCell ⟨g,j,none⟩ (.int .u8 b)):=by
 have h2:=h.below h7
 have hgw:g≠wk:=fun e=>h.ne (by rw [e];rfl)
 have hs7:=h7.size
 refine ⟨⟨?_,?_,?_,h.hb⟩,⟨h7.os,h7.tape,h7.output,by simp [World.setCell];omega,fun k hk h1 h3=>?_,.inl rfl⟩⟩
 · rw [List.length_set]
   exact (Below.heap_setCell _ _ _ _ (by show wk≠g;exact fun e=>hgw e.symm)).trans h2.blk
 · unfold OwnV
   rw [List.length_set]
   exact OwnR.set (show OwnR W7 base 5 g zs.length cap zs from h2.own) j b
 · intro z hz
   rcases List.mem_or_eq_of_mem_set hz with h1|h1
   · exact h.rng z h1
   · subst h1;exact hb
 · exact (Below.heap_setCell _ _ _ _ (by show k≠g;exact fun e=>h3 (by rw [e];rfl))).trans (h7.block k hk)
theorem WrSt.addr (h:WrSt w base wk A cap sv ev root zs)(hz:0<zs.length):∃ g,A=some ⟨g,0,none⟩∧g<w.heap.size∧(∀ i,i<zs.length→w.cell? ⟨g,i,none⟩=some (.int .u8 (zs.getD i 0)))∧(∀ i,w.frozen? ⟨g,i,none⟩=false):=by
 have h0:=h.own
 obtain ⟨hl,h1⟩:=h.own
 rcases h1 with ⟨h1,h2⟩|⟨g,cap',cur,h1,h2⟩
 · omega
 · injection h1 with h1 _ _
   subst h1
   have hf:=OwnR.facts (show OwnR w base 5 g zs.length cap zs from h0)
   exact ⟨g,rfl,hf.2.2.1,hf.2.2.2.2.2.1,hf.2.2.2.2.2.2⟩
end
end Go.Proofs.YtpbaaedijfofnaaDoor
namespace Go.Proofs.YtpbaaedijfofnaaDoor
open Go.ChangeShapes Go.WideShapes Go.ChangeAt Go.RowKit Go.Shelf
theorem made_dflts {p:Plan}{ss:List (SRec × Value)}{es:List SCho}(hss:ss.map Prod.fst=recsP p p.structs.length)(hm:SchM ss es):∀ q ∈ crow ss,DfltsOk es q.1.fields:=by
 intro q hq f hf
 have h0:=dflt_nums hss q hq f hf
 obtain ⟨x,hx,rfl⟩:=List.mem_map.1 hq
 obtain ⟨y,hy,rfl⟩:=List.mem_map.1 (show f ∈ x.1.fields.map cF from hf)
 obtain ⟨ht,hd,hn⟩:=(hm.2 x hx).2 y hy
 refine ⟨⟨ht.lo,ht.hi,Int.natCast_nonneg _⟩,fun hs=>?_,h0⟩
 have hs':sortP y.kind ((y.lists:Nat):Int)=1:=hs
 have hl:y.lists=0:=by
  rcases Nat.eq_zero_or_pos y.lists with h|h
  · exact h
  · rw [show sortP y.kind ((y.lists:Nat):Int)=3 from if_pos (by omega)] at hs'
    cases hs'
 have hk:y.kind≤10:=by
  rcases Nat.lt_or_ge 10 y.kind with h|h
  · rw [hl] at hs'
    rcases tk_cases y.kind ht.lo ht.hi with ⟨_,h2,_⟩|⟨_,h2,_⟩|⟨h2,_⟩
    · rw [show sortP y.kind ((0:Nat):Int)=sortP y.kind 0 from rfl,h2] at hs';cases hs'
    · rw [show sortP y.kind ((0:Nat):Int)=sortP y.kind 0 from rfl,h2] at hs';cases hs'
    · omega
  · exact h
 have h:=hn hl hk
 show fitsT es y.kind ((y.ref:Nat):Int) ((y.lists:Nat):Int) y.dflt=true
 rw [hl]
 exact h
end Go.Proofs.YtpbaaedijfofnaaDoor
namespace Go.Proofs.YtpbaaedijfofnaaDoor
open Go.ChangeShapes Go.WideShapes Go.ChangeAt Go.RowKit Go.Shelf
theorem made_few {p:Plan}(hok:planOk p){es:List (SCho × Value)}(hes:es.map Prod.fst=chosP p p.enums.length):es.length≤1000000∧∀ q ∈ es,q.1.names.length≤1000000:=by
 have hl:es.length=p.enums.length:=by
  have:=congrArg List.length hes
  rwa [List.length_map,chosP_length] at this
 refine ⟨by have:=hok.2.2.1;omega,fun q hq=>?_⟩
 have h1:q.1 ∈ chosP p p.enums.length:=by rw [←hes];exact List.mem_map.2 ⟨q,hq,rfl⟩
 obtain ⟨i,_,h2⟩:=List.mem_map.1 h1
 rw [←h2]
 show ((List.range (cntOf p i)).map valName).length≤1000000
 rw [List.length_map,List.length_range]
 unfold cntOf
 omega
theorem made_defs {p:Plan}{ss:List (SRec × Value)}{es:List SCho}(hss:ss.map Prod.fst=recsP p p.structs.length)(hm:SchM ss es):∀ q ∈ ss,DfltsOk es (cR q.1).fields:=fun q hq=>made_dflts hss hm (cR q.1,q.2) (List.mem_map.2 ⟨q,hq,rfl⟩)
theorem getD_takeX (zs:List Int)(n i:Nat)(hw:∀ z ∈ zs,(Lit.int .u8 z).wf=true):0≤(zs.take n).getD i 0∧(zs.take n).getD i 0≤255:=by
 rcases Nat.lt_or_ge i (zs.take n).length with h|h
 · rw [List.getD,List.getElem?_eq_getElem h,Option.getD_some]
   exact bounds_u8 (hw _ (List.mem_of_mem_take (List.getElem_mem h)))
 · rw [List.getD,List.getElem?_eq_none h]
   exact ⟨by decide,by decide⟩
theorem bytes_row {w:World}{a:Option Addr}{len cap:Nat}{zs:List Int}(h:IsRow .u8 w a len cap zs):Bytes w a (zs.take len)∧(zs.take len).length=len∧len≤cap∧(cap:Int)≤9223372036854775807:=by
 obtain ⟨h1,h2,h3,h4,h5⟩:=h
 refine ⟨⟨fun i=>getD_takeX zs len i h4,fun hne=>?_⟩,by rw [List.length_take];omega,h1,by unfold maxLen at h2;omega⟩
 have hz:zs≠[]:=fun e=>hne (by rw [e];exact List.take_nil)
 obtain ⟨b,off,e,hlt,hc⟩:=h5 hz
 refine ⟨b,off,e,hlt,fun i hi=>?_⟩
 rw [List.length_take] at hi
 rw [hc i (by omega),List.getD,List.getD,List.getElem?_take,if_pos (by omega)]
end Go.Proofs.YtpbaaedijfofnaaDoor
