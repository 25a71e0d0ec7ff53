/-
  The package view's Tree: of a field of a view, whatever stands behind it. Conditions: those that each theorem names.
-/
import Derived.Test.YtcfjjocmiheiaaaDoorPkD52
import Derived.Test.YtcfjjocmiheiaaaDoorPkD3
import Derived.Test.YtcfjjocmiheiaaaDoorPkD6
import Derived.Test.YtcfjjocmiheiaaaDoorPkD14
import Derived.Deep.MidRow
import Derived.Deep.RegionHeld3
import Derived.Deep.Cut
namespace Go.Proofs.YtcfjjocmiheiaaaDoor
open Go.ChangeShapes Go.WideShapes Go.ChangeAt Go.RowKit Go.Shelf
theorem blk_one {w:World}{g:Nat}{x:Value}{t:TypeId}(h:w.heap[g]?=some (.cells #[x] t (0,0))):g<w.heap.size∧w.cell? ⟨g,0,none⟩=some x∧w.frozen? ⟨g,0,none⟩=false:=
 ⟨blk_lt h,(blk_cell h 0).trans rfl,blk_frozen h 0⟩
def TreePost (w:World)(q:PV)(e:Ending)(w':World):Prop:=(∃ val,e=.returned (.tuple #[val,.bool true])∧VH (newS w.heap.size) w' q val)∧Below w.heap.size w w'
theorem pv_eq (q:PV):q=.mk q.num q.bytes q.kids q.has:=by cases q;rfl
theorem tree_end {w W:World}{q:PV}{val:Value}{R N:Nat}(hB:Below w.heap.size w W)(hR:w.heap.size≤R)(hN:R<N)(hv:VH (newS N) W q val)(x y z u:Value):VH (newS w.heap.size) (set4 W R x y z u) q val∧Below w.heap.size w (set4 W R x y z u):=
 ⟨hv.step (by rw [set4_size];exact Nat.le_refl _) (fun k hk hS=>by
  have h1:N≤k:=by unfold newS at hS;simpa using hS
  exact ⟨by unfold newS;simp;omega,set4_blk W (by omega) _ _ _ _⟩),below_set4 hB hR _ _ _ _⟩
theorem rowB_bytes {W:World}{base n cap:Nat}{A:Option Addr}{zs:List Int}(h:W.ownsRow base 5 1 (.slice A n cap) n (u8Cells zs))(hz:∀ z ∈ zs,0≤z∧z≤255):Bytes W A zs∧zs.length=n:=by
 obtain ⟨h1,h2⟩:=bytes_own (S:=fun _=>false) h hz (fun _ _=>rfl)
 exact ⟨Bytes.mono (by rw [hide_size];exact Nat.le_refl _) (fun p x hp=>(hide_some hp).2) h1,h2⟩
theorem bytes_mem {w:World}{p:Option Addr}{zs:List Int}(h:Bytes w p zs):∀ z ∈ zs,0≤z∧z≤255:=fun z hz=>by
 obtain ⟨i,hi,rfl⟩:=List.mem_iff_getElem.1 hz
 have h1:=h.1 i
 rw [List.getD,List.getElem?_eq_getElem hi,Option.getD_some] at h1
 exact h1
theorem val_infoT:(Tryd.prog.info? 36).map (fun i=>(i.zero,i.size,i.bytes))=some (some (.agg #[.int .u64 0,.slice none 0 0,.slice none 0 0,.bool false]),4,64):=by kernel_rfl
def nilKV:KV:=⟨nilV,.int .u64 0,.slice none 0 0,.slice none 0 0,.bool false⟩
theorem rowN_kv (n:Nat):rowN (List.replicate n 0)=kvsCells (List.replicate n nilKV):=by
 induction n with
 | zero=>rfl
 | succ n ih =>
  rw [List.replicate_succ,List.replicate_succ]
  show cellN 0++rowN (List.replicate n 0)=kvCells nilKV++kvsCells (List.replicate n nilKV)
  rw [ih]
  rfl
end Go.Proofs.YtcfjjocmiheiaaaDoor
namespace Go.Proofs.YtcfjjocmiheiaaaDoor
open Go.ChangeShapes Go.WideShapes Go.ChangeAt Go.RowKit Go.Shelf
structure Meth (d:Nat)(T:TypeId)(r:Value)(name:String)(f:FuncId)(rv:Value):Prop where
 finds:∀ (N:Nat) (W:World),(method (N+d) T r name).run Tryd.prog W=.ok (f,rv) W
 enters:∀ (args:Array Value) (W:World),(callFunc f args).run Tryd.prog W=.ok (.enter f args) W
theorem Meth.at {d:Nat}{T:TypeId}{r:Value}{name:String}{f:FuncId}{rv:Value}(h:Meth d T r name f rv)(hd:d≤2)(M:Nat)(W:World)(hN:M=Tryd.prog.types.size+Made.depth):(method M T r name).run Tryd.prog W=.ok (f,rv) W:=by
 obtain ⟨N,rfl⟩:∃ N,M=N+d:=by
  generalize Tryd.prog.types.size=s at hN
  have h2:2≤Made.depth:=by decide
  exact ⟨M-d,by omega⟩
 exact h.finds N W
def Says (d:Nat)(w:World)(v:Value)(name:String)(i:Int)(Q:World→Ending→World→Prop):Prop:=
 ∃ T r f rv,v=.iface T r∧Meth d T r name f rv∧∀ W,Below w.heap.size w W→Calls Tryd.prog f #[rv,.int .i64 i] W fun e w'=>Q W e w'∧Below W.heap.size W w'
def SubQ (next:World→Value→Nat→Int→Int→PV→Prop)(b:Bool)(k:Nat)(ref lists:Int)(q:PV)(e:Ending)(w':World):Prop:=
 (∃ sv,e=.returned (if b=true then .tuple #[sv,.bool true] else sv)∧next w' sv k ref lists q)∨(b=true∧e=.returned (.tuple #[.nilIface,.bool false])∧q=nilV)
def dep (b:Bool):Nat:=if b=true then 2 else 1
structure AskOk (next:World→Value→Nat→Int→Int→PV→Prop)(b:Bool)(w:World)(v:Value)(i k:Nat)(ref lists:Int)(q:PV):Prop where
 sort:1≤sortP k lists
 num:sortP k lists=1→q=numV q.num∧(q.num:Int)≤18446744073709551615∧Says (dep b) w v "Num" i (fun _ e _=>e=.returned (.int .u64 q.num))
 bytes:sortP k lists=2→q=.mk 0 q.bytes [] false∧q.bytes.length≤1000000∧Says (dep b) w v "Bytes" i (fun _ e w'=>∃ A c,e=.returned (.slice A q.bytes.length c)∧Bytes w' A q.bytes)
 list:sortP k lists=3→Says (dep b) w v "List" i (fun _ e w'=>∃ lv,e=.returned lv∧next w' lv k ref lists q)
 sub:sortP k lists=4→Says (dep b) w v "Sub" i (fun _ e w'=>SubQ next b k ref lists q e w')
theorem AskOk.iface {next:World→Value→Nat→Int→Int→PV→Prop}{b:Bool}{w:World}{v:Value}{i k:Nat}{ref lists:Int}{q:PV}(h:AskOk next b w v i k ref lists q):∃ T r,v=.iface T r:=by
 have h1:=h.sort
 have h2:sortP k lists≤4:=by unfold sortP;split<;>(try split)<;>(try split)<;>(try split)<;>(try split)<;>omega
 have h3:sortP k lists=1∨sortP k lists=2∨sortP k lists=3∨sortP k lists=4:=by omega
 rcases h3 with h3|h3|h3|h3
 · obtain ⟨_,_,T,r,_,_,hv,_⟩:=h.num h3
   exact ⟨T,r,hv⟩
 · obtain ⟨_,_,T,r,_,_,hv,_⟩:=h.bytes h3
   exact ⟨T,r,hv⟩
 · obtain ⟨T,r,_,_,hv,_⟩:=h.list h3
   exact ⟨T,r,hv⟩
 · obtain ⟨T,r,_,_,hv,_⟩:=h.sub h3
   exact ⟨T,r,hv⟩
structure ListHead (w:World)(v:Value)(q:PV):Prop where
 bare:q.num=0∧q.bytes=[]∧q.has=false
 few:q.kids.length≤1000000
 len:(v=.nilIface∧q.kids=[])∨∃ T r f rv,v=.iface T r∧Meth 1 T r "Len" f rv∧∀ W,Below w.heap.size w W→Calls Tryd.prog f #[rv] W fun e w'=>e=.returned (.int .i64 q.kids.length)∧Below W.heap.size W w'
def recAt (ss:List CRec)(ref:Int):CRec:=ss.getD ref.toNat ⟨⟨#[]⟩,[]⟩
structure StructHead (ss:List CRec)(v:Value)(ref:Int)(q:PV):Prop where
 there:∃ T r,v=.iface T r
 bare:q.num=0∧q.bytes=[]∧q.has=true
 within:0≤ref∧ref<ss.length
 few:q.kids.length=(recAt ss ref).fields.length
def Shown (ss:List CRec):Nat→World→Value→Nat→Int→Int→PV→Prop
 | 0,w,v,k,_,lists,q=>sortP k lists=3∧ListHead w v q∧q.kids=[]
 | r+1,w,v,k,ref,lists,q =>
  (sortP k lists=3∧ListHead w v q∧∀ j (hj:j<q.kids.length),AskOk (Shown ss r) false w v j k ref (lists-1) (q.kids[j]'hj)) ∨
  (sortP k lists=4∧StructHead ss v ref q∧∀ j (hj:j<q.kids.length) (hf:j<(recAt ss ref).fields.length),AskOk (Shown ss r) true w v j ((recAt ss ref).fields[j]'hf).kind ((recAt ss ref).fields[j]'hf).ref ((recAt ss ref).fields[j]'hf).lists (q.kids[j]'hj))
theorem Says.later {d:Nat}{w w2:World}{v:Value}{name:String}{i:Int}{Q:World→Ending→World→Prop}(h:Says d w v name i Q)(hb:Below w.heap.size w w2):Says d w2 v name i Q:=by
 obtain ⟨T,r,f,rv,hv,hm,hc⟩:=h
 exact ⟨T,r,f,rv,hv,hm,fun W hW=>hc W (hb.trans (hW.mono hb.size))⟩
theorem AskOk.later {next:World→Value→Nat→Int→Int→PV→Prop}{b:Bool}{w w2:World}{v:Value}{i k:Nat}{ref lists:Int}{q:PV}(h:AskOk next b w v i k ref lists q)(hb:Below w.heap.size w w2):AskOk next b w2 v i k ref lists q:=
 ⟨h.sort,fun hs=>⟨(h.num hs).1,(h.num hs).2.1,(h.num hs).2.2.later hb⟩,fun hs=>⟨(h.bytes hs).1,(h.bytes hs).2.1,(h.bytes hs).2.2.later hb⟩,fun hs=>(h.list hs).later hb,fun hs=>(h.sub hs).later hb⟩
theorem ListHead.later {w w2:World}{v:Value}{q:PV}(h:ListHead w v q)(hb:Below w.heap.size w w2):ListHead w2 v q:=
 ⟨h.bare,h.few,by
  rcases h.len with h1|⟨T,r,f,rv,hv,hm,hc⟩
  · exact .inl h1
  · exact .inr ⟨T,r,f,rv,hv,hm,fun W hW=>hc W (hb.trans (hW.mono hb.size))⟩⟩
theorem Shown.later {ss:List CRec}:∀ (n:Nat) {w w2:World} {v:Value} {k:Nat} {ref lists:Int} {q:PV},Shown ss n w v k ref lists q→Below w.heap.size w w2→Shown ss n w2 v k ref lists q
 | 0,_,_,_,_,_,_,_,h,hb=>⟨h.1,h.2.1.later hb,h.2.2⟩
 | _+1,_,_,_,_,_,_,_,h,hb=>by
  rcases h with ⟨h1,h2,h3⟩|⟨h1,h2,h3⟩
  · exact .inl ⟨h1,h2.later hb,fun j hj=>(h3 j hj).later hb⟩
  · exact .inr ⟨h1,h2,fun j hj hf=>(h3 j hj hf).later hb⟩
set_option maxRecDepth 100000 in
theorem elem_num {T:TypeId}{r rv:Value}{f:FuncId}(h:Meth 1 T r "Num" f rv)(N:Nat)(W:World):(method (N+2) 241 (.agg #[.iface T r]) "Num").run Tryd.prog W=.ok (f,rv) W:=
 (show _=(method (N+1) T r "Num").run Tryd.prog W by kernel_rfl).trans (h.finds N W)
set_option maxRecDepth 100000 in
theorem elem_bytes {T:TypeId}{r rv:Value}{f:FuncId}(h:Meth 1 T r "Bytes" f rv)(N:Nat)(W:World):(method (N+2) 241 (.agg #[.iface T r]) "Bytes").run Tryd.prog W=.ok (f,rv) W:=
 (show _=(method (N+1) T r "Bytes").run Tryd.prog W by kernel_rfl).trans (h.finds N W)
set_option maxRecDepth 100000 in
theorem elem_list {T:TypeId}{r rv:Value}{f:FuncId}(h:Meth 1 T r "List" f rv)(N:Nat)(W:World):(method (N+2) 241 (.agg #[.iface T r]) "List").run Tryd.prog W=.ok (f,rv) W:=
 (show _=(method (N+1) T r "List").run Tryd.prog W by kernel_rfl).trans (h.finds N W)
set_option maxRecDepth 100000 in
theorem elem_sub (v:Value)(N:Nat)(W:World):(method (N+2) 241 (.agg #[v]) "Sub").run Tryd.prog W=.ok (184,.agg #[v]) W:=by kernel_rfl
end Go.Proofs.YtcfjjocmiheiaaaDoor
namespace Go.Proofs.YtcfjjocmiheiaaaDoor
open Go.ChangeShapes Go.WideShapes Go.ChangeAt Go.RowKit Go.Shelf
theorem viewT_no (T:TypeId)(v:Value)(W:World):(binOp .eql 42 (.iface T v) .nilIface).run Tryd.prog W=.ok (.bool false) W:=run_eql_held_nil W _ T v (by kernel_rfl)
theorem itemsT_no (T:TypeId)(v:Value)(W:World):(binOp .eql 138 (.iface T v) .nilIface).run Tryd.prog W=.ok (.bool false) W:=run_eql_held_nil W _ T v (by kernel_rfl)
theorem itemsT_yes (W:World):(binOp .eql 138 .nilIface .nilIface).run Tryd.prog W=.ok (.bool true) W:=run_eql_nil_nil W _ (by kernel_rfl)
set_option maxRecDepth 100000 in
set_option maxHeartbeats 4000000 in
theorem slength_any (w:World)(q:PV)(v:Value)(h:ListHead w v q) :
  Calls Tryd.prog 58 #[v] w fun e w'=>e=.returned (.int .i64 q.kids.length)∧Below w.heap.size w w':=by
 rcases h.len with ⟨rfl,hq⟩|⟨T,r,f,rv,rfl,hm,hc⟩
 · rw [hq]
   have e0:=itemsT_yes
   clear h hq
   go_enter Tryd.func58,Tryd.ntmps58
   go_wp2
   go_ret
   exact ⟨rfl,Below.refl _ _⟩
 · have e0:=itemsT_no T r
   have mN:=hm.at (by decide)
   have eN:=hm.enters
   have HC:=Lib.hid hc
   clear h hm hc
   go_enter Tryd.func58,Tryd.ntmps58
   go_wp2_with fail
   refine (HC.out w (Below.refl _ _)).mono ?_
   rintro e W1 ⟨rfl,hb1⟩
   have HB1:=Lib.hid hb1
   clear hb1
   go_wp2
   go_ret
   exact ⟨rfl,HB1.out⟩
set_option maxRecDepth 100000 in
set_option maxHeartbeats 4000000 in
theorem esubT_any (next:World→Value→Nat→Int→Int→PV→Prop)(w:World)(v:Value)(i k:Nat)(ref lists:Int)(q:PV)(h:Says 1 w v "Sub" i (fun _ e w'=>SubQ next false k ref lists q e w'))(W:World)(hb:Below w.heap.size w W) :
  (∀ a b x,next a x k ref lists q→Below a.heap.size a b→next b x k ref lists q)→Calls Tryd.prog 184 #[.agg #[v],.int .i64 i] W fun e w'=>SubQ next true k ref lists q e w'∧Below W.heap.size W w':=by
 intro hlater
 obtain ⟨T,r,f,rv,rfl,hm,hc⟩:=h
 have hba:=(Below.refl W.heap.size W).alloc (Nat.le_refl _) (.cells #[.iface T r] 241)
 have HB:=Lib.hid hba
 obtain ⟨_,s0,_⟩:=blk_one (heap_alloc_new W (.cells #[.iface T r] 241))
 have mN:=hm.at (by decide)
 have eN:=hm.enters
 have HC:=Lib.hid (hc _ (hb.trans (hba.mono hb.size)))
 clear hba hm hc hb
 go_enter Tryd.func184,Tryd.ntmps184
 go_upto_region 1 with (fail)
 generalize W.alloc (.cells #[.iface T r] 241)=W0 at *
 go_wp2_with fail
 refine HC.out.mono ?_
 rintro e W1 ⟨hs,hb1⟩
 rcases hs with ⟨sv,rfl,hsv⟩|⟨hf,_⟩
 case inr=>cases hf
 have HB1:=Lib.hid (HB.out.trans (hb1.mono HB.out.size))
 have HSV:=Lib.hid hsv
 simp only [Bool.false_eq_true,if_false]
 clear hb1 hsv s0 HC mN eN
 go_wp2
 go_ret2
 exact ⟨.inl ⟨_,rfl,HSV.out⟩,HB1.out⟩
theorem ask_elem {ss:List CRec}{r:Nat}{w:World}{v:Value}{i k:Nat}{ref lists:Int}{q:PV}(h:AskOk (Shown ss r) false w v i k ref lists q):AskOk (Shown ss r) true w (.iface 241 (.agg #[v])) i k ref lists q:=by
 refine ⟨h.sort,fun hs=>?_,fun hs=>?_,fun hs=>?_,fun hs=>?_⟩
 · obtain ⟨h1,h2,T,r,f,rv,rfl,hm,hc⟩:=h.num hs
   exact ⟨h1,h2,_,_,f,rv,rfl,⟨elem_num hm,hm.enters⟩,hc⟩
 · obtain ⟨h1,h2,T,r,f,rv,rfl,hm,hc⟩:=h.bytes hs
   exact ⟨h1,h2,_,_,f,rv,rfl,⟨elem_bytes hm,hm.enters⟩,hc⟩
 · obtain ⟨T,r,f,rv,rfl,hm,hc⟩:=h.list hs
   exact ⟨_,_,f,rv,rfl,⟨elem_list hm,hm.enters⟩,hc⟩
 · exact ⟨_,_,184,_,rfl,⟨elem_sub v,enters_of Tryd.func184 (by kernel_rfl) rfl⟩,fun W hW=>esubT_any _ w v i k ref lists q (h.sub hs) W hW (fun a b x hx hb=>hx.later _ hb)⟩
end Go.Proofs.YtcfjjocmiheiaaaDoor
namespace Go.Proofs.YtcfjjocmiheiaaaDoor
open Go.ChangeShapes Go.WideShapes Go.ChangeAt Go.RowKit Go.Shelf
def KidAtS (ss:List (CRec × Value))(es:List (SCho × Value))(room:Nat):Prop:=
 ∀ (w:World) (base:Nat) (sv ev:Value) (root:Int) (k:Nat) (ref lists:Int) (q:PV) (v:Value) (i:Nat),CRows base w ss es sv ev→k≤255 → -9223372036854775800≤lists→lists≤9223372036854775807→(i:Int)≤9223372036854775807→AskOk (Shown (ss.map Prod.fst) room) true w v i k ref lists q →
  Calls Tryd.prog 108 #[.agg #[sv,ev,.int .i64 root],.agg #[.int .u8 k,.int .i64 ref,.int .i64 lists],v,.int .i64 i,.int .i64 room] w (TreePost w q)
def StructAtS (ss:List (CRec × Value))(es:List (SCho × Value))(room:Nat):Prop:=
 ∀ (w:World) (base:Nat) (sv ev:Value) (root:Int) (k:Nat) (ref lists:Int) (q:PV) (v:Value),CRows base w ss es sv ev→sortP k lists=4→Shown (ss.map Prod.fst) room w v k ref lists q →
  Calls Tryd.prog 76 #[.agg #[sv,ev,.int .i64 root],.int .i64 ref,v,.int .i64 room] w (TreePost w q)
def ListAtS (ss:List (CRec × Value))(es:List (SCho × Value))(room:Nat):Prop:=
 ∀ (w:World) (base:Nat) (sv ev:Value) (root:Int) (k:Nat) (ref lists:Int) (q:PV) (v:Value),CRows base w ss es sv ev→k≤255 → -9223372036854775799≤lists→lists≤9223372036854775807→sortP k lists=3→Shown (ss.map Prod.fst) room w v k ref lists q →
  Calls Tryd.prog 134 #[.agg #[sv,ev,.int .i64 root],.agg #[.int .u8 k,.int .i64 ref,.int .i64 (lists-1)],v,.int .i64 room] w (TreePost w q)
theorem sort_le (k:Nat)(lists:Int):sortP k lists≤4∧(sortP k lists=3→0<lists):=by
 unfold sortP
 split
 · exact ⟨by decide,fun _=>by assumption⟩
 split
 · exact ⟨by decide,fun h=>by cases h⟩
 split
 · exact ⟨by decide,fun h=>by cases h⟩
 split
 · exact ⟨by decide,fun h=>by cases h⟩
 split
 · exact ⟨by decide,fun h=>by cases h⟩
 · exact ⟨by decide,fun h=>by cases h⟩
set_option maxRecDepth 100000 in
set_option maxHeartbeats 16000000 in
theorem skidtree {ss:List (CRec × Value)}{es:List (SCho × Value)}(room:Nat)(_:room≤12)(hSt:StructAtS ss es room)(hLi:ListAtS ss es room):KidAtS ss es room:=by
 intro w base sv ev root k ref lists q v i h hk hl0 hl1 hi hask
 obtain ⟨sa,sc,ea,ec,rfl,rfl⟩:=h.forms
 obtain ⟨h0,h1,h2,h3⟩:=three_start w #[.slice sa ss.length sc,.slice ea es.length ec,.int .i64 root] #[.int .u8 k,.int .i64 ref,.int .i64 lists] #[.int .u64 0,.slice none 0 0,.slice none 0 0,.bool false] 30 50 36
 have HCW:=Lib.hid h
 have HASK:=Lib.hid hask
 have HB:=Lib.hid h0
 have Q1:=Lib.hid h1
 have Q2:=Lib.hid h2
 have Q3:=Lib.hid h3
 have HST:=Lib.hid hSt
 have HLI:=Lib.hid hLi
 have hs4:=sort_le k lists
 have hs0:=hask.sort
 clear h0 h1 h2 h3 h hask hSt hLi
 have hs:sortP k lists=1∨sortP k lists=2∨sortP k lists=3∨sortP k lists=4:=by omega
 have HS3:=Lib.hid hs4.2
 clear hs0 hs4
 rcases hs with hs|hs|hs|hs
 · obtain ⟨hqe,hqn,T,r,f,rv,rfl,hm,hc⟩:=HASK.out.num hs
   have HQE:=Lib.hid hqe
   have HQN:=Lib.hid hqn
   have HC:=Lib.hid hc
   have mN:=hm.at (by decide)
   have eN:=hm.enters
   clear hqe hqn hc hm
   go_enter Tryd.func108,Tryd.ntmps108
   go_upto_region 1 with (fail)
   generalize ((w.alloc (.cells #[.slice sa ss.length sc,.slice ea es.length ec,.int .i64 root] 30)).alloc (.cells #[.int .u8 k,.int .i64 ref,.int .i64 lists] 50)).alloc (.cells #[.int .u64 0,.slice none 0 0,.slice none 0 0,.bool false] 36)=W0 at *
   obtain ⟨_,t0,t1,t2,_⟩:=blk3 Q2.out
   go_wp2_with fail
   refine (sorts_any k ref lists W0).mono ?_
   rintro e W1 ⟨rfl,hb1⟩
   have HB1:=Lib.hid (HB.out.trans (hb1.mono HB.out.size))
   have P1:=Lib.hid (blk_below Q1.out hb1 (blk_lt Q1.out))
   have P2:=Lib.hid (blk_below Q2.out hb1 (blk_lt Q2.out))
   have P3:=Lib.hid (blk_below Q3.out hb1 (blk_lt Q3.out))
   have HR1:Hid (w.heap.size+1+1<W1.heap.size):=Lib.hid (blk_lt P3.out)
   clear hb1 t0 t1 t2 Q1 Q2 Q3 HB
   rw [hs]
   clear hs
   go_wp2_with fail
   refine (HC.out W1 HB1.out).mono ?_
   rintro e W2 ⟨rfl,hb2⟩
   have HB2:=Lib.hid (HB1.out.trans (hb2.mono HB1.out.size))
   have P4:=Lib.hid (blk_below P3.out hb2 (blk_lt P3.out))
   clear hb2 mN eN
   obtain ⟨_,u0,u1,u2,u3⟩:=blk4p (P4.out)
   have p0:=blk_frozen (P4.out) 0
   have p1:=blk_frozen (P4.out) 1
   have p2:=blk_frozen (P4.out) 2
   have p3:=blk_frozen (P4.out) 3
   go_wp2
   refine post_gen (fun Wf=>Wf.heap[w.heap.size+1+1]?=some (.cells #[.int .u64 q.num,.slice none 0 0,.slice none 0 0,.bool false] 36 (0,0))∧VH (newS w.heap.size) Wf q (.agg #[.int .u64 q.num,.slice none 0 0,.slice none 0 0,.bool false])∧Below w.heap.size w Wf) ⟨?_,?_⟩ ?_
   · exact blk_set4 (w:=W2) (P4.out) _ _ _ _
   · exact tree_end (N:=w.heap.size+1+1+1) HB2.out (by omega) (by omega) (by have h:=vh_num (newS (w.heap.size+1+1+1)) W2 q.num (by have:=HQN.out;omega);rw [show numV q.num=q from HQE.out.symm] at h;exact h) _ _ _ _
   · rintro Wf ⟨e1,e2,e3⟩
     obtain ⟨_,d0,d1,d2,d3⟩:=blk4p e1
     exact bodyPost_ret (v:=.tuple #[.agg #[.int .u64 q.num,.slice none 0 0,.slice none 0 0,.bool false],.bool true]) (by simp [results,Tryd.results108,go_sem,d0,d1,d2,d3]) rfl ⟨⟨_,rfl,e2⟩,e3⟩
 · obtain ⟨hqe,hql,T,r,f,rv,rfl,hm,hc⟩:=HASK.out.bytes hs
   have HQE:=Lib.hid hqe
   have HQL:=Lib.hid hql
   have HC:=Lib.hid hc
   have mN:=hm.at (by decide)
   have eN:=hm.enters
   clear hqe hql hc hm
   go_enter Tryd.func108,Tryd.ntmps108
   go_upto_region 1 with (fail)
   generalize ((w.alloc (.cells #[.slice sa ss.length sc,.slice ea es.length ec,.int .i64 root] 30)).alloc (.cells #[.int .u8 k,.int .i64 ref,.int .i64 lists] 50)).alloc (.cells #[.int .u64 0,.slice none 0 0,.slice none 0 0,.bool false] 36)=W0 at *
   obtain ⟨_,t0,t1,t2,_⟩:=blk3 Q2.out
   go_wp2_with fail
   refine (sorts_any k ref lists W0).mono ?_
   rintro e W1 ⟨rfl,hb1⟩
   have HB1:=Lib.hid (HB.out.trans (hb1.mono HB.out.size))
   have P1:=Lib.hid (blk_below Q1.out hb1 (blk_lt Q1.out))
   have P2:=Lib.hid (blk_below Q2.out hb1 (blk_lt Q2.out))
   have P3:=Lib.hid (blk_below Q3.out hb1 (blk_lt Q3.out))
   have HR1:Hid (w.heap.size+1+1<W1.heap.size):=Lib.hid (blk_lt P3.out)
   clear hb1 t0 t1 t2 Q1 Q2 Q3 HB
   rw [hs]
   clear hs
   go_wp2_with fail
   refine (HC.out W1 HB1.out).mono ?_
   rintro e W2 ⟨⟨A,cap,rfl,hby⟩,hb2⟩
   have HB2:=Lib.hid (HB1.out.trans (hb2.mono HB1.out.size))
   have P4:=Lib.hid (blk_below P3.out hb2 (blk_lt P3.out))
   have HS2:Hid (W1.heap.size≤W2.heap.size):=Lib.hid hb2.size
   have HMEM:=Lib.hid (bytes_mem hby)
   have HCL:=Lib.hid (bclone_any W2 A q.bytes cap hby HQL.out)
   clear hb2 hby mN eN
   go_wp2_with fail
   refine HCL.out.mono ?_
   rintro e W3 ⟨⟨v,rfl,ho⟩,hb3⟩
   obtain ⟨A2,c2,rfl⟩:=ownsRow_form ho
   have HB3:=Lib.hid (HB2.out.trans (hb3.mono HB2.out.size))
   have P5:=Lib.hid (blk_below P4.out hb3 (blk_lt P4.out))
   have HVH:Hid (VH (newS W2.heap.size) W3 (.mk 0 q.bytes [] false) (.agg #[.int .u64 0,.slice A2 q.bytes.length c2,.slice none 0 0,.bool false])):=Lib.hid (vh_bytes ho HMEM.out (fun k hk=>by unfold newS;simp;omega))
   rw [←HQE.out] at HVH
   clear hb3 ho HCL
   obtain ⟨_,u0,u1,u2,u3⟩:=blk4p (P5.out)
   have p0:=blk_frozen (P5.out) 0
   have p1:=blk_frozen (P5.out) 1
   have p2:=blk_frozen (P5.out) 2
   have p3:=blk_frozen (P5.out) 3
   go_wp2
   refine post_gen (fun Wf=>Wf.heap[w.heap.size+1+1]?=some (.cells #[.int .u64 0,.slice A2 q.bytes.length c2,.slice none 0 0,.bool false] 36 (0,0))∧VH (newS w.heap.size) Wf q (.agg #[.int .u64 0,.slice A2 q.bytes.length c2,.slice none 0 0,.bool false])∧Below w.heap.size w Wf) ⟨?_,?_⟩ ?_
   · exact blk_set4 (w:=W3) (P5.out) _ _ _ _
   · exact tree_end HB3.out (by omega) (by have:=HR1.out;have:=HS2.out;omega) HVH.out _ _ _ _
   · rintro Wf ⟨e1,e2,e3⟩
     obtain ⟨_,d0,d1,d2,d3⟩:=blk4p e1
     exact bodyPost_ret (v:=.tuple #[.agg #[.int .u64 0,.slice A2 q.bytes.length c2,.slice none 0 0,.bool false],.bool true]) (by simp [results,Tryd.results108,go_sem,d0,d1,d2,d3]) rfl ⟨⟨_,rfl,e2⟩,e3⟩
 · obtain ⟨T,r,f,rv,rfl,hm,hc⟩:=HASK.out.list hs
   have HC:=Lib.hid hc
   have HS:=Lib.hid hs
   have HS3L:=Lib.hid (HS3.out hs)
   have mN:=hm.at (by decide)
   have eN:=hm.enters
   have HEL:=Lib.hid (fun W=>element_any k ref lists (by have:=HS3.out hs;omega) W)
   clear hc hm
   go_enter Tryd.func108,Tryd.ntmps108
   go_upto_region 1 with (fail)
   generalize ((w.alloc (.cells #[.slice sa ss.length sc,.slice ea es.length ec,.int .i64 root] 30)).alloc (.cells #[.int .u8 k,.int .i64 ref,.int .i64 lists] 50)).alloc (.cells #[.int .u64 0,.slice none 0 0,.slice none 0 0,.bool false] 36)=W0 at *
   obtain ⟨_,t0,t1,t2,_⟩:=blk3 Q2.out
   go_wp2_with fail
   refine (sorts_any k ref lists W0).mono ?_
   rintro e W1 ⟨rfl,hb1⟩
   have HB1:=Lib.hid (HB.out.trans (hb1.mono HB.out.size))
   have P1:=Lib.hid (blk_below Q1.out hb1 (blk_lt Q1.out))
   have P2:=Lib.hid (blk_below Q2.out hb1 (blk_lt Q2.out))
   have P3:=Lib.hid (blk_below Q3.out hb1 (blk_lt Q3.out))
   have HR1:Hid (w.heap.size+1+1<W1.heap.size):=Lib.hid (blk_lt P3.out)
   clear hb1 t0 t1 t2 Q1 Q2 Q3 HB
   rw [hs]
   clear hs
   obtain ⟨_,s0,s1,s2,_⟩:=blk3 P1.out
   obtain ⟨_,s3,s4,s5,_⟩:=blk3 P2.out
   go_upto_region 7 with (fail)
   refine wp_region_noPanic ?_
   refine wp_region_held_drew (S:=(fun w'=>w'.cell? ⟨w.heap.size,0,none⟩=some (.slice sa ss.length sc)∧w'.cell? ⟨w.heap.size,1,none⟩=some (.slice ea es.length ec)∧w'.cell? ⟨w.heap.size,2,none⟩=some (.int .i64 root)∧w'.cell? ⟨w.heap.size+1,0,none⟩=some (.int .u8 k)∧w'.cell? ⟨w.heap.size+1,1,none⟩=some (.int .i64 ref)∧w'.cell? ⟨w.heap.size+1,2,none⟩=some (.int .i64 lists))) (by kernel_rfl) ⟨s0,s1,s2,s3,s4,s5⟩ ?_
   intro hS
   refine tk 0 (.agg #[.slice sa ss.length sc,.slice ea es.length ec,.int .i64 root]) hS ?_ ?_
   · rintro w' ⟨s0,s1,s2,s3,s4,s5⟩
     go_simp
   simp only [td]
   refine tk 1 (.agg #[.int .u8 k,.int .i64 ref,.int .i64 lists]) hS ?_ ?_
   · rintro w' ⟨s0,s1,s2,s3,s4,s5⟩
     go_simp
   simp only [td]
   refine tk 3 (.iface T r) hS ?_ ?_
   · rintro w' ⟨s0,s1,s2,s3,s4,s5⟩
     go_simp
   simp only [td]
   refine tk 4 (.int .i64 i) hS ?_ ?_
   · rintro w' ⟨s0,s1,s2,s3,s4,s5⟩
     go_simp
   simp only [td]
   refine tk 6 (.int .i64 room) hS ?_ ?_
   · rintro w' ⟨s0,s1,s2,s3,s4,s5⟩
     go_simp
   simp only [td]
   refine wpAnyH_ready (rs:=[2]) (by kernel_rfl) (by decide) (AllReadyH.cons rfl (fun K hK=>?_) AllReadyH.nil)
   rw [if_pos (by kernel_rfl)]
   go_simp
   refine (HEL.out W1.drew).mono ?_
   rintro e Wh1 ⟨rfl,hb1⟩
   have hx1:Below W1.heap.size W1 Wh1:=(Below.refl _ W1).drew.trans hb1
   have ns0:=cell_stays hx1 s0
   have ns1:=cell_stays hx1 s1
   have ns2:=cell_stays hx1 s2
   have ns3:=cell_stays hx1 s3
   have ns4:=cell_stays hx1 s4
   have ns5:=cell_stays hx1 s5
   refine hK.out _ _ ⟨ns0,ns1,ns2,ns3,ns4,ns5⟩ (fun hS=>?_)
   clear ns0 ns1 ns2 ns3 ns4 ns5
   refine wpAnyH_ready (rs:=[5]) (by kernel_rfl) (by decide) (AllReadyH.cons rfl (fun K hK=>?_) AllReadyH.nil)
   rw [if_pos (by kernel_rfl)]
   go_simp
   refine (HC.out Wh1 (HB1.out.trans (hx1.mono HB1.out.size))).mono ?_
   rintro e Wh2 ⟨⟨lv,rfl,hlv⟩,hb2⟩
   have hx2:Below W1.heap.size W1 Wh2:=hx1.trans (hb2.mono hx1.size)
   have ns0:=cell_stays hx2 s0
   have ns1:=cell_stays hx2 s1
   have ns2:=cell_stays hx2 s2
   have ns3:=cell_stays hx2 s3
   have ns4:=cell_stays hx2 s4
   have ns5:=cell_stays hx2 s5
   refine hK.out _ _ ⟨ns0,ns1,ns2,ns3,ns4,ns5⟩ (fun hS=>?_)
   clear ns0 ns1 ns2 ns3 ns4 ns5
   refine wpAnyH_ready (rs:=[7]) (by kernel_rfl) (by decide) (AllReadyH.cons rfl (fun K hK=>?_) AllReadyH.nil)
   rw [if_pos (by kernel_rfl)]
   go_simp
   refine (HLI.out Wh2 base _ _ root k ref lists q lv (HCW.out.below (HB1.out.trans (hx2.mono HB1.out.size))) hk (by have:=HS3L.out;omega) hl1 HS.out hlv).mono ?_
   rintro e Wh3 ⟨⟨val6,rfl,hvh6⟩,hb3⟩
   have hx3:Below W1.heap.size W1 Wh3:=hx2.trans (hb3.mono hx2.size)
   have ns0:=cell_stays hx3 s0
   have ns1:=cell_stays hx3 s1
   have ns2:=cell_stays hx3 s2
   have ns3:=cell_stays hx3 s3
   have ns4:=cell_stays hx3 s4
   have ns5:=cell_stays hx3 s5
   obtain ⟨ba6,ka6,bc6,kc6,rfl,_⟩:=IsV.form hvh6
   refine hK.out _ _ ⟨ns0,ns1,ns2,ns3,ns4,ns5⟩ (fun hS=>?_)
   clear ns0 ns1 ns2 ns3 ns4 ns5
   refine tk 8 (.agg #[.int .u64 q.num,.slice ba6 q.bytes.length bc6,.slice ka6 q.kids.length kc6,.bool q.has]) hS ?_ ?_
   · rintro w' ⟨s0,s1,s2,s3,s4,s5⟩
     go_simp
   simp only [td]
   refine tk 9 (.bool true) hS ?_ ?_
   · rintro w' ⟨s0,s1,s2,s3,s4,s5⟩
     go_simp
   simp only [td]
   have hR4:=blk_below P3.out hx3 (blk_lt P3.out)
   obtain ⟨_,u0,u1,u2,u3⟩:=blk4p hR4
   have hthere:Wh3.there (w.heap.size+1+1) 0 4:=fun j hj=>by
    have h4:j=0∨j=1∨j=2∨j=3:=by omega
    rcases h4 with rfl|rfl|rfl|rfl
    · exact ⟨by rw [Nat.add_zero,u0];rfl,blk_frozen hR4 _⟩
    · exact ⟨by rw [Nat.zero_add,u1];rfl,blk_frozen hR4 _⟩
    · exact ⟨by rw [Nat.zero_add,u2];rfl,blk_frozen hR4 _⟩
    · exact ⟨by rw [Nat.zero_add,u3];rfl,blk_frozen hR4 _⟩
   refine wpAnyH_ready (rs:=[10]) (by kernel_rfl) (by decide) (AllReadyH.cons rfl (fun K hK=>?_) AllReadyH.nil)
   rw [if_pos (by kernel_rfl)]
   refine wp_store_mid 36 (.tmp 10) (.tmp 39) rfl (w.heap.size+1+1) 0 #[.int .u64 q.num,.slice ba6 q.bytes.length bc6,.slice ka6 q.kids.length kc6,.bool q.has] rfl rfl hthere (by kernel_rfl) (Array.all_eq_true_iff_forall_mem.2 (by intro x hx;simp at hx;rcases hx with rfl|rfl|rfl|rfl<;>rfl)) ?_
   change K _ (set4 Wh3 (w.heap.size+1+1) (.int .u64 q.num) (.slice ba6 q.bytes.length bc6) (.slice ka6 q.kids.length kc6) (.bool q.has))
   have hks:∀ (b:Nat) (o:Nat) (c:Value),b<w.heap.size+1+1→W1.cell? ⟨b,o,none⟩=some c→(set4 Wh3 (w.heap.size+1+1) (.int .u64 q.num) (.slice ba6 q.bytes.length bc6) (.slice ka6 q.kids.length kc6) (.bool q.has)).cell? ⟨b,o,none⟩=some c:=fun b o c hb hc=>keep4 (cell_stays hx3 hc) (by show b≠_;omega)
   refine hK.out _ _ ⟨hks _ _ _ (by omega) s0,hks _ _ _ (by omega) s1,hks _ _ _ (by omega) s2,hks _ _ _ (by omega) s3,hks _ _ _ (by omega) s4,hks _ _ _ (by omega) s5⟩ (fun hS=>?_)
   refine tk 11 (.bool true) hS ?_ ?_
   · rintro w' ⟨s0,s1,s2,s3,s4,s5⟩
     go_simp
   simp only [td]
   refine wpAnyH_done (by kernel_rfl) ?_ _
   refine NoPanic.normal ?_
   try simp only [Exit.then]
   have he1:=blk_set4 hR4 (.int .u64 q.num) (.slice ba6 q.bytes.length bc6) (.slice ka6 q.kids.length kc6) (.bool q.has)
   have he2:=tree_end (R:=w.heap.size+1+1) (HB1.out.trans (hx3.mono HB1.out.size)) (by omega) (by have:=HR1.out;have:=hx2.size;omega) hvh6 (.int .u64 q.num) (.slice ba6 q.bytes.length bc6) (.slice ka6 q.kids.length kc6) (.bool q.has)
   replace he1:(set4 Wh3 (w.heap.size+1+1) (.int .u64 q.num) (.slice ba6 q.bytes.length bc6) (.slice ka6 q.kids.length kc6) (.bool q.has)).heap[w.heap.size+1+1]?=_:=he1
   have HE1:=Lib.hid he1
   have HE2:=Lib.hid he2
   clear he1 he2 hS hks hthere u0 u1 u2 u3 hR4 hlv hvh6
   generalize set4 Wh3 (w.heap.size+1+1) (.int .u64 q.num) (.slice ba6 q.bytes.length bc6) (.slice ka6 q.kids.length kc6) (.bool q.has)=W9 at *
   go_wp2
   refine post_gen (fun Wf=>Wf.heap[w.heap.size+1+1]?=some (.cells #[.int .u64 q.num,.slice ba6 q.bytes.length bc6,.slice ka6 q.kids.length kc6,.bool q.has] 36 (0,0))∧VH (newS w.heap.size) Wf q (.agg #[.int .u64 q.num,.slice ba6 q.bytes.length bc6,.slice ka6 q.kids.length kc6,.bool q.has])∧Below w.heap.size w Wf) ⟨HE1.out,HE2.out⟩ ?_
   rintro Wf ⟨e1,e2,e3⟩
   obtain ⟨_,d0,d1,d2,d3⟩:=blk4p e1
   exact bodyPost_ret (v:=.tuple #[.agg #[.int .u64 q.num,.slice ba6 q.bytes.length bc6,.slice ka6 q.kids.length kc6,.bool q.has],.bool true]) (by simp [results,Tryd.results108,go_sem,d0,d1,d2,d3]) rfl ⟨⟨_,rfl,e2⟩,e3⟩
 · obtain ⟨T,r,f,rv,rfl,hm,hc⟩:=HASK.out.sub hs
   have HC:=Lib.hid hc
   have HS:=Lib.hid hs
   have mN:=hm.at (by decide)
   have eN:=hm.enters
   clear hc hm
   go_enter Tryd.func108,Tryd.ntmps108
   go_upto_region 1 with (fail)
   generalize ((w.alloc (.cells #[.slice sa ss.length sc,.slice ea es.length ec,.int .i64 root] 30)).alloc (.cells #[.int .u8 k,.int .i64 ref,.int .i64 lists] 50)).alloc (.cells #[.int .u64 0,.slice none 0 0,.slice none 0 0,.bool false] 36)=W0 at *
   obtain ⟨_,t0,t1,t2,_⟩:=blk3 Q2.out
   go_wp2_with fail
   refine (sorts_any k ref lists W0).mono ?_
   rintro e W1 ⟨rfl,hb1⟩
   have HB1:=Lib.hid (HB.out.trans (hb1.mono HB.out.size))
   have P1:=Lib.hid (blk_below Q1.out hb1 (blk_lt Q1.out))
   have P2:=Lib.hid (blk_below Q2.out hb1 (blk_lt Q2.out))
   have P3:=Lib.hid (blk_below Q3.out hb1 (blk_lt Q3.out))
   have HR1:Hid (w.heap.size+1+1<W1.heap.size):=Lib.hid (blk_lt P3.out)
   clear hb1 t0 t1 t2 Q1 Q2 Q3 HB
   rw [hs]
   clear hs
   go_wp2_with fail
   refine (HC.out W1 HB1.out).mono ?_
   rintro e W2 ⟨hw2,hb2⟩
   have HB2:=Lib.hid (HB1.out.trans (hb2.mono HB1.out.size))
   have P4:=Lib.hid (blk_below P3.out hb2 (blk_lt P3.out))
   rcases hw2 with ⟨sv2,rfl,hsv⟩|⟨_,rfl,hnil⟩
   · have HSTC:Hid (Calls Tryd.prog 76 #[.agg #[.slice sa ss.length sc,.slice ea es.length ec,.int .i64 root],.int .i64 ref,sv2,.int .i64 room] W2 (TreePost W2 q)):=Lib.hid (HST.out W2 base _ _ root k ref lists q sv2 (HCW.out.below HB2.out) HS.out hsv)
     have HS2:Hid (W1.heap.size≤W2.heap.size):=Lib.hid hb2.size
     obtain ⟨_,s0,s1,s2,_⟩:=blk3 (blk_below P1.out hb2 (blk_lt P1.out))
     obtain ⟨_,t0,t1,t2,_⟩:=blk3 (blk_below P2.out hb2 (blk_lt P2.out))
     simp only [if_true]
     clear hb2 hsv mN eN
     go_wp2_with fail
     refine HSTC.out.mono ?_
     rintro e W3 ⟨⟨val6,rfl,hvh6⟩,hb3⟩
     obtain ⟨ba6,ka6,bc6,kc6,rfl,_⟩:=IsV.form hvh6
     have HB3:=Lib.hid (HB2.out.trans (hb3.mono HB2.out.size))
     have P5:=Lib.hid (blk_below P4.out hb3 (blk_lt P4.out))
     have HVH:=Lib.hid hvh6
     clear hb3 hvh6 s0 s1 s2 t0 t1 t2
     obtain ⟨_,u0,u1,u2,u3⟩:=blk4p (P5.out)
     have p0:=blk_frozen (P5.out) 0
     have p1:=blk_frozen (P5.out) 1
     have p2:=blk_frozen (P5.out) 2
     have p3:=blk_frozen (P5.out) 3
     go_wp2
     refine post_gen (fun Wf=>Wf.heap[w.heap.size+1+1]?=some (.cells #[.int .u64 q.num,.slice ba6 q.bytes.length bc6,.slice ka6 q.kids.length kc6,.bool q.has] 36 (0,0))∧VH (newS w.heap.size) Wf q (.agg #[.int .u64 q.num,.slice ba6 q.bytes.length bc6,.slice ka6 q.kids.length kc6,.bool q.has])∧Below w.heap.size w Wf) ⟨?_,?_⟩ ?_
     · exact blk_set4 (w:=W3) (P5.out) _ _ _ _
     · exact tree_end HB3.out (by omega) (by have:=HR1.out;have:=HS2.out;omega) HVH.out _ _ _ _
     · rintro Wf ⟨e1,e2,e3⟩
       obtain ⟨_,d0,d1,d2,d3⟩:=blk4p e1
       exact bodyPost_ret (v:=.tuple #[.agg #[.int .u64 q.num,.slice ba6 q.bytes.length bc6,.slice ka6 q.kids.length kc6,.bool q.has],.bool true]) (by simp [results,Tryd.results108,go_sem,d0,d1,d2,d3]) rfl ⟨⟨_,rfl,e2⟩,e3⟩
   · have HQE:=Lib.hid hnil
     clear hb2 hnil mN eN
     obtain ⟨_,u0,u1,u2,u3⟩:=blk4p (P4.out)
     have p0:=blk_frozen (P4.out) 0
     have p1:=blk_frozen (P4.out) 1
     have p2:=blk_frozen (P4.out) 2
     have p3:=blk_frozen (P4.out) 3
     go_wp2
     refine post_gen (fun Wf=>Wf.heap[w.heap.size+1+1]?=some (.cells #[.int .u64 0,.slice none 0 0,.slice none 0 0,.bool false] 36 (0,0))∧VH (newS w.heap.size) Wf q (.agg #[.int .u64 0,.slice none 0 0,.slice none 0 0,.bool false])∧Below w.heap.size w Wf) ⟨?_,?_⟩ ?_
     · exact blk_set4 (w:=W2) (P4.out) _ _ _ _
     · exact tree_end (N:=w.heap.size+1+1+1) HB2.out (by omega) (by omega) (by rw [HQE.out];exact vh_nil _ _) _ _ _ _
     · rintro Wf ⟨e1,e2,e3⟩
       obtain ⟨_,d0,d1,d2,d3⟩:=blk4p e1
       exact bodyPost_ret (v:=.tuple #[.agg #[.int .u64 0,.slice none 0 0,.slice none 0 0,.bool false],.bool true]) (by simp [results,Tryd.results108,go_sem,d0,d1,d2,d3]) rfl ⟨⟨_,rfl,e2⟩,e3⟩
end Go.Proofs.YtcfjjocmiheiaaaDoor
