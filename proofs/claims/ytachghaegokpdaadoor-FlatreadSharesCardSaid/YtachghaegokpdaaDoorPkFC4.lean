/-
  The package layout's small functions (Bits, number, multiple, Inline) and the document's own. Conditions: those that each theorem names.
-/
import Derived.Test.YtachghaegokpdaaDoorPkFC1
import Derived.Deep.Cut
import Derived.Deep.AppendLies
import Derived.OwnWalk
namespace Go.Proofs.YtachghaegokpdaaDoor
open Go.ChangeShapes Go.WideShapes Go.ChangeAt Go.RowKit Go.Shelf
theorem IsPlan.below {w W:World}{p:Plan}{a0 a1:Option Addr}{n0 e0 n1 c1:Nat}(h:IsPlan w p a0 n0 e0 a1 n1 c1)(hb:Below w.heap.size w W):IsPlan W p a0 n0 e0 a1 n1 c1:=by
 refine ⟨h.e_len,h.s_len,h.e_cap,h.s_cap,h.rt,fun j hj=>?_,fun r hr=>?_⟩
 · obtain ⟨h1,b,off,h2,h3,h4⟩:=h.e_at j hj
   exact ⟨h1,b,off,h2,Nat.lt_of_lt_of_le h3 hb.size,(hb.cell (p:=⟨b,off+j,none⟩) h3).trans h4⟩
 · obtain ⟨b,off,a,n,c,h2,h3,h4,h5,h6,h7,h8⟩:=h.s_at r hr
   refine ⟨b,off,a,n,c,h2,Nat.lt_of_lt_of_le h3 hb.size,(hb.cell (p:=⟨b,off+r,none⟩) h3).trans h4,h5,h6,h7,fun k hk=>?_⟩
   obtain ⟨b',off',f,g1,g2,g3,x0,x1,x2,x3,x4,q⟩:=h8 k hk
   exact ⟨b',off',f,g1,g2,Nat.lt_of_lt_of_le g3 hb.size,(hb.cell (p:=⟨b',off'+k * 5,none⟩) g3).trans x0,(hb.cell (p:=⟨b',off'+k * 5+1,none⟩) g3).trans x1,(hb.cell (p:=⟨b',off'+k * 5+2,none⟩) g3).trans x2,(hb.cell (p:=⟨b',off'+k * 5+3,none⟩) g3).trans x3,(hb.cell (p:=⟨b',off'+k * 5+4,none⟩) g3).trans x4,q⟩
theorem blk4p {w:World}{g:Nat}{x y z u:Value}{t:TypeId}(h:w.heap[g]?=some (.cells #[x,y,z,u] t (0,0))) :
  g<w.heap.size∧w.cell? ⟨g,0,none⟩=some x∧w.cell? ⟨g,1,none⟩=some y∧w.cell? ⟨g,2,none⟩=some z∧w.cell? ⟨g,3,none⟩=some u:=
 ⟨blk_lt h,(blk_cell h 0).trans rfl,(blk_cell h 1).trans rfl,(blk_cell h 2).trans rfl,(blk_cell h 3).trans rfl⟩
end Go.Proofs.YtachghaegokpdaaDoor
namespace Go.Proofs.YtachghaegokpdaaDoor
open Go.ChangeShapes Go.WideShapes Go.ChangeAt Go.RowKit Go.Shelf
inductive PV where
 | mk (num:Nat) (bytes:List Int) (kids:List PV) (has:Bool)
def PV.num:PV→Nat|.mk n _ _ _=>n
def PV.bytes:PV→List Int|.mk _ b _ _=>b
def PV.kids:PV→List PV|.mk _ _ k _=>k
def PV.has:PV→Bool|.mk _ _ _ h=>h
inductive IsV (w:World):PV→Value→Prop
 | mk (n:Nat) (bs:List Int) (ks:List PV) (h:Bool) (ba ka:Option Addr) (bc kc kb ko:Nat) (c0 c1 c2 c3:Nat→Value) (hn:n≤18446744073709551615) (hb:Bytes w ba bs) (hbl:bs.length≤bc) (hbm:(bs.length:Int)≤9223372036854775807)
   (hkl:ks.length≤kc) (hkm:(ks.length:Int)≤9223372036854775807) (hka:ks.length≠0→ka=some ⟨kb,ko,none⟩)
   (hc:∀ i,i<ks.length→w.cell? ⟨kb,ko+i * 4,none⟩=some (c0 i)∧w.cell? ⟨kb,ko+i * 4+1,none⟩=some (c1 i)∧w.cell? ⟨kb,ko+i * 4+2,none⟩=some (c2 i)∧w.cell? ⟨kb,ko+i * 4+3,none⟩=some (c3 i))
   (hk:∀ i (hi:i<ks.length),IsV w (ks[i]'hi) (.agg #[c0 i,c1 i,c2 i,c3 i])) :
   IsV w (.mk n bs ks h) (.agg #[.int .u64 n,.slice ba bs.length bc,.slice ka ks.length kc,.bool h])
theorem cell_stays {w W:World}(h:Below w.heap.size w W){p:Addr}{v:Value}(hp:w.cell? p=some v):W.cell? p=some v:=(h.cell (World.block_lt_of_cell? _ _ hp)).trans hp
theorem IsV.later {w W:World}{v:PV}{val:Value}(h:IsV w v val)(hb:Below w.heap.size w W):IsV W v val:=by
 induction h with
 | mk n bs ks h ba ka bc kc kb ko c0 c1 c2 c3 hn hbb hbl hbm hkl hkm hka hc _ ih =>
  exact .mk n bs ks h ba ka bc kc kb ko c0 c1 c2 c3 hn (hbb.below (Nat.le_refl _) hb) hbl hbm hkl hkm hka (fun i hi=>by obtain ⟨h0,h1,h2,h3⟩:=hc i hi;exact ⟨cell_stays hb h0,cell_stays hb h1,cell_stays hb h2,cell_stays hb h3⟩) ih
theorem IsV.form {w:World}{v:PV}{val:Value}(h:IsV w v val):∃ (ba ka:Option Addr) (bc kc:Nat),val=.agg #[.int .u64 v.num,.slice ba v.bytes.length bc,.slice ka v.kids.length kc,.bool v.has]∧v.num≤18446744073709551615∧Bytes w ba v.bytes∧v.bytes.length≤bc∧(v.bytes.length:Int)≤9223372036854775807∧v.kids.length≤kc∧(v.kids.length:Int)≤9223372036854775807 ∧
  ∀ i (hi:i<v.kids.length),∃ (kb ko:Nat) (u0 u1 u2 u3:Value),ka=some ⟨kb,ko,none⟩∧w.cell? ⟨kb,ko+i * 4,none⟩=some u0∧w.cell? ⟨kb,ko+i * 4+1,none⟩=some u1∧w.cell? ⟨kb,ko+i * 4+2,none⟩=some u2∧w.cell? ⟨kb,ko+i * 4+3,none⟩=some u3∧IsV w (v.kids[i]'hi) (.agg #[u0,u1,u2,u3]):=by
 cases h with
 | mk n bs ks h ba ka bc kc kb ko c0 c1 c2 c3 hn hbb hbl hbm hkl hkm hka hc hk =>
  refine ⟨ba,ka,bc,kc,rfl,hn,hbb,hbl,hbm,hkl,hkm,fun i hi=>?_⟩
  obtain ⟨h0,h1,h2,h3⟩:=hc i hi
  exact ⟨kb,ko,_,_,_,_,hka (Nat.ne_of_gt (Nat.lt_of_le_of_lt (Nat.zero_le _) hi)),h0,h1,h2,h3,hk i hi⟩
def nilV:PV:=.mk 0 [] [] false
theorem bytes_nil (w:World):Bytes w none []:=⟨fun i=>by simp,fun h=>absurd rfl h⟩
theorem isV_nil (w:World):IsV w nilV (.agg #[.int .u64 0,.slice none 0 0,.slice none 0 0,.bool false]):=
 .mk 0 [] [] false none none 0 0 0 0 (fun _=>.bool false) (fun _=>.bool false) (fun _=>.bool false) (fun _=>.bool false) (by decide) (bytes_nil w) (Nat.le_refl _) (by decide) (Nat.le_refl _) (by decide) (fun h=>absurd rfl h) (fun i hi=>absurd hi (Nat.not_lt_zero i)) (fun i hi=>absurd hi (Nat.not_lt_zero i))
end Go.Proofs.YtachghaegokpdaaDoor
namespace Go.Proofs.YtachghaegokpdaaDoor
open Go.ChangeShapes Go.WideShapes Go.ChangeAt Go.RowKit Go.Shelf
theorem blk_set4 {w:World}{g:Nat}{x y z u:Value}{t:TypeId}(h:w.heap[g]?=some (.cells #[x,y,z,u] t (0,0)))(x' y' z' u':Value) :
  ((((w.setCell ⟨g,0,none⟩ x').setCell ⟨g,1,none⟩ y').setCell ⟨g,2,none⟩ z').setCell ⟨g,3,none⟩ u').heap[g]?=some (.cells #[x',y',z',u'] t (0,0)):=
 (blk_set (blk_set (blk_set (blk_set h 0 x') 1 y') 2 z') 3 u').trans rfl
theorem below_set4 {B:Nat}{a w:World}(h:Below B a w){g:Nat}(hg:B≤g)(x y z u:Value):Below B a ((((w.setCell ⟨g,0,none⟩ x).setCell ⟨g,1,none⟩ y).setCell ⟨g,2,none⟩ z).setCell ⟨g,3,none⟩ u):=
 (((h.setCell (p:=⟨g,0,none⟩) hg x).setCell (p:=⟨g,1,none⟩) hg y).setCell (p:=⟨g,2,none⟩) hg z).setCell (p:=⟨g,3,none⟩) hg u
end Go.Proofs.YtachghaegokpdaaDoor
namespace Go.Proofs.YtachghaegokpdaaDoor
open Go.ChangeShapes Go.WideShapes Go.ChangeAt Go.RowKit Go.Shelf
def hideW (S:Nat→Bool)(w:World):World:={ w with heap:=w.heap.mapIdx fun i o=>if S i=true then .cells #[] 49 (0,0) else o }
theorem hide_size (S:Nat→Bool)(w:World):(hideW S w).heap.size=w.heap.size:=by simp [hideW]
theorem hide_block (S:Nat→Bool)(w:World)(k:Nat)(h:S k=false):(hideW S w).heap[k]?=w.heap[k]?:=by
 simp [hideW,Array.getElem?_mapIdx,h]
theorem hide_cell (S:Nat→Bool)(w:World)(p:Addr)(h:S p.block=false):(hideW S w).cell? p=w.cell? p:=World.cell?_of_block (hide_block S w _ h)
theorem hide_none (S:Nat→Bool)(w:World)(p:Addr)(h:S p.block=true):(hideW S w).cell? p=none:=by
 unfold World.cell? hideW
 simp only [Array.getElem?_mapIdx]
 cases w.heap[p.block]? with
 | none=>rfl
 | some o=>simp [h]
theorem hide_some {S:Nat→Bool}{w:World}{p:Addr}{x:Value}(h:(hideW S w).cell? p=some x):S p.block=false∧w.cell? p=some x:=by
 cases hs:S p.block with
 | false=>exact ⟨rfl,(hide_cell S w p hs)▸h⟩
 | true=>rw [hide_none S w p hs] at h;cases h
theorem Bytes.mono {w W:World}{p:Option Addr}{zs:List Int}(hs:w.heap.size≤W.heap.size)(hc:∀ p x,w.cell? p=some x→W.cell? p=some x)(h:Bytes w p zs):Bytes W p zs:=by
 refine ⟨h.1,fun hne=>?_⟩
 obtain ⟨b,off,rfl,hlt,hcell⟩:=h.2 hne
 exact ⟨b,off,rfl,Nat.lt_of_lt_of_le hlt hs,fun i hi=>hc _ _ (hcell i hi)⟩
theorem IsV.mono {w W:World}{v:PV}{val:Value}(h:IsV w v val)(hs:w.heap.size≤W.heap.size)(hc:∀ p x,w.cell? p=some x→W.cell? p=some x):IsV W v val:=by
 induction h with
 | mk n bs ks h ba ka bc kc kb ko c0 c1 c2 c3 hn hbb hbl hbm hkl hkm hka hcc _ ih =>
  exact .mk n bs ks h ba ka bc kc kb ko c0 c1 c2 c3 hn (hbb.mono hs hc) hbl hbm hkl hkm hka (fun i hi=>by obtain ⟨h0,h1,h2,h3⟩:=hcc i hi;exact ⟨hc _ _ h0,hc _ _ h1,hc _ _ h2,hc _ _ h3⟩) ih
def VH (S:Nat→Bool)(w:World)(v:PV)(val:Value):Prop:=IsV (hideW S w) v val
theorem VH.out {S:Nat→Bool}{w:World}{v:PV}{val:Value}(h:VH S w v val):IsV w v val:=
 IsV.mono h (by rw [hide_size];exact Nat.le_refl _) (fun _ _ h=>(hide_some h).2)
theorem VH.step {S S':Nat→Bool}{w W:World}{v:PV}{val:Value}(h:VH S w v val)(hs:w.heap.size≤W.heap.size)(hb:∀ k,k<w.heap.size→S k=false→S' k=false∧W.heap[k]?=w.heap[k]?):VH S' W v val:=
 IsV.mono h (by rw [hide_size,hide_size];exact hs) (fun p x hx=>by
  obtain ⟨h1,h2⟩:=hide_some hx
  obtain ⟨h3,h4⟩:=hb p.block (World.block_lt_of_cell? _ _ h2) h1
  rw [hide_cell S' W p h3,World.cell?_of_block h4]
  exact h2)
theorem VH.alloc {S:Nat→Bool}{w:World}{v:PV}{val:Value}(h:VH S w v val)(o:Obj):VH S (w.alloc o) v val:=
 h.step (by simp) (fun k hk hs=>⟨hs,by rw [World.alloc];simp [Array.getElem?_push,Nat.ne_of_lt hk]⟩)
theorem VH.below {S:Nat→Bool}{w W:World}{v:PV}{val:Value}(h:VH S w v val)(hb:Below w.heap.size w W):VH S W v val:=h.step hb.size (fun k hk hs=>⟨hs,hb.block k hk⟩)
theorem VH.exc {S:Nat→Bool}{w W:World}{v:PV}{val:Value}{R:Nat}(h:VH S w v val)(hb:Exc R w.heap.size w W)(hR:S R=true):VH S W v val:=
 h.step hb.size (fun k hk hs=>⟨hs,hb.block k hk (fun e=>by subst e;rw [hR] at hs;cases hs)⟩)
theorem vh_nil (S:Nat→Bool)(w:World):VH S w nilV (.agg #[.int .u64 0,.slice none 0 0,.slice none 0 0,.bool false]):=isV_nil _
end Go.Proofs.YtachghaegokpdaaDoor
namespace Go.Proofs.YtachghaegokpdaaDoor
open Go.ChangeShapes Go.WideShapes Go.ChangeAt Go.RowKit
theorem wsize_any (n:Int)(w:World) :
  Calls Tryd.prog 44 #[.int .u8 n] w fun e w'=>e=.returned (.int .i64 (kSize n))∧w=w':=by
 by_cases h:n<1∨10<n
 · have H:=Lib.hid (kSize_else n h)
   have b1:(n==1)=false:=by simp;omega
   have b2:(n==2)=false:=by simp;omega
   have b3:(n==3)=false:=by simp;omega
   have b4:(n==4)=false:=by simp;omega
   have b5:(n==5)=false:=by simp;omega
   have b6:(n==6)=false:=by simp;omega
   have b7:(n==7)=false:=by simp;omega
   have b8:(n==8)=false:=by simp;omega
   have b9:(n==9)=false:=by simp;omega
   have b10:(n==10)=false:=by simp;omega
   clear h
   rw [H.out]
   go_enter Tryd.func44,Tryd.ntmps44
   go_wp2
   go_ret
   exact ⟨rfl,rfl⟩
 · have h':n=1∨n=2∨n=3∨n=4∨n=5∨n=6∨n=7∨n=8∨n=9∨n=10:=by omega
   clear h
   rcases h' with rfl|rfl|rfl|rfl|rfl|rfl|rfl|rfl|rfl|rfl
   all_goals
    go_enter Tryd.func44,Tryd.ntmps44
    go_wp2
    go_ret
    exact ⟨ret_int (by decide),rfl⟩
end Go.Proofs.YtachghaegokpdaaDoor
namespace Go.Proofs.YtachghaegokpdaaDoor
open Go.ChangeShapes Go.WideShapes Go.ChangeAt Go.RowKit
theorem wsign_any (n:Int)(w:World) :
  Calls Tryd.prog 88 #[.int .u8 n] w fun e w'=>e=.returned (.bool (kSign n))∧w=w':=by
 by_cases h1:2≤n
 · by_cases h2:n≤5
   · rw [show kSign n=true from decide_eq_true ⟨h1,h2⟩]
     go_enter Tryd.func88,Tryd.ntmps88
     go_wp2
     go_ret
     exact ⟨rfl,rfl⟩
   · rw [show kSign n=false from decide_eq_false (fun h=>h2 h.2)]
     go_enter Tryd.func88,Tryd.ntmps88
     go_wp2
     go_ret
     exact ⟨rfl,rfl⟩
 · rw [show kSign n=false from decide_eq_false (fun h=>h1 h.1)]
   go_enter Tryd.func88,Tryd.ntmps88
   go_wp2
   go_ret
   exact ⟨rfl,rfl⟩
end Go.Proofs.YtachghaegokpdaaDoor
namespace Go.Proofs.YtachghaegokpdaaDoor
open Go.ChangeShapes Go.WideShapes Go.ChangeAt Go.RowKit Go.Shelf
section
variable {P:Program} (w:World)
theorem wp_append_run {o:Oper}{a:Act}{K:Act→World→Prop}{Q:Exit→Act→World→Prop}(s x:Operand)(t:TypeId)
  (ho:o.op=.call { callee:=.builtin .append,args:=#[s,x],argTypes:=#[t,t] }) (v y v':Value) (w':World) (hs:a.eval s=v) (hx:a.eval x=y) (hr:(Builtin.append_ #[t,t] o.type #[v,y]).run P w=.ok v' w') (h:K (a.put o.dst v') w'):o.wp P a w K Q:=by
 unfold Oper.wp execOp
 simp only [ho,resolve,invoke,builtin,Sem.run_bind,Sem.run_pure,Result.andThen_ok,List.map_toArray,List.map_cons,List.map_nil,hs,hx,hr]
 exact h
end
end Go.Proofs.YtachghaegokpdaaDoor
namespace Go.Proofs.YtachghaegokpdaaDoor
open Go.ChangeShapes Go.WideShapes Go.ChangeAt Go.RowKit Go.Shelf
theorem kSize_bd (k:Int):0≤kSize k∧kSize k≤8:=by
 unfold kSize
 split
 · omega
 · split
   · omega
   · split
     · omega
     · split<;>omega
theorem lnumber_any (kind ref lists:Nat)(w:World) :
  Calls Tryd.prog 46 #[.agg #[.int .u8 kind,.int .i64 ref,.int .i64 lists]] w fun e w'=>e=.returned (.bool (isNumP kind lists))∧Below w.heap.size w w':=by
 have h0:=heap_alloc_new w (.cells #[.int .u8 kind,.int .i64 ref,.int .i64 lists] 58)
 have HB:=Lib.hid ((Below.refl w.heap.size w).alloc (Nat.le_refl _) (.cells #[.int .u8 kind,.int .i64 ref,.int .i64 lists] 58))
 obtain ⟨_,x0,x1,x2,_⟩:=blk3 h0
 clear h0
 by_cases hl:lists=0
 · have HS:Hid (isNumP kind lists=decide (0<kSize kind)):=Lib.hid (by unfold isNumP;rw [decide_eq_true hl,Bool.true_and])
   subst hl
   go_enter Tryd.func46,Tryd.ntmps46
   go_wp2_with fail
   refine (wsize_any _ _).mono ?_
   rintro e W1 ⟨rfl,rfl⟩
   generalize kSize (kind:Int)=z at *
   go_wp2
   go_ret
   exact ⟨ret_bool HS.out.symm,HB.out⟩
 · have HS:Hid (isNumP kind lists=false):=Lib.hid (by unfold isNumP;rw [decide_eq_false hl,Bool.false_and])
   have hl1:((lists:Int)==0)=false:=by simp;omega
   clear hl
   go_enter Tryd.func46,Tryd.ntmps46
   go_wp2
   go_ret
   exact ⟨ret_bool HS.out.symm,HB.out⟩
end Go.Proofs.YtachghaegokpdaaDoor
