/-
  A kid more, put behind the kids of a value that a function builds, while the document's reader alone changes. Conditions: those that the theorem names.
-/
import Derived.Test.YtpbaaedijfofnaaDoorPkV19
import Derived.Test.YtpbaaedijfofnaaDoorPkV30
import Derived.Test.YtpbaaedijfofnaaDoorPkV31
import Derived.Maps.AppendAt
namespace Go.Proofs.YtpbaaedijfofnaaDoor
open Go.ChangeShapes Go.WideShapes Go.ChangeAt Go.RowKit Go.Shelf
structure RCtx (base:Nat)(W:World)(m:Nat)(bp:Option Addr)(bc:Nat)(sv ev:Value)(zs:List Int)(ss:List (SRec × Value))(es:List SCho)(fs:List (List CFld × Value))(ns:List Nat)(wk mt B:Nat)(left ml:Int):Prop where
 msg:MsgOf base W m bp bc sv ev zs ss es fs ns
 st:WState W wk m mt false left ml false
 hl:0≤left∧left≤1000000
 hml:0≤ml∧ml≤9223372036854775807
 hB:B≤W.heap.size∧B≤wk∧B≤mt
 amb:Amb B W
 sch:SchM ss es
variable {base:Nat} {W W':World} {m:Nat} {bp:Option Addr} {bc:Nat} {sv ev:Value} {zs:List Int} {ss:List (SRec × Value)} {es:List SCho} {fs:List (List CFld × Value)} {ns:List Nat} {wk mt B:Nat} {left ml l' ml':Int}
theorem RCtx.below (h:RCtx base W m bp bc sv ev zs ss es fs ns wk mt B left ml)(hb:Below W.heap.size W W'):RCtx base W' m bp bc sv ev zs ss es fs ns wk mt B left ml:=
 ⟨h.msg.below hb,h.st.below hb,h.hl,h.hml,⟨Nat.le_trans h.hB.1 hb.size,h.hB.2⟩,h.amb.below (hb.mono h.hB.1),h.sch⟩
theorem RCtx.exw (h:RCtx base W m bp bc sv ev zs ss es fs ns wk mt B left ml)(hx:Exw wk mt W.heap.size W W')(hs:WState W' wk m mt false l' ml' false)(h1:0≤l'∧l'≤left)(h2:0≤ml'∧ml'≤ml):RCtx base W' m bp bc sv ev zs ss es fs ns wk mt B l' ml':=
 ⟨h.msg.exw h.st hx,hs,⟨h1.1,Int.le_trans h1.2 h.hl.2⟩,⟨h2.1,Int.le_trans h2.2 h.hml.2⟩,⟨Nat.le_trans h.hB.1 hx.size,h.hB.2⟩,h.amb.exw h.hB.1 h.hB.2.1 h.hB.2.2 hx,h.sch⟩
def sRecs (ss:List (SRec × Value)):List CRec:=(crow ss).map Prod.fst
def structT (ss:List CRec)(zs:List Int)(nx:Option NextD)(ref to:Int)(t:TabZ)(left:Int):Option (PV × Int):=
 match nx with
 | none=>none
 | some f =>
  if left-(t.size+t.own)<0 then none else
  match seqD (fieldZ zs f (recC ss ref).fields to t) (left-(t.size+t.own)) (recC ss ref).fields.length with
  | none=>none
  | some (ks,l)=>some (.mk 0 [] ks true,l)
theorem structAt_none {ss:List CRec}{zs:List Int}{nx:Option NextD}{ref to left:Int}(h:tabZ zs to=none):structAtZ ss zs nx ref to left=none:=by unfold structAtZ;rw [h]
theorem structAt_some {ss:List CRec}{zs:List Int}{nx:Option NextD}{ref to left:Int}{t:TabZ}(h:tabZ zs to=some t):structAtZ ss zs nx ref to left=structT ss zs nx ref to t left:=by unfold structAtZ;rw [h];rfl
structure KidRAt (room:Nat):Prop where
 run:∀ {base:Nat} {W:World} {m:Nat} {bp:Option Addr} {bc:Nat} {sv ev:Value} {zs:List Int} {ss:List (SRec × Value)} {es:List SCho} {fs:List (List CFld × Value)} {ns:List Nat} {wk mt B:Nat} {left ml:Int},RCtx base W m bp bc sv ev zs ss es fs ns wk mt B left ml →
  ∀ (k r l d:Nat) (at':Int),TyM ss.length es k r l→(sortP k l=1→inZ (lenZ zs) at' (kSize k)=true) →
  Calls Tryd.prog 114 #[.pointer (some ⟨wk,0,none⟩),kidV k r l at' d true,.int .i64 room] W (RPost (flatZ (sRecs ss) es zs room k r l at' left) wk m mt left ml W)
structure StructRAt (room:Nat):Prop where
 run:∀ {base:Nat} {W:World} {m:Nat} {bp:Option Addr} {bc:Nat} {sv ev:Value} {zs:List Int} {ss:List (SRec × Value)} {es:List SCho} {fs:List (List CFld × Value)} {ns:List Nat} {wk mt B:Nat} {left ml:Int},RCtx base W m bp bc sv ev zs ss es fs ns wk mt B left ml →
  ∀ (r:Nat) (t:TabZ) (p:Int),r<ss.length→tabZ zs p=some t→0≤p∧p≤1000000 →
  Calls Tryd.prog 82 #[.pointer (some ⟨wk,0,none⟩),strV m r t p,.int .i64 room] W (RPost (structT (sRecs ss) zs (nextZ (sRecs ss) es zs room) r p t left) wk m mt left ml W)
structure ListRAt (room:Nat):Prop where
 run:∀ {base:Nat} {W:World} {m:Nat} {bp:Option Addr} {bc:Nat} {sv ev:Value} {zs:List Int} {ss:List (SRec × Value)} {es:List SCho} {fs:List (List CFld × Value)} {ns:List Nat} {wk mt B:Nat} {left ml:Int},RCtx base W m bp bc sv ev zs ss es fs ns wk mt B left ml →
  ∀ (k r l d:Nat) (at':Int),TyM ss.length es k r l→0<l →
  Calls Tryd.prog 140 #[.pointer (some ⟨wk,0,none⟩),kidV k r l at' d true,.int .i64 room] W (RPost (pointZ zs at' fun to=>listAtZ zs (nextZ (sRecs ss) es zs room) k r ((l:Int)-1) to left) wk m mt left ml W)
theorem tab_facts {zs:List Int}{p:Int}{t:TabZ}(hz:∀ i,0≤zs.getD i 0∧zs.getD i 0≤255)(h:tabZ zs p=some t):(inZ (lenZ zs) t.la t.size=true∧t.size % 2=0)∧4≤t.size∧t.size<65536∧4≤t.own∧t.own<65536∧inZ (lenZ zs) p t.own=true:=by
 unfold tabZ tabOf at h
 split at h
 · split at h
   · split at h
     · rename_i h3
       injection h with h
       subst h
       exact ⟨⟨h3.2.1,h3.1.2.1⟩,h3.1.1,(leAt_2 zs _ hz).2,h3.1.2.2,(leAt_2 zs _ hz).2,h3.2.2⟩
     · cases h
   · cases h
 · cases h
theorem tyM_sort {n:Nat}{es:List SCho}{k r l:Nat}(h:TyM n es k r l):(0<l∧sortP k l=3)∨(l=0∧0<kSize k∧k≤10∧sortP k l=1)∨(l=0∧(k=11∨k=12)∧sortP k l=2)∨(l=0∧k=13∧sortP k l=4):=by
 rcases Nat.eq_zero_or_pos l with h0|h0
 · subst h0
   have h1:=h.lo
   have h2:=h.hi
   rcases Nat.lt_or_ge 10 k with h3|h3
   · have h4:k=11∨k=12∨k=13:=by omega
     rcases h4 with rfl|rfl|rfl
     · exact .inr (.inr (.inl ⟨rfl,.inl rfl,rfl⟩))
     · exact .inr (.inr (.inl ⟨rfl,.inr rfl,rfl⟩))
     · exact .inr (.inr (.inr ⟨rfl,rfl,rfl⟩))
   · have h5:=k_size h1 h3
     refine .inr (.inl ⟨rfl,h5,h3,?_⟩)
     unfold sortP
     rw [if_neg (by decide),if_neg (by decide),if_pos h5]
 · refine .inl ⟨h0,?_⟩
   unfold sortP
   rw [if_pos (by omega)]
end Go.Proofs.YtpbaaedijfofnaaDoor
namespace Go.Proofs.YtpbaaedijfofnaaDoor
open Go.ChangeShapes Go.WideShapes Go.ChangeAt Go.RowKit Go.Shelf
theorem SchRows.exw {base:Nat}{w W:World}{ss:List (SRec × Value)}{es:List (SCho × Value)}{sv ev:Value}(h:SchRows base w ss es sv ev){rk:Nat}{cs:Array Value}(hr:w.heap[rk]?=some (.cells cs 167 (0,0)))(hx:Exw rk rk w.heap.size w W):SchRows base W ss es sv ev:=
 ⟨hx.ownsRow h.structs (row_notblk h.structs hr (by decide)) (row_notblk h.structs hr (by decide)),
  hx.ownsRow h.enums (row_notblk h.enums hr (by decide)) (row_notblk h.enums hr (by decide)),
  fun q hq=>hx.ownsRow (h.fields q hq) (row_notblk (h.fields q hq) hr (by decide)) (row_notblk (h.fields q hq) hr (by decide)),
  fun q hq=>hx.ownsRow (h.names q hq) (row_notblk (h.names q hq) hr (by decide)) (row_notblk (h.names q hq) hr (by decide))⟩
structure DCtx (base B:Nat)(W:World)(rk:Nat)(sv ev:Value)(root:Int)(bp:Option Addr)(bc:Nat)(zs:List Int)(ss:List (SRec × Value))(es:List (SCho × Value))(left:Int):Prop where
 st:RdSt W rk sv ev root bp bc zs (lenZ zs-left) false
 rows:SchRows base W ss es sv ev
 hl:0≤left∧left≤lenZ zs
 hB:B≤W.heap.size∧B≤rk
 amb:Amb B W
 sch:SchM ss (es.map Prod.fst)
variable {base B:Nat} {W W':World} {rk:Nat} {sv ev:Value} {root:Int} {bp:Option Addr} {bc:Nat} {zs:List Int} {ss:List (SRec × Value)} {es:List (SCho × Value)} {left l':Int}
theorem DCtx.below (h:DCtx base B W rk sv ev root bp bc zs ss es left)(hb:Below W.heap.size W W'):DCtx base B W' rk sv ev root bp bc zs ss es left:=
 ⟨h.st.below hb,h.rows.below hb,h.hl,⟨Nat.le_trans h.hB.1 hb.size,h.hB.2⟩,h.amb.below (hb.mono h.hB.1),h.sch⟩
theorem DCtx.exw (h:DCtx base B W rk sv ev root bp bc zs ss es left)(hx:Exw rk rk W.heap.size W W')(hs:RdSt W' rk sv ev root bp bc zs (lenZ zs-l') false)(h1:0≤l'∧l'≤lenZ zs):DCtx base B W' rk sv ev root bp bc zs ss es l':=
 ⟨hs,h.rows.exw h.st.blk hx,h1,⟨Nat.le_trans h.hB.1 hx.size,h.hB.2⟩,h.amb.exw h.hB.1 h.hB.2 h.hB.2 hx,h.sch⟩
theorem DCtx.len (h:DCtx base B W rk sv ev root bp bc zs ss es left):lenZ zs≤16384:=by
 have:=h.st.len
 unfold lenZ
 omega
theorem DCtx.crows (h:DCtx base B W rk sv ev root bp bc zs ss es left)(V:World)(hx:Exw rk rk W.heap.size W V):CRows base V (crow ss) es sv ev:=(h.rows.exw h.st.blk hx).crows
end Go.Proofs.YtpbaaedijfofnaaDoor
namespace Go.Proofs.YtpbaaedijfofnaaDoor
open Go.ChangeShapes Go.WideShapes Go.ChangeAt Go.RowKit Go.Shelf
theorem Exw.exc {R B:Nat}{w W:World}(h:Exw R R B w W):Exc R B w W:=⟨h.os,h.tape,h.output,h.size,fun k hk hr=>h.block k hk hr hr⟩
theorem RdPost.form {res:Option (PV × Int)}{w w':World}{rk:Nat}{sv ev:Value}{root:Int}{bp:Option Addr}{bc:Nat}{zs:List Int}{e:Ending}(h:RdPost res w rk sv ev root bp bc zs e w'):∃ x0 x1 x2 x3,e=.returned (.agg #[x0,x1,x2,x3])∧VForm (.agg #[x0,x1,x2,x3])∧Exw rk rk w.heap.size w w' ∧
  ((∃ v l',res=some (v,l')∧(0≤l'∧l'≤lenZ zs)∧VH (newS w.heap.size) w' v (.agg #[x0,x1,x2,x3])∧RdSt w' rk sv ev root bp bc zs (lenZ zs-l') false)∨(res=none∧∃ rc,0≤rc∧rc≤1000000000000∧RdSt w' rk sv ev root bp bc zs rc true)):=by
 obtain ⟨hx,h1⟩:=h
 rcases h1 with ⟨v,l',val,hr,hl,rfl,hv,hs⟩|⟨hr,⟨val,rfl,n,ba,bl,bc',ka,kl,kc,h,rfl⟩,hrc⟩
 · obtain ⟨ba,ka,bc',kc,rfl,_⟩:=IsV.form hv
   exact ⟨_,_,_,_,rfl,vform _ _ _ _ _ _ _ _,hx,.inl ⟨v,l',hr,hl,hv,hs⟩⟩
 · exact ⟨_,_,_,_,rfl,vform _ _ _ _ _ _ _ _,hx,.inr ⟨hr,hrc⟩⟩
end Go.Proofs.YtpbaaedijfofnaaDoor
