/-
  The package schema's Make: of what is written the schema, or the first fault and its place. Conditions: those that each theorem names.
-/
import Derived.Test.YtokhnoogkdlidaaGreatDoorPkP8
import Derived.Test.YtokhnoogkdlidaaGreatDoorPkP15
import Derived.Test.YtokhnoogkdlidaaGreatDoorPkP18
import Derived.Test.YtokhnoogkdlidaaGreatDoorPkP44
import Derived.Test.YtokhnoogkdlidaaGreatDoorPkP46
namespace Go.Proofs.YtokhnoogkdlidaaGreatDoor
open Go.ChangeShapes Go.WideShapes Go.ChangeAt Go.RowKit Go.Shelf
theorem choM_code {i:Nat}{m:List NEnt}{x:RCho}{c:Int}{p:Nat}(h:choM i m x=.no c p):c≠0:=by
 unfold choM at h
 split at h
 · cases h;decide
 · split at h
   · split at h
     · cases h;decide
     · cases h
   · cases h;decide
theorem chosM_code:∀ {i:Nat} {m:List NEnt} {l:List RCho} {c:Int} {p:Nat},chosM i m l=.no c p→c≠0
 | _,_,[],_,_,h=>by cases h
 | i,m,x::r,c,p,h=>by
  rw [chosM] at h
  cases hx:choM i m x with
  | no c' p' =>
   rw [hx] at h
   cases h
   exact choM_code hx
  | ok m1 =>
   rw [hx,mbind_ok] at h
   exact chosM_code h
theorem recM_code {i:Nat}{m:List NEnt}{x:RRec}{c:Int}{p:Nat}(h:recM i m x=.no c p):c≠0:=by
 unfold recM at h
 split at h
 · cases h;decide
 · split at h
   · split at h
     · cases h;decide
     · cases h
   · cases h;decide
theorem recsM_code:∀ {i:Nat} {m:List NEnt} {l:List RRec} {c:Int} {p:Nat},recsM i m l=.no c p→c≠0
 | _,_,[],_,_,h=>by cases h
 | i,m,x::r,c,p,h=>by
  rw [recsM] at h
  cases hx:recM i m x with
  | no c' p' =>
   rw [hx] at h
   cases h
   exact recM_code hx
  | ok m1 =>
   rw [hx,mbind_ok] at h
   exact recsM_code h
theorem fldsM_code {m:List NEnt}{es:List RCho}:∀ {l:List RField} {c:Int} {p:Nat},fldsM m es l=.no c p→c≠0
 | [],_,_,h=>by cases h
 | f::r,c,p,h=>by
  rw [fldsM] at h
  cases hx:fieldM m es f with
  | no c' p' =>
   rw [hx] at h
   cases h
   rcases fieldM_no hx with rfl|rfl<;>decide
  | ok a =>
   rw [hx,mbind_ok] at h
   cases hr:fldsM m es r with
   | no c' p' =>
    rw [hr] at h
    cases h
    exact fldsM_code hr
   | ok l =>
    rw [hr] at h
    cases h
theorem bodiesM_code {m:List NEnt}{es:List RCho}:∀ {l:List RRec} {c:Int} {p:Nat},bodiesM m es l=.no c p→c≠0
 | [],_,_,h=>by cases h
 | x::r,c,p,h=>by
  rw [bodiesM] at h
  cases hx:fldsM m es x.fields with
  | no c' p' =>
   rw [hx] at h
   cases h
   exact fldsM_code hx
  | ok a =>
   rw [hx,mbind_ok] at h
   cases hr:bodiesM m es r with
   | no c' p' =>
    rw [hr] at h
    cases h
    exact bodiesM_code hr
   | ok l =>
    rw [hr] at h
    cases h
theorem rootM_code {m:List NEnt}{l:List Tok}{c:Int}{p:Nat}(h:rootM m l=.no c p):c≠0:=by
 unfold rootM at h
 split at h
 · cases h;decide
 · split at h
   · cases h;decide
   · split at h
     · cases h
     · cases h;decide
 · cases h;decide
structure MkKeep (w:World)(M b:Nat)(fs:Array Value)(W:World):Prop where
 bel:Below w.heap.size w W
 box:w.heap.size<W.heap.size
 sch:W.heap[w.heap.size+1]?=some (.cells #[.slice none 0 0,.slice none 0 0,.int .i64 0] 30 (0,0))
 flt:W.heap[w.heap.size+2]?=some (.cells #[.int .i64 0,.int .i64 0] 38 (0,0))
 fns:∃ t,W.heap[M+1]?=some (.cells fs t (0,0))
 hb:w.heap.size+2<b
 hM:b<M
theorem MkKeep.ex2 {w W W':World}{M b:Nat}{fs:Array Value}(h:MkKeep w M b fs W)(hx:Ex2 M b W.heap.size W W'):MkKeep w M b fs W':=by
 obtain ⟨t,hf⟩:=h.fns
 have hb:=h.hb
 have hM:=h.hM
 have l1:=blk_lt h.sch
 have l2:=blk_lt h.flt
 have l3:=blk_lt hf
 exact ⟨h.bel.trans ((hx.mono h.bel.size).below (by omega) (by omega)),by have:=hx.size;have:=h.box;omega,hx.far h.sch l1 (by omega) (by omega),hx.far h.flt l2 (by omega) (by omega),⟨t,hx.far hf l3 (by omega) (by omega)⟩,h.hb,h.hM⟩
theorem MkKeep.exc {w W W':World}{M b G:Nat}{fs:Array Value}(h:MkKeep w M b fs W)(hx:Exc G W.heap.size W W')(hG:G=w.heap.size∨M+2≤G∨G=M):MkKeep w M b fs W':=by
 obtain ⟨t,hf⟩:=h.fns
 have hb:=h.hb
 have hM:=h.hM
 have l1:=blk_lt h.sch
 have l2:=blk_lt h.flt
 have l3:=blk_lt hf
 exact ⟨h.bel.trans ((hx.mono h.bel.size).below (by omega)),by have:=hx.size;have:=h.box;omega,(hx.block _ l1 (by omega)).trans h.sch,(hx.block _ l2 (by omega)).trans h.flt,⟨t,(hx.block _ l3 (by omega)).trans hf⟩,h.hb,h.hM⟩
def StgAt (M b:Nat)(sv ev rv:Value)(rs:List (RRec × Value))(re:List (RCho × Value))(rt:List Tok):Nat→World→Prop
 | 0,W=>MAt W M b sv ev rv basicN (.slice none 0 0) (.slice none 0 0) 0
 | 1,W=>∃ m1 es esv,chosM 0 basicN (re.map Prod.fst)=.ok m1∧MAt W M b sv ev rv m1 (.slice none 0 0) esv 0∧ChoRows (M+2) W es esv∧es.map Prod.fst=(re.map Prod.fst).map choOut
 | 2,W=>∃ m1 m es esv ssv,chosM 0 basicN (re.map Prod.fst)=.ok m1∧recsM 0 m1 (rs.map Prod.fst)=.ok m∧MAt W M b sv ev rv m ssv esv 0∧ChoRows (M+2) W es esv∧es.map Prod.fst=(re.map Prod.fst).map choOut ∧
   W.ownsRow (M+2) 52 2 ssv rs.length (srecsCells (rs.map rec0p))
 | 3,W=>∃ m1 m L es esv ssv,chosM 0 basicN (re.map Prod.fst)=.ok m1∧recsM 0 m1 (rs.map Prod.fst)=.ok m∧bodiesM m (re.map Prod.fst) (rs.map Prod.fst)=.ok (L.map Prod.fst)∧MAt W M b sv ev rv m ssv esv 0∧es.map Prod.fst=(re.map Prod.fst).map choOut ∧
   SchRows (M+2) W L es ssv esv
 | _,W=>∃ m1 m L es esv ssv r,chosM 0 basicN (re.map Prod.fst)=.ok m1∧recsM 0 m1 (rs.map Prod.fst)=.ok m∧bodiesM m (re.map Prod.fst) (rs.map Prod.fst)=.ok (L.map Prod.fst)∧rootM m rt=.ok r∧es.map Prod.fst=(re.map Prod.fst).map choOut ∧
   SchRows (M+2) W L es ssv esv∧W.heap[M]?=some (.cells #[sv,ev,rv,.map (some b),ssv,esv,.int .i64 r] 130 (0,0))
def StpPost (w:World)(M b:Nat)(fs:Array Value)(sv ev rv:Value)(rs:List (RRec × Value))(re:List (RCho × Value))(rt:List Tok)(k:Nat)(e:Ending)(W':World):Prop:=
 MkKeep w M b fs W'∧((∃ (c:Int) (p:Nat),c≠0∧makeM (rawOf rs re rt)=.no c p∧e=.returned (.agg #[.int .i64 c,.int .i64 (p:Nat)]))∨(e=.returned (.agg #[.int .i64 0,.int .i64 0])∧StgAt M b sv ev rv rs re rt (k+1) W'))
theorem ChoRows.exc {B G:Nat}{W W':World}{es:List (SCho × Value)}{esv:Value}(h:ChoRows B W es esv)(hx:Exc G W.heap.size W W')(h1:esv.ownBlock≠some G)(h2:∀ q ∈ es,q.2.ownBlock≠some G):ChoRows B W' es esv:=
 ⟨hx.ownsRow h.enums h1,fun q hq=>hx.ownsRow (h.names q hq) (h2 q hq)⟩
theorem raw_makeM {rs:List (RRec × Value)}{re:List (RCho × Value)}{rt:List Tok}:makeM (rawOf rs re rt)=(chosM 0 basicN (re.map Prod.fst)).bind fun m1=>(recsM 0 m1 (rs.map Prod.fst)).bind fun m=>(bodiesM m (re.map Prod.fst) (rs.map Prod.fst)).bind fun l=>(rootM m rt).bind fun r=>.ok ⟨l,(re.map Prod.fst).map choOut,r⟩:=rfl
theorem mkstep0 {w W:World}{M b rb:Nat}{fs:Array Value}{sv ev rv:Value}{rs:List (RRec × Value)}{re:List (RCho × Value)}{rt:List Tok}(h:RawRows rb w rs re rt sv ev rv)(hok:RawOk (rawOf rs re rt))(hK:MkKeep w M b fs W)(hS:StgAt M b sv ev rv rs re rt 0 W) :
  Calls Tryz.prog 49 #[.pointer (some ⟨M,0,none⟩)] W (StpPost w M b fs sv ev rv rs re rt 0):=by
 have hb:=hK.hb
 have hM:=hK.hM
 have hst:MAt W M b sv ev rv basicN (.slice none 0 0) (.slice none 0 0) 0:=hS
 have hMs:=blk_lt hK.fns.choose_spec
 refine (enums_any W M b sv ev rv (.slice none 0 0) 0 re basicN rb hst (fun W' hx=>?_) fun p hp=>?_).mono ?_
 · have hw:=(hK.ex2 hx).bel
   exact ⟨row_keep hw h.enums,fun p hp=>row_keep hw (h.names p hp)⟩
 · exact hok.en p.1 (List.mem_map_of_mem hp)
 · rintro e W' ⟨hx,hp⟩
   refine ⟨hK.ex2 hx,?_⟩
   cases hc:chosM 0 basicN (re.map Prod.fst) with
   | no c p =>
    rw [hc] at hp
    exact .inl ⟨c,p,chosM_code hc,by rw [raw_makeM,hc];rfl,hp⟩
   | ok m1 =>
    rw [hc] at hp
    obtain ⟨rfl,es,esv,h1,h2,h3⟩:=hp
    exact .inr ⟨rfl,m1,es,esv,hc,h1,h2.base (by omega),by rw [h3,List.map_map];rfl⟩
theorem mkstep1 {w W:World}{M b rb:Nat}{fs:Array Value}{sv ev rv:Value}{rs:List (RRec × Value)}{re:List (RCho × Value)}{rt:List Tok}(h:RawRows rb w rs re rt sv ev rv)(hok:RawOk (rawOf rs re rt))(hK:MkKeep w M b fs W)(hS:StgAt M b sv ev rv rs re rt 1 W) :
  Calls Tryz.prog 50 #[.pointer (some ⟨M,0,none⟩)] W (StpPost w M b fs sv ev rv rs re rt 1):=by
 have hb:=hK.hb
 have hM:=hK.hM
 obtain ⟨m1,es,esv,hm1,hst,hrows,hes⟩:=hS
 have hMs:=blk_lt hK.fns.choose_spec
 refine (structs_any W M b sv ev rv esv 0 rs m1 rb hst (fun W' hx=>?_) fun p hp=>?_).mono ?_
 · have hw:=(hK.ex2 hx).bel
   exact ⟨row_keep hw h.structs,fun p hp=>row_keep hw (h.fields p hp)⟩
 · exact (hok.st p.1 (List.mem_map_of_mem hp)).1
 · rintro e W' ⟨hx,hp⟩
   refine ⟨hK.ex2 hx,?_⟩
   cases hc:recsM 0 m1 (rs.map Prod.fst) with
   | no c p =>
    rw [hc] at hp
    exact .inl ⟨c,p,recsM_code hc,by rw [raw_makeM,hm1,mbind_ok,hc];rfl,hp⟩
   | ok m =>
    rw [hc] at hp
    obtain ⟨rfl,ssv,h1,h2⟩:=hp
    exact .inr ⟨rfl,m1,m,es,esv,ssv,hm1,hc,h1,hrows.ex2 hx (by omega) (by omega),hes,ownsRow_base h2 (by omega)⟩
theorem sch_exc {B G:Nat}{W W':World}{L:List (SRec × Value)}{es:List (SCho × Value)}{sv ev:Value}(h:SchRows B W L es sv ev)(hx:Exc G W.heap.size W W')(hG:G<B):SchRows B W' L es sv ev:=
 have key:∀ {e:TypeId} {size:Nat} {v:Value} {n:Nat} {xs:List Value},W.ownsRow B e size v n xs→W'.ownsRow B e size v n xs:=fun ho=>hx.ownsRow ho (fun e=>by have:=(ownsRow_lt ho G e).1;omega)
 ⟨key h.structs,key h.enums,fun q hq=>key (h.fields q hq),fun q hq=>key (h.names q hq)⟩
theorem mkstep2 {w W:World}{M b rb:Nat}{fs:Array Value}{sv ev rv:Value}{rs:List (RRec × Value)}{re:List (RCho × Value)}{rt:List Tok}(h:RawRows rb w rs re rt sv ev rv)(hE:ErrV w)(hok:RawOk (rawOf rs re rt))(hK:MkKeep w M b fs W)(hS:StgAt M b sv ev rv rs re rt 2 W) :
  Calls Tryz.prog 51 #[.pointer (some ⟨M,0,none⟩)] W (StpPost w M b fs sv ev rv rs re rt 2):=by
 have hb:=hK.hb
 have hM:=hK.hM
 obtain ⟨m1,m,es,esv,ssv,hm1,hm,hst,hrows,hes,hrow⟩:=hS
 have hMs:=blk_lt hK.fns.choose_spec
 obtain ⟨G,hG,hGs,hGw⟩:∃ G,(G=w.heap.size∨(M+2≤G∧ssv.ownBlock=some G))∧(∀ g c,ssv=.slice (some ⟨g,0,none⟩) rs.length c→g=G)∧G<W.heap.size:=by
  rcases hrow.2 with ⟨hv,_⟩|⟨g,cap,cur,hv,hg,_⟩
  · exact ⟨w.heap.size,.inl rfl,fun g c e=>(by rw [hv] at e;cases e),hK.box⟩
  · refine ⟨g,.inr ⟨hg,by rw [hv];rfl⟩,fun g' c e=>(by rw [hv] at e;cases e;rfl),(ownsRow_lt hrow g (by rw [hv];rfl)).2⟩
 have hne:∀ {e:TypeId} {size:Nat} {v:Value} {n:Nat} {xs:List Value},W.ownsRow (M+2) e size v n xs→e≠52 → v.ownBlock≠some G:=by
  intro e size v n xs ho hne hk
  rcases hG with rfl|⟨_,hs⟩
  · have:=(ownsRow_lt ho _ hk).1
    omega
  · exact rws_ne ho hrow hne G hk hs
 have hG':G=w.heap.size∨M+2≤G∨G=M:=by
  rcases hG with h|⟨h,_⟩
  · exact .inl h
  · exact .inr (.inl h)
 obtain ⟨hgood1,_⟩:=recsM_good (chosM_good (ne:=(re.map Prod.fst).length) (basic_good _) (by omega) hm1) hm
 have hfew:=(recsM_good (chosM_good (ne:=(re.map Prod.fst).length) (basic_good _) (by omega) hm1) hm).2
 refine (fields_any W (G:=G) (M:=M) (b:=b) (root:=0) (be:=M+2) (rb:=rb) (b0:=M+2) (sv:=sv) (ev:=ev) (rv:=rv) (ssv:=ssv) (esv:=esv) (m:=m) (es:=es) (ecs:=re.map Prod.fst) (xs:=rs) ?_ hes hrow hGs hGw (fun p hp=>hfew p.1 (List.mem_map_of_mem hp)) (fun s q hq=>hgood1.look s q hq) (fun p hp f hf=>(hok.st p.1 (List.mem_map_of_mem hp)).2 f hf)).mono ?_
 · intro W' hx
   have hw:=(hK.exc hx hG').bel
   refine ⟨⟨(hx.block M (by omega) (by omega)).trans hst.blk,hst.map.exc hx hst.map.lt (by omega),hst.ne⟩,hrows.exc hx (hne hrows.enums (by decide)) (fun q hq=>hne (hrows.names q hq) (by decide)),hE.later hw,row_keep hw h.structs,fun p hp=>row_keep hw (h.fields p hp)⟩
 · rintro e W' ⟨hx,hp⟩
   refine ⟨hK.exc hx hG',?_⟩
   cases hc:bodiesM m (re.map Prod.fst) (rs.map Prod.fst) with
   | no c p =>
    rw [hc] at hp
    exact .inl ⟨c,p,bodiesM_code hc,by rw [raw_makeM,hm1,mbind_ok,hm,mbind_ok,hc];rfl,hp⟩
   | ok l =>
    rw [hc] at hp
    obtain ⟨rfl,L,hL,h1,h2⟩:=hp
    have hc':=hrows.exc hx (hne hrows.enums (by decide)) (fun q hq=>hne (hrows.names q hq) (by decide))
    have hl:L.length=rs.length:=by
     have:=congrArg List.length hL
     have h3:=h1.1
     rw [srecsCells_len] at h3
     omega
    refine .inr ⟨rfl,m1,m,L,es,esv,ssv,hm1,hm,by rw [hc,hL],⟨(hx.block M (by omega) (by omega)).trans hst.blk,hst.map.exc hx hst.map.lt (by omega),hst.ne⟩,hes,⟨by rw [hl];exact h1,hc'.enums,fun q hq=>ownsRow_base (h2 q hq) (by omega),hc'.names⟩⟩
theorem mkstep3 {w W:World}{M b rb:Nat}{fs:Array Value}{sv ev rv:Value}{rs:List (RRec × Value)}{re:List (RCho × Value)}{rt:List Tok}(h:RawRows rb w rs re rt sv ev rv)(hK:MkKeep w M b fs W)(hS:StgAt M b sv ev rv rs re rt 3 W) :
  Calls Tryz.prog 52 #[.pointer (some ⟨M,0,none⟩)] W (StpPost w M b fs sv ev rv rs re rt 3):=by
 have hb:=hK.hb
 have hM:=hK.hM
 obtain ⟨m1,m,L,es,esv,ssv,hm1,hm,hbod,hst,hes,hrows⟩:=hS
 refine (root_any' W (l:=rt) hst (row_keep hK.bel h.roots)).mono ?_
 intro e W' hp
 unfold RtPost at hp
 cases hc:rootM m rt with
 | no c p =>
  rw [hc] at hp
  exact ⟨hK.exc hp.2 (.inr (.inr rfl)),.inl ⟨c,p,rootM_code hc,by rw [raw_makeM,hm1,mbind_ok,hm,mbind_ok,hbod,mbind_ok,hc];rfl,hp.1⟩⟩
 | ok r =>
  rw [hc] at hp
  obtain ⟨rfl,hx,hblk⟩:=hp
  exact ⟨hK.exc hx (.inr (.inr rfl)),.inr ⟨rfl,m1,m,L,es,esv,ssv,r,hm1,hm,hbod,hc,hes,sch_exc hrows hx (by omega),hblk⟩⟩
theorem stg4_make {M b:Nat}{sv ev rv:Value}{rs:List (RRec × Value)}{re:List (RCho × Value)}{rt:List Tok}{W:World}(h:StgAt M b sv ev rv rs re rt 4 W) :
  ∃ (L:List (SRec × Value)) (es:List (SCho × Value)) (esv ssv:Value) (r:Nat),makeM (rawOf rs re rt)=.ok ⟨L.map Prod.fst,es.map Prod.fst,r⟩∧SchRows (M+2) W L es ssv esv∧W.heap[M]?=some (.cells #[sv,ev,rv,.map (some b),ssv,esv,.int .i64 r] 130 (0,0)):=by
 obtain ⟨m1,m,L,es,esv,ssv,r,hm1,hm,hbod,hr,hes,hrows,hblk⟩:=h
 exact ⟨L,es,esv,ssv,r,by rw [raw_makeM,hm1,mbind_ok,hm,mbind_ok,hbod,mbind_ok,hr,hes];rfl,hrows,hblk⟩
end Go.Proofs.YtokhnoogkdlidaaGreatDoor
namespace Go.Proofs.YtokhnoogkdlidaaGreatDoor
open Go.ChangeShapes Go.WideShapes Go.ChangeAt Go.RowKit
theorem arr_litMf (t:Array Value)(h:t.size=39):t=((List.range 39).map fun n=>t.getD n undef).toArray:=by
 apply Array.ext'
 apply List.ext_getElem?
 intro i
 by_cases hi:i<39
 · have h':i<t.size:=by omega
   simp [hi,h',Array.getD]
 · have h':¬i<t.size:=by omega
   simp [hi,h']
set_option maxRecDepth 100000 in
theorem lit_allMf (u:Nat→Value):((List.range 39).map u).toArray=#[u 0,u 1,u 2,u 3,u 4,u 5,u 6,u 7,u 8,u 9,u 10,u 11,u 12,u 13,u 14,u 15,u 16,u 17,u 18,u 19,u 20,u 21,u 22,u 23,u 24,u 25,u 26,u 27,u 28,u 29,u 30,u 31,u 32,u 33,u 34,u 35,u 36,u 37,u 38]:=rfl
structure MfO (q M k:Nat)(c:Act):Prop where
 df:c.defers=[]
 sz:c.tmps.size=39
 s2:c.tmps.getD 2 undef=.pointer (some ⟨q+1,0,none⟩)
 s3:c.tmps.getD 3 undef=.pointer (some ⟨q+1+1,0,none⟩)
 s4:c.tmps.getD 4 undef=.pointer (some ⟨M,0,none⟩)
 s20:c.tmps.getD 20 undef=.slice (some ⟨M+1,0,none⟩) 4 4
 s21:c.tmps.getD 21 undef=.int .i64 4
 s22:c.tmps.getD 22 undef=.int .i64 k
set_option maxRecDepth 100000 in
theorem MfO.lit {q M k:Nat}{c:Act}(h:MfO q M k c):∃ u:Nat→Value,c=⟨#[u 0,u 1,.pointer (some ⟨q+1,0,none⟩),.pointer (some ⟨q+1+1,0,none⟩),.pointer (some ⟨M,0,none⟩),u 5,u 6,u 7,u 8,u 9,u 10,u 11,u 12,u 13,u 14,u 15,u 16,u 17,u 18,u 19,.slice (some ⟨M+1,0,none⟩) 4 4,.int .i64 4,.int .i64 k,u 23,u 24,u 25,u 26,u 27,u 28,u 29,u 30,u 31,u 32,u 33,u 34,u 35,u 36,u 37,u 38],[]⟩:=by
 obtain ⟨hd,hs,h2,h3,h4,h20,h21,h22⟩:=h
 refine ⟨fun n=>c.tmps.getD n undef,?_⟩
 obtain ⟨t,d⟩:=c
 simp only at hd hs h2 h3 h4 h20 h21 h22 ⊢
 subst hd
 congr 1
 refine (arr_litMf t hs).trans ?_
 rw [lit_allMf]
 simp only [h2,h3,h4,h20,h21,h22]
end Go.Proofs.YtokhnoogkdlidaaGreatDoor
namespace Go.Proofs.YtokhnoogkdlidaaGreatDoor
open Go.ChangeShapes Go.WideShapes Go.ChangeAt Go.RowKit Go.Shelf
structure MEnd (w:World)(x y z u v:Value)(Wf:World):Prop where
 sch:Wf.heap[w.heap.size+1]?=some (.cells #[x,y,z] 30 (0,0))
 flt:Wf.heap[w.heap.size+2]?=some (.cells #[u,v] 38 (0,0))
 bel:Below w.heap.size w Wf
def MakePost (w:World)(x:RRaw)(e:Ending)(w':World):Prop:=
 Below w.heap.size w w'∧match makeM x with
 | .no c p=>e=.returned (.tuple #[.agg #[.slice none 0 0,.slice none 0 0,.int .i64 0],.agg #[.int .i64 c,.int .i64 (p:Nat)]])
 | .ok S=>∃ ss es sv ev,e=.returned (.tuple #[.agg #[sv,ev,.int .i64 S.root],.agg #[.int .i64 0,.int .i64 0]])∧S.structs=ss.map Prod.fst∧S.enums=es.map Prod.fst∧SchRows w.heap.size w' ss es sv ev
theorem mend1 {w W:World}{a b c u v:Value}(h1:W.heap[w.heap.size+1]?=some (.cells #[a,b,c] 30 (0,0)))(h2:W.heap[w.heap.size+2]?=some (.cells #[u,v] 38 (0,0)))(hb:Below w.heap.size w W)(x y z r s:Value) :
  MEnd w x y z r s (((((W.setCell ⟨w.heap.size+1,0,none⟩ x).setCell ⟨w.heap.size+1,1,none⟩ y).setCell ⟨w.heap.size+1,2,none⟩ z).setCell ⟨w.heap.size+2,0,none⟩ r).setCell ⟨w.heap.size+2,1,none⟩ s):=
 have far:∀ (W:World) (g k i:Nat) (x:Value),k≠g→(W.setCell ⟨g,i,none⟩ x).heap[k]?=W.heap[k]?:=fun W g k i x h=>Below.heap_setCell _ _ _ _ h
 ⟨by rw [far _ _ _ _ _ (by omega),far _ _ _ _ _ (by omega)];exact blk_set3 h1 _ _ _,blk_set2 (by rw [far _ _ _ _ _ (by omega),far _ _ _ _ _ (by omega),far _ _ _ _ _ (by omega)];exact h2) _ _,
  ((((hb.setCell (p:=⟨w.heap.size+1,0,none⟩) (by show _≤w.heap.size+1;omega) _).setCell (p:=⟨w.heap.size+1,1,none⟩) (by show _≤w.heap.size+1;omega) _).setCell (p:=⟨w.heap.size+1,2,none⟩) (by show _≤w.heap.size+1;omega) _).setCell (p:=⟨w.heap.size+2,0,none⟩) (by show _≤w.heap.size+2;omega) _).setCell (p:=⟨w.heap.size+2,1,none⟩) (by show _≤w.heap.size+2;omega) _⟩
theorem mend2 {w W:World}{a b c u v:Value}(h1:W.heap[w.heap.size+1]?=some (.cells #[a,b,c] 30 (0,0)))(h2:W.heap[w.heap.size+2]?=some (.cells #[u,v] 38 (0,0)))(hb:Below w.heap.size w W)(x y z r s:Value) :
  MEnd w x y z r s (((((W.setCell ⟨w.heap.size+2,0,none⟩ r).setCell ⟨w.heap.size+2,1,none⟩ s).setCell ⟨w.heap.size+1,0,none⟩ x).setCell ⟨w.heap.size+1,1,none⟩ y).setCell ⟨w.heap.size+1,2,none⟩ z):=
 have far:∀ (W:World) (g k i:Nat) (x:Value),k≠g→(W.setCell ⟨g,i,none⟩ x).heap[k]?=W.heap[k]?:=fun W g k i x h=>Below.heap_setCell _ _ _ _ h
 ⟨blk_set3 (by rw [far _ _ _ _ _ (by omega),far _ _ _ _ _ (by omega)];exact h1) _ _ _,by rw [far _ _ _ _ _ (by omega),far _ _ _ _ _ (by omega),far _ _ _ _ _ (by omega)];exact blk_set2 h2 _ _,
  ((((hb.setCell (p:=⟨w.heap.size+2,0,none⟩) (by show _≤w.heap.size+2;omega) _).setCell (p:=⟨w.heap.size+2,1,none⟩) (by show _≤w.heap.size+2;omega) _).setCell (p:=⟨w.heap.size+1,0,none⟩) (by show _≤w.heap.size+1;omega) _).setCell (p:=⟨w.heap.size+1,1,none⟩) (by show _≤w.heap.size+1;omega) _).setCell (p:=⟨w.heap.size+1,2,none⟩) (by show _≤w.heap.size+1;omega) _⟩
theorem MEnd.drew {w Wf:World}{x y z u v:Value}(h:MEnd w x y z u v Wf):MEnd w x y z u v Wf.drew:=⟨h.sch,h.flt,h.bel.drew⟩
theorem stg_below {M b k:Nat}{sv ev rv:Value}{rs:List (RRec × Value)}{re:List (RCho × Value)}{rt:List Tok}{W W':World}(h:StgAt M b sv ev rv rs re rt k W)(hb:Below W.heap.size W W'):StgAt M b sv ev rv rs re rt k W':=by
 unfold StgAt at h ⊢
 split at h
 · exact h.fell hb
 · obtain ⟨m1,es,esv,h1,h2,h3,h4⟩:=h
   exact ⟨m1,es,esv,h1,h2.fell hb,h3.below hb,h4⟩
 · obtain ⟨m1,m,es,esv,ssv,h1,h2,h3,h4,h5,h6⟩:=h
   exact ⟨m1,m,es,esv,ssv,h1,h2,h3.fell hb,h4.below hb,h5,row_keep hb h6⟩
 · obtain ⟨m1,m,L,es,esv,ssv,h1,h2,h3,h4,h5,h6⟩:=h
   exact ⟨m1,m,L,es,esv,ssv,h1,h2,h3,h4.fell hb,h5,h6.below hb⟩
 · obtain ⟨m1,m,L,es,esv,ssv,r,h1,h2,h3,h4,h5,h6,h7⟩:=h
   exact ⟨m1,m,L,es,esv,ssv,r,h1,h2,h3,h4,h5,h6.below hb,blk_below h7 hb (blk_lt h7)⟩
theorem make_no {w Wf:World}{x:RRaw}{c:Int}{p:Nat}(h:makeM x=.no c p)(hb:Below w.heap.size w Wf):MakePost w x (.returned (.tuple #[.agg #[.slice none 0 0,.slice none 0 0,.int .i64 0],.agg #[.int .i64 c,.int .i64 (p:Nat)]])) Wf:=by
 unfold MakePost
 rw [h]
 exact ⟨hb,rfl⟩
def mkFns (M:Nat):Array Value:=#[.func (.func 49) #[.pointer (some ⟨M,0,none⟩)] #[],.func (.func 50) #[.pointer (some ⟨M,0,none⟩)] #[],.func (.func 51) #[.pointer (some ⟨M,0,none⟩)] #[],.func (.func 52) #[.pointer (some ⟨M,0,none⟩)] #[]]
set_option maxRecDepth 100000 in
set_option maxHeartbeats 8000000 in
theorem make_any_raw (w:World){rb:Nat}{rs:List (RRec × Value)}{re:List (RCho × Value)}{rt:List Tok}{sv ev rv:Value}(h:RawRows rb w rs re rt sv ev rv)(hE:ErrV w)(hok:RawOk (rawOf rs re rt)) :
  Calls Tryz.prog 19 #[.agg #[sv,ev,rv]] w (MakePost w (rawOf rs re rt)):=by
 obtain ⟨hb,hq0,hq1,hq2⟩:=three_blk w #[sv,ev,rv] #[.slice none 0 0,.slice none 0 0,.int .i64 0] #[.int .i64 0,.int .i64 0] 68 30 38
 have HRAW:=Lib.hid h
 have HE:=Lib.hid hE
 have HOK:=Lib.hid hok
 have HB:=Lib.hid hb
 have HQ0:=Lib.hid hq0
 have HQ1:=Lib.hid hq1
 have HQ2:=Lib.hid hq2
 obtain ⟨sa,sc,ea,ec,ra,rc,rfl,rfl,rfl⟩:=h.forms
 clear h hE hok hb hq0 hq1 hq2
 go_enter Tryz.func19,Tryz.ntmps19
 go_upto_region 1 with (fail)
 generalize (((w.alloc (.cells #[.slice sa rs.length sc,.slice ea re.length ec,.slice ra rt.length rc] 68)).alloc (.cells #[.slice none 0 0,.slice none 0 0,.int .i64 0] 30)).alloc (.cells #[.int .i64 0,.int .i64 0] 38))=W0 at *
 obtain ⟨hAl,y0,y1,y2,_⟩:=blk3 HQ0.out
 have HCC:=Lib.hid (show ∀ w',Below W0.heap.size W0 w'→w'.cell? ⟨w.heap.size,0,none⟩=some (.slice sa rs.length sc)∧w'.cell? ⟨w.heap.size,1,none⟩=some (.slice ea re.length ec)∧w'.cell? ⟨w.heap.size,2,none⟩=some (.slice ra rt.length rc) from fun w' hw=>⟨(hw.cell (p:=⟨w.heap.size,0,none⟩) hAl).trans y0,(hw.cell (p:=⟨w.heap.size,1,none⟩) hAl).trans y1,(hw.cell (p:=⟨w.heap.size,2,none⟩) hAl).trans y2⟩)
 go_region_held3 (fun w'=>w'.cell? ⟨w.heap.size,0,none⟩=some (.slice sa rs.length sc)∧w'.cell? ⟨w.heap.size,1,none⟩=some (.slice ea re.length ec)∧w'.cell? ⟨w.heap.size,2,none⟩=some (.slice ra rt.length rc)) (first|assumption|go_keep) (first|(go_at_call 48;(with_reducible refine (basic_any W0.drew).mono ?_);rintro e W1 ⟨b,rfl,hm1,hb1,hbl⟩;have hbw:=drew_below hb1;obtain ⟨k0,k1,k2⟩:=HCC.out W1 hbw;have HB1:=Lib.hid hbw;have HM1:=Lib.hid hm1;have hbl0:W0.heap.size≤b:=hbl;clear hm1 hb1 hbw hbl))
 all_goals
  simp only [Exit.then]
  apply_assumption
  go_upto_region 2 with (fail)
  have hMne:b≠W1.heap.size:=by have:=HM1.out.lt;omega
  have HBM:=Lib.hid (show Below W0.heap.size W0 (W1.alloc (.cells #[.slice sa rs.length sc,.slice ea re.length ec,.slice ra rt.length rc,.map (some b),.slice none 0 0,.slice none 0 0,.int .i64 0] 130)) from HB1.out.alloc HB1.out.size _)
  have HMA:=Lib.hid (show MAt (W1.alloc (.cells #[.slice sa rs.length sc,.slice ea re.length ec,.slice ra rt.length rc,.map (some b),.slice none 0 0,.slice none 0 0,.int .i64 0] 130)) W1.heap.size b (.slice sa rs.length sc) (.slice ea re.length ec) (.slice ra rt.length rc) basicN (.slice none 0 0) (.slice none 0 0) 0 from ⟨heap_alloc_new W1 _,HM1.out.alloc _,fun e=>hMne e.symm⟩)
  have hMs:W0.heap.size≤W1.heap.size:=HB1.out.size
  have hbs:b<W1.heap.size:=HM1.out.lt
  have hS2:(W1.alloc (.cells #[.slice sa rs.length sc,.slice ea re.length ec,.slice ra rt.length rc,.map (some b),.slice none 0 0,.slice none 0 0,.int .i64 0] 130)).heap.size=W1.heap.size+1:=World.size_alloc _ _
  generalize hM:W1.heap.size=M at *
  generalize W1.alloc (.cells #[.slice sa rs.length sc,.slice ea re.length ec,.slice ra rt.length rc,.map (some b),.slice none 0 0,.slice none 0 0,.int .i64 0] 130)=W2 at *
  have HS2:=Lib.hid hS2
  have hbl0:=hbl0
  clear hM k0 k1 k2 HB1 HM1 y0 y1 y2 HCC hS2
  go_wp2_with fail
  have hb3:Below W2.heap.size W2 (W2.alloc (.cells (mkFns M) 131)):=(Below.refl _ _).alloc (Nat.le_refl _) _
  have hn3:=heap_alloc_new W2 (.cells (mkFns M) 131)
  change Code.wp _ _ _ _ (W2.alloc (.cells (mkFns M) 131))
  have hwq:w.heap.size+2<W0.heap.size:=blk_lt HQ2.out
  rw [HS2.out] at hn3 ⊢
  have HW0:=Lib.hid (HBM.out.trans (hb3.mono HBM.out.size))
  have HK:Hid (MkKeep w M b (mkFns M) (W2.alloc (.cells (mkFns M) 131))):=Lib.hid ⟨HB.out.trans (HW0.out.mono HB.out.size),by have:=HW0.out.size;omega,blk_below HQ1.out HW0.out (by omega),blk_below HQ2.out HW0.out hwq,⟨_,hn3⟩,by omega,by omega⟩
  have HS:Hid (StgAt M b (.slice sa rs.length sc) (.slice ea re.length ec) (.slice ra rt.length rc) rs re rt 0 (W2.alloc (.cells (mkFns M) 131))):=Lib.hid (show MAt _ _ _ _ _ _ _ _ _ _ from HMA.out.fell hb3)
  generalize W2.alloc (.cells (mkFns M) 131)=W3 at *
  clear hb3 hn3 HBM HMA HW0 HS2
  refine wp_loop (fun c' w'=>∃ k:Nat,k≤4∧MfO w.heap.size M k c'∧MkKeep w M b (mkFns M) w'∧StgAt M b (.slice sa rs.length sc) (.slice ea re.length ec) (.slice ra rt.length rc) rs re rt k w') (fun c' _=>4-(intOf (c'.tmps.getD 22 undef)).toNat) ⟨0,Nat.zero_le _,⟨rfl,rfl,rfl,rfl,rfl,rfl,rfl,rfl⟩,HK.out,HS.out⟩ ?_
  clear HK HS
  rintro cf wr ⟨k,hk,hcf,hK,hS⟩
  obtain ⟨u,rfl⟩:=hcf.lit
  clear hcf
  conv=>arg 2;whnf
  by_cases hkl:k<4
  · obtain ⟨tt,hfn⟩:=hK.fns
    obtain ⟨fk,hcell,hent,hst⟩:∃ fk,wr.cell? ⟨M+1,k,none⟩=some (.func (.func fk) #[.pointer (some ⟨M,0,none⟩)] #[])∧(∀ args w,(callFunc fk args).run Tryz.prog w=.ok (.enter fk args) w)∧Calls Tryz.prog fk #[.pointer (some ⟨M,0,none⟩)] wr (StpPost w M b (mkFns M) (.slice sa rs.length sc) (.slice ea re.length ec) (.slice ra rt.length rc) rs re rt k):=by
     have h4:k=0∨k=1∨k=2∨k=3:=by omega
     rcases h4 with rfl|rfl|rfl|rfl
     · exact ⟨_,(blk_cell hfn 0).trans rfl,enters_of Tryz.func49 (by kernel_rfl) rfl,mkstep0 HRAW.out HOK.out hK hS⟩
     · exact ⟨_,(blk_cell hfn 1).trans rfl,enters_of Tryz.func50 (by kernel_rfl) rfl,mkstep1 HRAW.out HOK.out hK hS⟩
     · exact ⟨_,(blk_cell hfn 2).trans rfl,enters_of Tryz.func51 (by kernel_rfl) rfl,mkstep2 HRAW.out HE.out HOK.out hK hS⟩
     · exact ⟨_,(blk_cell hfn 3).trans rfl,enters_of Tryz.func52 (by kernel_rfl) rfl,mkstep3 HRAW.out hK hS⟩
    have HST:=Lib.hid hst
    have hML:M+1<wr.heap.size:=blk_lt hfn
    have hki:(k:Int)<4:=by omega
    clear hst hfn hK hS
    go_wp2_with fail
    refine HST.out.mono ?_
    rintro e W4 ⟨hk4,h⟩
    have HK4:=Lib.hid hk4
    clear hk4 hcell
    rcases h with ⟨c,p,hc0,hno,rfl⟩|⟨rfl,hs4⟩
    · have HNO:=Lib.hid hno
      have t1:(c==0)=false:=by simpa using hc0
      have t2:(c != 0)=true:=by simpa using hc0
      clear hno
      go_upto_region 6 with (fail)
      have hb5:Below W4.heap.size W4 (W4.alloc (.cells #[.int .i64 c,.int .i64 (p:Nat)] 38)):=(Below.refl _ _).alloc (Nat.le_refl _) _
      have HF5:=Lib.hid (heap_alloc_new W4 (.cells #[.int .i64 c,.int .i64 (p:Nat)] 38))
      have HB5:=Lib.hid (HK4.out.bel.trans (hb5.mono HK4.out.bel.size))
      have HR5:=Lib.hid (blk_below HK4.out.sch hb5 (blk_lt HK4.out.sch))
      have HG5:=Lib.hid (blk_below HK4.out.flt hb5 (blk_lt HK4.out.flt))
      have hne1:W4.heap.size≠w.heap.size+1:=by have:=blk_lt HK4.out.sch;omega
      have hne2:W4.heap.size≠w.heap.size+2:=by have:=blk_lt HK4.out.flt;omega
      generalize W4.alloc (.cells #[.int .i64 c,.int .i64 (p:Nat)] 38)=W5 at *
      generalize W4.heap.size=F at *
      obtain ⟨_,k0,k1,_⟩:=blk2 HF5.out
      obtain ⟨_,_,_,_,r0,r1,r2⟩:=blk3 HR5.out
      obtain ⟨_,_,_,g0,g1⟩:=blk2 HG5.out
      go_wp2_with fail
      go_region
      all_goals
       simp only [Exit.then]
       apply_assumption
       go_wp2
       refine post_gen (fun Wf=>MEnd w (.slice none 0 0) (.slice none 0 0) (.int .i64 0) (.int .i64 c) (.int .i64 p) Wf) (by first|exact (mend1 HR5.out HG5.out HB5.out _ _ _ _ _).drew|exact (mend2 HR5.out HG5.out HB5.out _ _ _ _ _).drew) ?_
       rintro Wf ⟨e1,e2,e3⟩
       obtain ⟨_,c0,c1,c2,_⟩:=blk3 e1
       obtain ⟨_,d0,d1,_⟩:=blk2 e2
       exact bodyPost_ret (v:=.tuple #[.agg #[.slice none 0 0,.slice none 0 0,.int .i64 0],.agg #[.int .i64 c,.int .i64 p]]) (by simp [results,Tryz.results19,go_sem,c0,c1,c2,d0,d1]) rfl (make_no HNO.out e3)
    · have HS4:=Lib.hid hs4
      clear hs4
      go_upto_region 6 with (fail)
      have hb5:Below W4.heap.size W4 (W4.alloc (.cells #[.int .i64 0,.int .i64 0] 38)):=(Below.refl _ _).alloc (Nat.le_refl _) _
      have HF5:=Lib.hid (heap_alloc_new W4 (.cells #[.int .i64 0,.int .i64 0] 38))
      have HK5:=Lib.hid (HK4.out.ex2 (.of_below hb5))
      have HS5:=Lib.hid (stg_below HS4.out hb5)
      generalize W4.alloc (.cells #[.int .i64 0,.int .i64 0] 38)=W5 at *
      generalize W4.heap.size=F at *
      obtain ⟨_,k0,k1,_⟩:=blk2 HF5.out
      clear hb5
      go_wp2
      refine ⟨⟨k+1,by omega,⟨rfl,rfl,rfl,rfl,rfl,rfl,rfl,rfl⟩,HK5.out,HS5.out⟩,?_⟩
      show 4-(intOf (.int .i64 ((k:Int)+1))).toNat<4-(intOf (.int .i64 (k:Int))).toNat
      simp [intOf];omega
  · obtain rfl:k=4:=by omega
    obtain ⟨L,es,esv,ssv,r,hmk,hrows,hblk⟩:=stg4_make hS
    obtain ⟨la,lc,va,vc,rfl,rfl⟩:=hrows.forms
    obtain ⟨hMl,m0,m1,m2,m3,m4,m5,m6,_⟩:=maker_cells hblk
    have HMK:=Lib.hid hmk
    have HROWS:=Lib.hid hrows
    have HK4:=Lib.hid hK
    obtain ⟨_,_,_,_,r0,r1,r2⟩:=blk3 hK.sch
    obtain ⟨_,_,_,g0,g1⟩:=blk2 hK.flt
    clear hmk hrows hblk hK hS
    go_wp2
    refine post_gen (fun Wf=>MEnd w (.slice la L.length lc) (.slice va es.length vc) (.int .i64 r) (.int .i64 0) (.int .i64 0) Wf∧SchRows w.heap.size Wf L es (.slice la L.length lc) (.slice va es.length vc)) ⟨mend1 HK4.out.sch HK4.out.flt HK4.out.bel _ _ _ _ _,?_⟩ ?_
    · have hq:=HK4.out.hb
      have hq2:=HK4.out.hM
      have key:∀ {e:TypeId} {s:Nat} {v:Value} {n:Nat} {xs:List Value} (x y z u v':Value),wr.ownsRow (M+2) e s v n xs→World.ownsRow (((((wr.setCell ⟨w.heap.size+1,0,none⟩ x).setCell ⟨w.heap.size+1,1,none⟩ y).setCell ⟨w.heap.size+1,2,none⟩ z).setCell ⟨w.heap.size+2,0,none⟩ u).setCell ⟨w.heap.size+2,1,none⟩ v') w.heap.size e s v n xs:=fun x y z u v' ho =>
       ownsRow_base (ownsRow_setCell_below (ownsRow_setCell_below (ownsRow_setCell_below (ownsRow_setCell_below (ownsRow_setCell_below ho (by show w.heap.size+1<_;omega) _) (by show w.heap.size+1<_;omega) _) (by show w.heap.size+1<_;omega) _) (by show w.heap.size+2<_;omega) _) (by show w.heap.size+2<_;omega) _) (by omega)
      exact ⟨key _ _ _ _ _ HROWS.out.structs,key _ _ _ _ _ HROWS.out.enums,fun q hq=>key _ _ _ _ _ (HROWS.out.fields q hq),fun q hq=>key _ _ _ _ _ (HROWS.out.names q hq)⟩
    · rintro Wf ⟨⟨e1,e2,e3⟩,e4⟩
      obtain ⟨_,c0,c1,c2,_⟩:=blk3 e1
      obtain ⟨_,d0,d1,_⟩:=blk2 e2
      refine bodyPost_ret (v:=.tuple #[.agg #[.slice la L.length lc,.slice va es.length vc,.int .i64 r],.agg #[.int .i64 0,.int .i64 0]]) (by simp [results,Tryz.results19,go_sem,c0,c1,c2,d0,d1]) rfl ⟨e3,?_⟩
      rw [HMK.out]
      exact ⟨L,es,_,_,rfl,rfl,rfl,e4⟩
end Go.Proofs.YtokhnoogkdlidaaGreatDoor
