/-
  The document's own Read: of a text the schema, or the first fault and its place. Conditions: those that each theorem names; the library's tables hold what the row lists.
-/
import Derived.Test.YtokhnoogkdlidaaGreatDoorPkP19
import Derived.Test.YtokhnoogkdlidaaGreatDoorPkP25
import Derived.Test.YtokhnoogkdlidaaGreatDoorPkP47
import Derived.Test.YtokhnoogkdlidaaGreatDoorPkP49
import Derived.Test.YtokhnoogkdlidaaGreatDoorPkP50
namespace Go.Proofs.YtokhnoogkdlidaaGreatDoor
open Go.ChangeShapes Go.WideShapes Go.ChangeAt Go.RowKit Go.Shelf
def RMakePost (w:World)(r:MRes Sch)(e:Ending)(w':World):Prop:=
 Below w.heap.size w w'∧match r with
 | .no c p=>e=.returned (.tuple #[.agg #[.slice none 0 0,.slice none 0 0,.int .i64 0],.int .i64 c,.int .i64 (p:Nat)])
 | .ok S=>∃ ss es sv ev,e=.returned (.tuple #[.agg #[sv,ev,.int .i64 S.root],.int .i64 0,.int .i64 0])∧S.structs=ss.map Prod.fst∧S.enums=es.map Prod.fst∧SchRows w.heap.size w' ss es sv ev
theorem rmake_no {w Wf:World}{c:Int}{p:Nat}(hb:Below w.heap.size w Wf):RMakePost w (.no c p) (.returned (.tuple #[.agg #[.slice none 0 0,.slice none 0 0,.int .i64 0],.int .i64 c,.int .i64 (p:Nat)])) Wf:=⟨hb,rfl⟩
theorem choM_few {i:Nat}{m m':List NEnt}{x:RCho}(h:choM i m x=.ok m'):x.names.length≤32:=by
 unfold choM at h
 split at h
 · cases h
 · split at h
   · rename_i hc
     exact hc.2.2
   · cases h
theorem chosM_few:∀ {i:Nat} {m m':List NEnt} {l:List RCho},chosM i m l=.ok m'→∀ x ∈ l,x.names.length≤32
 | _,_,_,[],_,x,hx=>by cases hx
 | i,m,m',y::r,h,x,hx=>by
  rw [chosM] at h
  cases hy:choM i m y with
  | no c p =>
   rw [hy] at h
   cases h
  | ok m1 =>
   rw [hy,mbind_ok] at h
   rcases List.mem_cons.1 hx with rfl|hx
   · exact choM_few hy
   · exact chosM_few h x hx
theorem raw_make (rs:List (RRec × Value))(re:List (RCho × Value))(rt:List Tok):makeM (rawOf rs re rt)=(chosM 0 basicN (re.map Prod.fst)).bind fun m1=>(recsM 0 m1 (rs.map Prod.fst)).bind fun m=>(bodiesM m (re.map Prod.fst) (rs.map Prod.fst)).bind fun l=>(rootM m rt).bind fun r=>.ok ⟨l,(re.map Prod.fst).map choOut,r⟩:=rfl
theorem root_one {m:List NEnt}{es ss:List ByteArray}(h:Named m es ss)(t:Tok):rootM m [t]=match idx ss (tokT t) with
  | some i=>.ok i
  | none=>.no 17 t.place:=by
 rw [←h.root (tokT t),rootM]
 cases lookN m (tokT t) with
 | none=>rfl
 | some q =>
  by_cases h13:q.1=13
  · simp [h13]
  · simp [h13]
set_option maxRecDepth 100000 in
theorem rm_ret {w w':World}{c':Act}{code:Int}{p:Nat}{res:MRes Sch}(hres:res=.no code p)(hc:RmR w.heap.size code p c')(hr:noRes w' (w.heap.size+1))(hb:Below w.heap.size w w'):bodyPost Tryz.prog Tryz.f17 (RMakePost w res) .ret c' w':=by
 obtain ⟨u,rfl⟩:=hc.lit
 obtain ⟨_,c0,c1,c2,_⟩:=blk3 hr
 subst hres
 exact bodyPost_ret (v:=.tuple #[.agg #[.slice none 0 0,.slice none 0 0,.int .i64 0],.int .i64 code,.int .i64 p]) (by simp [results,Tryz.results17,go_sem,c0,c1,c2]) rfl (rmake_no hb)
set_option maxRecDepth 100000 in
set_option maxHeartbeats 8000000 in
theorem rmake_any {w:World}{rb:Nat}{rs:List (RRec × Value)}{re:List (RCho × Value)}{rt:List Tok}{sv ev rv:Value}(h:RawRows rb w rs re rt sv ev rv)(hok:RawOk (rawOf rs re rt)) :
  Calls Tryz.prog 17 #[.agg #[sv,ev,rv]] w (RMakePost w (makeM (rawOf rs re rt))):=by
 obtain ⟨hb,hz1,hz2⟩:=two_blk w #[sv,ev,rv] #[.slice none 0 0,.slice none 0 0,.int .i64 0] 68 30
 have HM:=Lib.hid (raw_make rs re rt)
 generalize makeM (rawOf rs re rt)=res at *
 have HRAW:=Lib.hid h
 have HOK:=Lib.hid hok
 have HK:=Lib.hid (show RmKeep w sv ev rv _ from ⟨hb,hz1,hz2⟩)
 have hrt:=row_few h.roots
 obtain ⟨sa,sc,ea,ec,ra,rc,rfl,rfl,rfl⟩:=h.forms
 clear h hok hb hz1 hz2
 go_enter Tryz.func17,Tryz.ntmps17
 go_upto_region 2 with (fail)
 generalize (w.alloc (.cells #[.slice sa rs.length sc,.slice ea re.length ec,.slice ra rt.length rc] 68)).alloc (.cells #[.slice none 0 0,.slice none 0 0,.int .i64 0] 30)=W0 at *
 go_wp2_with fail
 refine rma_wp (m0:=basicN) (U0:=[]) (e0:=0) (a0:=none) HRAW.out (by simp [basicS]) (by simp) ⟨rfl,rfl,rfl,rfl,rfl,rfl⟩ HK.out (World.ownsRow_nil _ _ _ _) ?_ ?_
 · intro c2 w2 a2 e2 m1 hm1 hl8 hc2 hk2 hu2
   have HM1:=Lib.hid hm1
   have HK2:=Lib.hid hk2
   have HU2:=Lib.hid hu2
   obtain ⟨u2,rfl⟩:=hc2.lit
   clear hm1 hc2 hk2 hu2 HK
   simp only [Exit.inBlock,Exit.then]
   apply_assumption
   go_wp2_with fail
   refine rmb_wp (m0:=m1) (U0:=choNms re) (e0:=e2) (a0:=a2) HRAW.out ?_ (by rw [choNms_len];exact hl8) ⟨rfl,rfl,rfl,rfl,by simp [choNms_len],rfl⟩ HK2.out (by rw [choNms_len];have:=HU2.out;simpa using this) ?_ ?_
   · obtain ⟨h1,_⟩:=chosM_ents HM1.out
     rw [h1,List.map_append,ents_names]
     rfl
   · intro c3 w3 a3 e3 m hm hl16 hc3 hk3 hu3
     have HM2:=Lib.hid hm
     have HK3:=Lib.hid hk3
     have HNM:=Lib.hid (named_of HM1.out hm)
     have HGD:=Lib.hid (recsM_good (chosM_good (ne:=re.length) (basic_good _) (by simp) HM1.out) hm)
     have HFW:=Lib.hid (chosM_few HM1.out)
     obtain ⟨u3,rfl⟩:=hc3.lit
     clear hm hc3 hk3 hu3 HK2 HU2
     simp only [Exit.inBlock,Exit.then]
     apply_assumption
     go_upto_region 37 with (fail)
     have hb4:Below w3.heap.size w3 (w3.alloc (.cells #[.slice none 0 0,.slice none 0 0,.int .i64 0] 30)):=(Below.refl _ _).alloc (Nat.le_refl _) _
     have hq3:w.heap.size+2≤w3.heap.size:=blk_lt HK3.out.res
     have HK4:=Lib.hid (HK3.out.below hb4 hq3)
     have HS4:Hid (SchAt w3.heap.size (w3.alloc (.cells #[.slice none 0 0,.slice none 0 0,.int .i64 0] 30)) [] [] (.slice none 0 0) (.slice none 0 0) 0):=Lib.hid ⟨heap_alloc_new w3 _,World.ownsRow_nil _ _ _ _,World.ownsRow_nil _ _ _ _,(fun q hq=>by cases hq),(fun q hq=>by cases hq)⟩
     generalize w3.alloc (.cells #[.slice none 0 0,.slice none 0 0,.int .i64 0] 30)=W4 at *
     generalize w3.heap.size=S at *
     clear hb4 HK3
     go_wp2_with fail
     refine rmc_wp (S:=S) HRAW.out ⟨rfl,rfl,rfl,rfl,rfl,rfl⟩ HK4.out HS4.out hq3 (fun p hp=>Nat.le_trans (HFW.out p.1 (List.mem_map_of_mem hp)) (by decide)) hl8 ?_
     intro c5 w5 es esv hc5 hk5 hs5 hes
     have HK5:=Lib.hid hk5
     have HS5:=Lib.hid hs5
     have HES:=Lib.hid hes
     obtain ⟨u5,rfl⟩:=hc5.lit
     clear hc5 hk5 hs5 hes HK4 HS4
     simp only [Exit.inBlock,Exit.then]
     apply_assumption
     go_wp2_with fail
     refine rmd_wp (S:=S) HRAW.out HNM.out HGD.out.1 ⟨rfl,rfl,rfl,rfl,rfl,rfl⟩ HK5.out HS5.out hq3 (fun p hp=>Nat.le_trans (HGD.out.2 p.1 (List.mem_map_of_mem hp)) (by decide)) hl16 (fun p hp f hf=>((HOK.out.st p.1 (List.mem_map_of_mem hp)).2 f hf).1) ?_ ?_
     · intro c6 w6 ss ssv hc6 hk6 hs6 hbod
       have HK6:=Lib.hid hk6
       have HS6:=Lib.hid hs6
       have HR6:Hid (res=(rootM m rt).bind fun r=>.ok ⟨ss.map Prod.fst,es.map Prod.fst,r⟩):=Lib.hid (by rw [HM.out,HM1.out,mbind_ok,HM2.out,mbind_ok,hbod,mbind_ok,HES.out])
       obtain ⟨u6,rfl⟩:=hc6.lit
       obtain ⟨_,p0,p1,p2,_⟩:=blk3 hk6.raw
       obtain ⟨_,_,_,_,f0,f1,f2⟩:=blk3 hk6.res
       clear hc6 hk6 hs6 hbod HK5 HS5 HM HM1 HM2
       simp only [Exit.inBlock,Exit.then]
       apply_assumption
       cases rt with
       | nil =>
        have HE:=Lib.hid (show res=.no 17 0 from HR6.out)
        simp only [List.length_nil] at *
        go_wp2
        exact rm_ret HE.out ⟨rfl,rfl,rfl,rfl,rfl⟩ HK6.out.res.put (bel_put HK6.out.bel (Nat.le_succ _) _ _ _)
       | cons t r =>
        cases r with
        | cons t2 r2 =>
         obtain ⟨g,cc,hv,hcc,hg,hcell⟩:=row_el tokCells 3 (fun _=>rfl) (row_keep HK6.out.bel HRAW.out.roots) 1 (by simp)
         obtain ⟨rfl,rfl⟩:=slice_inj hv
         have x2:w6.cell? ⟨g,5,none⟩=some (.int .i64 t2.place):=hcell 2 (by omega)
         have HE:=Lib.hid (show res=.no 13 t2.place from HR6.out)
         have hgl:g<w.heap.size:=(ownsRow_lt HRAW.out.roots g rfl).2
         have hgq:g≠w.heap.size+1:=by omega
         clear hv hcell
         obtain ⟨n,hln⟩:∃ n,(t::t2::r2).length=n+2:=⟨r2.length,by simp⟩
         rw [hln] at *
         generalize t2.place=pl at *
         have hn1:(1:Int)<((n+2:Nat):Int):=by omega
         have hn0:¬((n+2:Nat):Int)=0:=by omega
         have hnb:(((n+2:Nat):Int)==0)=false:=by simp;omega
         clear hln
         go_wp2_with fail
         go_region
         all_goals
          simp only [Exit.then]
          apply_assumption
          go_wp2
          exact rm_ret HE.out ⟨rfl,rfl,rfl,rfl,rfl⟩ HK6.out.res.put (bel_put HK6.out.bel (Nat.le_succ _) _ _ _).drew
        | nil =>
         have HE:=Lib.hid (root_one HNM.out t)
         simp only [List.length_singleton] at *
         go_wp2_with fail
         refine rme_wp (S:=S) HRAW.out ⟨rfl,rfl,rfl,rfl,rfl,rfl⟩ HK6.out HS6.out hq3 ?_ ?_
         · intro c7 w7 hno hc7 hk7
           have HF:=Lib.hid (show res=.no 17 t.place by rw [HR6.out,HE.out];rw [show idx ((List.map Prod.fst rs).map recNm) (tokT t)=none from hno];rfl)
           have HK7:=Lib.hid hk7
           obtain ⟨u7,rfl⟩:=hc7.lit
           obtain ⟨g,cc,hv,hcc,hg,hcell⟩:=row_el tokCells 3 (fun _=>rfl) (row_keep hk7.bel HRAW.out.roots) 0 (by simp)
           obtain ⟨rfl,rfl⟩:=slice_inj hv
           have x2:w7.cell? ⟨g,2,none⟩=some (.int .i64 t.place):=hcell 2 (by omega)
           obtain ⟨_,p0,p1,p2,_⟩:=blk3 hk7.raw
           obtain ⟨_,_,_,_,f0,f1,f2⟩:=blk3 hk7.res
           have hone:(0:Int)<(1:Int):=by decide
           have hgl:g<w.heap.size:=(ownsRow_lt HRAW.out.roots g rfl).2
           have hgq:g≠w.heap.size+1:=by omega
           generalize t.place=pl at *
           clear hc7 hk7 hno hv hcell
           simp only [Exit.inBlock,Exit.then]
           apply_assumption
           go_wp2_with fail
           go_region
           all_goals
            simp only [Exit.then]
            apply_assumption
            go_wp2
            exact rm_ret HF.out ⟨rfl,rfl,rfl,rfl,rfl⟩ HK7.out.res.put (bel_put HK7.out.bel (Nat.le_succ _) _ _ _).drew
         · intro c7 w7 i hyes hc7 hr7 hrows hb7
           have HF:=Lib.hid (show res=.ok ⟨ss.map Prod.fst,es.map Prod.fst,i⟩ by rw [HR6.out,HE.out];rw [show idx ((List.map Prod.fst rs).map recNm) (tokT t)=some i from hyes];rfl)
           obtain ⟨u7,rfl⟩:=hc7.lit
           obtain ⟨_,c0,c1,c2,_⟩:=blk3 hr7
           obtain ⟨a1,b1,a2,b2,rfl,rfl⟩:=hrows.forms
           simp only [Exit.inBlock,Exit.then]
           refine bodyPost_ret (v:=.tuple #[.agg #[.slice a1 ss.length b1,.slice a2 es.length b2,.int .i64 i],.int .i64 0,.int .i64 0]) (by simp [results,Tryz.results17,go_sem,c0,c1,c2]) rfl ?_
           rw [HF.out]
           exact ⟨hb7,ss,es,_,_,rfl,rfl,rfl,hrows.base (by omega)⟩
     · intro c6 w6 code p hno hc6 hr6 hb6
       simp only [Exit.inBlock,Exit.then]
       exact rm_ret (by rw [HM.out,HM1.out,mbind_ok,HM2.out,mbind_ok,hno];rfl) hc6 hr6 hb6
   · intro c3 w3 code p hno hc3 hr3 hb3
     simp only [Exit.inBlock,Exit.then]
     exact rm_ret (by rw [HM.out,HM1.out,mbind_ok,hno];rfl) hc3 hr3 hb3
 · intro c2 w2 code p hno hc2 hr2 hb2
   simp only [Exit.inBlock,Exit.then]
   exact rm_ret (by rw [HM.out,hno];rfl) hc2 hr2 hb2
end Go.Proofs.YtokhnoogkdlidaaGreatDoor
namespace Go.Proofs.YtokhnoogkdlidaaGreatDoor
open Go.ChangeShapes Go.WideShapes Go.ChangeAt Go.RowKit Go.Shelf
theorem noRaw_ok:RawOk noRaw:=⟨fun e he=>(by cases he),fun s hs=>(by cases hs)⟩
theorem rawT_ok (s:ByteArray):RawOk (rawT s).1:=by
 unfold rawT
 obtain ⟨l,code,p,hr⟩:∃ l code p,toks okU (amg idlSigns) (bts s)=(l,code,p):=⟨_,_,_,rfl⟩
 rw [hr]
 unfold rawL
 dsimp only
 split
 · rename_i hc
   subst hc
   have hs:s.size≤8192:=by
    rcases Nat.lt_or_ge 8192 (bts s).length with h|h
    · unfold toks at hr
      rw [if_pos h] at hr
      cases hr
    · rw [bts_length] at h
      exact h
   have hall:AllB l:=by
    intro t ht
    have h1:=(chain_all l 0 (Nat.zero_le _) (.inr (toks_chain hr).1) t ht).2.1
    have h2:=full_length t
    omega
   have h3:=rawR_fit hall
   unfold rawR at h3
   show RawOk (match schemaR l.length noRaw l with
    | .ok a _=>(a,(0:Int),0)
    | .no c q=>(noRaw,c,q)).1
   cases hx:schemaR l.length noRaw l with
   | ok a r =>
    rw [hx] at h3
    exact h3.1.ok
   | no c q=>exact noRaw_ok
 · exact noRaw_ok
def readM (s:ByteArray):MRes Sch:=if (rawT s).2.1=0 then makeM (rawT s).1 else .no (rawT s).2.1 (rawT s).2.2
def SchPost (w:World)(r:MRes Sch)(e:Ending)(w':World):Prop:=
 Below w.heap.size w w'∧match r with
 | .no c p=>e=.returned (.tuple #[.agg #[.slice none 0 0,.slice none 0 0,.int .i64 0],.agg #[.int .i64 c,.int .i64 (p:Nat)]])
 | .ok S=>∃ ss es sv ev,e=.returned (.tuple #[.agg #[sv,ev,.int .i64 S.root],.agg #[.int .i64 0,.int .i64 0]])∧S.structs=ss.map Prod.fst∧S.enums=es.map Prod.fst∧SchRows w.heap.size w' ss es sv ev
theorem make_any {w:World}{rb:Nat}{rs:List (RRec × Value)}{re:List (RCho × Value)}{rt:List Tok}{sv ev rv:Value}(h:RawRows rb w rs re rt sv ev rv)(hE:ErrV w)(hok:RawOk (rawOf rs re rt)) :
  Calls Tryz.prog 19 #[.agg #[sv,ev,rv]] w (SchPost w (makeM (rawOf rs re rt))):=(make_any_raw w h hE hok).mono fun _ _ h=>h
structure REnd (w:World)(x y z u v:Value)(Wf:World):Prop where
 sch:Wf.heap[w.heap.size]?=some (.cells #[x,y,z] 30 (0,0))
 flt:Wf.heap[w.heap.size+1]?=some (.cells #[u,v] 38 (0,0))
 bel:Below w.heap.size w Wf
theorem REnd.drew {w Wf:World}{x y z u v:Value}(h:REnd w x y z u v Wf):REnd w x y z u v Wf.drew:=⟨h.sch,h.flt,h.bel.drew⟩
def set32 (W:World)(g:Nat)(x y z r s:Value):World:=((((W.setCell ⟨g,0,none⟩ x).setCell ⟨g,1,none⟩ y).setCell ⟨g,2,none⟩ z).setCell ⟨g+1,0,none⟩ r).setCell ⟨g+1,1,none⟩ s
def set23 (W:World)(g:Nat)(x y z r s:Value):World:=((((W.setCell ⟨g+1,0,none⟩ r).setCell ⟨g+1,1,none⟩ s).setCell ⟨g,0,none⟩ x).setCell ⟨g,1,none⟩ y).setCell ⟨g,2,none⟩ z
theorem rend1 {w W:World}{a b c u v:Value}(h1:W.heap[w.heap.size]?=some (.cells #[a,b,c] 30 (0,0)))(h2:W.heap[w.heap.size+1]?=some (.cells #[u,v] 38 (0,0)))(hb:Below w.heap.size w W)(x y z r s:Value):REnd w x y z r s (set32 W w.heap.size x y z r s):=
 have far:∀ (W:World) (g k i:Nat) (x:Value),k≠g→(W.setCell ⟨g,i,none⟩ x).heap[k]?=W.heap[k]?:=fun W g k i x h=>Below.heap_setCell _ _ _ _ h
 ⟨by unfold set32;rw [far _ _ _ _ _ (by omega),far _ _ _ _ _ (by omega)];exact blk_set3 h1 _ _ _,blk_set2 (by rw [far _ _ _ _ _ (by omega),far _ _ _ _ _ (by omega),far _ _ _ _ _ (by omega)];exact h2) _ _,
  ((((hb.setCell (p:=⟨w.heap.size,0,none⟩) (Nat.le_refl _) _).setCell (p:=⟨w.heap.size,1,none⟩) (Nat.le_refl _) _).setCell (p:=⟨w.heap.size,2,none⟩) (Nat.le_refl _) _).setCell (p:=⟨w.heap.size+1,0,none⟩) (Nat.le_succ _) _).setCell (p:=⟨w.heap.size+1,1,none⟩) (Nat.le_succ _) _⟩
theorem rend2 {w W:World}{a b c u v:Value}(h1:W.heap[w.heap.size]?=some (.cells #[a,b,c] 30 (0,0)))(h2:W.heap[w.heap.size+1]?=some (.cells #[u,v] 38 (0,0)))(hb:Below w.heap.size w W)(x y z r s:Value):REnd w x y z r s (set23 W w.heap.size x y z r s):=
 have far:∀ (W:World) (g k i:Nat) (x:Value),k≠g→(W.setCell ⟨g,i,none⟩ x).heap[k]?=W.heap[k]?:=fun W g k i x h=>Below.heap_setCell _ _ _ _ h
 ⟨blk_set3 (by rw [far _ _ _ _ _ (by omega),far _ _ _ _ _ (by omega)];exact h1) _ _ _,by unfold set23;rw [far _ _ _ _ _ (by omega),far _ _ _ _ _ (by omega),far _ _ _ _ _ (by omega)];exact blk_set2 h2 _ _,
  ((((hb.setCell (p:=⟨w.heap.size+1,0,none⟩) (Nat.le_succ _) _).setCell (p:=⟨w.heap.size+1,1,none⟩) (Nat.le_succ _) _).setCell (p:=⟨w.heap.size,0,none⟩) (Nat.le_refl _) _).setCell (p:=⟨w.heap.size,1,none⟩) (Nat.le_refl _) _).setCell (p:=⟨w.heap.size,2,none⟩) (Nat.le_refl _) _⟩
theorem SchRows.set32 {base g:Nat}{W:World}{ss:List (SRec × Value)}{es:List (SCho × Value)}{sv ev:Value}(h:SchRows base W ss es sv ev)(hg:g+1<base)(x y z u v:Value):SchRows base (set32 W g x y z u v) ss es sv ev:=
 have key:∀ {e:TypeId} {s:Nat} {v':Value} {n:Nat} {xs:List Value},W.ownsRow base e s v' n xs→World.ownsRow (Go.Proofs.YtokhnoogkdlidaaGreatDoor.set32 W g x y z u v) base e s v' n xs:=fun ho =>
  ownsRow_setCell_below (ownsRow_setCell_below (ownsRow_setCell_below (ownsRow_setCell_below (ownsRow_setCell_below ho (by show g<_;omega) _) (by show g<_;omega) _) (by show g<_;omega) _) (by show g+1<_;omega) _) (by show g+1<_;omega) _
 ⟨key h.structs,key h.enums,fun q hq=>key (h.fields q hq),fun q hq=>key (h.names q hq)⟩
theorem sch_no {w Wf:World}{c:Int}{p:Nat}(hb:Below w.heap.size w Wf):SchPost w (.no c p) (.returned (.tuple #[.agg #[.slice none 0 0,.slice none 0 0,.int .i64 0],.agg #[.int .i64 c,.int .i64 (p:Nat)]])) Wf:=⟨hb,rfl⟩
set_option maxRecDepth 100000 in
set_option maxHeartbeats 4000000 in
theorem read_any (s:ByteArray)(w:World)(hT:Tabs w)(hE:ErrV w)(hs:s.size≤9223372036854775807) :
  Calls Tryz.prog 8 #[.string s] w (SchPost w (readM s)):=by
 obtain ⟨hb,hz1,hz2⟩:=two_blk w #[.slice none 0 0,.slice none 0 0,.int .i64 0] #[.int .i64 0,.int .i64 0] 30 38
 have HT:=Lib.hid hT
 have HE:=Lib.hid hE
 have HS:=Lib.hid hs
 have HB:=Lib.hid hb
 have HZ1:=Lib.hid hz1
 have HZ2:=Lib.hid hz2
 have hww:=hb.size
 clear hT hE hs hb hz1 hz2
 go_enter Tryz.func8,Tryz.ntmps8
 go_upto_region 1 with (fail)
 generalize (w.alloc (.cells #[.slice none 0 0,.slice none 0 0,.int .i64 0] 30)).alloc (.cells #[.int .i64 0,.int .i64 0] 38)=W0 at *
 go_wp2_with fail
 refine (parse_any s W0 (HT.out.below (Nat.le_refl _) HB.out) HS.out).mono ?_
 rintro e W1 ⟨ss,es,ts,sv,ev,rv,rfl,hx,hr,hb1⟩
 obtain ⟨sa,sc,ea,ec,ra,rc,rfl,rfl,rfl⟩:=hr.forms
 have HOK:=Lib.hid (hx▸rawT_ok s)
 have HRM:Hid (readM s=if (rawT s).2.1=0 then makeM (rawOf ss es ts) else .no (rawT s).2.1 (rawT s).2.2):=Lib.hid (by unfold readM;rw [hx])
 generalize readM s=res at *
 generalize (rawT s).2.1=code at *
 generalize (rawT s).2.2=place at *
 have HR:=Lib.hid hr
 have HB1:=Lib.hid (HB.out.trans (hb1.mono HB.out.size))
 have HY1:=Lib.hid (blk_below HZ1.out hb1 (blk_lt HZ1.out))
 have HY2:=Lib.hid (blk_below HZ2.out hb1 (blk_lt HZ2.out))
 clear hx hr hb1 HZ1 HZ2
 go_upto_region 2 with (fail)
 obtain ⟨hbb,hq1,hq2⟩:=two_blk W1 #[.slice sa ss.length sc,.slice ea es.length ec,.slice ra ts.length rc] #[.int .i64 code,.int .i64 (place:Nat)] 68 38
 generalize ((W1.alloc (.cells #[.slice sa ss.length sc,.slice ea es.length ec,.slice ra ts.length rc] 68)).alloc (.cells #[.int .i64 code,.int .i64 (place:Nat)] 38))=W2 at *
 have HB2:=Lib.hid (HB1.out.trans (hbb.mono HB1.out.size))
 have HR2:=Lib.hid (HR.out.below hbb)
 have HX1:=Lib.hid (blk_below HY1.out hbb (blk_lt HY1.out))
 have HX2:=Lib.hid (blk_below HY2.out hbb (blk_lt HY2.out))
 have hl1:=blk_lt HY1.out
 have hl2:=blk_lt HY2.out
 obtain ⟨_,a0,a1,a2,_⟩:=blk3 hq1
 obtain ⟨_,k0,k1,_⟩:=blk2 hq2
 obtain ⟨_,_,_,_,r0,r1,r2⟩:=blk3 HX1.out
 obtain ⟨_,_,_,g0,g1⟩:=blk2 HX2.out
 have hne1:W1.heap.size+1≠w.heap.size:=by omega
 have hne2:W1.heap.size+1≠w.heap.size+1:=by omega
 have hne3:W1.heap.size≠w.heap.size:=by omega
 have hne4:W1.heap.size≠w.heap.size+1:=by omega
 clear hbb hq1 hq2 HB1 HR HY1 HY2
 by_cases hc:code=0
 · subst hc
   have HRES:=Lib.hid (HRM.out.trans (if_pos rfl))
   have HM:=Lib.hid (make_any HR2.out (HE.out.later HB2.out) HOK.out)
   clear HRM
   generalize makeM (rawOf ss es ts)=mres at *
   go_wp2_with fail
   refine HM.out.mono ?_
   rintro e W3 ⟨hb3,hp⟩
   have HB3:=Lib.hid (HB2.out.trans (hb3.mono HB2.out.size))
   have HV1:=Lib.hid (blk_below HX1.out hb3 (blk_lt HX1.out))
   have HV2:=Lib.hid (blk_below HX2.out hb3 (blk_lt HX2.out))
   have hl3:=blk_lt HX2.out
   clear hb3 a0 a1 a2 k0 k1 r0 r1 r2 g0 g1
   obtain ⟨_,_,_,_,r0,r1,r2⟩:=blk3 HV1.out
   obtain ⟨_,_,_,g0,g1⟩:=blk2 HV2.out
   cases mres with
   | no c p =>
    have HP:=Lib.hid hp
    clear hp
    obtain rfl:=HP.out
    go_wp2
    refine post_gen (fun Wf=>REnd w (.slice none 0 0) (.slice none 0 0) (.int .i64 0) (.int .i64 c) (.int .i64 p) Wf) (rend1 HV1.out HV2.out HB3.out _ _ _ _ _) ?_
    rintro Wf ⟨e1,e2,e3⟩
    obtain ⟨_,c0,c1,c2,_⟩:=blk3 e1
    obtain ⟨_,d0,d1,_⟩:=blk2 e2
    exact bodyPost_ret (v:=.tuple #[.agg #[.slice none 0 0,.slice none 0 0,.int .i64 0],.agg #[.int .i64 c,.int .i64 p]]) (by simp [results,Tryz.results8,go_sem,c0,c1,c2,d0,d1]) rfl (by rw [HRES.out];exact sch_no e3)
   | ok S =>
    obtain ⟨L,E,lv,ev,rfl,h1,h2,hrows⟩:=hp
    have H1:=Lib.hid h1
    have H2:=Lib.hid h2
    have HROWS:=Lib.hid hrows
    obtain ⟨la,lc,va,vc,rfl,rfl⟩:=hrows.forms
    generalize hrt:S.root=root at *
    have HRT:=Lib.hid hrt
    have hl4:=blk_lt HX2.out
    clear h1 h2 hrows hrt
    go_wp2
    refine post_gen (fun Wf=>REnd w (.slice la L.length lc) (.slice va E.length vc) (.int .i64 root) (.int .i64 0) (.int .i64 0) Wf∧SchRows w.heap.size Wf L E (.slice la L.length lc) (.slice va E.length vc)) ⟨rend1 HV1.out HV2.out HB3.out _ _ _ _ _,SchRows.base (SchRows.set32 (g:=w.heap.size) HROWS.out hl4 _ _ _ _ _) HB2.out.size⟩ ?_
    rintro Wf ⟨⟨e1,e2,e3⟩,e4⟩
    obtain ⟨_,c0,c1,c2,_⟩:=blk3 e1
    obtain ⟨_,d0,d1,_⟩:=blk2 e2
    refine bodyPost_ret (v:=.tuple #[.agg #[.slice la L.length lc,.slice va E.length vc,.int .i64 root],.agg #[.int .i64 0,.int .i64 0]]) (by simp [results,Tryz.results8,go_sem,c0,c1,c2,d0,d1]) rfl ?_
    rw [HRES.out]
    refine ⟨e3,L,E,_,_,?_,H1.out,H2.out,e4⟩
    rw [HRT.out]
 · have HRES:=Lib.hid (HRM.out.trans (if_neg hc))
   have t1:(code==0)=false:=by simpa using hc
   have t2:(code != 0)=true:=by simpa using hc
   clear hc HRM
   go_wp2_with fail
   go_region
   all_goals
    simp only [Exit.then]
    apply_assumption
    go_wp2
    refine post_gen (fun Wf=>REnd w (.slice none 0 0) (.slice none 0 0) (.int .i64 0) (.int .i64 code) (.int .i64 place) Wf) (by first|exact (rend1 HX1.out HX2.out HB2.out _ _ _ _ _).drew|exact (rend2 HX1.out HX2.out HB2.out _ _ _ _ _).drew) ?_
    rintro Wf ⟨e1,e2,e3⟩
    obtain ⟨_,c0,c1,c2,_⟩:=blk3 e1
    obtain ⟨_,d0,d1,_⟩:=blk2 e2
    exact bodyPost_ret (v:=.tuple #[.agg #[.slice none 0 0,.slice none 0 0,.int .i64 0],.agg #[.int .i64 code,.int .i64 place]]) (by simp [results,Tryz.results8,go_sem,c0,c1,c2,d0,d1]) rfl (by rw [HRES.out];exact sch_no e3)
end Go.Proofs.YtokhnoogkdlidaaGreatDoor
namespace Go.Proofs.YtokhnoogkdlidaaGreatDoor
open Go.ChangeShapes Go.WideShapes Go.ChangeAt Go.RowKit Go.Shelf
def SSays (r:MRes Sch)(ss:List SRec)(es:List SCho)(rt:Nat)(c:Int)(p:Nat):Prop:=
 match r with
 | .no c' p'=>ss=[]∧es=[]∧rt=0∧c=c'∧p=p'
 | .ok S=>ss=S.structs∧es=S.enums∧rt=S.root∧c=0∧p=0
theorem schrows_nil (base:Nat)(W:World):SchRows base W [] [] (.slice none 0 0) (.slice none 0 0):=⟨World.ownsRow_nil _ _ _ _,World.ownsRow_nil _ _ _ _,(fun q hq=>by cases hq),(fun q hq=>by cases hq)⟩
theorem sch_form {w w':World}{r:MRes Sch}{e:Ending}(h:SchPost w r e w'):∃ (ss:List (SRec × Value)) (es:List (SCho × Value)) (sa:Option Addr) (sc:Nat) (ea:Option Addr) (ec:Nat) (rt:Nat) (c:Int) (p:Nat),
  e=.returned (.tuple #[.agg #[.slice sa ss.length sc,.slice ea es.length ec,.int .i64 rt],.agg #[.int .i64 c,.int .i64 (p:Nat)]])∧SchRows w.heap.size w' ss es (.slice sa ss.length sc) (.slice ea es.length ec)∧SSays r (ss.map Prod.fst) (es.map Prod.fst) rt c p∧Below w.heap.size w w':=by
 obtain ⟨hb,h⟩:=h
 cases r with
 | no c p=>exact ⟨[],[],none,0,none,0,0,c,p,h,schrows_nil _ _,⟨rfl,rfl,rfl,rfl,rfl⟩,hb⟩
 | ok S =>
  obtain ⟨ss,es,sv,ev,rfl,h1,h2,hr⟩:=h
  obtain ⟨sa,sc,ea,ec,rfl,rfl⟩:=hr.forms
  exact ⟨ss,es,sa,sc,ea,ec,S.root,0,0,rfl,hr,⟨h1.symm,h2.symm,rfl,rfl,rfl⟩,hb⟩
def RRPost (w:World)(r:MRes Sch)(e:Ending)(w':World):Prop:=∃ (ss:List (SRec × Value)) (es:List (SCho × Value)) (sa:Option Addr) (sc:Nat) (ea:Option Addr) (ec:Nat) (rt:Nat) (c:Int) (p:Nat),
    e=.returned (.tuple #[.agg #[.slice sa ss.length sc,.slice ea es.length ec,.int .i64 rt],.int .i64 c,.int .i64 (p:Nat)])∧SchRows w.heap.size w' ss es (.slice sa ss.length sc) (.slice ea es.length ec)∧SSays r (ss.map Prod.fst) (es.map Prod.fst) rt c p∧Below w.heap.size w w'
theorem rm_form {w w':World}{r:MRes Sch}{e:Ending}(h:RMakePost w r e w'):RRPost w r e w':=by
 obtain ⟨hb,h⟩:=h
 cases r with
 | no c p=>exact ⟨[],[],none,0,none,0,0,c,p,h,schrows_nil _ _,⟨rfl,rfl,rfl,rfl,rfl⟩,hb⟩
 | ok S =>
  obtain ⟨ss,es,sv,ev,rfl,h1,h2,hr⟩:=h
  obtain ⟨sa,sc,ea,ec,rfl,rfl⟩:=hr.forms
  exact ⟨ss,es,sa,sc,ea,ec,S.root,0,0,rfl,hr,⟨h1.symm,h2.symm,rfl,rfl,rfl⟩,hb⟩
def set3 (W:World)(g:Nat)(x y z:Value):World:=((W.setCell ⟨g,0,none⟩ x).setCell ⟨g,1,none⟩ y).setCell ⟨g,2,none⟩ z
theorem SchRows.set3 {base g:Nat}{W:World}{ss:List (SRec × Value)}{es:List (SCho × Value)}{sv ev:Value}(h:SchRows base W ss es sv ev)(hg:g<base)(x y z:Value):SchRows base (set3 W g x y z) ss es sv ev:=(((h.keep3 hg x).keep3 hg y).keep3 hg z)
set_option maxRecDepth 100000 in
set_option maxHeartbeats 4000000 in
theorem rref_any (s:ByteArray)(w:World)(hT:Tabs w)(hs:s.size≤9223372036854775807) :
  Calls Tryz.prog 7 #[.string s] w (RRPost w (readM s)):=by
 have HZ:=Lib.hid (heap_alloc_new w (.cells #[.slice none 0 0,.slice none 0 0,.int .i64 0] 30))
 have HB:=Lib.hid ((Below.refl w.heap.size w).alloc (Nat.le_refl _) (.cells #[.slice none 0 0,.slice none 0 0,.int .i64 0] 30))
 have HT:=Lib.hid hT
 have HS:=Lib.hid hs
 clear hT hs
 go_enter Tryz.func7,Tryz.ntmps7
 go_upto_region 1 with (fail)
 generalize w.alloc (.cells #[.slice none 0 0,.slice none 0 0,.int .i64 0] 30)=W0 at *
 go_wp2_with fail
 refine (dparse_any s W0 (HT.out.below (Nat.le_refl _) HB.out) HS.out).mono ?_
 rintro e W1 ⟨ss,es,ts,sv,ev,rv,rfl,hx,hr,hb1⟩
 obtain ⟨sa,sc,ea,ec,ra,rc,rfl,rfl,rfl⟩:=hr.forms
 have HOK:=Lib.hid (hx▸rawT_ok s)
 have HRM:Hid (readM s=if (rawT s).2.1=0 then makeM (rawOf ss es ts) else .no (rawT s).2.1 (rawT s).2.2):=Lib.hid (by unfold readM;rw [hx])
 generalize readM s=res at *
 generalize (rawT s).2.1=code at *
 generalize (rawT s).2.2=place at *
 have HB1:=Lib.hid (HB.out.trans (hb1.mono HB.out.size))
 have HZ1:=Lib.hid (blk_below HZ.out hb1 (blk_lt HZ.out))
 have HR:=Lib.hid hr
 clear hx hr hb1 HZ
 go_upto_region 2 with (fail)
 have hba:Below W1.heap.size W1 (W1.alloc (.cells #[.slice sa ss.length sc,.slice ea es.length ec,.slice ra ts.length rc] 68)):=(Below.refl _ _).alloc (Nat.le_refl _) _
 have HN:=Lib.hid (heap_alloc_new W1 (.cells #[.slice sa ss.length sc,.slice ea es.length ec,.slice ra ts.length rc] 68))
 have HB2:=Lib.hid (HB1.out.trans (hba.mono HB1.out.size))
 have HR2:=Lib.hid (HR.out.below hba)
 have HZ2:=Lib.hid (blk_below HZ1.out hba (blk_lt HZ1.out))
 generalize W1.alloc (.cells #[.slice sa ss.length sc,.slice ea es.length ec,.slice ra ts.length rc] 68)=W2 at *
 obtain ⟨_,a0,a1,a2,_⟩:=blk3 HN.out
 clear hba HB1 HR HZ1
 by_cases hc:code=0
 · subst hc
   have HRES:=Lib.hid (HRM.out.trans (if_pos rfl))
   have HMK:=Lib.hid (rmake_any HR2.out HOK.out)
   clear HRM
   generalize makeM (rawOf ss es ts)=mres at *
   go_wp2_with fail
   refine HMK.out.mono ?_
   rintro e W3 hp
   obtain ⟨L,E,la,lc,va,vc,rt,c,p,rfl,hrows,hsays,hb3⟩:=rm_form hp
   have HB3:=Lib.hid (HB2.out.trans (hb3.mono HB2.out.size))
   have HZ3:=Lib.hid (blk_below HZ2.out hb3 (blk_lt HZ2.out))
   have HROWS:=Lib.hid hrows
   have HSAYS:=Lib.hid hsays
   obtain ⟨_,_,_,_,r0,r1,r2⟩:=blk3 HZ3.out
   have hl:=blk_lt HZ2.out
   clear hp hrows hsays hb3 a0 a1 a2
   go_wp2
   refine post_gen (fun Wf=>Wf.heap[w.heap.size]?=some (.cells #[.slice la L.length lc,.slice va E.length vc,.int .i64 rt] 30 (0,0))∧Below w.heap.size w Wf∧SchRows w.heap.size Wf L E (.slice la L.length lc) (.slice va E.length vc)) ⟨blk_set3 HZ3.out _ _ _,bel_put HB3.out (Nat.le_refl _) _ _ _,SchRows.base (SchRows.set3 (g:=w.heap.size) HROWS.out hl _ _ _) HB2.out.size⟩ ?_
   rintro Wf ⟨e1,e2,e3⟩
   obtain ⟨_,c0,c1,c2,_⟩:=blk3 e1
   exact bodyPost_ret (v:=.tuple #[.agg #[.slice la L.length lc,.slice va E.length vc,.int .i64 rt],.int .i64 c,.int .i64 p]) (by simp [results,Tryz.results7,go_sem,c0,c1,c2]) rfl ⟨L,E,la,lc,va,vc,rt,c,p,rfl,e3,by rw [HRES.out];exact HSAYS.out,e2⟩
 · have HRES:=Lib.hid (HRM.out.trans (if_neg hc))
   have t1:(code==0)=false:=by simpa using hc
   have t2:(code != 0)=true:=by simpa using hc
   obtain ⟨_,_,_,_,r0,r1,r2⟩:=blk3 HZ2.out
   clear hc HRM a0 a1 a2
   go_wp2
   refine post_gen (fun Wf=>Wf.heap[w.heap.size]?=some (.cells #[.slice none 0 0,.slice none 0 0,.int .i64 0] 30 (0,0))∧Below w.heap.size w Wf) ⟨blk_set3 HZ2.out _ _ _,bel_put HB2.out (Nat.le_refl _) _ _ _⟩ ?_
   rintro Wf ⟨e1,e2⟩
   obtain ⟨_,c0,c1,c2,_⟩:=blk3 e1
   exact bodyPost_ret (v:=.tuple #[.agg #[.slice none 0 0,.slice none 0 0,.int .i64 0],.int .i64 code,.int .i64 place]) (by simp [results,Tryz.results7,go_sem,c0,c1,c2]) rfl ⟨[],[],none,0,none,0,0,code,place,rfl,schrows_nil _ _,by rw [HRES.out];exact ⟨rfl,rfl,rfl,rfl,rfl⟩,e2⟩
end Go.Proofs.YtokhnoogkdlidaaGreatDoor
