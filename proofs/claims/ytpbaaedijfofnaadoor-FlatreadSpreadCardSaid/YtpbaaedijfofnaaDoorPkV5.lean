/-
  The package layout's small functions (Bits, number, multiple, Inline) and the document's own. Conditions: those that each theorem names.
-/
import Derived.Test.YtpbaaedijfofnaaDoorPkV2
import Derived.Test.YtpbaaedijfofnaaDoorPkV3
import Derived.Test.YtpbaaedijfofnaaDoorPkV4
import Derived.Deep.Cut
import Derived.Deep.AppendLies
import Derived.OwnWalk
namespace Go.Proofs.YtpbaaedijfofnaaDoor
open Go.ChangeShapes Go.WideShapes Go.ChangeAt Go.RowKit Go.Shelf
theorem rws_ne {w:World}{b b':Nat}{e e':TypeId}{s s':Nat}{v v':Value}{n n':Nat}{xs xs':List Value}(h:w.ownsRow b e s v n xs)(h':w.ownsRow b' e' s' v' n' xs')(hne:e≠e'):∀ k,v.ownBlock=some k→v'.ownBlock≠some k:=by
 intro k hk hk'
 rcases h.2 with ⟨rfl,_⟩|⟨g,cap,cur,rfl,_,hg,_⟩
 · simp [Value.ownBlock] at hk
 rcases h'.2 with ⟨rfl,_⟩|⟨g',cap',cur',rfl,_,hg',_⟩
 · simp [Value.ownBlock] at hk'
 simp [Value.ownBlock] at hk hk'
 subst hk
 subst hk'
 rw [hg] at hg'
 injection hg' with hg'
 injection hg' with _ ht
 exact hne ht
theorem rws_other {w w':World}{row:Option Nat}(hg:w.grownBy w' row){b:Nat}{e:TypeId}{s:Nat}{v:Value}{n:Nat}{xs:List Value}(h:w.ownsRow b e s v n xs)(hne:∀ k,v.ownBlock=some k→row≠some k):w'.ownsRow b e s v n xs:=by
 obtain ⟨hl,h'⟩:=h
 refine ⟨hl,?_⟩
 rcases h' with h1|⟨g',cap',cur,hv,h1,hg',h2⟩
 · exact .inl h1
 · have hlt:=blk_lt hg'
   subst hv
   exact .inr ⟨g',cap',cur,rfl,h1,(hg.block g' hlt (fun e=>hne g' (by simp [Value.ownBlock]) e.symm)).trans hg',h2⟩
theorem step2 {C:Nat}{w0 wr W2 W8:World}{nm nv v4:Value}{ty e:TypeId}{sz n m:Nat}{xs xs':List Value}(hb:Below C w0 wr)(hC:wr.heap[C]?=some (.cells #[nm,nv] ty (0,0)))(hrow:wr.ownsRow (C+1) e sz nv n xs)(h2:Below wr.heap.size wr W2)
  (hg:W2.grownBy W8 nv.ownBlock) (ho:W8.ownsRow (C+1) e sz v4 m xs') :
  Below C w0 (W8.setCell ⟨C,1,none⟩ v4)∧(W8.setCell ⟨C,1,none⟩ v4).heap[C]?=some (.cells #[nm,v4] ty (0,0))∧(W8.setCell ⟨C,1,none⟩ v4).ownsRow (C+1) e sz v4 m xs'∧W8.heap[C]?=some (.cells #[nm,nv] ty (0,0)):=by
 have hlt:=blk_lt hC
 have hC8:W8.heap[C]?=some (.cells #[nm,nv] ty (0,0)):=(hg.block C (Nat.lt_of_lt_of_le hlt h2.size) (fun e=>by have:=(ownsRow_lt hrow C e.symm).1;omega)).trans ((h2.block C hlt).trans hC)
 exact ⟨((hb.trans (h2.mono (Nat.le_of_lt hlt))).grown hg (by have:=h2.size;omega) (fun k hk=>by have:=(ownsRow_lt hrow k hk).1;omega)).setCell (Nat.le_refl _) v4,(blk_set hC8 1 v4).trans rfl,ownsRow_setCell_below ho (Nat.lt_succ_self C) v4,hC8⟩
theorem two_str (W:World)(x y:Int):(convert 22 9 (.slice (some ⟨W.heap.size,0,none⟩) 2 2)).run Tryd.prog (W.alloc (.cells #[.int .u8 x,.int .u8 y] 5))=.ok (.string (strOfNums [x,y])) (W.alloc (.cells #[.int .u8 x,.int .u8 y] 5)):=by
 refine run_convert_bytes_arg (P:=Tryd.prog) _ 22 5 Tryd.underlying22 Tryd.underlying5 W.heap.size 0 2 2 [x,y] rfl (fun k hk=>?_) 9 Tryd.underlying9
 have:k=0∨k=1:=by omega
 rcases this with rfl|rfl
 · rw [cell_of_row _ _ _ _ _ (0,0) (heap_alloc_new W _)]
   rfl
 · rw [cell_of_row _ _ _ _ _ (0,0) (heap_alloc_new W _)]
   rfl
def valsL (k:Nat):List ByteArray:=(List.range k).map valName
theorem valsL_succ (k:Nat):valsL (k+1)=valsL k++[valName k]:=by simp [valsL,List.range_succ]
theorem valsL_length (k:Nat):(valsL k).length=k:=by simp [valsL]
theorem strsCells_succ (k:Nat):strsCells (valsL (k+1))=strsCells (valsL k)++[.string (valName k)]:=by rw [valsL_succ,strsCells_snoc];rfl
set_option maxRecDepth 100000 in
theorem vals_wp {Q:Exit→Act→World→Prop}{c:Act}{w0:World}{b i C n0 c0 z B off:Nat}{x1 x2 x3 nm:Value}(hc:FrB b i C 0 c)(hbox:w0.heap[b]?=some (.cells #[.slice (some ⟨B,off,none⟩) n0 c0,x1,x2,x3] 25 (0,0)))(hbC:b<C)(hBC:B<C)
  (hz:w0.cell? ⟨B,off+i,none⟩=some (.int .u8 z)) (hz2:z≤255) (hi:i<n0) (hC:w0.heap[C]?=some (.cells #[nm,.slice none 0 0] 90 (0,0)))
  (hQ:∀ c' w' nv,FrB b i C (z % 32+1) c'→Below C w0 w'→w'.heap[C]?=some (.cells #[nm,nv] 90 (0,0))→w'.ownsRow (C+1) 9 1 nv (z % 32+1) (strsCells (valsL (z % 32+1)))→Q (.exit 2) c' w') :
  Code.wp Tryd.prog (Code.loop (madeLoop 1)) Q c w0:=by
 refine wp_loop (fun c' w'=>∃ (k:Nat) (nv:Value),k≤z % 32+1∧FrB b i C k c'∧Below C w0 w'∧w'.heap[C]?=some (.cells #[nm,nv] 90 (0,0))∧w'.ownsRow (C+1) 9 1 nv k (strsCells (valsL k)))
  (fun c' _=>z % 32+2-(intOf (c'.tmps.getD 7 undef)).toNat) ⟨0,_,Nat.zero_le _,hc,Below.refl _ _,hC,World.ownsRow_nil _ _ _ _⟩ ?_
 clear hc hC
 rintro c wr ⟨k,nv,hk,hc,hb,hC,hrow⟩
 have HB:=Lib.hid hb
 have HQ:=Lib.hid hQ
 have HCB:=Lib.hid hC
 have HROW:=Lib.hid hrow
 obtain ⟨u,rfl⟩:=frb_lit hc
 have hbx:=blk_below hbox hb hbC
 have y0:=(blk_cell hbx 0).trans rfl
 have hq:=(hb.cell (p:=⟨B,off+i,none⟩) hBC).trans hz
 have hmod:(z:Int) % 32=((z % 32:Nat):Int):=by omega
 have hz32:z % 32<32:=by omega
 obtain ⟨nva,nvc,rfl⟩:=ownsRow_form hrow
 obtain ⟨hCl,c0',c1',f0,f1⟩:=blk2 hC
 obtain ⟨i0,hi0,hzz0,hzz1,hzz2⟩:=info_parts str_info
 have I1:=Lib.hid hi0
 have I2:=Lib.hid hzz0
 have I3:=Lib.hid hzz1
 have I4:=Lib.hid hzz2
 have kc:=two_str
 generalize z % 32=cn at *
 clear hc hQ hb hC hrow hbx hz hbox hi0 hzz0 hzz1 hzz2
 conv=>arg 2;whnf
 by_cases hkl:k≤cn
 · have hsz:¬9223372036854775807<1+(strOfNums [97+(k:Int) % 26,97+(k:Int) / 26]).size:=by rw [strOfNums_size];simp
   obtain ⟨hb2,hB1,hB2⟩:=two_start wr #[.int .u8 (97+(k:Int) % 26),.int .u8 (97+(k:Int) / 26)] #[.string (valName k)] 5 9
   have HB2:=Lib.hid hb2
   have HBB:=Lib.hid hB2
   clear hb2 hB1 hB2
   go_wp2_with (at_builtin;refine wpList_append_own _ rfl (.tmp 65) (.tmp 77) 88 rfl (C+1) 9 i0 _ 1 16 Tryd.underlying88 I1.out I2.out I3.out I4.out rfl (by decide) _ k (strsCells (valsL k)) rfl (row_keep HB2.out HROW.out) _ 1 1 [.string (valName k)] rfl rfl (World.news_of_block HBB.out) (by intro u hu;rw [List.mem_singleton.1 hu];rfl) (by unfold maxLen;omega) (by omega) (by simp;omega) ?_;intro v4 W8 hown4 hg4 hx;clear hx;obtain ⟨s1,s2,s3,s4⟩:=step2 HB.out HCB.out HROW.out HB2.out hg4 hown4;obtain ⟨_,d0,d1,e0,e1⟩:=blk2 s4;have S1:=Lib.hid s1;have S2:=Lib.hid s2;have S3:=Lib.hid s3;obtain ⟨a4,m4,rfl⟩:=ownsRow_form hown4;clear s1 s2 s3 s4 hown4 hg4)
   refine ⟨⟨k+1,_,by omega,⟨rfl,rfl,rfl,rfl,rfl,rfl,rfl,rfl,rfl⟩,S1.out,S2.out,by rw [strsCells_succ];exact S3.out⟩,?_⟩
   show cn+2-(intOf (.int .i64 ((k:Int)+1))).toNat<cn+2-(intOf (.int .i64 (k:Int))).toNat
   simp [intOf];omega
 · obtain rfl:k=cn+1:=by omega
   clear hkl
   go_wp2
   exact HQ.out _ _ _ ⟨rfl,rfl,rfl,rfl,rfl,rfl,rfl,rfl,rfl⟩ HB.out HCB.out HROW.out
end Go.Proofs.YtpbaaedijfofnaaDoor
namespace Go.Proofs.YtpbaaedijfofnaaDoor
open Go.ChangeShapes Go.WideShapes Go.ChangeAt Go.RowKit Go.Shelf
structure CFld where
 name:ByteArray
 kind:Nat
 ref:Int
 lists:Int
 dflt:Nat
structure CRec where
 name:ByteArray
 fields:List CFld
structure CSch where
 structs:List CRec
 enums:List SCho
 root:Int
def cfldCells (f:CFld):List Value:=[.string f.name,.int .u8 f.kind,.int .i64 f.ref,.int .i64 f.lists,.int .u64 f.dflt]
def cfldsCells (l:List CFld):List Value:=l.flatMap cfldCells
def crecCells (q:CRec × Value):List Value:=[.string q.1.name,q.2]
def crecsCells (l:List (CRec × Value)):List Value:=l.flatMap crecCells
structure CRows (base:Nat)(W:World)(ss:List (CRec × Value))(es:List (SCho × Value))(sv ev:Value):Prop where
 structs:W.ownsRow base 67 2 sv ss.length (crecsCells ss)
 enums:W.ownsRow base 90 2 ev es.length (schosCells es)
 fields:∀ q ∈ ss,W.ownsRow base 64 5 q.2 q.1.fields.length (cfldsCells q.1.fields)
 names:∀ q ∈ es,W.ownsRow base 9 1 q.2 q.1.names.length (strsCells q.1.names)
theorem CRows.below {base:Nat}{W W':World}{ss:List (CRec × Value)}{es:List (SCho × Value)}{sv ev:Value}(h:CRows base W ss es sv ev)(hb:Below W.heap.size W W'):CRows base W' ss es sv ev:=
 ⟨row_keep hb h.structs,row_keep hb h.enums,fun q hq=>row_keep hb (h.fields q hq),fun q hq=>row_keep hb (h.names q hq)⟩
theorem CRows.forms {base:Nat}{W:World}{ss:List (CRec × Value)}{es:List (SCho × Value)}{sv ev:Value}(h:CRows base W ss es sv ev):∃ sa sc ea ec,sv=.slice sa ss.length sc∧ev=.slice ea es.length ec:=by
 obtain ⟨sa,sc,h1⟩:=ownsRow_form h.structs
 obtain ⟨ea,ec,h2⟩:=ownsRow_form h.enums
 exact ⟨sa,sc,ea,ec,h1,h2⟩
def cF (f:SFld):CFld:=⟨f.name,f.kind,(f.ref:Nat),(f.lists:Nat),f.dflt⟩
def cR (r:SRec):CRec:=⟨r.name,r.fields.map cF⟩
def cS (S:Sch):CSch:=⟨S.structs.map cR,S.enums,(S.root:Nat)⟩
theorem cflds_eq (l:List SFld):cfldsCells (l.map cF)=sfldsCells l:=by
 unfold cfldsCells sfldsCells
 rw [List.flatMap_map]
 rfl
theorem crecs_eq (l:List (SRec × Value)):crecsCells (l.map fun q=>(cR q.1,q.2))=srecsCells l:=by
 unfold crecsCells srecsCells
 rw [List.flatMap_map]
 rfl
theorem SchRows.crows {base:Nat}{W:World}{ss:List (SRec × Value)}{es:List (SCho × Value)}{sv ev:Value}(h:SchRows base W ss es sv ev):CRows base W (ss.map fun q=>(cR q.1,q.2)) es sv ev:=by
 refine ⟨by rw [crecs_eq,List.length_map];exact h.structs,h.enums,fun q hq=>?_,h.names⟩
 obtain ⟨p,hp,rfl⟩:=List.mem_map.1 hq
 show W.ownsRow base _ 5 p.2 (p.1.fields.map cF).length (cfldsCells (p.1.fields.map cF))
 rw [cflds_eq,List.length_map]
 exact h.fields p hp
def numTB (k:Nat)(lists:Int):Bool:=decide (lists=0)&&decide (0<kSize k)
def fitsT (es:List SCho)(k:Nat)(ref lists:Int)(n:Nat):Bool:=
 if numTB k lists=false then false else if k=1 then decide (n≤1) else
  if k=10 then decide (0≤ref∧ref<es.length)&&decide (n<(es.getD ref.toNat ⟨⟨#[]⟩,[]⟩).names.length) else
   if kSign k=true then decide (sgnOf n (kSize k)=n) else decide (n / 2 ^ (8 * (kSize k).toNat)=0)
end Go.Proofs.YtpbaaedijfofnaaDoor
namespace Go.Proofs.YtpbaaedijfofnaaDoor
open Go.ChangeShapes Go.WideShapes Go.ChangeAt Go.RowKit Go.Shelf
structure SchAt (A:Nat)(W:World)(ss:List (SRec × Value))(es:List (SCho × Value))(sv ev:Value)(rt:Nat):Prop where
 blk:W.heap[A]?=some (.cells #[sv,ev,.int .i64 rt] 30 (0,0))
 rows:SchRows (A+1) W ss es sv ev
theorem SchAt.below {A rt:Nat}{W W':World}{ss:List (SRec × Value)}{es:List (SCho × Value)}{sv ev:Value}(h:SchAt A W ss es sv ev rt)(hb:Below W.heap.size W W'):SchAt A W' ss es sv ev rt:=
 ⟨blk_below h.blk hb (blk_lt h.blk),h.rows.below hb⟩
theorem mem_snc {α:Type}{l:List α}{a p:α}(h:p ∈ l++[a]):p ∈ l∨p=a:=by
 rcases List.mem_append.1 h with h|h
 · exact .inl h
 · exact .inr (List.mem_singleton.1 h)
theorem SchAt.enum {A rt:Nat}{W W4:World}{ss:List (SRec × Value)}{es:List (SCho × Value)}{sv ev:Value}(h:SchAt A W ss es sv ev rt){q:SCho × Value}(hq:W.ownsRow (A+1) 9 1 q.2 q.1.names.length (strsCells q.1.names))
  (hg:W.grownBy W4 ev.ownBlock) {ev':Value} (hown:W4.ownsRow (A+1) 90 2 ev' (es.length+1) (schosCells es++schoCells q)):SchAt A (W4.setCell ⟨A,1,none⟩ ev') ss (es++[q]) sv ev' rt:=by
 have hA:∀ k,ev.ownBlock=some k→A≠k:=fun k hk=>by have:=(ownsRow_lt h.rows.enums k hk).1;omega
 have hb4:W4.heap[A]?=some (.cells #[sv,ev,.int .i64 rt] 30 (0,0)):=(hg.block A (blk_lt h.blk) (fun e=>hA A e.symm rfl)).trans h.blk
 have key:∀ {e:TypeId} {s:Nat} {v:Value} {n:Nat} {xs:List Value},W.ownsRow (A+1) e s v n xs→e≠90 → (W4.setCell ⟨A,1,none⟩ ev').ownsRow (A+1) e s v n xs:=fun ho hne =>
  ownsRow_setCell_below (rws_other hg ho (rws_ne ho h.rows.enums hne)) (Nat.lt_succ_self A) _
 refine ⟨(blk_set hb4 1 ev').trans rfl,key h.rows.structs (by decide),?_,fun r hr=>key (h.rows.fields r hr) (by decide),fun r hr=>?_⟩
 · rw [schosCells_snoc,List.length_append]
   exact ownsRow_setCell_below hown (Nat.lt_succ_self A) _
 · rcases mem_snc hr with hr|rfl
   · exact key (h.rows.names r hr) (by decide)
   · exact key hq (by decide)
theorem SchAt.strct {A rt:Nat}{W W4:World}{ss:List (SRec × Value)}{es:List (SCho × Value)}{sv ev:Value}(h:SchAt A W ss es sv ev rt){q:SRec × Value}(hq:W.ownsRow (A+1) 64 5 q.2 q.1.fields.length (sfldsCells q.1.fields))
  (hg:W.grownBy W4 sv.ownBlock) {sv':Value} (hown:W4.ownsRow (A+1) 67 2 sv' (ss.length+1) (srecsCells ss++srecCells q)):SchAt A (W4.setCell ⟨A,0,none⟩ sv') (ss++[q]) es sv' ev rt:=by
 have hA:∀ k,sv.ownBlock=some k→A≠k:=fun k hk=>by have:=(ownsRow_lt h.rows.structs k hk).1;omega
 have hb4:W4.heap[A]?=some (.cells #[sv,ev,.int .i64 rt] 30 (0,0)):=(hg.block A (blk_lt h.blk) (fun e=>hA A e.symm rfl)).trans h.blk
 have key:∀ {e:TypeId} {s:Nat} {v:Value} {n:Nat} {xs:List Value},W.ownsRow (A+1) e s v n xs→e≠67 → (W4.setCell ⟨A,0,none⟩ sv').ownsRow (A+1) e s v n xs:=fun ho hne =>
  ownsRow_setCell_below (rws_other hg ho (rws_ne ho h.rows.structs hne)) (Nat.lt_succ_self A) _
 refine ⟨(blk_set hb4 0 sv').trans rfl,?_,key h.rows.enums (by decide),fun r hr=>?_,fun r hr=>key (h.rows.names r hr) (by decide)⟩
 · rw [srecsCells_snoc,List.length_append]
   exact ownsRow_setCell_below hown (Nat.lt_succ_self A) _
 · rcases mem_snc hr with hr|rfl
   · exact key (h.rows.fields r hr) (by decide)
   · exact key hq (by decide)
structure MKeeps (w:World)(b:Nat)(x0 x1:Value)(rt:Nat)(tree:Bool)(W:World):Prop where
 hb:b=w.heap.size
 box:W.heap[b]?=some (.cells #[x0,x1,.int .u8 rt,.bool tree] 25 (0,0))
 res:W.heap[b+1]?=some (.cells #[.slice none 0 0,.slice none 0 0,.int .i64 0] 30 (0,0))
 bel:Below b w W
theorem MKeeps.below {w W W':World}{x0 x1:Value}{b rt B:Nat}{tree:Bool}(h:MKeeps w b x0 x1 rt tree W)(hb:Below B W W')(hB:b+2≤B):MKeeps w b x0 x1 rt tree W':=
 ⟨h.hb,blk_below h.box hb (by omega),blk_below h.res hb (by omega),h.bel.trans (hb.mono (by omega))⟩
theorem bel_app {A:Nat}{W W2 W4:World}{row:Option Nat}(h2:Below W.heap.size W W2)(hA:A<W.heap.size)(hg:W2.grownBy W4 row)(hr:∀ k,row=some k→A≤k)(i:Nat)(v:Value):Below A W (W4.setCell ⟨A,i,none⟩ v):=
 ((h2.mono (Nat.le_of_lt hA)).grown hg (by have:=h2.size;omega) hr).setCell (p:=⟨A,i,none⟩) (Nat.le_refl _) v
set_option maxRecDepth 100000 in
set_option maxHeartbeats 4000000 in
theorem enums_wp {Q:Exit→Act→World→Prop}{c:Act}{w w0:World}{p:Plan}{a0 a1:Option Addr}{n0 c0 n1 c1 b rt:Nat}(hp:IsPlan w p a0 n0 c0 a1 n1 c1)(h8:n0≤8)(hc:FrA b 0 c)
  (hk:MKeeps w b (.slice a0 n0 c0) (.slice a1 n1 c1) p.root p.tree w0) (hs:SchAt (b+2) w0 [] [] (.slice none 0 0) (.slice none 0 0) rt)
  (hQ:∀ c' w' es ev,FrA b n0 c'→MKeeps w b (.slice a0 n0 c0) (.slice a1 n1 c1) p.root p.tree w'→SchAt (b+2) w' [] es (.slice none 0 0) ev rt→es.map Prod.fst=chosP p n0→Q (.exit 0) c' w') :
  Code.wp Tryd.prog (Code.loop (madeLoop 0)) Q c w0:=by
 refine wp_loop (fun c' w'=>∃ (i:Nat) (es:List (SCho × Value)) (ev:Value),i≤n0∧FrA b i c'∧MKeeps w b (.slice a0 n0 c0) (.slice a1 n1 c1) p.root p.tree w'∧SchAt (b+2) w' [] es (.slice none 0 0) ev rt∧es.map Prod.fst=chosP p i)
  (fun c' _=>n0-(intOf (c'.tmps.getD 5 undef)).toNat) ⟨0,[],_,Nat.zero_le _,hc,hk,hs,rfl⟩ ?_
 clear hc hk hs
 rintro c wr ⟨i,es,ev,hi,hc,hk,hs,hes⟩
 have HP:=Lib.hid hp
 have HQ:=Lib.hid hQ
 have HK:=Lib.hid hk
 have HS:=Lib.hid hs
 have HES:=Lib.hid hes
 have hesl:es.length=i:=by have:=congrArg List.length hes;rw [chosP_length] at this;simpa using this
 obtain ⟨u,rfl⟩:=fra_lit hc
 have y0:=(blk_cell hk.box 0).trans rfl
 have hbl:b+2<wr.heap.size:=blk_lt hs.blk
 clear hc hQ hk hs hp hes
 conv=>arg 2;whnf
 by_cases hlt:i<n0
 · obtain ⟨hz2,B,off,rfl,hB0,hz⟩:=HP.out.e_at i hlt
   have hB:B<b:=by rw [HK.out.hb];exact hB0
   have HNS:Hid ((choP p i).names=valsL (p.enums.getD i 0 % 32+1)):=Lib.hid rfl
   generalize p.enums.getD i 0=z at *
   have HESL:=Lib.hid hesl
   have hesl2:es.length≤8:=by omega
   clear hesl
   have hzr:=(HK.out.bel.cell (p:=⟨B,off+i,none⟩) hB).trans hz
   have kc:=one_str
   have hsz:¬9223372036854775807<1+(strOfNums [97+(i:Int)]).size:=by rw [strOfNums_size];simp
   obtain ⟨hb2,hB1,hB2⟩:=two_start wr #[.int .u8 (97+(i:Int))] #[.string (enumName i),.slice none 0 0] 5 90
   have hzr2:=(hb2.cell (p:=⟨B,off+i,none⟩) (by show B<_;omega)).trans hzr
   have HB2:=Lib.hid hb2
   have HBB:=Lib.hid hB2
   have HZR2:=Lib.hid hzr2
   have HZ2:=Lib.hid hz2
   have HBX:=Lib.hid (blk_below HK.out.box hb2 (by omega))
   clear hz hzr hb2 hB1 hB2 hzr2 hB0
   go_wp2_with fail
   refine vals_wp (C:=wr.heap.size+1) (z:=z) (nm:=.string (enumName i)) ⟨rfl,rfl,rfl,rfl,rfl,rfl,rfl,rfl,rfl⟩ HBX.out (by omega) (by omega) HZR2.out HZ2.out hlt HBB.out ?_
   intro c2 w2 nv hf hbel hC2 hrow2
   obtain ⟨nva,nvc,rfl⟩:=ownsRow_form hrow2
   have hb3:Below wr.heap.size wr w2:=HB2.out.trans (hbel.mono (by omega))
   have hs2:=HS.out.below hb3
   have HS2:=Lib.hid hs2
   have HK2:=Lib.hid (HK.out.below hb3 (by omega))
   have HROW:=Lib.hid hrow2
   obtain ⟨_,z0,z1,z2,f0,f1,f2⟩:=blk3 hs2.blk
   obtain ⟨hCl,d0,d1,_⟩:=blk2 hC2
   obtain ⟨eva,evc,rfl⟩:=ownsRow_form hs2.rows.enums
   obtain ⟨i0,hi0,hzz0,hzz1,hzz2⟩:=info_parts scho_info
   have I1:=Lib.hid hi0
   have I2:=Lib.hid hzz0
   have I3:=Lib.hid hzz1
   have I4:=Lib.hid hzz2
   have hbs:b+2<w2.heap.size:=blk_lt hs2.blk
   have HBN:=Lib.hid (heap_alloc_new w2 (.cells #[.string (enumName i),.slice nva (z % 32+1) nvc] 90))
   have HBA:=Lib.hid ((Below.refl w2.heap.size w2).alloc (Nat.le_refl _) (.cells #[.string (enumName i),.slice nva (z % 32+1) nvc] 90))
   obtain ⟨u2,rfl⟩:=frb_lit hf
   clear hf hbel hC2 hrow2 hb3 hs2 hi0 hzz0 hzz1 hzz2 HS HK y0 kc hsz hz2
   simp only [Exit.inBlock,Exit.then]
   apply_assumption
   go_wp2_with (at_builtin;refine wpList_append_own _ rfl (.tmp 81) (.tmp 83) 28 rfl (b+2+1) 90 i0 _ 2 40 Tryd.underlying28 I1.out I2.out I3.out I4.out rfl (by decide) _ es.length (schosCells es) rfl (row_keep HBA.out HS2.out.rows.enums) _ 1 1 [.string (enumName i),.slice nva (z % 32+1) nvc] rfl rfl (World.news_of_block HBN.out) (by intro u hu;simp at hu;rcases hu with rfl|rfl<;>rfl) (by unfold maxLen;omega) (by omega) (by simp;omega) ?_;intro v4 W8 hown4 hg4 hx;clear hx;obtain ⟨a4,m4,rfl⟩:=ownsRow_form hown4;have s5:=SchAt.enum (q:=(choP p i,.slice nva (z % 32+1) nvc)) (HS2.out.below HBA.out) (by have h:=ownsRow_base (row_keep HBA.out HROW.out) (show b+2+1≤wr.heap.size+1+1 by omega);show World.ownsRow _ _ _ _ _ (choP p i).names.length (strsCells (choP p i).names);rw [HNS.out,valsL_length];exact h) hg4 hown4;have s4:W8.heap[b+2]?=some (.cells #[.slice none 0 0,.slice eva es.length evc,.int .i64 rt] 30 (0,0)):=(hg4.block (b+2) (by simp;omega) (fun e=>by have:=(ownsRow_lt HS2.out.rows.enums _ e.symm).1;omega)).trans (HS2.out.below HBA.out).blk;obtain ⟨_,p0,p1,p2,q0,q1,q2⟩:=blk3 s4;have S5:=Lib.hid s5;have S6:=Lib.hid (bel_app HBA.out hbs hg4 (fun k hk=>by have:=(ownsRow_lt HS2.out.rows.enums k hk).1;omega) 1 (.slice a4 (es.length+1) m4));clear s5 s4 hown4 hg4)
   refine ⟨⟨i+1,_,_,by omega,⟨rfl,rfl,rfl,rfl,rfl,rfl,rfl⟩,HK2.out.below S6.out (Nat.le_refl _),S5.out,by rw [List.map_append,HES.out,chosP_succ];rfl⟩,?_⟩
   show n0-(intOf (.int .i64 ((i:Int)+1))).toNat<n0-(intOf (.int .i64 (i:Int))).toNat
   simp [intOf];omega
 · obtain rfl:i=n0:=by omega
   clear hlt
   go_wp2
   exact HQ.out _ _ _ _ ⟨rfl,rfl,rfl,rfl,rfl,rfl,rfl⟩ HK.out HS.out HES.out
end Go.Proofs.YtpbaaedijfofnaaDoor
namespace Go.Proofs.YtpbaaedijfofnaaDoor
open Go.ChangeShapes Go.WideShapes Go.ChangeAt Go.RowKit Go.Shelf
theorem rnumI_any (k:Nat)(hk:k≤255)(ref lists:Int)(w:World) :
  Calls Tryd.prog 45 #[.agg #[.int .u8 k,.int .i64 ref,.int .i64 lists]] w fun e w'=>e=.returned (.bool (numTB k lists))∧Below w.heap.size w w':=by
 have h0:=heap_alloc_new w (.cells #[.int .u8 k,.int .i64 ref,.int .i64 lists] 62)
 have HB:=Lib.hid ((Below.refl w.heap.size w).alloc (Nat.le_refl _) (.cells #[.int .u8 k,.int .i64 ref,.int .i64 lists] 62))
 obtain ⟨_,x0,x1,x2,_⟩:=blk3 h0
 have hb1:(k:Int)≤255:=by omega
 have HN:Hid (numTB k lists=(decide (lists=0)&&decide (0<kSize k))):=Lib.hid rfl
 generalize numTB k lists=res at *
 clear h0
 by_cases hl:lists=0
 · have HE:=Lib.hid (show res=decide (0<kSize k) by rw [HN.out,decide_eq_true hl,Bool.true_and])
   subst hl
   clear HN
   go_enter Tryd.func45,Tryd.ntmps45
   go_wp2_with fail
   refine (rsize_any _ _).mono ?_
   rintro e W1 ⟨rfl,rfl⟩
   generalize kSize (k:Int)=z at *
   by_cases hs:0<z
   · have HR:=Lib.hid (show res=true by rw [HE.out];exact decide_eq_true hs)
     clear HE
     go_wp2
     go_ret
     exact ⟨ret_bool HR.out.symm,HB.out⟩
   · have HR:=Lib.hid (show decide (0<z)=res from HE.out.symm)
     clear HE
     go_wp2
     go_ret
     exact ⟨ret_bool HR.out,HB.out⟩
 · have HE:=Lib.hid (show res=false by rw [HN.out,decide_eq_false hl,Bool.false_and])
   have t1:(lists==0)=false:=by simpa using hl
   clear HN hl
   go_enter Tryd.func45,Tryd.ntmps45
   go_wp2
   go_ret
   exact ⟨ret_bool HE.out.symm,HB.out⟩
end Go.Proofs.YtpbaaedijfofnaaDoor
namespace Go.Proofs.YtpbaaedijfofnaaDoor
open Go.ChangeShapes Go.WideShapes Go.ChangeAt Go.RowKit Go.Shelf
def cntE (es:List SCho)(ref:Nat):Nat:=(es.getD ref ⟨⟨#[]⟩,[]⟩).names.length
structure NumTy (es:List SCho)(kind ref:Nat):Prop where
 lo:1≤kind
 hi:kind≤10
 en:kind=10→ref<es.length∧1≤cntE es ref
theorem sgn_keep (M m:Int)(hM:M=128∨M=32768∨M=2147483648)(h0:0≤m)(h1:m<2 * M):sgn M (sgn M m).toNat=(sgn M m).toNat:=by
 unfold sgn
 rcases hM with rfl|rfl|rfl
 all_goals
  rw [Int.emod_eq_of_lt h0 h1]
  split
  · rw [Int.toNat_of_nonneg h0,Int.emod_eq_of_lt h0 h1]
    split<;>omega
  · rw [Int.toNat_of_nonneg (by omega)]
    split<;>omega
theorem fits_signed (es:List SCho)(k:Nat)(ref:Int)(x:Nat)(h1:numTB k 0=true)(h2:k≠1)(h3:k≠10)(h4:kSign k=true):fitsT es k ref 0 x=decide (sgnOf x (kSize k)=x):=by
 unfold fitsT
 rw [if_neg (by rw [h1];decide),if_neg h2,if_neg h3,if_pos h4]
theorem num_fits {es:List SCho}{kind ref n:Nat}(h:NumTy es kind ref)(hn:n≤18446744073709551615):fitsT es kind ref 0 (numP (cntE es ref) kind n)=true:=by
 obtain ⟨h1,h2,h3⟩:=h
 have hk:kind=1∨kind=2∨kind=3∨kind=4∨kind=5∨kind=6∨kind=7∨kind=8∨kind=9∨kind=10:=by omega
 obtain ⟨p1,p2,p3,p4,p5,p6,p7,p8⟩:=number_plain (cntE es ref) n
 rcases hk with rfl|rfl|rfl|rfl|rfl|rfl|rfl|rfl|rfl|rfl
 · show decide (n % 2≤1)=true
   exact decide_eq_true (by omega)
 · rw [p1]
   have hs:∀ z,sgnOf z 1=sgn 128 z:=fun z=>by unfold sgnOf;simp
   have hm:(0:Int)≤(n % 256:Nat)∧((n % 256:Nat):Int)<2 * 128:=by omega
   rw [hs]
   generalize ((n % 256:Nat):Int)=m at *
   have hkp:=sgn_keep 128 m (.inl rfl) hm.1 hm.2
   generalize (sgn 128 m).toNat=x at *
   rw [fits_signed es 2 ref x (by decide) (by decide) (by decide) (by decide),show kSize ((2:Nat):Int)=1 by decide,hs]
   exact decide_eq_true hkp
 · rw [p2]
   have hs:∀ z,sgnOf z 2=sgn 32768 z:=fun z=>by unfold sgnOf;simp
   have hm:(0:Int)≤(n % 65536:Nat)∧((n % 65536:Nat):Int)<2 * 32768:=by omega
   rw [hs]
   generalize ((n % 65536:Nat):Int)=m at *
   have hkp:=sgn_keep 32768 m (.inr (.inl rfl)) hm.1 hm.2
   generalize (sgn 32768 m).toNat=x at *
   rw [fits_signed es 3 ref x (by decide) (by decide) (by decide) (by decide),show kSize ((3:Nat):Int)=2 by decide,hs]
   exact decide_eq_true hkp
 · rw [p3]
   have hs:∀ z,sgnOf z 4=sgn 2147483648 z:=fun z=>by unfold sgnOf;simp
   have hm:(0:Int)≤(n % 4294967296:Nat)∧((n % 4294967296:Nat):Int)<2 * 2147483648:=by omega
   rw [hs]
   generalize ((n % 4294967296:Nat):Int)=m at *
   have hkp:=sgn_keep 2147483648 m (.inr (.inr rfl)) hm.1 hm.2
   generalize (sgn 2147483648 m).toNat=x at *
   rw [fits_signed es 4 ref x (by decide) (by decide) (by decide) (by decide),show kSize ((4:Nat):Int)=4 by decide,hs]
   exact decide_eq_true hkp
 · show decide (sgnOf _ 8=_)=true
   exact decide_eq_true (sgnOf_else _ 8 (by decide) (by decide) (by decide))
 · rw [p5]
   show decide ((n % 256) / 256=0)=true
   exact decide_eq_true (by omega)
 · rw [p6]
   show decide ((n % 65536) / 65536=0)=true
   exact decide_eq_true (by omega)
 · rw [p7]
   show decide ((n % 4294967296) / 4294967296=0)=true
   exact decide_eq_true (by omega)
 · rw [p8]
   show decide (n / 18446744073709551616=0)=true
   exact decide_eq_true (by omega)
 · obtain ⟨h4,h5⟩:=h3 rfl
   show (decide (0≤(ref:Int)∧(ref:Int)<es.length)&&decide (n % cntE es ref<(es.getD (ref:Int).toNat ⟨⟨#[]⟩,[]⟩).names.length))=true
   rw [decide_eq_true ⟨by omega,by omega⟩,Int.toNat_natCast]
   exact decide_eq_true (Nat.mod_lt _ h5)
end Go.Proofs.YtpbaaedijfofnaaDoor
namespace Go.Proofs.YtpbaaedijfofnaaDoor
open Go.ChangeShapes Go.WideShapes Go.ChangeAt Go.RowKit Go.Shelf
section
variable {P:Program} (w:World)
theorem wp_append_run {o:Oper}{a:Act}{K:Act→World→Prop}{Q:Exit→Act→World→Prop}(s x:Operand)(t:TypeId)
  (ho:o.op=.call { callee:=.builtin .append,args:=#[s,x],argTypes:=#[t,t] }) (v y v':Value) (w':World) (hs:a.eval s=v) (hx:a.eval x=y) (hr:(Builtin.append_ #[t,t] o.type #[v,y]).run P w=.ok v' w') (h:K (a.put o.dst v') w'):o.wp P a w K Q:=by
 unfold Oper.wp execOp
 simp only [ho,resolve,invoke,builtin,Sem.run_bind,Sem.run_pure,Result.andThen_ok,List.map_toArray,List.map_cons,List.map_nil,hs,hx,hr]
 exact h
end
end Go.Proofs.YtpbaaedijfofnaaDoor
namespace Go.Proofs.YtpbaaedijfofnaaDoor
open Go.ChangeShapes Go.WideShapes Go.ChangeAt Go.RowKit Go.Shelf
theorem kSize_bd (k:Int):0≤kSize k∧kSize k≤8:=by
 unfold kSize
 split
 · omega
 · split
   · omega
   · split
     · omega
     · split<;>omega
theorem lnumber_any (kind ref lists:Nat)(w:World) :
  Calls Tryd.prog 59 #[.agg #[.int .u8 kind,.int .i64 ref,.int .i64 lists]] w fun e w'=>e=.returned (.bool (isNumP kind lists))∧Below w.heap.size w w':=by
 have h0:=heap_alloc_new w (.cells #[.int .u8 kind,.int .i64 ref,.int .i64 lists] 62)
 have HB:=Lib.hid ((Below.refl w.heap.size w).alloc (Nat.le_refl _) (.cells #[.int .u8 kind,.int .i64 ref,.int .i64 lists] 62))
 obtain ⟨_,x0,x1,x2,_⟩:=blk3 h0
 clear h0
 by_cases hl:lists=0
 · have HS:Hid (isNumP kind lists=decide (0<kSize kind)):=Lib.hid (by unfold isNumP;rw [decide_eq_true hl,Bool.true_and])
   subst hl
   go_enter Tryd.func59,Tryd.ntmps59
   go_wp2_with fail
   refine (wsize_any _ _).mono ?_
   rintro e W1 ⟨rfl,rfl⟩
   generalize kSize (kind:Int)=z at *
   go_wp2
   go_ret
   exact ⟨ret_bool HS.out.symm,HB.out⟩
 · have HS:Hid (isNumP kind lists=false):=Lib.hid (by unfold isNumP;rw [decide_eq_false hl,Bool.false_and])
   have hl1:((lists:Int)==0)=false:=by simp;omega
   clear hl
   go_enter Tryd.func59,Tryd.ntmps59
   go_wp2
   go_ret
   exact ⟨ret_bool HS.out.symm,HB.out⟩
def multI (n m:Int):Int:=(n+m-1) / m * m
end Go.Proofs.YtpbaaedijfofnaaDoor
