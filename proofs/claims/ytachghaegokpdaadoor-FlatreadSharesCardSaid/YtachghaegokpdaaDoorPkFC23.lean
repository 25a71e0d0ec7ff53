/-
  The document's own reading of tables: when a table is there, plain; a number. Conditions: those that each theorem names.
-/
import Derived.Test.YtachghaegokpdaaDoorPkFC4
import Derived.Test.YtachghaegokpdaaDoorPkFC8
import Derived.Test.YtachghaegokpdaaDoorPkFC11
import Derived.Test.YtachghaegokpdaaDoorPkFC20
import Derived.Maps.AppendAt
namespace Go.Proofs.YtachghaegokpdaaDoor
open Go.ChangeShapes Go.WideShapes Go.ChangeAt Go.RowKit Go.Shelf
theorem val_infoK:(Tryd.prog.info? 49).map (fun i=>(i.zero,i.size,i.bytes))=some (some (.agg #[.int .u64 0,.slice none 0 0,.slice none 0 0,.bool false]),4,64):=by kernel_rfl
theorem Exw.exc {R B:Nat}{w W:World}(h:Exw R R B w W):Exc R B w W:=⟨h.os,h.tape,h.output,h.size,fun k hk hr=>h.block k hk hr hr⟩
theorem RdPost.form {res:Option (PV × Int)}{w w':World}{rk:Nat}{sv ev:Value}{root:Int}{bp:Option Addr}{bc:Nat}{zs:List Int}{e:Ending}(h:RdPost res w rk sv ev root bp bc zs e w'):∃ x0 x1 x2 x3,e=.returned (.agg #[x0,x1,x2,x3])∧VForm (.agg #[x0,x1,x2,x3])∧Exw rk rk w.heap.size w w' ∧
  ((∃ v l',res=some (v,l')∧(0≤l'∧l'≤lenZ zs)∧VH (newS w.heap.size) w' v (.agg #[x0,x1,x2,x3])∧RdSt w' rk sv ev root bp bc zs (lenZ zs-l') false)∨(res=none∧∃ rc,0≤rc∧rc≤1000000000000∧RdSt w' rk sv ev root bp bc zs rc true)):=by
 obtain ⟨hx,h1⟩:=h
 rcases h1 with ⟨v,l',val,hr,hl,rfl,hv,hs⟩|⟨hr,⟨val,rfl,n,ba,bl,bc',ka,kl,kc,h,rfl⟩,hrc⟩
 · obtain ⟨ba,ka,bc',kc,rfl,_⟩:=IsV.form hv
   exact ⟨_,_,_,_,rfl,vform _ _ _ _ _ _ _ _,hx,.inl ⟨v,l',hr,hl,hv,hs⟩⟩
 · exact ⟨_,_,_,_,rfl,vform _ _ _ _ _ _ _ _,hx,.inr ⟨hr,hrc⟩⟩
theorem kid_app {rk O Bk cap:Nat}{wr V6 V:World}{A:Option Addr}{l:List KV}{x0 x1 x2 x3:Value}{has:Bool}(hrk:rk<O)(hO:wr.heap[O]?=some (.cells #[.int .u64 0,.slice none 0 0,.slice A l.length cap,.bool has] 49 (0,0)))
  (hrow:wr.ownsRow (O+1) 49 4 (.slice A l.length cap) l.length (kvsCells l)) (hx:Exw rk rk wr.heap.size wr V6) (h7:Below V6.heap.size V6 V) (hb:V.heap[Bk]?=some (.cells #[x0,x1,x2,x3] 49 (0,0))) (hf:VForm (.agg #[x0,x1,x2,x3])) (hlen:l.length≤1000000) :
  ∃ (a4:Option Addr) (c4:Nat) (V':World),(Builtin.append_ #[47,47] 47 #[.slice A l.length cap,.slice (some ⟨Bk,0,none⟩) 1 1]).run Tryd.prog V=.ok (.slice a4 (l.length+1) c4) V' ∧
   V'.heap[O]?=some (.cells #[.int .u64 0,.slice none 0 0,.slice A l.length cap,.bool has] 49 (0,0)) ∧
   Exw rk rk O wr (V'.setCell ⟨O,2,none⟩ (.slice a4 (l.length+1) c4))∧(V'.setCell ⟨O,2,none⟩ (.slice a4 (l.length+1) c4)).heap[rk]?=V6.heap[rk]? ∧
   (V'.setCell ⟨O,2,none⟩ (.slice a4 (l.length+1) c4)).heap[O]?=some (.cells #[.int .u64 0,.slice none 0 0,.slice a4 (l.length+1) c4,.bool has] 49 (0,0)) ∧
   (∀ v:PV,(V'.setCell ⟨O,2,none⟩ (.slice a4 (l.length+1) c4)).ownsRow (O+1) 49 4 (.slice a4 (l.length+1) c4) (l.length+1) (kvsCells (l++[⟨v,x0,x1,x2,x3⟩]))) ∧
   (∀ p u,(Value.slice A l.length cap).ownBlock≠some p.block→V.cell? p=some u→V'.cell? p=some u) ∧
   (∀ v:PV,KidsIn (rowS (O+1) (.slice A l.length cap)) wr l→VH (newS wr.heap.size) V6 v (.agg #[x0,x1,x2,x3])→KidsIn (rowS (O+1) (.slice a4 (l.length+1) c4)) (V'.setCell ⟨O,2,none⟩ (.slice a4 (l.length+1) c4)) (l++[⟨v,x0,x1,x2,x3⟩])):=by
 obtain ⟨i0,hi0,hz0,hz1,hz2⟩:=info_parts val_infoK
 have hOlt:=blk_lt hO
 have hown:∀ k,(Value.slice A l.length cap).ownBlock=some k→O+1≤k∧k<wr.heap.size:=ownsRow_lt hrow
 have hs6:=hx.size
 have hs7:=h7.size
 have hrow6:=row_keep h7 (hx.ownsRow hrow (fun e=>by have:=(hown _ e).1;omega) (fun e=>by have:=(hown _ e).1;omega))
 obtain ⟨n,ba,bl,bc,ka,kl,kc,h,he⟩:=hf
 injection he with he
 simp only [Array.mk.injEq,List.cons.injEq,and_true] at he
 obtain ⟨e0,e1,e2,e3⟩:=he
 obtain ⟨v4,V',hrun,hw,hg,_,hat⟩:=run_append_own_at (P:=Tryd.prog) V (O+1) 47 47 49 i0 _ 4 64 Tryd.underlying47 hi0 hz0 hz1 hz2 rfl (by decide) _ l.length _ hrow6 ⟨Bk,0,none⟩ 1 1 [x0,x1,x2,x3] rfl (World.news_of_block hb) (by
  intro u hu
  simp only [List.mem_cons,List.not_mem_nil,or_false] at hu
  rcases hu with rfl|rfl|rfl|rfl
  · rw [e0];rfl
  · rw [e1];rfl
  · rw [e2];rfl
  · rw [e3];rfl) (by unfold maxLen;omega) (by omega) (by omega)
 obtain ⟨a4,c4,rfl⟩:=ownsRow_form hw
 have hblk:∀ k,k<V6.heap.size→(Value.slice A l.length cap).ownBlock≠some k→V'.heap[k]?=V6.heap[k]?:=fun k hk hne=>(hg.block k (by omega) (fun e=>hne e.symm)).trans (h7.block k hk)
 have hno:∀ k,k≤O→(Value.slice A l.length cap).ownBlock≠some k:=fun k hk e=>by have:=(hown k e).1;omega
 have hset:∀ k,k≠O→(V'.setCell ⟨O,2,none⟩ (.slice a4 (l.length+1) c4)).heap[k]?=V'.heap[k]?:=fun k hk=>Below.heap_setCell _ _ _ _ (by show k≠O;exact hk)
 have hO':V'.heap[O]?=some (.cells #[.int .u64 0,.slice none 0 0,.slice A l.length cap,.bool has] 49 (0,0)):=(hblk O (by omega) (hno O (Nat.le_refl _))).trans ((hx.block O hOlt (by omega) (by omega)).trans hO)
 refine ⟨a4,c4,V',hrun,hO',⟨?_,?_,?_,?_,fun k hk h1 _=>?_⟩,?_,(blk_set hO' 2 _).trans rfl,fun v=>?_,fun p u hp hu=>?_,fun v hK hq=>?_⟩
 · exact hg.os.trans (h7.os.trans hx.os)
 · exact hg.tape.trans (h7.tape.trans hx.tape)
 · exact hg.output.trans (h7.output.trans hx.output)
 · have:=hg.size
   rw [show (V'.setCell ⟨O,2,none⟩ (.slice a4 (l.length+1) c4)).heap.size=V'.heap.size by simp [World.setCell]]
   omega
 · exact (hset k (by omega)).trans ((hblk k (by omega) (hno k (by omega))).trans (hx.block k (by omega) h1 h1))
 · exact (hset rk (by omega)).trans (hblk rk (by omega) (hno rk (by omega)))
 · rw [kvsCells_snoc]
   exact ownsRow_setCell_below (a:=⟨O,2,none⟩) hw (Nat.lt_succ_self O) _
 · exact (World.cell?_of_block (w:=V) (a:=p) (hg.block p.block (World.block_lt_of_cell? _ _ hu) (fun e=>hp e.symm))).trans hu
 · exact kids_step (g:=rk) (N:=V.heap.size) (q:=⟨v,x0,x1,x2,x3⟩) hK hx.exc (by omega) hOlt (fun k hk=>(hown k hk).2) hq h7 hg hat (Nat.le_refl _) 2 _
end Go.Proofs.YtachghaegokpdaaDoor
namespace Go.Proofs.YtachghaegokpdaaDoor
open Go.ChangeShapes Go.WideShapes Go.ChangeAt Go.RowKit Go.Shelf
structure RdValAt (room:Nat):Prop where
 run:∀ {base B:Nat} {W:World} {rk:Nat} {sv ev:Value} {root:Int} {bp:Option Addr} {bc:Nat} {zs:List Int} {ss:List (SRec × Value)} {es:List (SCho × Value)} {left:Int},DCtx base B W rk sv ev root bp bc zs ss es left→∀ (k r l:Nat) (at':Int),TyM ss.length (es.map Prod.fst) k r l → -1000000000≤at'∧at'≤1000000000 →
  Calls Tryd.prog 95 #[.pointer (some ⟨rk,0,none⟩),.agg #[.int .u8 k,.int .i64 r,.int .i64 l],.int .i64 at',.int .i64 room] W (RdPost (flatZ (sRecs ss) (es.map Prod.fst) zs room k r l at' left) W rk sv ev root bp bc zs)
theorem listAt_eq {zs:List Int}{nx:Option NextD}{k:Nat}{r lists to left m st:Int}{n:Nat}(h1:inZ (lenZ zs) to 4=true)(hn:leAt zs to.toNat 4=n)(hst:stepZ k lists=st)(hm:m=4+n * st) :
  listAtZ zs nx k r lists to left=if reachOk zs to m left=true then (match nx with
   | none=>if n=0 then some (.mk 0 [] [] false,left-m) else none
   | some f=>match seqD (fun j l=>f k r lists (to+4+j * st) l) (left-m) n with
    | none=>none
    | some (ks,l)=>some (.mk 0 [] ks false,l)) else none:=by
 unfold listAtZ reachOk
 rw [if_pos h1,hn,hst,←hm,Int.toNat_natCast]
 simp only [Bool.and_eq_true,decide_eq_true_eq]
 cases nx with
 | none=>simp only [Int.natCast_eq_zero]
 | some f=>rfl
def DLtAt (w:World)(E R O:Nat)(rk:Nat)(sv ev:Value)(root:Int)(bp:Option Addr)(bc:Nat)(zs:List Int)(tcells:Array Value)(g:Nat→Int→Option (PV × Int))(left1:Int)(n:Nat)(x:Value)(wr:World):Prop:=∃ (A:Option Addr) (cap:Nat) (l:List KV) (rc:Int) (bad:Bool),l.length≤n∧x=.int .i64 l.length ∧
 wr.heap[O]?=some (.cells #[.int .u64 0,.slice none 0 0,.slice A l.length cap,.bool false] 49 (0,0))∧wr.ownsRow (O+1) 49 4 (.slice A l.length cap) l.length (kvsCells l)∧wr.heap[R]?=some (.cells #[.int .u64 0,.slice none 0 0,.slice none 0 0,.bool false] 49 (0,0))∧wr.heap[E]?=some (.cells tcells 58 (0,0)) ∧
 Exw rk rk w.heap.size w wr∧RdSt wr rk sv ev root bp bc zs rc bad ∧
 ((bad=false∧∃ l',0≤l'∧l'≤lenZ zs∧rc=lenZ zs-l'∧seqD g left1 l.length=some (l.map KV.v,l')∧KidsIn (rowS (O+1) (.slice A l.length cap)) wr l)∨(bad=true∧0≤rc∧rc≤1000000000000∧seqD g left1 n=none))
end Go.Proofs.YtachghaegokpdaaDoor
namespace Go.Proofs.YtachghaegokpdaaDoor
open Go.ChangeShapes Go.WideShapes Go.ChangeAt Go.RowKit Go.Shelf
variable {base B:Nat} {W W':World} {rk:Nat} {sv ev:Value} {root:Int} {bp:Option Addr} {bc:Nat} {zs:List Int} {ss:List (SRec × Value)} {es:List (SCho × Value)} {left l':Int}
theorem jump_to {zs:List Int}{at':Int}(hl:lenZ zs≤16384)(h:badJ zs at'=false):toJ zs at'≤16384:=by
 unfold badJ at h
 unfold toJ
 rw [Bool.or_eq_false_iff,Bool.not_eq_false',Bool.not_eq_false',decide_eq_true_eq] at h
 rw [if_pos h.2]
 omega
structure RdTabAt (room:Nat):Prop where
 run:∀ {base B:Nat} {W:World} {rk:Nat} {sv ev:Value} {root:Int} {bp:Option Addr} {bc:Nat} {zs:List Int} {ss:List (SRec × Value)} {es:List (SCho × Value)} {left:Int},DCtx base B W rk sv ev root bp bc zs ss es left→∀ (r:Nat) (to:Int),r<ss.length → -1000000000≤to∧to≤1000000000 →
  Calls Tryd.prog 74 #[.pointer (some ⟨rk,0,none⟩),.int .i64 to,.int .i64 r,.int .i64 room] W (RdPost (structAtZ (sRecs ss) zs (nextZ (sRecs ss) (es.map Prod.fst) zs room) r to left) W rk sv ev root bp bc zs)
theorem RdPost.put4 {res:Option (PV × Int)}{w w2 w3:World}{R:Nat}{x0 x1 x2 x3:Value}(h:RdPost res w2 rk sv ev root bp bc zs (.returned (.agg #[x0,x1,x2,x3])) w3)(hx:Exw rk rk w.heap.size w w2)(h1:w.heap.size≤R)(h2:R<w2.heap.size)(h0:RdSt w rk sv ev root bp bc zs l' false)(hv:RowV sv∧RowV ev)(y0 y1 y2 y3:Value) :
  RdPost res w rk sv ev root bp bc zs (.returned (.agg #[x0,x1,x2,x3])) (set4 w3 R y0 y1 y2 y3):=by
 have hrk:=blk_lt h0.blk
 have hx3:Exw rk rk w.heap.size w w3:=hx.then h.1
 have hx4:Exw rk rk w.heap.size w (set4 w3 R y0 y1 y2 y3):=(((hx3.setCell (p:=⟨R,0,none⟩) (.inr (.inr h1)) y0).setCell (p:=⟨R,1,none⟩) (.inr (.inr h1)) y1).setCell (p:=⟨R,2,none⟩) (.inr (.inr h1)) y2).setCell (p:=⟨R,3,none⟩) (.inr (.inr h1)) y3
 have hsz:(set4 w3 R y0 y1 y2 y3).heap.size=w3.heap.size:=by unfold set4;simp [World.setCell]
 refine ⟨hx4,?_⟩
 rcases h.2 with ⟨v,l,val,h3,h4,h5,h6,h7⟩|⟨h3,h4,rc,h5,h6,h7⟩
 · injection h5 with h5
   subst h5
   exact .inl ⟨v,l,_,h3,h4,rfl,vh_new h6 hx.size (by rw [hsz];exact Nat.le_refl _) (fun k _ hk=>set4_blk w3 (by omega) _ _ _ _),h0.keep hv hx4 ((set4_blk w3 (by omega) _ _ _ _).trans h7.blk)⟩
 · exact .inr ⟨h3,h4,rc,h5,h6,h0.keep hv hx4 ((set4_blk w3 (by omega) _ _ _ _).trans h7.blk)⟩
set_option maxRecDepth 100000 in
set_option maxHeartbeats 8000000 in
theorem rdval_struct (w:World)(h:DCtx base B w rk sv ev root bp bc zs ss es left)(k r l:Nat)(hk:k=13)(hl:l=0)(at':Int)(room:Nat)(hT:RdTabAt room)(ht:TyM ss.length (es.map Prod.fst) k r l)(ha : -1000000000≤at'∧at'≤1000000000) :
  Calls Tryd.prog 95 #[.pointer (some ⟨rk,0,none⟩),.agg #[.int .u8 k,.int .i64 r,.int .i64 l],.int .i64 at',.int .i64 room] w (RdPost (pointZ zs at' fun to=>structAtZ (sRecs ss) zs (nextZ (sRecs ss) (es.map Prod.fst) zs room) r to left) w rk sv ev root bp bc zs):=by
 have hs1:sortP k l≠1:=by subst hk hl;decide
 have hl0:((l:Int)==0)=true:=by simp;omega
 have hk0:((k:Int)==13)=true:=by simp;omega
 obtain ⟨hb,hq1,hq2⟩:=two_start w #[.int .u8 k,.int .i64 r,.int .i64 l] #[.int .u64 0,.slice none 0 0,.slice none 0 0,.bool false] 58 49
 have HB:=Lib.hid hb
 have HQ1:=Lib.hid hq1
 have HQ2:=Lib.hid hq2
 have H0:=Lib.hid (h.below hb)
 have HH0:=Lib.hid h
 have HV:=Lib.hid h.rows.rowV
 have HZB:=Lib.hid h.st.bytes.1
 have HRK:Hid (rk<w.heap.size):=Lib.hid (blk_lt h.st.blk)
 have HAT:=Lib.hid ha
 have hk13:=ht.hi
 have HNT:Hid (∀ W,Calls Tryd.prog 48 #[.agg #[.int .u8 k,.int .i64 r,.int .i64 l]] W fun e w'=>e=.returned (.bool false)∧Below W.heap.size W w'):=Lib.hid (fun W=>by
  have h5:=rnumI_any k (by omega) r l W
  rw [num_no hs1] at h5
  exact h5)
 have HTC:Hid (∀ W2,Exw rk rk w.heap.size w W2→RdSt W2 rk sv ev root bp bc zs (lenZ zs-left) (badJ zs at')→Calls Tryd.prog 74 #[.pointer (some ⟨rk,0,none⟩),.int .i64 (toJ zs at'),.int .i64 r,.int .i64 room] W2 (RdPost (pointZ zs at' fun to=>structAtZ (sRecs ss) zs (nextZ (sRecs ss) (es.map Prod.fst) zs room) r to left) W2 rk sv ev root bp bc zs)):=Lib.hid (fun W2 hx hs=>by
  have hl2:=h.hl
  have hl3:=h.len
  cases hb:badJ zs at' with
  | true =>
   rw [hb] at hs
   exact rdtab_bad W2 hs h.rows.rowV (by omega) (by omega) _ _ _ (by unfold pointZ;rw [jump_bad hb])
  | false =>
   rw [hb] at hs
   have h5:=hT.run (h.exw hx hs hl2) r (toJ zs at') (ht.st hk) (by have h6:=toJ_bd (zs:=zs) (at':=at') h.st.bytes.1 ha;have h7:=jump_to h.len hb;omega)
   unfold pointZ
   rw [(jump_ok hb).1]
   exact h5)
 obtain ⟨P,hP⟩:∃ P,(RdPost (pointZ zs at' fun to=>structAtZ (sRecs ss) zs (nextZ (sRecs ss) (es.map Prod.fst) zs room) r to left) w rk sv ev root bp bc zs)=P:=⟨_,rfl⟩
 rw [hP]
 have HP:=Lib.hid hP.symm
 clear hb hq1 hq2 h hP hs1 hk13 ha ht hT hk hl
 go_enter Tryd.func95,Tryd.ntmps95
 go_upto_region 1 with (fail)
 generalize (w.alloc (.cells #[.int .u8 k,.int .i64 r,.int .i64 l] 58)).alloc (.cells #[.int .u64 0,.slice none 0 0,.slice none 0 0,.bool false] 49)=W0 at *
 obtain ⟨_,c0,c1,c2,c3,c4,c5⟩:=blk6 H0.out.st.blk
 obtain ⟨_,s0,s1,s2,_⟩:=blk3 HQ1.out
 go_wp2_with fail
 refine (HNT.out _).mono ?_
 rintro e W1 ⟨rfl,hb1⟩
 have HB1:=Lib.hid (HB.out.trans (hb1.mono HB.out.size))
 have H1:=Lib.hid (H0.out.below hb1)
 have P1:=Lib.hid (blk_below HQ1.out hb1 (blk_lt HQ1.out))
 have P2:=Lib.hid (blk_below HQ2.out hb1 (blk_lt HQ2.out))
 clear hb1 c0 c1 c2 c3 c4 c5 s0 s1 s2
 go_wp2_with fail
 refine (jump_ctx H1.out at' HAT.out).mono ?_
 rintro e W2 ⟨rfl,hs2,hx2⟩
 have HX2:=Lib.hid (Exw.after HB1.out hx2)
 have S2:=Lib.hid hs2
 have P12:=Lib.hid (blk_exw P1.out hx2 (blk_lt P1.out) (by have:=HRK.out;omega) (by have:=HRK.out;omega))
 have P22:=Lib.hid (blk_exw P2.out hx2 (blk_lt P2.out) (by have:=HRK.out;omega) (by have:=HRK.out;omega))
 clear hs2 hx2
 obtain ⟨_,s0,s1,s2,_⟩:=blk3 P12.out
 have HR2:Hid (w.heap.size+1<W2.heap.size):=Lib.hid (blk_lt P22.out)
 go_wp2_with fail
 refine (HTC.out W2 HX2.out S2.out).mono ?_
 intro e W3 hpost
 obtain ⟨x0,x1,x2,x3,rfl,hform,hx3,_⟩:=hpost.form
 have HPO:=Lib.hid hpost
 have P23:=Lib.hid (blk_exw P22.out hx3 (blk_lt P22.out) (by have:=HRK.out;omega) (by have:=HRK.out;omega))
 obtain ⟨y0,y1,y2,y3,y4,y5,y6,y7,hy⟩:=hform
 injection hy with hy
 simp only [Array.mk.injEq,List.cons.injEq,and_true] at hy
 obtain ⟨rfl,rfl,rfl,rfl⟩:=hy
 clear hpost hx3 s0 s1 s2
 obtain ⟨_,u0,u1,u2,u3⟩:=blk4p P23.out
 have p0:=blk_frozen P23.out 0
 have p1:=blk_frozen P23.out 1
 have p2:=blk_frozen P23.out 2
 have p3:=blk_frozen P23.out 3
 go_wp2
 refine post_gen (fun Wf=>Wf.heap[w.heap.size+1]?=some (.cells #[.int .u64 y0,.slice y1 y2 y3,.slice y4 y5 y6,.bool y7] 49 (0,0))∧P (.returned (.agg #[.int .u64 y0,.slice y1 y2 y3,.slice y4 y5 y6,.bool y7])) Wf) ⟨?_,?_⟩ ?_
 · exact blk_set4 P23.out _ _ _ _
 · rw [HP.out]
   exact HPO.out.put4 HX2.out (Nat.le_succ _) HR2.out HH0.out.st HV.out _ _ _ _
 · rintro Wf ⟨e1,e2⟩
   obtain ⟨_,d0,d1,d2,d3⟩:=blk4p e1
   exact bodyPost_ret (v:=.agg #[.int .u64 y0,.slice y1 y2 y3,.slice y4 y5 y6,.bool y7]) (by simp [results,Tryd.results95,go_sem,d0,d1,d2,d3]) rfl e2
end Go.Proofs.YtachghaegokpdaaDoor
namespace Go.Proofs.YtachghaegokpdaaDoor
open Go.ChangeShapes Go.WideShapes Go.ChangeAt Go.RowKit Go.Shelf
theorem struct_none {ss:List CRec}{zs:List Int}{nx:Option NextD}{ref to left:Int}(h:∀ t,tabZ zs to=some t→nx=none∨left-(t.size+t.own)<0):structAtZ ss zs nx ref to left=none:=by
 unfold structAtZ
 cases ht:tabZ zs to with
 | none=>rfl
 | some t =>
  cases nx with
  | none=>rfl
  | some f =>
   rcases h t ht with h1|h1
   · cases h1
   · exact if_pos h1
theorem tab_vals {zs:List Int}{to:Int}{t:TabZ}(h:tabZ zs to=some t):inZ (lenZ zs) to 4=true∧to-sg32 (ldO zs to 4)=t.la∧inZ (lenZ zs) t.la 2=true∧inZ (lenZ zs) (t.la+2) 2=true∧ldO zs t.la 2=t.size∧ldO zs (t.la+2) 2=t.own∧0≤t.la∧4≤t.size∧t.size % 2=0∧4≤t.own∧inZ (lenZ zs) t.la t.size=true∧inZ (lenZ zs) to t.own=true:=by
 unfold tabZ tabOf at h
 split at h
 · rename_i h1
   split at h
   · rename_i h2
     split at h
     · rename_i h3
       injection h with h
       subst h
       have e1:ldO zs to 4=leAt zs to.toNat 4:=if_pos h1
       rw [e1]
       generalize to-sg32 (leAt zs to.toNat 4)=la at *
       have hi:=inZ_iff.1 h2
       have h4:inZ (lenZ zs) la 2=true:=inZ_iff.2 (by omega)
       have h5:inZ (lenZ zs) (la+2) 2=true:=inZ_iff.2 (by omega)
       have e2:ldO zs la 2=leAt zs la.toNat 2:=if_pos h4
       have e3:ldO zs (la+2) 2=leAt zs (la.toNat+2) 2:=(if_pos h5).trans (by rw [show (la+2).toNat=la.toNat+2 by omega])
       exact ⟨h1,rfl,h4,h5,e2,e3,hi.1,h3.1.1,h3.1.2.1,h3.1.2.2,h3.2.1,h3.2.2⟩
     · cases h
   · cases h
 · cases h
theorem tab_mk {zs:List Int}{to la size own:Int}(h1:inZ (lenZ zs) to 4=true)(hla:to-sg32 (ldO zs to 4)=la)(h2:inZ (lenZ zs) la 2=true)(h3:inZ (lenZ zs) (la+2) 2=true)(hs:ldO zs la 2=size)(ho:ldO zs (la+2) 2=own)(h4:4≤size)(h5:size % 2=0)(h6:4≤own)(h7:inZ (lenZ zs) la size=true)(h8:inZ (lenZ zs) to own=true):tabZ zs to=some ⟨own,la,size⟩:=by
 have e1:ldO zs to 4=leAt zs to.toNat 4:=if_pos h1
 rw [e1] at hla
 have hi:=inZ_iff.1 h2
 have hi3:=inZ_iff.1 h3
 have h9:inZ (lenZ zs) la 4=true:=inZ_iff.2 (by omega)
 have e2:leAt zs la.toNat 2=size:=(if_pos h2).symm.trans hs
 have e3:leAt zs (la.toNat+2) 2=own:=by
  rw [show la.toNat+2=(la+2).toNat by omega]
  exact (if_pos h3).symm.trans ho
 unfold tabZ tabOf
 rw [if_pos h1,hla,if_pos h9,e2,e3,if_pos ⟨⟨h4,h5,h6⟩,h7,h8⟩]
def TabOk (zs:List Int)(room:Nat)(to left la size own:Int):Prop:=inZ (lenZ zs) to 4=true∧1≤room∧0≤la∧inZ (lenZ zs) la 2=true∧inZ (lenZ zs) (la+2) 2=true∧4≤size∧size % 2=0∧4≤own∧reachOk zs la size left=true∧reachOk zs to own (left-size)=true
theorem tab_no {ss:List CRec}{es:List SCho}{zs:List Int}{room:Nat}{ref to left la size own:Int}(hla:to-sg32 (ldO zs to 4)=la)(hs:ldO zs la 2=size)(ho:ldO zs (la+2) 2=own)(h:¬TabOk zs room to left la size own):structAtZ ss zs (nextZ ss es zs room) ref to left=none:=by
 refine struct_none fun t ht=>?_
 obtain ⟨h1,h2,h3,h4,h5,h6,h7,h8,h9,h10,h11,h12⟩:=tab_vals ht
 rw [hla] at h2
 subst h2
 rw [hs] at h5
 rw [ho] at h6
 subst h5 h6
 rcases Nat.eq_zero_or_pos room with h13|h13
 · subst h13
   exact .inl rfl
 · right
   refine Int.not_le.1 fun hle=>h ⟨h1,h13,h7,h3,h4,h8,h9,h10,?_,?_⟩
   · unfold reachOk
     rw [h11,Bool.true_and,decide_eq_true_eq]
     omega
   · unfold reachOk
     rw [h12,Bool.true_and,decide_eq_true_eq]
     omega
theorem tab_yes {ss:List CRec}{zs:List Int}{f:NextD}{room:Nat}{ref to left la size own:Int}(hla:to-sg32 (ldO zs to 4)=la)(hs:ldO zs la 2=size)(ho:ldO zs (la+2) 2=own)(h:TabOk zs room to left la size own) :
  structAtZ ss zs (some f) ref to left=match seqD (fieldZ zs f (recC ss ref).fields to ⟨own,la,size⟩) (left-size-own) (recC ss ref).fields.length with|none=>none|some (ks,l)=>some (.mk 0 [] ks true,l):=by
 obtain ⟨h1,h2,h3,h4,h5,h6,h7,h8,h9,h10⟩:=h
 unfold reachOk at h9 h10
 rw [Bool.and_eq_true,decide_eq_true_eq] at h9 h10
 unfold structAtZ
 rw [tab_mk h1 hla h4 h5 hs ho h6 h7 h8 h9.1 h10.1]
 have e:left-(size+own)=left-size-own:=by omega
 show (if left-(size+own)<0 then (none:Option (PV × Int)) else _)=_
 rw [if_neg (by omega),e]
 rfl
variable {base B:Nat} {W W':World} {rk:Nat} {sv ev:Value} {root:Int} {bp:Option Addr} {bc:Nat} {zs:List Int} {ss:List (SRec × Value)} {es:List (SCho × Value)} {left l':Int}
theorem num_ctx (h:DCtx base B W rk sv ev root bp bc zs ss es left)(at':Int)(s:Nat)(hs:s=2∨s=4){b:Bool}(hb:inZ (lenZ zs) at' s=b){z:Int}(hz:ldO zs at' s=z) :
  Calls Tryd.prog 92 #[.pointer (some ⟨rk,0,none⟩),.int .i64 at',.int .i64 s] W fun e w'=>e=.returned (.int .i64 z)∧RdSt w' rk sv ev root bp bc zs (lenZ zs-left) (!b)∧Exw rk rk W.heap.size W w':=by
 refine (rdnum_any W h.st h.rows.rowV at' s hs).mono ?_
 rintro e w' ⟨rfl,hs2,hx⟩
 rw [Bool.false_or,hb] at hs2
 exact ⟨by rw [hz],hs2,hx⟩
end Go.Proofs.YtachghaegokpdaaDoor
