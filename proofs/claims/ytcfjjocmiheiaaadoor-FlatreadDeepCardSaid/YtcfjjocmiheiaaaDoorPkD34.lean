/-
  The document's own reading of tables: when a table is there, plain; a number. Conditions: those that each theorem names.
-/
import Derived.Test.YtcfjjocmiheiaaaDoorPkD29
namespace Go.Proofs.YtcfjjocmiheiaaaDoor
open Go.ChangeShapes Go.WideShapes Go.ChangeAt Go.RowKit Go.Shelf
variable {base B:Nat} {W W':World} {rk:Nat} {sv ev:Value} {root:Int} {bp:Option Addr} {bc:Nat} {zs:List Int} {ss:List (SRec × Value)} {es:List (SCho × Value)} {left l':Int}
theorem jump_to {zs:List Int}{at':Int}(hl:lenZ zs≤16384)(h:badJ zs at'=false):toJ zs at'≤16384:=by
 unfold badJ at h
 unfold toJ
 rw [Bool.or_eq_false_iff,Bool.not_eq_false',Bool.not_eq_false',decide_eq_true_eq] at h
 rw [if_pos h.2]
 omega
structure RdTabAt (room:Nat):Prop where
 run:∀ {base B:Nat} {W:World} {rk:Nat} {sv ev:Value} {root:Int} {bp:Option Addr} {bc:Nat} {zs:List Int} {ss:List (SRec × Value)} {es:List (SCho × Value)} {left:Int},DCtx base B W rk sv ev root bp bc zs ss es left→∀ (r:Nat) (to:Int),r<ss.length → -1000000000≤to∧to≤1000000000 →
  Calls Tryd.prog 74 #[.pointer (some ⟨rk,0,none⟩),.int .i64 to,.int .i64 r,.int .i64 room] W (RdPost (structAtZ (sRecs ss) zs (nextZ (sRecs ss) (es.map Prod.fst) zs room) r to left) W rk sv ev root bp bc zs)
theorem RdPost.put4 {res:Option (PV × Int)}{w w2 w3:World}{R:Nat}{x0 x1 x2 x3:Value}(h:RdPost res w2 rk sv ev root bp bc zs (.returned (.agg #[x0,x1,x2,x3])) w3)(hx:Exw rk rk w.heap.size w w2)(h1:w.heap.size≤R)(h2:R<w2.heap.size)(h0:RdSt w rk sv ev root bp bc zs l' false)(hv:RowV sv∧RowV ev)(y0 y1 y2 y3:Value) :
  RdPost res w rk sv ev root bp bc zs (.returned (.agg #[x0,x1,x2,x3])) (set4 w3 R y0 y1 y2 y3):=by
 have hrk:=blk_lt h0.blk
 have hx3:Exw rk rk w.heap.size w w3:=hx.then h.1
 have hx4:Exw rk rk w.heap.size w (set4 w3 R y0 y1 y2 y3):=(((hx3.setCell (p:=⟨R,0,none⟩) (.inr (.inr h1)) y0).setCell (p:=⟨R,1,none⟩) (.inr (.inr h1)) y1).setCell (p:=⟨R,2,none⟩) (.inr (.inr h1)) y2).setCell (p:=⟨R,3,none⟩) (.inr (.inr h1)) y3
 have hsz:(set4 w3 R y0 y1 y2 y3).heap.size=w3.heap.size:=by unfold set4;simp [World.setCell]
 refine ⟨hx4,?_⟩
 rcases h.2 with ⟨v,l,val,h3,h4,h5,h6,h7⟩|⟨h3,h4,rc,h5,h6,h7⟩
 · injection h5 with h5
   subst h5
   exact .inl ⟨v,l,_,h3,h4,rfl,vh_new h6 hx.size (by rw [hsz];exact Nat.le_refl _) (fun k _ hk=>set4_blk w3 (by omega) _ _ _ _),h0.keep hv hx4 ((set4_blk w3 (by omega) _ _ _ _).trans h7.blk)⟩
 · exact .inr ⟨h3,h4,rc,h5,h6,h0.keep hv hx4 ((set4_blk w3 (by omega) _ _ _ _).trans h7.blk)⟩
set_option maxRecDepth 100000 in
set_option maxHeartbeats 8000000 in
theorem rdval_struct (w:World)(h:DCtx base B w rk sv ev root bp bc zs ss es left)(k r l:Nat)(hk:k=13)(hl:l=0)(at':Int)(room:Nat)(hT:RdTabAt room)(ht:TyM ss.length (es.map Prod.fst) k r l)(ha : -1000000000≤at'∧at'≤1000000000) :
  Calls Tryd.prog 106 #[.pointer (some ⟨rk,0,none⟩),.agg #[.int .u8 k,.int .i64 r,.int .i64 l],.int .i64 at',.int .i64 room] w (RdPost (pointZ zs at' fun to=>structAtZ (sRecs ss) zs (nextZ (sRecs ss) (es.map Prod.fst) zs room) r to left) w rk sv ev root bp bc zs):=by
 have hs1:sortP k l≠1:=by subst hk hl;decide
 have hl0:((l:Int)==0)=true:=by simp;omega
 have hk0:((k:Int)==13)=true:=by simp;omega
 obtain ⟨hb,hq1,hq2⟩:=two_start w #[.int .u8 k,.int .i64 r,.int .i64 l] #[.int .u64 0,.slice none 0 0,.slice none 0 0,.bool false] 50 36
 have HB:=Lib.hid hb
 have HQ1:=Lib.hid hq1
 have HQ2:=Lib.hid hq2
 have H0:=Lib.hid (h.below hb)
 have HH0:=Lib.hid h
 have HV:=Lib.hid h.rows.rowV
 have HZB:=Lib.hid h.st.bytes.1
 have HRK:Hid (rk<w.heap.size):=Lib.hid (blk_lt h.st.blk)
 have HAT:=Lib.hid ha
 have hk13:=ht.hi
 have HNT:Hid (∀ W,Calls Tryd.prog 38 #[.agg #[.int .u8 k,.int .i64 r,.int .i64 l]] W fun e w'=>e=.returned (.bool false)∧Below W.heap.size W w'):=Lib.hid (fun W=>by
  have h5:=rnumI_any k (by omega) r l W
  rw [num_no hs1] at h5
  exact h5)
 have HTC:Hid (∀ W2,Exw rk rk w.heap.size w W2→RdSt W2 rk sv ev root bp bc zs (lenZ zs-left) (badJ zs at')→Calls Tryd.prog 74 #[.pointer (some ⟨rk,0,none⟩),.int .i64 (toJ zs at'),.int .i64 r,.int .i64 room] W2 (RdPost (pointZ zs at' fun to=>structAtZ (sRecs ss) zs (nextZ (sRecs ss) (es.map Prod.fst) zs room) r to left) W2 rk sv ev root bp bc zs)):=Lib.hid (fun W2 hx hs=>by
  have hl2:=h.hl
  have hl3:=h.len
  cases hb:badJ zs at' with
  | true =>
   rw [hb] at hs
   exact rdtab_bad W2 hs h.rows.rowV (by omega) (by omega) _ _ _ (by unfold pointZ;rw [jump_bad hb])
  | false =>
   rw [hb] at hs
   have h5:=hT.run (h.exw hx hs hl2) r (toJ zs at') (ht.st hk) (by have h6:=toJ_bd (zs:=zs) (at':=at') h.st.bytes.1 ha;have h7:=jump_to h.len hb;omega)
   unfold pointZ
   rw [(jump_ok hb).1]
   exact h5)
 obtain ⟨P,hP⟩:∃ P,(RdPost (pointZ zs at' fun to=>structAtZ (sRecs ss) zs (nextZ (sRecs ss) (es.map Prod.fst) zs room) r to left) w rk sv ev root bp bc zs)=P:=⟨_,rfl⟩
 rw [hP]
 have HP:=Lib.hid hP.symm
 clear hb hq1 hq2 h hP hs1 hk13 ha ht hT hk hl
 go_enter Tryd.func106,Tryd.ntmps106
 go_upto_region 1 with (fail)
 generalize (w.alloc (.cells #[.int .u8 k,.int .i64 r,.int .i64 l] 50)).alloc (.cells #[.int .u64 0,.slice none 0 0,.slice none 0 0,.bool false] 36)=W0 at *
 obtain ⟨_,c0,c1,c2,c3,c4,c5⟩:=blk6 H0.out.st.blk
 obtain ⟨_,s0,s1,s2,_⟩:=blk3 HQ1.out
 go_wp2_with fail
 refine (HNT.out _).mono ?_
 rintro e W1 ⟨rfl,hb1⟩
 have HB1:=Lib.hid (HB.out.trans (hb1.mono HB.out.size))
 have H1:=Lib.hid (H0.out.below hb1)
 have P1:=Lib.hid (blk_below HQ1.out hb1 (blk_lt HQ1.out))
 have P2:=Lib.hid (blk_below HQ2.out hb1 (blk_lt HQ2.out))
 clear hb1 c0 c1 c2 c3 c4 c5 s0 s1 s2
 go_wp2_with fail
 refine (jump_ctx H1.out at' HAT.out).mono ?_
 rintro e W2 ⟨rfl,hs2,hx2⟩
 have HX2:=Lib.hid (Exw.after HB1.out hx2)
 have S2:=Lib.hid hs2
 have P12:=Lib.hid (blk_exw P1.out hx2 (blk_lt P1.out) (by have:=HRK.out;omega) (by have:=HRK.out;omega))
 have P22:=Lib.hid (blk_exw P2.out hx2 (blk_lt P2.out) (by have:=HRK.out;omega) (by have:=HRK.out;omega))
 clear hs2 hx2
 obtain ⟨_,s0,s1,s2,_⟩:=blk3 P12.out
 have HR2:Hid (w.heap.size+1<W2.heap.size):=Lib.hid (blk_lt P22.out)
 go_wp2_with fail
 refine (HTC.out W2 HX2.out S2.out).mono ?_
 intro e W3 hpost
 obtain ⟨x0,x1,x2,x3,rfl,hform,hx3,_⟩:=hpost.form
 have HPO:=Lib.hid hpost
 have P23:=Lib.hid (blk_exw P22.out hx3 (blk_lt P22.out) (by have:=HRK.out;omega) (by have:=HRK.out;omega))
 obtain ⟨y0,y1,y2,y3,y4,y5,y6,y7,hy⟩:=hform
 injection hy with hy
 simp only [Array.mk.injEq,List.cons.injEq,and_true] at hy
 obtain ⟨rfl,rfl,rfl,rfl⟩:=hy
 clear hpost hx3 s0 s1 s2
 obtain ⟨_,u0,u1,u2,u3⟩:=blk4p P23.out
 have p0:=blk_frozen P23.out 0
 have p1:=blk_frozen P23.out 1
 have p2:=blk_frozen P23.out 2
 have p3:=blk_frozen P23.out 3
 go_wp2
 refine post_gen (fun Wf=>Wf.heap[w.heap.size+1]?=some (.cells #[.int .u64 y0,.slice y1 y2 y3,.slice y4 y5 y6,.bool y7] 36 (0,0))∧P (.returned (.agg #[.int .u64 y0,.slice y1 y2 y3,.slice y4 y5 y6,.bool y7])) Wf) ⟨?_,?_⟩ ?_
 · exact blk_set4 P23.out _ _ _ _
 · rw [HP.out]
   exact HPO.out.put4 HX2.out (Nat.le_succ _) HR2.out HH0.out.st HV.out _ _ _ _
 · rintro Wf ⟨e1,e2⟩
   obtain ⟨_,d0,d1,d2,d3⟩:=blk4p e1
   exact bodyPost_ret (v:=.agg #[.int .u64 y0,.slice y1 y2 y3,.slice y4 y5 y6,.bool y7]) (by simp [results,Tryd.results106,go_sem,d0,d1,d2,d3]) rfl e2
end Go.Proofs.YtcfjjocmiheiaaaDoor
namespace Go.Proofs.YtcfjjocmiheiaaaDoor
open Go.ChangeShapes Go.WideShapes Go.ChangeAt Go.RowKit Go.Shelf
theorem struct_none {ss:List CRec}{zs:List Int}{nx:Option NextD}{ref to left:Int}(h:∀ t,tabZ zs to=some t→nx=none∨left-(t.size+t.own)<0):structAtZ ss zs nx ref to left=none:=by
 unfold structAtZ
 cases ht:tabZ zs to with
 | none=>rfl
 | some t =>
  cases nx with
  | none=>rfl
  | some f =>
   rcases h t ht with h1|h1
   · cases h1
   · exact if_pos h1
theorem tab_vals {zs:List Int}{to:Int}{t:TabZ}(h:tabZ zs to=some t):inZ (lenZ zs) to 4=true∧to-sg32 (ldO zs to 4)=t.la∧inZ (lenZ zs) t.la 2=true∧inZ (lenZ zs) (t.la+2) 2=true∧ldO zs t.la 2=t.size∧ldO zs (t.la+2) 2=t.own∧0≤t.la∧4≤t.size∧t.size % 2=0∧4≤t.own∧inZ (lenZ zs) t.la t.size=true∧inZ (lenZ zs) to t.own=true:=by
 unfold tabZ tabOf at h
 split at h
 · rename_i h1
   split at h
   · rename_i h2
     split at h
     · rename_i h3
       injection h with h
       subst h
       have e1:ldO zs to 4=leAt zs to.toNat 4:=if_pos h1
       rw [e1]
       generalize to-sg32 (leAt zs to.toNat 4)=la at *
       have hi:=inZ_iff.1 h2
       have h4:inZ (lenZ zs) la 2=true:=inZ_iff.2 (by omega)
       have h5:inZ (lenZ zs) (la+2) 2=true:=inZ_iff.2 (by omega)
       have e2:ldO zs la 2=leAt zs la.toNat 2:=if_pos h4
       have e3:ldO zs (la+2) 2=leAt zs (la.toNat+2) 2:=(if_pos h5).trans (by rw [show (la+2).toNat=la.toNat+2 by omega])
       exact ⟨h1,rfl,h4,h5,e2,e3,hi.1,h3.1.1,h3.1.2.1,h3.1.2.2,h3.2.1,h3.2.2⟩
     · cases h
   · cases h
 · cases h
theorem tab_mk {zs:List Int}{to la size own:Int}(h1:inZ (lenZ zs) to 4=true)(hla:to-sg32 (ldO zs to 4)=la)(h2:inZ (lenZ zs) la 2=true)(h3:inZ (lenZ zs) (la+2) 2=true)(hs:ldO zs la 2=size)(ho:ldO zs (la+2) 2=own)(h4:4≤size)(h5:size % 2=0)(h6:4≤own)(h7:inZ (lenZ zs) la size=true)(h8:inZ (lenZ zs) to own=true):tabZ zs to=some ⟨own,la,size⟩:=by
 have e1:ldO zs to 4=leAt zs to.toNat 4:=if_pos h1
 rw [e1] at hla
 have hi:=inZ_iff.1 h2
 have hi3:=inZ_iff.1 h3
 have h9:inZ (lenZ zs) la 4=true:=inZ_iff.2 (by omega)
 have e2:leAt zs la.toNat 2=size:=(if_pos h2).symm.trans hs
 have e3:leAt zs (la.toNat+2) 2=own:=by
  rw [show la.toNat+2=(la+2).toNat by omega]
  exact (if_pos h3).symm.trans ho
 unfold tabZ tabOf
 rw [if_pos h1,hla,if_pos h9,e2,e3,if_pos ⟨⟨h4,h5,h6⟩,h7,h8⟩]
def TabOk (zs:List Int)(room:Nat)(to left la size own:Int):Prop:=inZ (lenZ zs) to 4=true∧1≤room∧0≤la∧inZ (lenZ zs) la 2=true∧inZ (lenZ zs) (la+2) 2=true∧4≤size∧size % 2=0∧4≤own∧reachOk zs la size left=true∧reachOk zs to own (left-size)=true
theorem tab_no {ss:List CRec}{es:List SCho}{zs:List Int}{room:Nat}{ref to left la size own:Int}(hla:to-sg32 (ldO zs to 4)=la)(hs:ldO zs la 2=size)(ho:ldO zs (la+2) 2=own)(h:¬TabOk zs room to left la size own):structAtZ ss zs (nextZ ss es zs room) ref to left=none:=by
 refine struct_none fun t ht=>?_
 obtain ⟨h1,h2,h3,h4,h5,h6,h7,h8,h9,h10,h11,h12⟩:=tab_vals ht
 rw [hla] at h2
 subst h2
 rw [hs] at h5
 rw [ho] at h6
 subst h5 h6
 rcases Nat.eq_zero_or_pos room with h13|h13
 · subst h13
   exact .inl rfl
 · right
   refine Int.not_le.1 fun hle=>h ⟨h1,h13,h7,h3,h4,h8,h9,h10,?_,?_⟩
   · unfold reachOk
     rw [h11,Bool.true_and,decide_eq_true_eq]
     omega
   · unfold reachOk
     rw [h12,Bool.true_and,decide_eq_true_eq]
     omega
theorem tab_yes {ss:List CRec}{zs:List Int}{f:NextD}{room:Nat}{ref to left la size own:Int}(hla:to-sg32 (ldO zs to 4)=la)(hs:ldO zs la 2=size)(ho:ldO zs (la+2) 2=own)(h:TabOk zs room to left la size own) :
  structAtZ ss zs (some f) ref to left=match seqD (fieldZ zs f (recC ss ref).fields to ⟨own,la,size⟩) (left-size-own) (recC ss ref).fields.length with|none=>none|some (ks,l)=>some (.mk 0 [] ks true,l):=by
 obtain ⟨h1,h2,h3,h4,h5,h6,h7,h8,h9,h10⟩:=h
 unfold reachOk at h9 h10
 rw [Bool.and_eq_true,decide_eq_true_eq] at h9 h10
 unfold structAtZ
 rw [tab_mk h1 hla h4 h5 hs ho h6 h7 h8 h9.1 h10.1]
 have e:left-(size+own)=left-size-own:=by omega
 show (if left-(size+own)<0 then (none:Option (PV × Int)) else _)=_
 rw [if_neg (by omega),e]
 rfl
variable {base B:Nat} {W W':World} {rk:Nat} {sv ev:Value} {root:Int} {bp:Option Addr} {bc:Nat} {zs:List Int} {ss:List (SRec × Value)} {es:List (SCho × Value)} {left l':Int}
theorem num_ctx (h:DCtx base B W rk sv ev root bp bc zs ss es left)(at':Int)(s:Nat)(hs:s=2∨s=4){b:Bool}(hb:inZ (lenZ zs) at' s=b){z:Int}(hz:ldO zs at' s=z) :
  Calls Tryd.prog 104 #[.pointer (some ⟨rk,0,none⟩),.int .i64 at',.int .i64 s] W fun e w'=>e=.returned (.int .i64 z)∧RdSt w' rk sv ev root bp bc zs (lenZ zs-left) (!b)∧Exw rk rk W.heap.size W w':=by
 refine (rdnum_any W h.st h.rows.rowV at' s hs).mono ?_
 rintro e w' ⟨rfl,hs2,hx⟩
 rw [Bool.false_or,hb] at hs2
 exact ⟨by rw [hz],hs2,hx⟩
end Go.Proofs.YtcfjjocmiheiaaaDoor
