/-
  The document's own reading of tables: Decode. Conditions: those that each theorem names.
-/
import Derived.Test.YtcfjjocmiheiaaaDoorPkD52
import Derived.Test.YtcfjjocmiheiaaaDoorPkD6
import Derived.Test.YtcfjjocmiheiaaaDoorPkD46
namespace Go.Proofs.YtcfjjocmiheiaaaDoor
open Go.ChangeShapes Go.WideShapes Go.ChangeAt Go.RowKit Go.Shelf
theorem RdPost.move {res:Option (PV × Int)}{w w2 w3 W:World}{rk:Nat}{sv ev:Value}{root:Int}{bp:Option Addr}{bc:Nat}{zs:List Int}{l':Int}{val:Value}{bad:Bool}(h:RdPost res w2 rk sv ev root bp bc zs (.returned val) w3)(hx:Exw rk rk w.heap.size w w2)(h0:RdSt w rk sv ev root bp bc zs l' bad)(hv:RowV sv∧RowV ev)(hW:Exw rk rk w.heap.size w W)(hs:w3.heap.size≤W.heap.size)(hb:∀ k,k<w3.heap.size→w2.heap.size≤k→W.heap[k]?=w3.heap[k]?)(hr:W.heap[rk]?=w3.heap[rk]?):RdPost res w rk sv ev root bp bc zs (.returned val) W:=by
 refine ⟨hW,?_⟩
 rcases h.2 with ⟨v,l,val',h3,h4,h5,h6,h7⟩|⟨h3,h4,rc,h5,h6,h7⟩
 · exact .inl ⟨v,l,val',h3,h4,h5,vh_new h6 hx.size hs hb,h0.keep hv hW (hr.trans h7.blk)⟩
 · exact .inr ⟨h3,h4,rc,h5,h6,h0.keep hv hW (hr.trans h7.blk)⟩
def DecPost (ss:List CRec)(es:List SCho)(zs:List Int)(root:Nat)(w:World)(e:Ending)(w':World):Prop:=
 Below w.heap.size w w' ∧
 ((∃ v l val,zs.length≤16384∧flatZ ss es zs 12 13 root 0 0 zs.length=some (v,l)∧e=.returned (.tuple #[val,.bool true])∧VH (newS w.heap.size) w' v val) ∨
  ((16384<zs.length∨flatZ ss es zs 12 13 root 0 0 zs.length=none)∧∃ val,e=.returned (.tuple #[val,.bool false])∧VForm val))
set_option maxRecDepth 100000 in
set_option maxHeartbeats 8000000 in
theorem decode_any (w:World){base:Nat}{ss:List (SRec × Value)}{es:List (SCho × Value)}{sv ev:Value}(root:Nat){bp:Option Addr}{bc:Nat}{zs:List Int}(h:SchRows base w ss es sv ev)(hS:SchM ss (es.map Prod.fst))(hr:root<ss.length)(hz:Bytes w bp zs)(hc:zs.length≤bc)(hl:zs.length≤1000000)(hA:Amb w.heap.size w) :
  Calls Tryd.prog 47 #[.agg #[sv,ev,.int .i64 root],.slice bp zs.length bc] w (DecPost (sRecs ss) (es.map Prod.fst) zs root w):=by
 obtain ⟨hb,hq1,hq2,hq3⟩:=three_start w #[sv,ev,.int .i64 root] #[.int .u64 0,.slice none 0 0,.slice none 0 0,.bool false] #[sv,ev,.int .i64 root,.slice bp zs.length bc,.int .i64 0,.bool false] 30 36 171
 have HB:=Lib.hid hb
 have HQ1:=Lib.hid hq1
 have HQ2:=Lib.hid hq2
 have hw0:w.heap.size+1+1<(((w.alloc (.cells #[sv,ev,.int .i64 root] 30)).alloc (.cells #[.int .u64 0,.slice none 0 0,.slice none 0 0,.bool false] 36)).alloc (.cells #[sv,ev,.int .i64 root,.slice bp zs.length bc,.int .i64 0,.bool false] 171)).heap.size:=blk_lt hq3
 have HW0:=Lib.hid hw0
 obtain ⟨P,hP⟩:∃ P,DecPost (sRecs ss) (es.map Prod.fst) zs root w=P:=⟨_,rfl⟩
 rw [hP]
 have HP:=Lib.hid hP.symm
 by_cases hlong:(16384:Int)<(zs.length:Int)
 · have HLO:=Lib.hid hlong
   clear hb hq1 hq2 hq3 hA h hz hS hr hc hP hw0
   go_enter Tryd.func47,Tryd.ntmps47
   go_upto_region 3 with (fail)
   generalize (((w.alloc (.cells #[sv,ev,.int .i64 root] 30)).alloc (.cells #[.int .u64 0,.slice none 0 0,.slice none 0 0,.bool false] 36)).alloc (.cells #[sv,ev,.int .i64 root,.slice bp zs.length bc,.int .i64 0,.bool false] 171))=W1 at *
   obtain ⟨_,u0,u1,u2,u3⟩:=blk4p HQ2.out
   have p0:=blk_frozen HQ2.out 0
   have p1:=blk_frozen HQ2.out 1
   have p2:=blk_frozen HQ2.out 2
   have p3:=blk_frozen HQ2.out 3
   go_wp2
   refine post_gen (fun Wf=>Wf.heap[w.heap.size+1]?=some (.cells #[.int .u64 0,.slice none 0 0,.slice none 0 0,.bool false] 36 (0,0))∧P (.returned (.tuple #[.agg #[.int .u64 0,.slice none 0 0,.slice none 0 0,.bool false],.bool false])) Wf) ⟨?_,?_⟩ ?_
   · exact blk_set4 HQ2.out _ _ _ _
   · rw [HP.out]
     exact ⟨below_set4 HB.out (Nat.le_succ _) _ _ _ _,.inr ⟨.inl (by have:=HLO.out;omega),_,rfl,vform _ _ _ _ _ _ _ _⟩⟩
   · rintro Wf ⟨e1,e2⟩
     obtain ⟨_,d0,d1,d2,d3⟩:=blk4p e1
     exact bodyPost_ret (v:=.tuple #[.agg #[.int .u64 0,.slice none 0 0,.slice none 0 0,.bool false],.bool false]) (by simp [results,Tryd.results47,go_sem,d0,d1,d2,d3]) rfl e2
 · have hlz:zs.length≤16384:=by omega
   have HLZ:=Lib.hid hlz
   have hst:RdSt (((w.alloc (.cells #[sv,ev,.int .i64 root] 30)).alloc (.cells #[.int .u64 0,.slice none 0 0,.slice none 0 0,.bool false] 36)).alloc (.cells #[sv,ev,.int .i64 root,.slice bp zs.length bc,.int .i64 0,.bool false] 171)) (w.heap.size+1+1) sv ev root bp bc zs (lenZ zs-(zs.length:Int)) false:=⟨by rw [show lenZ zs-(zs.length:Int)=0 by unfold lenZ;omega];exact hq3,hz.below (Nat.le_refl _) hb,hlz,hc⟩
   have hctx:DCtx base w.heap.size (((w.alloc (.cells #[sv,ev,.int .i64 root] 30)).alloc (.cells #[.int .u64 0,.slice none 0 0,.slice none 0 0,.bool false] 36)).alloc (.cells #[sv,ev,.int .i64 root,.slice bp zs.length bc,.int .i64 0,.bool false] 171)) (w.heap.size+1+1) sv ev root bp bc zs ss es zs.length:=⟨hst,h.below hb,by unfold lenZ;omega,⟨hb.size,by omega⟩,hA.below hb,hS⟩
   have H1:=Lib.hid hctx
   have HRT:=Lib.hid hr
   have HV:=Lib.hid h.rowV
   have s2:=(blk_cell hq1 2).trans rfl
   clear hb hq1 hq2 hq3 hA h hz hS hr hc hP hw0 hst hctx hlz
   go_enter Tryd.func47,Tryd.ntmps47
   go_upto_region 4 with (fail)
   generalize (((w.alloc (.cells #[sv,ev,.int .i64 root] 30)).alloc (.cells #[.int .u64 0,.slice none 0 0,.slice none 0 0,.bool false] 36)).alloc (.cells #[sv,ev,.int .i64 root,.slice bp zs.length bc,.int .i64 0,.bool false] 171))=W1 at *
   generalize hrk:w.heap.size+1+1=rk at *
   have HRK:=Lib.hid hrk
   clear hrk
   have HTC:Hid (∀ W2,Exw rk rk W1.heap.size W1 W2→RdSt W2 rk sv ev root bp bc zs (lenZ zs-zs.length) (badJ zs 0)→Calls Tryd.prog 74 #[.pointer (some ⟨rk,0,none⟩),.int .i64 (toJ zs 0),.int .i64 root,.int .i64 (12:Nat)] W2 (RdPost (flatZ (sRecs ss) (es.map Prod.fst) zs 12 13 root 0 0 zs.length) W2 rk sv ev root bp bc zs)):=Lib.hid (fun W2 hx hs=>by
    rw [flatZ_struct (show sortP 13 0=4 from rfl)]
    have hl2:=H1.out.hl
    have hl3:=H1.out.len
    cases hb:badJ zs 0 with
    | true =>
     rw [hb] at hs
     exact rdtab_bad W2 hs H1.out.rows.rowV (by omega) (by omega) _ _ _ (point_bad hb)
    | false =>
     rw [hb] at hs
     rw [point_ok hb]
     exact (rd_all 12 (by decide)).1.run (H1.out.exw hx hs hl2) root (toJ zs 0) HRT.out (by have h6:=toJ_bd (zs:=zs) (at':=0) H1.out.st.bytes.1 (by decide);have h7:=jump_to H1.out.len hb;omega))
   have HJC:Hid (∀ W2,Below W1.heap.size W1 W2→Calls Tryd.prog 75 #[.pointer (some ⟨rk,0,none⟩),.int .i64 0] W2 fun e w'=>e=.returned (.int .i64 (toJ zs 0))∧RdSt w' rk sv ev root bp bc zs (lenZ zs-zs.length) (badJ zs 0)∧Exw rk rk W2.heap.size W2 w'):=Lib.hid (fun W2 hb=>jump_ctx (H1.out.below hb) 0 (by decide))
   refine wp_region_noPanic ?_
   refine wp_region_held_drew (S:=(fun w'=>w'.cell? ⟨w.heap.size,2,none⟩=some (.int .i64 root))) (by kernel_rfl) s2 ?_
   intro hS
   refine tk 0 (.pointer (some ⟨rk,0,none⟩)) hS ?_ ?_
   · intro w' hSw
     have s2:=hSw
     go_simp
   simp only [td]
   refine tk 1 (.pointer (some ⟨rk,0,none⟩)) hS ?_ ?_
   · intro w' hSw
     have s2:=hSw
     go_simp
   simp only [td]
   refine tk 3 (.pointer (some ⟨w.heap.size,2,none⟩)) hS ?_ ?_
   · intro w' hSw
     have s2:=hSw
     go_simp
   simp only [td]
   refine tk 4 (.int .i64 root) hS ?_ ?_
   · intro w' hSw
     have s2:=hSw
     go_simp
   simp only [td]
   refine wpAnyH_ready (rs:=[2,6]) (by kernel_rfl) (by decide) (AllReadyH.cons rfl (fun K hK=>?_) (AllReadyH.cons rfl (fun K hK=>?_) (AllReadyH.nil)))
   · rw [if_pos (by kernel_rfl)]
     go_simp
     refine (HJC.out W1.drew ((Below.refl _ W1).drew)).mono ?_
     rintro e V1 ⟨rfl,hsJ,hxJ⟩
     have hxj:Exw rk rk W1.heap.size W1 V1:=Exw.after ((Below.refl _ W1).drew) hxJ
     have c2:=cell_exw hxj s2 (by have:=HRK.out;show w.heap.size≠rk;omega) (by have:=HRK.out;show w.heap.size≠rk;omega)
     refine hK.out _ _ c2 (fun hS=>?_)
     clear c2
     refine wpAnyH_ready (rs:=[5,6]) (by kernel_rfl) (by decide) (AllReadyH.cons rfl (fun K hK=>?_) (AllReadyH.cons rfl (fun K hK=>?_) (AllReadyH.nil)))
     · rw [if_pos (by kernel_rfl)]
       go_simp
       refine (HTC.out V1 hxj hsJ).mono ?_
       intro e V2 hpost
       obtain ⟨x0,x1,x2,x3,rfl,hform,hxT,_⟩:=hpost.form
       obtain ⟨y0,y1,y2,y3,y4,y5,y6,y7,hy⟩:=hform
       injection hy with hy
       simp only [Array.mk.injEq,List.cons.injEq,and_true] at hy
       obtain ⟨rfl,rfl,rfl,rfl⟩:=hy
       have hxt:Exw rk rk W1.heap.size W1 V2:=(hxj).then hxT
       have c2:=cell_exw hxt s2 (by have:=HRK.out;show w.heap.size≠rk;omega) (by have:=HRK.out;show w.heap.size≠rk;omega)
       refine hK.out _ _ c2 (fun hS=>?_)
       clear c2
       refine wpAnyH_ready (rs:=[6]) (by kernel_rfl) (by decide) (AllReadyH.cons rfl (fun K hK=>?_) (AllReadyH.nil))
       rw [if_pos (by kernel_rfl)]
       go_simp
       have hba:Below V2.heap.size V2 (V2.alloc (.cells #[.int .u64 0,.slice none 0 0,.slice none 0 0,.bool false] 36)):=(Below.refl _ V2).alloc (Nat.le_refl _) _
       have hT:=heap_alloc_new V2 (.cells #[.int .u64 0,.slice none 0 0,.slice none 0 0,.bool false] 36)
       have c2:=cell_stays (w:=W1) (W:=W1) (Below.refl _ W1) s2
       have hxa:=hxt.bel hba
       have c3:=cell_exw hxa s2 (by have:=HRK.out;show w.heap.size≠rk;omega) (by have:=HRK.out;show w.heap.size≠rk;omega)
       refine hK.out _ _ c3 (fun hS=>?_)
       clear c2 c3
       generalize V2.alloc (.cells #[.int .u64 0,.slice none 0 0,.slice none 0 0,.bool false] 36)=V3 at *
       refine wpAnyH_ready (rs:=[7]) (by kernel_rfl) (by decide) (AllReadyH.cons rfl (fun K hK=>?_) AllReadyH.nil)
       rw [if_pos (by kernel_rfl)]
       have hblk:=hT
       obtain ⟨_,z0,z1,z2,z3⟩:=blk4p hblk
       have z4:=blk_frozen hblk 0
       have z5:=blk_frozen hblk 1
       have z6:=blk_frozen hblk 2
       have z7:=blk_frozen hblk 3
       have hpo:RdPost (flatZ (sRecs ss) (es.map Prod.fst) zs 12 13 root 0 0 zs.length) W1 rk sv ev root bp bc zs (.returned (.agg #[.int .u64 y0,.slice y1 y2 y3,.slice y4 y5 y6,.bool y7])) (set4 V3 V2.heap.size (.int .u64 y0) (.slice y1 y2 y3) (.slice y4 y5 y6) (.bool y7)):=hpost.move hxj H1.out.st HV.out (((((hxa.setCell (p:=⟨V2.heap.size,0,none⟩) (.inr (.inr hxt.size)) _).setCell (p:=⟨V2.heap.size,1,none⟩) (.inr (.inr hxt.size)) _).setCell (p:=⟨V2.heap.size,2,none⟩) (.inr (.inr hxt.size)) _).setCell (p:=⟨V2.heap.size,3,none⟩) (.inr (.inr hxt.size)) _)) (by unfold set4;simp [World.setCell];exact hba.size) (fun k hk _=>(set4_blk _ (by omega) _ _ _ _).trans (hba.block k hk)) ((set4_blk _ (by have:=blk_lt H1.out.st.blk;have:=hxt.size;omega) _ _ _ _).trans (hba.block rk (by have:=blk_lt H1.out.st.blk;have:=hxt.size;omega)))
       have hbT:=blk_set4 hblk (.int .u64 y0) (.slice y1 y2 y3) (.slice y4 y5 y6) (.bool y7)
       have hTlt:W1.heap.size≤V2.heap.size:=hxt.size
       have hTr:V2.heap.size≠rk:=by have:=blk_lt H1.out.st.blk;omega
       have hcS:=cell_exw hpo.1 s2 (by have:=HRK.out;show w.heap.size≠rk;omega) (by have:=HRK.out;show w.heap.size≠rk;omega)
       unfold set4 at hpo hbT hcS
       go_simp
       refine hK.out _ _ hcS (fun hS=>?_)
       refine wpAnyH_done (by kernel_rfl) ?_ _
       refine NoPanic.normal ?_
       try simp only [Exit.then]
       have HPO:=Lib.hid hpo
       have HBT:=Lib.hid hbT
       generalize (((V3.setCell ⟨V2.heap.size,0,none⟩ (.int .u64 y0)).setCell ⟨V2.heap.size,1,none⟩ (.slice y1 y2 y3)).setCell ⟨V2.heap.size,2,none⟩ (.slice y4 y5 y6)).setCell ⟨V2.heap.size,3,none⟩ (.bool y7)=W9 at *
       have hwr:w.heap.size+1<W1.heap.size:=blk_lt HQ2.out
       have hR9:=blk_exw HQ2.out HPO.out.1 (blk_lt HQ2.out) (by have:=HRK.out;omega) (by have:=HRK.out;omega)
       have HR9:=Lib.hid hR9
       have HTL:=Lib.hid hTlt
       have HTNE:Hid (V2.heap.size≠w.heap.size+1):=Lib.hid (by omega)
       have HTNR:=Lib.hid hTr
       clear hpo hbT hblk z0 z1 z2 z3 z4 z5 z6 z7 hcS hTlt hTr hwr hR9 hpost HTC HJC
       obtain ⟨T,hT9⟩:∃ T,V2.heap.size=T:=⟨_,rfl⟩
       rw [hT9] at HBT HTL HTNE HTNR
       try rw [hT9]
       rcases HPO.out.2 with ⟨v,lq,val,hres,hlq,he,hvh,hst⟩|⟨hres,_,rc,_,_,hst⟩
       · injection he with he
         subst he
         have HVH:=Lib.hid hvh
         have HRS:=Lib.hid hres
         clear hvh hres
         obtain ⟨_,t0,t1,t2,t3⟩:=blk4p HBT.out
         obtain ⟨_,c0,c1,c2,c3,c4,c5⟩:=blk6 hst.blk
         obtain ⟨_,u0,u1,u2,u3⟩:=blk4p HR9.out
         have p0:=blk_frozen HR9.out 0
         have p1:=blk_frozen HR9.out 1
         have p2:=blk_frozen HR9.out 2
         have p3:=blk_frozen HR9.out 3
         have HS9:=Lib.hid hst
         have n1:=HTNE.out
         have n2:=HTNR.out
         have n3:w.heap.size+1≠rk:=by have:=HRK.out;omega
         clear hst
         go_upto_region 5 with (fail)
         go_region
         try simp only [Exit.then]
         go_wp2
         refine post_gen (fun Wf=>Wf.heap[w.heap.size+1]?=some (.cells #[.int .u64 y0,.slice y1 y2 y3,.slice y4 y5 y6,.bool y7] 36 (0,0))∧P (.returned (.tuple #[.agg #[.int .u64 y0,.slice y1 y2 y3,.slice y4 y5 y6,.bool y7],.bool true])) Wf) ⟨?_,?_⟩ ?_
         · exact blk_set4 HR9.out _ _ _ _
         · rw [HP.out]
           have hx:Exw rk rk w.heap.size w W9:=Exw.after HB.out HPO.out.1
           have hx4:=(((hx.setCell (p:=⟨w.heap.size+1,0,none⟩) (.inr (.inr (Nat.le_succ _))) (.int .u64 y0)).setCell (p:=⟨w.heap.size+1,1,none⟩) (.inr (.inr (Nat.le_succ _))) (.slice y1 y2 y3)).setCell (p:=⟨w.heap.size+1,2,none⟩) (.inr (.inr (Nat.le_succ _))) (.slice y4 y5 y6)).setCell (p:=⟨w.heap.size+1,3,none⟩) (.inr (.inr (Nat.le_succ _))) (.bool y7)
           refine ⟨hx4.drew.below (by have:=HRK.out;omega) (by have:=HRK.out;omega),?_⟩
           exact .inl ⟨v,lq,_,HLZ.out,HRS.out,rfl,vh_new HVH.out HB.out.size (by unfold World.setCell;simp) (fun k hk hk2=>set4_blk W9 (by have:=HW0.out;have:=HRK.out;omega) _ _ _ _)⟩
         · rintro Wf ⟨e1,e2⟩
           obtain ⟨_,d0,d1,d2,d3⟩:=blk4p e1
           exact bodyPost_ret (v:=.tuple #[.agg #[.int .u64 y0,.slice y1 y2 y3,.slice y4 y5 y6,.bool y7],.bool true]) (by simp [results,Tryd.results47,go_sem,d0,d1,d2,d3]) rfl e2
       · have HRS:=Lib.hid hres
         clear hres
         obtain ⟨_,t0,t1,t2,t3⟩:=blk4p HBT.out
         obtain ⟨_,c0,c1,c2,c3,c4,c5⟩:=blk6 hst.blk
         obtain ⟨_,u0,u1,u2,u3⟩:=blk4p HR9.out
         have p0:=blk_frozen HR9.out 0
         have p1:=blk_frozen HR9.out 1
         have p2:=blk_frozen HR9.out 2
         have p3:=blk_frozen HR9.out 3
         have HS9:=Lib.hid hst
         have n1:=HTNE.out
         have n2:=HTNR.out
         have n3:w.heap.size+1≠rk:=by have:=HRK.out;omega
         clear hst
         go_upto_region 5 with (fail)
         go_region
         try simp only [Exit.then]
         go_wp2
         refine post_gen (fun Wf=>Wf.heap[w.heap.size+1]?=some (.cells #[.int .u64 y0,.slice y1 y2 y3,.slice y4 y5 y6,.bool y7] 36 (0,0))∧P (.returned (.tuple #[.agg #[.int .u64 y0,.slice y1 y2 y3,.slice y4 y5 y6,.bool y7],.bool false])) Wf) ⟨?_,?_⟩ ?_
         · exact blk_set4 HR9.out _ _ _ _
         · rw [HP.out]
           have hx:Exw rk rk w.heap.size w W9:=Exw.after HB.out HPO.out.1
           have hx4:=(((hx.setCell (p:=⟨w.heap.size+1,0,none⟩) (.inr (.inr (Nat.le_succ _))) (.int .u64 y0)).setCell (p:=⟨w.heap.size+1,1,none⟩) (.inr (.inr (Nat.le_succ _))) (.slice y1 y2 y3)).setCell (p:=⟨w.heap.size+1,2,none⟩) (.inr (.inr (Nat.le_succ _))) (.slice y4 y5 y6)).setCell (p:=⟨w.heap.size+1,3,none⟩) (.inr (.inr (Nat.le_succ _))) (.bool y7)
           refine ⟨hx4.drew.below (by have:=HRK.out;omega) (by have:=HRK.out;omega),?_⟩
           exact .inr ⟨.inr HRS.out,_,rfl,vform _ _ _ _ _ _ _ _⟩
         · rintro Wf ⟨e1,e2⟩
           obtain ⟨_,d0,d1,d2,d3⟩:=blk4p e1
           exact bodyPost_ret (v:=.tuple #[.agg #[.int .u64 y0,.slice y1 y2 y3,.slice y4 y5 y6,.bool y7],.bool false]) (by simp [results,Tryd.results47,go_sem,d0,d1,d2,d3]) rfl e2
     · rw [if_pos (by kernel_rfl)]
       go_simp
       have hba:Below V1.heap.size V1 (V1.alloc (.cells #[.int .u64 0,.slice none 0 0,.slice none 0 0,.bool false] 36)):=(Below.refl _ V1).alloc (Nat.le_refl _) _
       have hT:=heap_alloc_new V1 (.cells #[.int .u64 0,.slice none 0 0,.slice none 0 0,.bool false] 36)
       have hxa:=hxj.bel hba
       have hsA:=hsJ.below hba
       have c3:=cell_exw hxa s2 (by have:=HRK.out;show w.heap.size≠rk;omega) (by have:=HRK.out;show w.heap.size≠rk;omega)
       refine hK.out _ _ c3 (fun hS=>?_)
       clear c3
       generalize V1.alloc (.cells #[.int .u64 0,.slice none 0 0,.slice none 0 0,.bool false] 36)=V2 at *
       refine wpAnyH_ready (rs:=[5]) (by kernel_rfl) (by decide) (AllReadyH.cons rfl (fun K hK=>?_) (AllReadyH.nil))
       rw [if_pos (by kernel_rfl)]
       go_simp
       refine (HTC.out V2 hxa hsA).mono ?_
       intro e V3 hpost
       obtain ⟨x0,x1,x2,x3,rfl,hform,hxT,_⟩:=hpost.form
       obtain ⟨y0,y1,y2,y3,y4,y5,y6,y7,hy⟩:=hform
       injection hy with hy
       simp only [Array.mk.injEq,List.cons.injEq,and_true] at hy
       obtain ⟨rfl,rfl,rfl,rfl⟩:=hy
       have hxt:Exw rk rk W1.heap.size W1 V3:=(hxa).then hxT
       have c2:=cell_exw hxt s2 (by have:=HRK.out;show w.heap.size≠rk;omega) (by have:=HRK.out;show w.heap.size≠rk;omega)
       refine hK.out _ _ c2 (fun hS=>?_)
       clear c2
       refine wpAnyH_ready (rs:=[7]) (by kernel_rfl) (by decide) (AllReadyH.cons rfl (fun K hK=>?_) AllReadyH.nil)
       rw [if_pos (by kernel_rfl)]
       have hblk:=blk_exw hT hxT (blk_lt hT) (by have:=blk_lt H1.out.st.blk;have:=hxj.size;omega) (by have:=blk_lt H1.out.st.blk;have:=hxj.size;omega)
       obtain ⟨_,z0,z1,z2,z3⟩:=blk4p hblk
       have z4:=blk_frozen hblk 0
       have z5:=blk_frozen hblk 1
       have z6:=blk_frozen hblk 2
       have z7:=blk_frozen hblk 3
       have hpo:RdPost (flatZ (sRecs ss) (es.map Prod.fst) zs 12 13 root 0 0 zs.length) W1 rk sv ev root bp bc zs (.returned (.agg #[.int .u64 y0,.slice y1 y2 y3,.slice y4 y5 y6,.bool y7])) (set4 V3 V1.heap.size (.int .u64 y0) (.slice y1 y2 y3) (.slice y4 y5 y6) (.bool y7)):=hpost.move hxa H1.out.st HV.out (((((hxt.setCell (p:=⟨V1.heap.size,0,none⟩) (.inr (.inr hxj.size)) _).setCell (p:=⟨V1.heap.size,1,none⟩) (.inr (.inr hxj.size)) _).setCell (p:=⟨V1.heap.size,2,none⟩) (.inr (.inr hxj.size)) _).setCell (p:=⟨V1.heap.size,3,none⟩) (.inr (.inr hxj.size)) _)) (by unfold set4;simp [World.setCell]) (fun k _ hk=>set4_blk _ (by have:=blk_lt hT;omega) _ _ _ _) (set4_blk _ (by have:=blk_lt H1.out.st.blk;have:W1.heap.size≤V1.heap.size:=hxj.size;omega) _ _ _ _)
       have hbT:=blk_set4 hblk (.int .u64 y0) (.slice y1 y2 y3) (.slice y4 y5 y6) (.bool y7)
       have hTlt:W1.heap.size≤V1.heap.size:=hxj.size
       have hTr:V1.heap.size≠rk:=by have:=blk_lt H1.out.st.blk;omega
       have hcS:=cell_exw hpo.1 s2 (by have:=HRK.out;show w.heap.size≠rk;omega) (by have:=HRK.out;show w.heap.size≠rk;omega)
       unfold set4 at hpo hbT hcS
       go_simp
       refine hK.out _ _ hcS (fun hS=>?_)
       refine wpAnyH_done (by kernel_rfl) ?_ _
       refine NoPanic.normal ?_
       try simp only [Exit.then]
       have HPO:=Lib.hid hpo
       have HBT:=Lib.hid hbT
       generalize (((V3.setCell ⟨V1.heap.size,0,none⟩ (.int .u64 y0)).setCell ⟨V1.heap.size,1,none⟩ (.slice y1 y2 y3)).setCell ⟨V1.heap.size,2,none⟩ (.slice y4 y5 y6)).setCell ⟨V1.heap.size,3,none⟩ (.bool y7)=W9 at *
       have hwr:w.heap.size+1<W1.heap.size:=blk_lt HQ2.out
       have hR9:=blk_exw HQ2.out HPO.out.1 (blk_lt HQ2.out) (by have:=HRK.out;omega) (by have:=HRK.out;omega)
       have HR9:=Lib.hid hR9
       have HTL:=Lib.hid hTlt
       have HTNE:Hid (V1.heap.size≠w.heap.size+1):=Lib.hid (by omega)
       have HTNR:=Lib.hid hTr
       clear hpo hbT hblk z0 z1 z2 z3 z4 z5 z6 z7 hcS hTlt hTr hwr hR9 hpost HTC HJC
       obtain ⟨T,hT9⟩:∃ T,V1.heap.size=T:=⟨_,rfl⟩
       rw [hT9] at HBT HTL HTNE HTNR
       try rw [hT9]
       rcases HPO.out.2 with ⟨v,lq,val,hres,hlq,he,hvh,hst⟩|⟨hres,_,rc,_,_,hst⟩
       · injection he with he
         subst he
         have HVH:=Lib.hid hvh
         have HRS:=Lib.hid hres
         clear hvh hres
         obtain ⟨_,t0,t1,t2,t3⟩:=blk4p HBT.out
         obtain ⟨_,c0,c1,c2,c3,c4,c5⟩:=blk6 hst.blk
         obtain ⟨_,u0,u1,u2,u3⟩:=blk4p HR9.out
         have p0:=blk_frozen HR9.out 0
         have p1:=blk_frozen HR9.out 1
         have p2:=blk_frozen HR9.out 2
         have p3:=blk_frozen HR9.out 3
         have HS9:=Lib.hid hst
         have n1:=HTNE.out
         have n2:=HTNR.out
         have n3:w.heap.size+1≠rk:=by have:=HRK.out;omega
         clear hst
         go_upto_region 5 with (fail)
         go_region
         try simp only [Exit.then]
         go_wp2
         refine post_gen (fun Wf=>Wf.heap[w.heap.size+1]?=some (.cells #[.int .u64 y0,.slice y1 y2 y3,.slice y4 y5 y6,.bool y7] 36 (0,0))∧P (.returned (.tuple #[.agg #[.int .u64 y0,.slice y1 y2 y3,.slice y4 y5 y6,.bool y7],.bool true])) Wf) ⟨?_,?_⟩ ?_
         · exact blk_set4 HR9.out _ _ _ _
         · rw [HP.out]
           have hx:Exw rk rk w.heap.size w W9:=Exw.after HB.out HPO.out.1
           have hx4:=(((hx.setCell (p:=⟨w.heap.size+1,0,none⟩) (.inr (.inr (Nat.le_succ _))) (.int .u64 y0)).setCell (p:=⟨w.heap.size+1,1,none⟩) (.inr (.inr (Nat.le_succ _))) (.slice y1 y2 y3)).setCell (p:=⟨w.heap.size+1,2,none⟩) (.inr (.inr (Nat.le_succ _))) (.slice y4 y5 y6)).setCell (p:=⟨w.heap.size+1,3,none⟩) (.inr (.inr (Nat.le_succ _))) (.bool y7)
           refine ⟨hx4.drew.below (by have:=HRK.out;omega) (by have:=HRK.out;omega),?_⟩
           exact .inl ⟨v,lq,_,HLZ.out,HRS.out,rfl,vh_new HVH.out HB.out.size (by unfold World.setCell;simp) (fun k hk hk2=>set4_blk W9 (by have:=HW0.out;have:=HRK.out;omega) _ _ _ _)⟩
         · rintro Wf ⟨e1,e2⟩
           obtain ⟨_,d0,d1,d2,d3⟩:=blk4p e1
           exact bodyPost_ret (v:=.tuple #[.agg #[.int .u64 y0,.slice y1 y2 y3,.slice y4 y5 y6,.bool y7],.bool true]) (by simp [results,Tryd.results47,go_sem,d0,d1,d2,d3]) rfl e2
       · have HRS:=Lib.hid hres
         clear hres
         obtain ⟨_,t0,t1,t2,t3⟩:=blk4p HBT.out
         obtain ⟨_,c0,c1,c2,c3,c4,c5⟩:=blk6 hst.blk
         obtain ⟨_,u0,u1,u2,u3⟩:=blk4p HR9.out
         have p0:=blk_frozen HR9.out 0
         have p1:=blk_frozen HR9.out 1
         have p2:=blk_frozen HR9.out 2
         have p3:=blk_frozen HR9.out 3
         have HS9:=Lib.hid hst
         have n1:=HTNE.out
         have n2:=HTNR.out
         have n3:w.heap.size+1≠rk:=by have:=HRK.out;omega
         clear hst
         go_upto_region 5 with (fail)
         go_region
         try simp only [Exit.then]
         go_wp2
         refine post_gen (fun Wf=>Wf.heap[w.heap.size+1]?=some (.cells #[.int .u64 y0,.slice y1 y2 y3,.slice y4 y5 y6,.bool y7] 36 (0,0))∧P (.returned (.tuple #[.agg #[.int .u64 y0,.slice y1 y2 y3,.slice y4 y5 y6,.bool y7],.bool false])) Wf) ⟨?_,?_⟩ ?_
         · exact blk_set4 HR9.out _ _ _ _
         · rw [HP.out]
           have hx:Exw rk rk w.heap.size w W9:=Exw.after HB.out HPO.out.1
           have hx4:=(((hx.setCell (p:=⟨w.heap.size+1,0,none⟩) (.inr (.inr (Nat.le_succ _))) (.int .u64 y0)).setCell (p:=⟨w.heap.size+1,1,none⟩) (.inr (.inr (Nat.le_succ _))) (.slice y1 y2 y3)).setCell (p:=⟨w.heap.size+1,2,none⟩) (.inr (.inr (Nat.le_succ _))) (.slice y4 y5 y6)).setCell (p:=⟨w.heap.size+1,3,none⟩) (.inr (.inr (Nat.le_succ _))) (.bool y7)
           refine ⟨hx4.drew.below (by have:=HRK.out;omega) (by have:=HRK.out;omega),?_⟩
           exact .inr ⟨.inr HRS.out,_,rfl,vform _ _ _ _ _ _ _ _⟩
         · rintro Wf ⟨e1,e2⟩
           obtain ⟨_,d0,d1,d2,d3⟩:=blk4p e1
           exact bodyPost_ret (v:=.tuple #[.agg #[.int .u64 y0,.slice y1 y2 y3,.slice y4 y5 y6,.bool y7],.bool false]) (by simp [results,Tryd.results47,go_sem,d0,d1,d2,d3]) rfl e2
   · rw [if_pos (by kernel_rfl)]
     go_simp
     have hva:Below W1.heap.size W1 (W1.alloc (.cells #[.int .u64 0,.slice none 0 0,.slice none 0 0,.bool false] 36)).drew:=((Below.refl _ W1).alloc (Nat.le_refl _) _).drew
     have hT:(W1.alloc (.cells #[.int .u64 0,.slice none 0 0,.slice none 0 0,.bool false] 36)).drew.heap[W1.heap.size]?=some (.cells #[.int .u64 0,.slice none 0 0,.slice none 0 0,.bool false] 36 (0,0)):=heap_alloc_new W1 _
     have c2:=cell_stays hva s2
     refine hK.out _ _ c2 (fun hS=>?_)
     clear c2
     generalize (W1.alloc (.cells #[.int .u64 0,.slice none 0 0,.slice none 0 0,.bool false] 36)).drew=V1 at *
     refine wpAnyH_ready (rs:=[2]) (by kernel_rfl) (by decide) (AllReadyH.cons rfl (fun K hK=>?_) (AllReadyH.nil))
     rw [if_pos (by kernel_rfl)]
     go_simp
     refine (HJC.out V1 hva).mono ?_
     rintro e V2 ⟨rfl,hsJ,hxJ⟩
     have hxj:Exw rk rk W1.heap.size W1 V2:=Exw.after hva hxJ
     have c2:=cell_exw hxj s2 (by have:=HRK.out;show w.heap.size≠rk;omega) (by have:=HRK.out;show w.heap.size≠rk;omega)
     refine hK.out _ _ c2 (fun hS=>?_)
     clear c2
     refine wpAnyH_ready (rs:=[5]) (by kernel_rfl) (by decide) (AllReadyH.cons rfl (fun K hK=>?_) (AllReadyH.nil))
     rw [if_pos (by kernel_rfl)]
     go_simp
     refine (HTC.out V2 hxj hsJ).mono ?_
     intro e V3 hpost
     obtain ⟨x0,x1,x2,x3,rfl,hform,hxT,_⟩:=hpost.form
     obtain ⟨y0,y1,y2,y3,y4,y5,y6,y7,hy⟩:=hform
     injection hy with hy
     simp only [Array.mk.injEq,List.cons.injEq,and_true] at hy
     obtain ⟨rfl,rfl,rfl,rfl⟩:=hy
     have hxt:Exw rk rk W1.heap.size W1 V3:=(hxj).then hxT
     have c2:=cell_exw hxt s2 (by have:=HRK.out;show w.heap.size≠rk;omega) (by have:=HRK.out;show w.heap.size≠rk;omega)
     refine hK.out _ _ c2 (fun hS=>?_)
     clear c2
     have hT2:=blk_exw hT hxJ (blk_lt hT) (by have:=blk_lt H1.out.st.blk;omega) (by have:=blk_lt H1.out.st.blk;omega)
     refine wpAnyH_ready (rs:=[7]) (by kernel_rfl) (by decide) (AllReadyH.cons rfl (fun K hK=>?_) AllReadyH.nil)
     rw [if_pos (by kernel_rfl)]
     have hblk:=blk_exw hT2 hxT (blk_lt hT2) (by have:=blk_lt H1.out.st.blk;omega) (by have:=blk_lt H1.out.st.blk;omega)
     obtain ⟨_,z0,z1,z2,z3⟩:=blk4p hblk
     have z4:=blk_frozen hblk 0
     have z5:=blk_frozen hblk 1
     have z6:=blk_frozen hblk 2
     have z7:=blk_frozen hblk 3
     have hpo:RdPost (flatZ (sRecs ss) (es.map Prod.fst) zs 12 13 root 0 0 zs.length) W1 rk sv ev root bp bc zs (.returned (.agg #[.int .u64 y0,.slice y1 y2 y3,.slice y4 y5 y6,.bool y7])) (set4 V3 W1.heap.size (.int .u64 y0) (.slice y1 y2 y3) (.slice y4 y5 y6) (.bool y7)):=hpost.move hxj H1.out.st HV.out (((((hxt.setCell (p:=⟨W1.heap.size,0,none⟩) (.inr (.inr (Nat.le_refl _))) _).setCell (p:=⟨W1.heap.size,1,none⟩) (.inr (.inr (Nat.le_refl _))) _).setCell (p:=⟨W1.heap.size,2,none⟩) (.inr (.inr (Nat.le_refl _))) _).setCell (p:=⟨W1.heap.size,3,none⟩) (.inr (.inr (Nat.le_refl _))) _)) (by unfold set4;simp [World.setCell]) (fun k _ hk=>set4_blk _ (by have:=blk_lt hT2;omega) _ _ _ _) (set4_blk _ (by have:=blk_lt H1.out.st.blk;have:W1.heap.size≤W1.heap.size:=(Nat.le_refl _);omega) _ _ _ _)
     have hbT:=blk_set4 hblk (.int .u64 y0) (.slice y1 y2 y3) (.slice y4 y5 y6) (.bool y7)
     have hTlt:W1.heap.size≤W1.heap.size:=Nat.le_refl _
     have hTr:W1.heap.size≠rk:=by have:=blk_lt H1.out.st.blk;omega
     have hcS:=cell_exw hpo.1 s2 (by have:=HRK.out;show w.heap.size≠rk;omega) (by have:=HRK.out;show w.heap.size≠rk;omega)
     unfold set4 at hpo hbT hcS
     go_simp
     refine hK.out _ _ hcS (fun hS=>?_)
     refine wpAnyH_done (by kernel_rfl) ?_ _
     refine NoPanic.normal ?_
     try simp only [Exit.then]
     have HPO:=Lib.hid hpo
     have HBT:=Lib.hid hbT
     generalize (((V3.setCell ⟨W1.heap.size,0,none⟩ (.int .u64 y0)).setCell ⟨W1.heap.size,1,none⟩ (.slice y1 y2 y3)).setCell ⟨W1.heap.size,2,none⟩ (.slice y4 y5 y6)).setCell ⟨W1.heap.size,3,none⟩ (.bool y7)=W9 at *
     have hwr:w.heap.size+1<W1.heap.size:=blk_lt HQ2.out
     have hR9:=blk_exw HQ2.out HPO.out.1 (blk_lt HQ2.out) (by have:=HRK.out;omega) (by have:=HRK.out;omega)
     have HR9:=Lib.hid hR9
     have HTL:=Lib.hid hTlt
     have HTNE:Hid (W1.heap.size≠w.heap.size+1):=Lib.hid (by omega)
     have HTNR:=Lib.hid hTr
     clear hpo hbT hblk z0 z1 z2 z3 z4 z5 z6 z7 hcS hTlt hTr hwr hR9 hpost HTC HJC
     obtain ⟨T,hT9⟩:∃ T,W1.heap.size=T:=⟨_,rfl⟩
     rw [hT9] at HBT HTL HTNE HTNR
     try rw [hT9]
     rcases HPO.out.2 with ⟨v,lq,val,hres,hlq,he,hvh,hst⟩|⟨hres,_,rc,_,_,hst⟩
     · injection he with he
       subst he
       have HVH:=Lib.hid hvh
       have HRS:=Lib.hid hres
       clear hvh hres
       obtain ⟨_,t0,t1,t2,t3⟩:=blk4p HBT.out
       obtain ⟨_,c0,c1,c2,c3,c4,c5⟩:=blk6 hst.blk
       obtain ⟨_,u0,u1,u2,u3⟩:=blk4p HR9.out
       have p0:=blk_frozen HR9.out 0
       have p1:=blk_frozen HR9.out 1
       have p2:=blk_frozen HR9.out 2
       have p3:=blk_frozen HR9.out 3
       have HS9:=Lib.hid hst
       have n1:=HTNE.out
       have n2:=HTNR.out
       have n3:w.heap.size+1≠rk:=by have:=HRK.out;omega
       clear hst
       go_upto_region 5 with (fail)
       go_region
       try simp only [Exit.then]
       go_wp2
       refine post_gen (fun Wf=>Wf.heap[w.heap.size+1]?=some (.cells #[.int .u64 y0,.slice y1 y2 y3,.slice y4 y5 y6,.bool y7] 36 (0,0))∧P (.returned (.tuple #[.agg #[.int .u64 y0,.slice y1 y2 y3,.slice y4 y5 y6,.bool y7],.bool true])) Wf) ⟨?_,?_⟩ ?_
       · exact blk_set4 HR9.out _ _ _ _
       · rw [HP.out]
         have hx:Exw rk rk w.heap.size w W9:=Exw.after HB.out HPO.out.1
         have hx4:=(((hx.setCell (p:=⟨w.heap.size+1,0,none⟩) (.inr (.inr (Nat.le_succ _))) (.int .u64 y0)).setCell (p:=⟨w.heap.size+1,1,none⟩) (.inr (.inr (Nat.le_succ _))) (.slice y1 y2 y3)).setCell (p:=⟨w.heap.size+1,2,none⟩) (.inr (.inr (Nat.le_succ _))) (.slice y4 y5 y6)).setCell (p:=⟨w.heap.size+1,3,none⟩) (.inr (.inr (Nat.le_succ _))) (.bool y7)
         refine ⟨hx4.drew.below (by have:=HRK.out;omega) (by have:=HRK.out;omega),?_⟩
         exact .inl ⟨v,lq,_,HLZ.out,HRS.out,rfl,vh_new HVH.out HB.out.size (by unfold World.setCell;simp) (fun k hk hk2=>set4_blk W9 (by have:=HW0.out;have:=HRK.out;omega) _ _ _ _)⟩
       · rintro Wf ⟨e1,e2⟩
         obtain ⟨_,d0,d1,d2,d3⟩:=blk4p e1
         exact bodyPost_ret (v:=.tuple #[.agg #[.int .u64 y0,.slice y1 y2 y3,.slice y4 y5 y6,.bool y7],.bool true]) (by simp [results,Tryd.results47,go_sem,d0,d1,d2,d3]) rfl e2
     · have HRS:=Lib.hid hres
       clear hres
       obtain ⟨_,t0,t1,t2,t3⟩:=blk4p HBT.out
       obtain ⟨_,c0,c1,c2,c3,c4,c5⟩:=blk6 hst.blk
       obtain ⟨_,u0,u1,u2,u3⟩:=blk4p HR9.out
       have p0:=blk_frozen HR9.out 0
       have p1:=blk_frozen HR9.out 1
       have p2:=blk_frozen HR9.out 2
       have p3:=blk_frozen HR9.out 3
       have HS9:=Lib.hid hst
       have n1:=HTNE.out
       have n2:=HTNR.out
       have n3:w.heap.size+1≠rk:=by have:=HRK.out;omega
       clear hst
       go_upto_region 5 with (fail)
       go_region
       try simp only [Exit.then]
       go_wp2
       refine post_gen (fun Wf=>Wf.heap[w.heap.size+1]?=some (.cells #[.int .u64 y0,.slice y1 y2 y3,.slice y4 y5 y6,.bool y7] 36 (0,0))∧P (.returned (.tuple #[.agg #[.int .u64 y0,.slice y1 y2 y3,.slice y4 y5 y6,.bool y7],.bool false])) Wf) ⟨?_,?_⟩ ?_
       · exact blk_set4 HR9.out _ _ _ _
       · rw [HP.out]
         have hx:Exw rk rk w.heap.size w W9:=Exw.after HB.out HPO.out.1
         have hx4:=(((hx.setCell (p:=⟨w.heap.size+1,0,none⟩) (.inr (.inr (Nat.le_succ _))) (.int .u64 y0)).setCell (p:=⟨w.heap.size+1,1,none⟩) (.inr (.inr (Nat.le_succ _))) (.slice y1 y2 y3)).setCell (p:=⟨w.heap.size+1,2,none⟩) (.inr (.inr (Nat.le_succ _))) (.slice y4 y5 y6)).setCell (p:=⟨w.heap.size+1,3,none⟩) (.inr (.inr (Nat.le_succ _))) (.bool y7)
         refine ⟨hx4.drew.below (by have:=HRK.out;omega) (by have:=HRK.out;omega),?_⟩
         exact .inr ⟨.inr HRS.out,_,rfl,vform _ _ _ _ _ _ _ _⟩
       · rintro Wf ⟨e1,e2⟩
         obtain ⟨_,d0,d1,d2,d3⟩:=blk4p e1
         exact bodyPost_ret (v:=.tuple #[.agg #[.int .u64 y0,.slice y1 y2 y3,.slice y4 y5 y6,.bool y7],.bool false]) (by simp [results,Tryd.results47,go_sem,d0,d1,d2,d3]) rfl e2
end Go.Proofs.YtcfjjocmiheiaaaDoor
