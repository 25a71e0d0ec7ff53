/-
  The document's own reading of tables: a table that isn't there. Conditions: those that each theorem names.
-/
import Derived.Test.YtcfjjocmiheiaaaDoorPkD34
namespace Go.Proofs.YtcfjjocmiheiaaaDoor
open Go.ChangeShapes Go.WideShapes Go.ChangeAt Go.RowKit Go.Shelf
variable {base B:Nat} {W W':World} {rk:Nat} {sv ev:Value} {root:Int} {bp:Option Addr} {bc:Nat} {zs:List Int} {ss:List (SRec × Value)} {es:List (SCho × Value)} {left l':Int}
set_option maxRecDepth 100000 in
set_option maxHeartbeats 16000000 in
theorem rdtab_no (w:World)(h:DCtx base B w rk sv ev root bp bc zs ss es left)(r:Nat)(to:Int)(room:Nat)(hto : -1000000000≤to∧to≤1000000000){la size own:Int}(hla:to-sg32 (ldO zs to 4)=la)(hsz:ldO zs la 2=size)(how:ldO zs (la+2) 2=own)(hno:¬TabOk zs room to left la size own)(hr100:room≤100) :
  Calls Tryd.prog 74 #[.pointer (some ⟨rk,0,none⟩),.int .i64 to,.int .i64 r,.int .i64 room] w (RdPost (structAtZ (sRecs ss) zs (nextZ (sRecs ss) (es.map Prod.fst) zs room) r to left) w rk sv ev root bp bc zs):=by
 have hres:=tab_no (ss:=sRecs ss) (es:=es.map Prod.fst) (ref:=r) hla hsz how hno
 have hb:=(Below.refl w.heap.size w).alloc (Nat.le_refl _) (.cells #[.int .u64 0,.slice none 0 0,.slice none 0 0,.bool false] 36)
 have HB:=Lib.hid hb
 have HQ:=Lib.hid (heap_alloc_new w (.cells #[.int .u64 0,.slice none 0 0,.slice none 0 0,.bool false] 36))
 have H0:=Lib.hid (h.below hb)
 have HV:=Lib.hid h.rows.rowV
 have HH0:=Lib.hid h
 have HRK:Hid (rk<w.heap.size):=Lib.hid (blk_lt h.st.blk)
 have HLE:Hid (lenZ zs≤16384∧0≤left∧left≤lenZ zs):=Lib.hid ⟨h.len,h.hl⟩
 have hbd:0≤ldO zs to 4∧ldO zs to 4<4294967296:=by
  unfold ldO
  split
  · exact leAt_4 zs _ h.st.bytes.1
  · omega
 have hsg:=sg32_is hbd.1 hbd.2
 have hsb:=sg32_bd hbd.1 hbd.2
 obtain ⟨z,hz⟩:∃ z,ldO zs to 4=z:=⟨_,rfl⟩
 rw [hz] at hbd hsg hsb hla
 obtain ⟨s,hs⟩:∃ s,sg32 z=s:=⟨_,rfl⟩
 rw [hs] at hsg hsb hla
 have hws:=IntWalk.i64_in s ⟨by omega,by omega⟩
 have hwl:=IntWalk.i64_in (to-s) ⟨by omega,by omega⟩
 rw [hla] at hwl
 have hlb : -4000000000≤la∧la≤4000000000:=by omega
 have hwl2:=IntWalk.i64_in (la+2) ⟨by omega,by omega⟩
 have hszb:0≤size∧size<65536:=by rw [←hsz];exact ldO_2 zs la h.st.bytes.1
 have howb:0≤own∧own<65536:=by rw [←how];exact ldO_2 zs (la+2) h.st.bytes.1
 have hrem:=Int.tmod_eq_emod_of_nonneg (a:=size) (b:=2) hszb.1
 have HZ:=Lib.hid hz
 have HSZ:=Lib.hid hsz
 have HOW:=Lib.hid how
 have HRES:=Lib.hid hres
 have HNO:=Lib.hid hno
 obtain ⟨P,hP⟩:∃ P,RdPost (structAtZ (sRecs ss) zs (nextZ (sRecs ss) (es.map Prod.fst) zs room) r to left) w rk sv ev root bp bc zs=P:=⟨_,rfl⟩
 rw [hP]
 have HP:=Lib.hid hP.symm
 clear hb h hP hres hno hz hs hsz how hbd hsb
 go_enter Tryd.func74,Tryd.ntmps74
 go_upto_region 1 with (fail)
 generalize w.alloc (.cells #[.int .u64 0,.slice none 0 0,.slice none 0 0,.bool false] 36)=W0 at *
 cases hb1:inZ (lenZ zs) to 4 with
 | false =>
  have HB1:=Lib.hid hb1
  clear hb1
  go_wp2_with fail
  refine (num_ctx H0.out to 4 (.inr rfl) HB1.out HZ.out).mono ?_
  rintro e W1 ⟨rfl,hs1,hx1⟩
  have HX1:=Lib.hid (Exw.after HB.out hx1)
  have P1:=Lib.hid (blk_exw HQ.out hx1 (blk_lt HQ.out) (by have:=HRK.out;omega) (by have:=HRK.out;omega))
  have S1:=Lib.hid hs1
  clear hs1 hx1
  obtain ⟨_,c0,c1,c2,c3,c4,c5⟩:=blk6 S1.out.blk
  have f5:=blk_frozen S1.out.blk 5
  have HS8:=Lib.hid ((blk_set S1.out.blk 5 (.bool true)).trans rfl)
  have HX8:=Lib.hid (HX1.out.setCell (p:=⟨rk,5,none⟩) (.inl rfl) (.bool true))
  have P8:=Lib.hid (blk_set_ne P1.out (p:=⟨rk,5,none⟩) (by have:=HRK.out;show rk≠_;omega) (.bool true))
  go_upto_region 4 with (fail)
  clear c0 c1 c2 c3 c4 c5 f5
  generalize W1.setCell ⟨rk,5,none⟩ (.bool true)=W8 at *
  obtain ⟨_,u0,u1,u2,u3⟩:=blk4p P8.out
  have p0:=blk_frozen P8.out 0
  have p1:=blk_frozen P8.out 1
  have p2:=blk_frozen P8.out 2
  have p3:=blk_frozen P8.out 3
  go_wp2
  refine post_gen (fun Wf=>Wf.heap[w.heap.size]?=some (.cells #[.int .u64 0,.slice none 0 0,.slice none 0 0,.bool false] 36 (0,0))∧P (.returned (.agg #[.int .u64 0,.slice none 0 0,.slice none 0 0,.bool false])) Wf) ⟨?_,?_⟩ ?_
  · exact blk_set4 P8.out _ _ _ _
  · rw [HP.out]
    have hx4:=((((HX8.out).setCell (p:=⟨w.heap.size,0,none⟩) (.inr (.inr (show w.heap.size≤w.heap.size by omega))) (.int .u64 0)).setCell (p:=⟨w.heap.size,1,none⟩) (.inr (.inr (show w.heap.size≤w.heap.size by omega))) (.slice none 0 0)).setCell (p:=⟨w.heap.size,2,none⟩) (.inr (.inr (show w.heap.size≤w.heap.size by omega))) (.slice none 0 0)).setCell (p:=⟨w.heap.size,3,none⟩) (.inr (.inr (show w.heap.size≤w.heap.size by omega))) (.bool false)
    exact rdpost_bad HRES.out hx4 (vform _ _ _ _ _ _ _ _) (show 0≤lenZ zs-left∧lenZ zs-left≤1000000000000 by have:=HLE.out;omega).1 (show 0≤lenZ zs-left∧lenZ zs-left≤1000000000000 by have:=HLE.out;omega).2 (HH0.out.st.keep HV.out hx4 ((set4_blk W8 (by have:=HRK.out;omega) _ _ _ _).trans HS8.out))
  · rintro Wf ⟨e1,e2⟩
    obtain ⟨_,d0,d1,d2,d3⟩:=blk4p e1
    exact bodyPost_ret (v:=.agg #[.int .u64 0,.slice none 0 0,.slice none 0 0,.bool false]) (by simp [results,Tryd.results74,go_sem,d0,d1,d2,d3]) rfl e2
 | true =>
  have HB1:=Lib.hid hb1
  clear hb1
  go_wp2_with fail
  refine (num_ctx H0.out to 4 (.inr rfl) HB1.out HZ.out).mono ?_
  rintro e W1 ⟨rfl,hs1,hx1⟩
  have HX1:=Lib.hid (Exw.after HB.out hx1)
  have P1:=Lib.hid (blk_exw HQ.out hx1 (blk_lt HQ.out) (by have:=HRK.out;omega) (by have:=HRK.out;omega))
  have H1:=Lib.hid (H0.out.exw hx1 hs1 HLE.out.2)
  clear hs1 hx1
  by_cases hroom:(room:Int)<1
  · have HRM:=Lib.hid hroom
    obtain ⟨_,c0,c1,c2,c3,c4,c5⟩:=blk6 H1.out.st.blk
    have f5:=blk_frozen H1.out.st.blk 5
    have HS8:=Lib.hid ((blk_set H1.out.st.blk 5 (.bool true)).trans rfl)
    have HX8:=Lib.hid (HX1.out.setCell (p:=⟨rk,5,none⟩) (.inl rfl) (.bool true))
    have P8:=Lib.hid (blk_set_ne P1.out (p:=⟨rk,5,none⟩) (by have:=HRK.out;show rk≠_;omega) (.bool true))
    go_upto_region 4 with (fail)
    clear c0 c1 c2 c3 c4 c5 f5
    generalize W1.setCell ⟨rk,5,none⟩ (.bool true)=W8 at *
    obtain ⟨_,u0,u1,u2,u3⟩:=blk4p P8.out
    have p0:=blk_frozen P8.out 0
    have p1:=blk_frozen P8.out 1
    have p2:=blk_frozen P8.out 2
    have p3:=blk_frozen P8.out 3
    go_wp2
    refine post_gen (fun Wf=>Wf.heap[w.heap.size]?=some (.cells #[.int .u64 0,.slice none 0 0,.slice none 0 0,.bool false] 36 (0,0))∧P (.returned (.agg #[.int .u64 0,.slice none 0 0,.slice none 0 0,.bool false])) Wf) ⟨?_,?_⟩ ?_
    · exact blk_set4 P8.out _ _ _ _
    · rw [HP.out]
      have hx4:=((((HX8.out).setCell (p:=⟨w.heap.size,0,none⟩) (.inr (.inr (show w.heap.size≤w.heap.size by omega))) (.int .u64 0)).setCell (p:=⟨w.heap.size,1,none⟩) (.inr (.inr (show w.heap.size≤w.heap.size by omega))) (.slice none 0 0)).setCell (p:=⟨w.heap.size,2,none⟩) (.inr (.inr (show w.heap.size≤w.heap.size by omega))) (.slice none 0 0)).setCell (p:=⟨w.heap.size,3,none⟩) (.inr (.inr (show w.heap.size≤w.heap.size by omega))) (.bool false)
      exact rdpost_bad HRES.out hx4 (vform _ _ _ _ _ _ _ _) (show 0≤lenZ zs-left∧lenZ zs-left≤1000000000000 by have:=HLE.out;omega).1 (show 0≤lenZ zs-left∧lenZ zs-left≤1000000000000 by have:=HLE.out;omega).2 (HH0.out.st.keep HV.out hx4 ((set4_blk W8 (by have:=HRK.out;omega) _ _ _ _).trans HS8.out))
    · rintro Wf ⟨e1,e2⟩
      obtain ⟨_,d0,d1,d2,d3⟩:=blk4p e1
      exact bodyPost_ret (v:=.agg #[.int .u64 0,.slice none 0 0,.slice none 0 0,.bool false]) (by simp [results,Tryd.results74,go_sem,d0,d1,d2,d3]) rfl e2
  · by_cases hlan:la<0
    · have HLN:=Lib.hid hlan
      obtain ⟨_,c0,c1,c2,c3,c4,c5⟩:=blk6 H1.out.st.blk
      have f5:=blk_frozen H1.out.st.blk 5
      have HS8:=Lib.hid ((blk_set H1.out.st.blk 5 (.bool true)).trans rfl)
      have HX8:=Lib.hid (HX1.out.setCell (p:=⟨rk,5,none⟩) (.inl rfl) (.bool true))
      have P8:=Lib.hid (blk_set_ne P1.out (p:=⟨rk,5,none⟩) (by have:=HRK.out;show rk≠_;omega) (.bool true))
      go_upto_region 4 with (fail)
      clear c0 c1 c2 c3 c4 c5 f5
      generalize W1.setCell ⟨rk,5,none⟩ (.bool true)=W8 at *
      obtain ⟨_,u0,u1,u2,u3⟩:=blk4p P8.out
      have p0:=blk_frozen P8.out 0
      have p1:=blk_frozen P8.out 1
      have p2:=blk_frozen P8.out 2
      have p3:=blk_frozen P8.out 3
      go_wp2
      refine post_gen (fun Wf=>Wf.heap[w.heap.size]?=some (.cells #[.int .u64 0,.slice none 0 0,.slice none 0 0,.bool false] 36 (0,0))∧P (.returned (.agg #[.int .u64 0,.slice none 0 0,.slice none 0 0,.bool false])) Wf) ⟨?_,?_⟩ ?_
      · exact blk_set4 P8.out _ _ _ _
      · rw [HP.out]
        have hx4:=((((HX8.out).setCell (p:=⟨w.heap.size,0,none⟩) (.inr (.inr (show w.heap.size≤w.heap.size by omega))) (.int .u64 0)).setCell (p:=⟨w.heap.size,1,none⟩) (.inr (.inr (show w.heap.size≤w.heap.size by omega))) (.slice none 0 0)).setCell (p:=⟨w.heap.size,2,none⟩) (.inr (.inr (show w.heap.size≤w.heap.size by omega))) (.slice none 0 0)).setCell (p:=⟨w.heap.size,3,none⟩) (.inr (.inr (show w.heap.size≤w.heap.size by omega))) (.bool false)
        exact rdpost_bad HRES.out hx4 (vform _ _ _ _ _ _ _ _) (show 0≤lenZ zs-left∧lenZ zs-left≤1000000000000 by have:=HLE.out;omega).1 (show 0≤lenZ zs-left∧lenZ zs-left≤1000000000000 by have:=HLE.out;omega).2 (HH0.out.st.keep HV.out hx4 ((set4_blk W8 (by have:=HRK.out;omega) _ _ _ _).trans HS8.out))
      · rintro Wf ⟨e1,e2⟩
        obtain ⟨_,d0,d1,d2,d3⟩:=blk4p e1
        exact bodyPost_ret (v:=.agg #[.int .u64 0,.slice none 0 0,.slice none 0 0,.bool false]) (by simp [results,Tryd.results74,go_sem,d0,d1,d2,d3]) rfl e2
    · have HLN:=Lib.hid hlan
      obtain ⟨_,c0,c1,c2,c3,c4,c5⟩:=blk6 H1.out.st.blk
      cases hb2:inZ (lenZ zs) la 2 with
      | false =>
       have HB2:=Lib.hid hb2
       clear hb2
       go_wp2_with fail
       refine (num_ctx H1.out la 2 (.inl rfl) HB2.out HSZ.out).mono ?_
       rintro e W2 ⟨rfl,hs2,hx2⟩
       have HX2:=Lib.hid (HX1.out.then hx2)
       have P2:=Lib.hid (blk_exw P1.out hx2 (blk_lt P1.out) (by have:=HRK.out;omega) (by have:=HRK.out;omega))
       have S2:=Lib.hid hs2
       clear hs2 hx2 c0 c1 c2 c3 c4 c5
       go_wp2_with fail
       refine (rdnum_any W2 S2.out HV.out (la+2) 2 (.inl rfl)).mono ?_
       rintro e W3 ⟨rfl,hs3,hx3⟩
       have HX3:=Lib.hid (HX2.out.then hx3)
       have P3:=Lib.hid (blk_exw P2.out hx3 (blk_lt P2.out) (by have:=HRK.out;omega) (by have:=HRK.out;omega))
       rw [HOW.out]
       have S3:=Lib.hid hs3
       clear hs3 hx3
       obtain ⟨_,c0,c1,c2,c3,c4,c5⟩:=blk6 S3.out.blk
       have f5:=blk_frozen S3.out.blk 5
       have HS8:=Lib.hid ((blk_set S3.out.blk 5 (.bool true)).trans rfl)
       have HX8:=Lib.hid (HX3.out.setCell (p:=⟨rk,5,none⟩) (.inl rfl) (.bool true))
       have P8:=Lib.hid (blk_set_ne P3.out (p:=⟨rk,5,none⟩) (by have:=HRK.out;show rk≠_;omega) (.bool true))
       go_upto_region 10 with (fail)
       clear c0 c1 c2 c3 c4 c5 f5
       generalize W3.setCell ⟨rk,5,none⟩ (.bool true)=W8 at *
       obtain ⟨_,u0,u1,u2,u3⟩:=blk4p P8.out
       have p0:=blk_frozen P8.out 0
       have p1:=blk_frozen P8.out 1
       have p2:=blk_frozen P8.out 2
       have p3:=blk_frozen P8.out 3
       go_wp2
       refine post_gen (fun Wf=>Wf.heap[w.heap.size]?=some (.cells #[.int .u64 0,.slice none 0 0,.slice none 0 0,.bool false] 36 (0,0))∧P (.returned (.agg #[.int .u64 0,.slice none 0 0,.slice none 0 0,.bool false])) Wf) ⟨?_,?_⟩ ?_
       · exact blk_set4 P8.out _ _ _ _
       · rw [HP.out]
         have hx4:=((((HX8.out).setCell (p:=⟨w.heap.size,0,none⟩) (.inr (.inr (show w.heap.size≤w.heap.size by omega))) (.int .u64 0)).setCell (p:=⟨w.heap.size,1,none⟩) (.inr (.inr (show w.heap.size≤w.heap.size by omega))) (.slice none 0 0)).setCell (p:=⟨w.heap.size,2,none⟩) (.inr (.inr (show w.heap.size≤w.heap.size by omega))) (.slice none 0 0)).setCell (p:=⟨w.heap.size,3,none⟩) (.inr (.inr (show w.heap.size≤w.heap.size by omega))) (.bool false)
         exact rdpost_bad HRES.out hx4 (vform _ _ _ _ _ _ _ _) (show 0≤lenZ zs-left∧lenZ zs-left≤1000000000000 by have:=HLE.out;omega).1 (show 0≤lenZ zs-left∧lenZ zs-left≤1000000000000 by have:=HLE.out;omega).2 (HH0.out.st.keep HV.out hx4 ((set4_blk W8 (by have:=HRK.out;omega) _ _ _ _).trans HS8.out))
       · rintro Wf ⟨e1,e2⟩
         obtain ⟨_,d0,d1,d2,d3⟩:=blk4p e1
         exact bodyPost_ret (v:=.agg #[.int .u64 0,.slice none 0 0,.slice none 0 0,.bool false]) (by simp [results,Tryd.results74,go_sem,d0,d1,d2,d3]) rfl e2
      | true =>
       have HB2:=Lib.hid hb2
       clear hb2
       go_wp2_with fail
       refine (num_ctx H1.out la 2 (.inl rfl) HB2.out HSZ.out).mono ?_
       rintro e W2 ⟨rfl,hs2,hx2⟩
       have HX2:=Lib.hid (HX1.out.then hx2)
       have P2:=Lib.hid (blk_exw P1.out hx2 (blk_lt P1.out) (by have:=HRK.out;omega) (by have:=HRK.out;omega))
       have H2:=Lib.hid (H1.out.exw hx2 hs2 HLE.out.2)
       clear hs2 hx2 c0 c1 c2 c3 c4 c5
       cases hb3:inZ (lenZ zs) (la+2) 2 with
       | false =>
        have HB3:=Lib.hid hb3
        clear hb3
        go_wp2_with fail
        refine (num_ctx H2.out (la+2) 2 (.inl rfl) HB3.out HOW.out).mono ?_
        rintro e W3 ⟨rfl,hs3,hx3⟩
        have HX3:=Lib.hid (HX2.out.then hx3)
        have P3:=Lib.hid (blk_exw P2.out hx3 (blk_lt P2.out) (by have:=HRK.out;omega) (by have:=HRK.out;omega))
        have S3:=Lib.hid hs3
        clear hs3 hx3
        obtain ⟨_,c0,c1,c2,c3,c4,c5⟩:=blk6 S3.out.blk
        have f5:=blk_frozen S3.out.blk 5
        have HS8:=Lib.hid ((blk_set S3.out.blk 5 (.bool true)).trans rfl)
        have HX8:=Lib.hid (HX3.out.setCell (p:=⟨rk,5,none⟩) (.inl rfl) (.bool true))
        have P8:=Lib.hid (blk_set_ne P3.out (p:=⟨rk,5,none⟩) (by have:=HRK.out;show rk≠_;omega) (.bool true))
        go_upto_region 10 with (fail)
        clear c0 c1 c2 c3 c4 c5 f5
        generalize W3.setCell ⟨rk,5,none⟩ (.bool true)=W8 at *
        obtain ⟨_,u0,u1,u2,u3⟩:=blk4p P8.out
        have p0:=blk_frozen P8.out 0
        have p1:=blk_frozen P8.out 1
        have p2:=blk_frozen P8.out 2
        have p3:=blk_frozen P8.out 3
        go_wp2
        refine post_gen (fun Wf=>Wf.heap[w.heap.size]?=some (.cells #[.int .u64 0,.slice none 0 0,.slice none 0 0,.bool false] 36 (0,0))∧P (.returned (.agg #[.int .u64 0,.slice none 0 0,.slice none 0 0,.bool false])) Wf) ⟨?_,?_⟩ ?_
        · exact blk_set4 P8.out _ _ _ _
        · rw [HP.out]
          have hx4:=((((HX8.out).setCell (p:=⟨w.heap.size,0,none⟩) (.inr (.inr (show w.heap.size≤w.heap.size by omega))) (.int .u64 0)).setCell (p:=⟨w.heap.size,1,none⟩) (.inr (.inr (show w.heap.size≤w.heap.size by omega))) (.slice none 0 0)).setCell (p:=⟨w.heap.size,2,none⟩) (.inr (.inr (show w.heap.size≤w.heap.size by omega))) (.slice none 0 0)).setCell (p:=⟨w.heap.size,3,none⟩) (.inr (.inr (show w.heap.size≤w.heap.size by omega))) (.bool false)
          exact rdpost_bad HRES.out hx4 (vform _ _ _ _ _ _ _ _) (show 0≤lenZ zs-left∧lenZ zs-left≤1000000000000 by have:=HLE.out;omega).1 (show 0≤lenZ zs-left∧lenZ zs-left≤1000000000000 by have:=HLE.out;omega).2 (HH0.out.st.keep HV.out hx4 ((set4_blk W8 (by have:=HRK.out;omega) _ _ _ _).trans HS8.out))
        · rintro Wf ⟨e1,e2⟩
          obtain ⟨_,d0,d1,d2,d3⟩:=blk4p e1
          exact bodyPost_ret (v:=.agg #[.int .u64 0,.slice none 0 0,.slice none 0 0,.bool false]) (by simp [results,Tryd.results74,go_sem,d0,d1,d2,d3]) rfl e2
       | true =>
        have HB3:=Lib.hid hb3
        clear hb3
        go_wp2_with fail
        refine (num_ctx H2.out (la+2) 2 (.inl rfl) HB3.out HOW.out).mono ?_
        rintro e W3 ⟨rfl,hs3,hx3⟩
        have HX3:=Lib.hid (HX2.out.then hx3)
        have P3:=Lib.hid (blk_exw P2.out hx3 (blk_lt P2.out) (by have:=HRK.out;omega) (by have:=HRK.out;omega))
        have H3:=Lib.hid (H2.out.exw hx3 hs3 HLE.out.2)
        clear hs3 hx3
        by_cases hs4:size<4
        · have HS4:=Lib.hid hs4
          obtain ⟨_,c0,c1,c2,c3,c4,c5⟩:=blk6 H3.out.st.blk
          have f5:=blk_frozen H3.out.st.blk 5
          have HS8:=Lib.hid ((blk_set H3.out.st.blk 5 (.bool true)).trans rfl)
          have HX8:=Lib.hid (HX3.out.setCell (p:=⟨rk,5,none⟩) (.inl rfl) (.bool true))
          have P8:=Lib.hid (blk_set_ne P3.out (p:=⟨rk,5,none⟩) (by have:=HRK.out;show rk≠_;omega) (.bool true))
          go_upto_region 10 with (fail)
          clear c0 c1 c2 c3 c4 c5 f5
          generalize W3.setCell ⟨rk,5,none⟩ (.bool true)=W8 at *
          obtain ⟨_,u0,u1,u2,u3⟩:=blk4p P8.out
          have p0:=blk_frozen P8.out 0
          have p1:=blk_frozen P8.out 1
          have p2:=blk_frozen P8.out 2
          have p3:=blk_frozen P8.out 3
          go_wp2
          refine post_gen (fun Wf=>Wf.heap[w.heap.size]?=some (.cells #[.int .u64 0,.slice none 0 0,.slice none 0 0,.bool false] 36 (0,0))∧P (.returned (.agg #[.int .u64 0,.slice none 0 0,.slice none 0 0,.bool false])) Wf) ⟨?_,?_⟩ ?_
          · exact blk_set4 P8.out _ _ _ _
          · rw [HP.out]
            have hx4:=((((HX8.out).setCell (p:=⟨w.heap.size,0,none⟩) (.inr (.inr (show w.heap.size≤w.heap.size by omega))) (.int .u64 0)).setCell (p:=⟨w.heap.size,1,none⟩) (.inr (.inr (show w.heap.size≤w.heap.size by omega))) (.slice none 0 0)).setCell (p:=⟨w.heap.size,2,none⟩) (.inr (.inr (show w.heap.size≤w.heap.size by omega))) (.slice none 0 0)).setCell (p:=⟨w.heap.size,3,none⟩) (.inr (.inr (show w.heap.size≤w.heap.size by omega))) (.bool false)
            exact rdpost_bad HRES.out hx4 (vform _ _ _ _ _ _ _ _) (show 0≤lenZ zs-left∧lenZ zs-left≤1000000000000 by have:=HLE.out;omega).1 (show 0≤lenZ zs-left∧lenZ zs-left≤1000000000000 by have:=HLE.out;omega).2 (HH0.out.st.keep HV.out hx4 ((set4_blk W8 (by have:=HRK.out;omega) _ _ _ _).trans HS8.out))
          · rintro Wf ⟨e1,e2⟩
            obtain ⟨_,d0,d1,d2,d3⟩:=blk4p e1
            exact bodyPost_ret (v:=.agg #[.int .u64 0,.slice none 0 0,.slice none 0 0,.bool false]) (by simp [results,Tryd.results74,go_sem,d0,d1,d2,d3]) rfl e2
        · by_cases hev:size % 2=0
          · rw [hev] at hrem
            by_cases how4:own<4
            · have HO4:=Lib.hid how4
              obtain ⟨_,c0,c1,c2,c3,c4,c5⟩:=blk6 H3.out.st.blk
              have f5:=blk_frozen H3.out.st.blk 5
              have HS8:=Lib.hid ((blk_set H3.out.st.blk 5 (.bool true)).trans rfl)
              have HX8:=Lib.hid (HX3.out.setCell (p:=⟨rk,5,none⟩) (.inl rfl) (.bool true))
              have P8:=Lib.hid (blk_set_ne P3.out (p:=⟨rk,5,none⟩) (by have:=HRK.out;show rk≠_;omega) (.bool true))
              go_upto_region 10 with (fail)
              clear c0 c1 c2 c3 c4 c5 f5
              generalize W3.setCell ⟨rk,5,none⟩ (.bool true)=W8 at *
              obtain ⟨_,u0,u1,u2,u3⟩:=blk4p P8.out
              have p0:=blk_frozen P8.out 0
              have p1:=blk_frozen P8.out 1
              have p2:=blk_frozen P8.out 2
              have p3:=blk_frozen P8.out 3
              go_wp2
              refine post_gen (fun Wf=>Wf.heap[w.heap.size]?=some (.cells #[.int .u64 0,.slice none 0 0,.slice none 0 0,.bool false] 36 (0,0))∧P (.returned (.agg #[.int .u64 0,.slice none 0 0,.slice none 0 0,.bool false])) Wf) ⟨?_,?_⟩ ?_
              · exact blk_set4 P8.out _ _ _ _
              · rw [HP.out]
                have hx4:=((((HX8.out).setCell (p:=⟨w.heap.size,0,none⟩) (.inr (.inr (show w.heap.size≤w.heap.size by omega))) (.int .u64 0)).setCell (p:=⟨w.heap.size,1,none⟩) (.inr (.inr (show w.heap.size≤w.heap.size by omega))) (.slice none 0 0)).setCell (p:=⟨w.heap.size,2,none⟩) (.inr (.inr (show w.heap.size≤w.heap.size by omega))) (.slice none 0 0)).setCell (p:=⟨w.heap.size,3,none⟩) (.inr (.inr (show w.heap.size≤w.heap.size by omega))) (.bool false)
                exact rdpost_bad HRES.out hx4 (vform _ _ _ _ _ _ _ _) (show 0≤lenZ zs-left∧lenZ zs-left≤1000000000000 by have:=HLE.out;omega).1 (show 0≤lenZ zs-left∧lenZ zs-left≤1000000000000 by have:=HLE.out;omega).2 (HH0.out.st.keep HV.out hx4 ((set4_blk W8 (by have:=HRK.out;omega) _ _ _ _).trans HS8.out))
              · rintro Wf ⟨e1,e2⟩
                obtain ⟨_,d0,d1,d2,d3⟩:=blk4p e1
                exact bodyPost_ret (v:=.agg #[.int .u64 0,.slice none 0 0,.slice none 0 0,.bool false]) (by simp [results,Tryd.results74,go_sem,d0,d1,d2,d3]) rfl e2
            · have HO4:=Lib.hid how4
              have HS4:=Lib.hid hs4
              have HEV:=Lib.hid hev
              obtain ⟨_,c0,c1,c2,c3,c4,c5⟩:=blk6 H3.out.st.blk
              go_wp2_with fail
              refine (reach_ctx H3.out la size).mono ?_
              rintro e W4 ⟨hx4,hr4⟩
              have HX4:=Lib.hid (HX3.out.then hx4)
              have P4:=Lib.hid (blk_exw P3.out hx4 (blk_lt P3.out) (by have:=HRK.out;omega) (by have:=HRK.out;omega))
              clear c0 c1 c2 c3 c4 c5
              rcases hr4 with ⟨hok4,rfl,hs4'⟩|⟨hno4,rfl,rc,hrc0,hrc1,hs4'⟩
              · have hl4:0≤left-size:=by unfold reachOk at hok4;rw [Bool.and_eq_true,decide_eq_true_eq] at hok4;exact hok4.2
                have H4:=Lib.hid (H3.out.exw hx4 hs4' ⟨hl4,by have:=HLE.out;omega⟩)
                have HOK4:=Lib.hid hok4
                clear hx4 hs4' hok4 hl4
                go_wp2_with fail
                refine (reach_ctx H4.out to own).mono ?_
                rintro e W5 ⟨hx5,hr5⟩
                have HX5:=Lib.hid (HX4.out.then hx5)
                have P5:=Lib.hid (blk_exw P4.out hx5 (blk_lt P4.out) (by have:=HRK.out;omega) (by have:=HRK.out;omega))
                rcases hr5 with ⟨hok5,rfl,hs5⟩|⟨hno5,rfl,rc,hrc0,hrc1,hs5⟩
                · exact absurd ⟨HB1.out,by omega,by have:=HLN.out;omega,HB2.out,HB3.out,by have:=HS4.out;omega,HEV.out,by have:=HO4.out;omega,HOK4.out,hok5⟩ HNO.out
                · have HRC:=Lib.hid (And.intro hrc0 hrc1)
                  have S5:=Lib.hid hs5
                  clear hx5 hs5 hno5 hrc0 hrc1
                  obtain ⟨_,c0,c1,c2,c3,c4,c5⟩:=blk6 S5.out.blk
                  have f5:=blk_frozen S5.out.blk 5
                  have HS8:=Lib.hid ((blk_set S5.out.blk 5 (.bool true)).trans rfl)
                  have HX8:=Lib.hid (HX5.out.setCell (p:=⟨rk,5,none⟩) (.inl rfl) (.bool true))
                  have P8:=Lib.hid (blk_set_ne P5.out (p:=⟨rk,5,none⟩) (by have:=HRK.out;show rk≠_;omega) (.bool true))
                  go_upto_region 10 with (fail)
                  clear c0 c1 c2 c3 c4 c5 f5
                  generalize W5.setCell ⟨rk,5,none⟩ (.bool true)=W8 at *
                  obtain ⟨_,u0,u1,u2,u3⟩:=blk4p P8.out
                  have p0:=blk_frozen P8.out 0
                  have p1:=blk_frozen P8.out 1
                  have p2:=blk_frozen P8.out 2
                  have p3:=blk_frozen P8.out 3
                  go_wp2
                  refine post_gen (fun Wf=>Wf.heap[w.heap.size]?=some (.cells #[.int .u64 0,.slice none 0 0,.slice none 0 0,.bool false] 36 (0,0))∧P (.returned (.agg #[.int .u64 0,.slice none 0 0,.slice none 0 0,.bool false])) Wf) ⟨?_,?_⟩ ?_
                  · exact blk_set4 P8.out _ _ _ _
                  · rw [HP.out]
                    have hx4:=((((HX8.out).setCell (p:=⟨w.heap.size,0,none⟩) (.inr (.inr (show w.heap.size≤w.heap.size by omega))) (.int .u64 0)).setCell (p:=⟨w.heap.size,1,none⟩) (.inr (.inr (show w.heap.size≤w.heap.size by omega))) (.slice none 0 0)).setCell (p:=⟨w.heap.size,2,none⟩) (.inr (.inr (show w.heap.size≤w.heap.size by omega))) (.slice none 0 0)).setCell (p:=⟨w.heap.size,3,none⟩) (.inr (.inr (show w.heap.size≤w.heap.size by omega))) (.bool false)
                    exact rdpost_bad HRES.out hx4 (vform _ _ _ _ _ _ _ _) HRC.out.1 HRC.out.2 (HH0.out.st.keep HV.out hx4 ((set4_blk W8 (by have:=HRK.out;omega) _ _ _ _).trans HS8.out))
                  · rintro Wf ⟨e1,e2⟩
                    obtain ⟨_,d0,d1,d2,d3⟩:=blk4p e1
                    exact bodyPost_ret (v:=.agg #[.int .u64 0,.slice none 0 0,.slice none 0 0,.bool false]) (by simp [results,Tryd.results74,go_sem,d0,d1,d2,d3]) rfl e2
              · have HRC:=Lib.hid (And.intro hrc0 hrc1)
                have S4:=Lib.hid hs4'
                clear hx4 hs4' hno4 hrc0 hrc1
                obtain ⟨_,c0,c1,c2,c3,c4,c5⟩:=blk6 S4.out.blk
                have f5:=blk_frozen S4.out.blk 5
                have HS8:=Lib.hid ((blk_set S4.out.blk 5 (.bool true)).trans rfl)
                have HX8:=Lib.hid (HX4.out.setCell (p:=⟨rk,5,none⟩) (.inl rfl) (.bool true))
                have P8:=Lib.hid (blk_set_ne P4.out (p:=⟨rk,5,none⟩) (by have:=HRK.out;show rk≠_;omega) (.bool true))
                go_upto_region 10 with (fail)
                clear c0 c1 c2 c3 c4 c5 f5
                generalize W4.setCell ⟨rk,5,none⟩ (.bool true)=W8 at *
                obtain ⟨_,u0,u1,u2,u3⟩:=blk4p P8.out
                have p0:=blk_frozen P8.out 0
                have p1:=blk_frozen P8.out 1
                have p2:=blk_frozen P8.out 2
                have p3:=blk_frozen P8.out 3
                go_wp2
                refine post_gen (fun Wf=>Wf.heap[w.heap.size]?=some (.cells #[.int .u64 0,.slice none 0 0,.slice none 0 0,.bool false] 36 (0,0))∧P (.returned (.agg #[.int .u64 0,.slice none 0 0,.slice none 0 0,.bool false])) Wf) ⟨?_,?_⟩ ?_
                · exact blk_set4 P8.out _ _ _ _
                · rw [HP.out]
                  have hx4:=((((HX8.out).setCell (p:=⟨w.heap.size,0,none⟩) (.inr (.inr (show w.heap.size≤w.heap.size by omega))) (.int .u64 0)).setCell (p:=⟨w.heap.size,1,none⟩) (.inr (.inr (show w.heap.size≤w.heap.size by omega))) (.slice none 0 0)).setCell (p:=⟨w.heap.size,2,none⟩) (.inr (.inr (show w.heap.size≤w.heap.size by omega))) (.slice none 0 0)).setCell (p:=⟨w.heap.size,3,none⟩) (.inr (.inr (show w.heap.size≤w.heap.size by omega))) (.bool false)
                  exact rdpost_bad HRES.out hx4 (vform _ _ _ _ _ _ _ _) HRC.out.1 HRC.out.2 (HH0.out.st.keep HV.out hx4 ((set4_blk W8 (by have:=HRK.out;omega) _ _ _ _).trans HS8.out))
                · rintro Wf ⟨e1,e2⟩
                  obtain ⟨_,d0,d1,d2,d3⟩:=blk4p e1
                  exact bodyPost_ret (v:=.agg #[.int .u64 0,.slice none 0 0,.slice none 0 0,.bool false]) (by simp [results,Tryd.results74,go_sem,d0,d1,d2,d3]) rfl e2
          · have hod:size % 2=1:=by omega
            rw [hod] at hrem
            obtain ⟨_,c0,c1,c2,c3,c4,c5⟩:=blk6 H3.out.st.blk
            have f5:=blk_frozen H3.out.st.blk 5
            have HS8:=Lib.hid ((blk_set H3.out.st.blk 5 (.bool true)).trans rfl)
            have HX8:=Lib.hid (HX3.out.setCell (p:=⟨rk,5,none⟩) (.inl rfl) (.bool true))
            have P8:=Lib.hid (blk_set_ne P3.out (p:=⟨rk,5,none⟩) (by have:=HRK.out;show rk≠_;omega) (.bool true))
            go_upto_region 10 with (fail)
            clear c0 c1 c2 c3 c4 c5 f5
            generalize W3.setCell ⟨rk,5,none⟩ (.bool true)=W8 at *
            obtain ⟨_,u0,u1,u2,u3⟩:=blk4p P8.out
            have p0:=blk_frozen P8.out 0
            have p1:=blk_frozen P8.out 1
            have p2:=blk_frozen P8.out 2
            have p3:=blk_frozen P8.out 3
            go_wp2
            refine post_gen (fun Wf=>Wf.heap[w.heap.size]?=some (.cells #[.int .u64 0,.slice none 0 0,.slice none 0 0,.bool false] 36 (0,0))∧P (.returned (.agg #[.int .u64 0,.slice none 0 0,.slice none 0 0,.bool false])) Wf) ⟨?_,?_⟩ ?_
            · exact blk_set4 P8.out _ _ _ _
            · rw [HP.out]
              have hx4:=((((HX8.out).setCell (p:=⟨w.heap.size,0,none⟩) (.inr (.inr (show w.heap.size≤w.heap.size by omega))) (.int .u64 0)).setCell (p:=⟨w.heap.size,1,none⟩) (.inr (.inr (show w.heap.size≤w.heap.size by omega))) (.slice none 0 0)).setCell (p:=⟨w.heap.size,2,none⟩) (.inr (.inr (show w.heap.size≤w.heap.size by omega))) (.slice none 0 0)).setCell (p:=⟨w.heap.size,3,none⟩) (.inr (.inr (show w.heap.size≤w.heap.size by omega))) (.bool false)
              exact rdpost_bad HRES.out hx4 (vform _ _ _ _ _ _ _ _) (show 0≤lenZ zs-left∧lenZ zs-left≤1000000000000 by have:=HLE.out;omega).1 (show 0≤lenZ zs-left∧lenZ zs-left≤1000000000000 by have:=HLE.out;omega).2 (HH0.out.st.keep HV.out hx4 ((set4_blk W8 (by have:=HRK.out;omega) _ _ _ _).trans HS8.out))
            · rintro Wf ⟨e1,e2⟩
              obtain ⟨_,d0,d1,d2,d3⟩:=blk4p e1
              exact bodyPost_ret (v:=.agg #[.int .u64 0,.slice none 0 0,.slice none 0 0,.bool false]) (by simp [results,Tryd.results74,go_sem,d0,d1,d2,d3]) rfl e2
end Go.Proofs.YtcfjjocmiheiaaaDoor
