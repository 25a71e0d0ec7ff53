/-
  The law FlatreadBudgets: of every plan, all bytes and budgets it returns true, and nothing that was there is written. Conditions: those that each theorem names; the library's tables hold what the row lists.
-/
import Derived.Test.YtpbaaedijfofnaaDoorPkU51
import Derived.Test.YtpbaaedijfofnaaDoorPkU29
import Derived.Test.YtpbaaedijfofnaaDoorPkU46
import Derived.Test.YtpbaaedijfofnaaDoorPkU47
import Derived.Test.YtpbaaedijfofnaaDoorPkU48
import Derived.Deep.RegionHeld3
namespace Go.Proofs.YtpbaaedijfofnaaDoor
open Go.ChangeShapes Go.WideShapes Go.ChangeAt Go.RowKit Go.Shelf
set_option maxRecDepth 100000 in
set_option maxHeartbeats 16000000 in
theorem fbud_go (p:Plan){a0 a1 b0:Option Addr}{n0 e0 n1 c1 nb cb:Nat}(bs:List Int)(bud more cut:Int)(hbu : -9223372036854775808≤bud∧bud≤9223372036854775807)(hcu : -9223372036854775808≤cut∧cut≤9223372036854775807)(w:World)(hp:IsPlan w p a0 n0 e0 a1 n1 c1)(hb:Bytes w b0 bs)(hbn:bs.length=nb)(hbc:nb≤cb)(hT:Tabs w) :
  Calls Tryd.prog 6 #[.agg #[.slice a0 n0 e0,.slice a1 n1 c1,.int .u8 p.root,.bool p.tree],.slice b0 nb cb,.int .i64 bud,.int .i64 more,.int .i64 cut] w fun e w'=>e=.returned (.bool true)∧Below w.heap.size w w':=by
 subst hbn
 have hb1:=(Below.refl w.heap.size w).alloc (Nat.le_refl _) (.cells #[.slice a0 n0 e0,.slice a1 n1 c1,.int .u8 p.root,.bool p.tree] 25)
 have HP:=Lib.hid (hp.below hb1)
 have HT:=Lib.hid (hT.below (Nat.le_refl _) hb1)
 have HBY:=Lib.hid (hb.below (Nat.le_refl _) hb1)
 have HB0:=Lib.hid hb1
 have HQ1:=Lib.hid (heap_alloc_new w (.cells #[.slice a0 n0 e0,.slice a1 n1 c1,.int .u8 p.root,.bool p.tree] 25))
 have HBC:=Lib.hid hbc
 clear hp hT hb hb1 hbc
 go_enter Tryd.func6,Tryd.ntmps6
 go_upto_region 1 with (fail)
 generalize w.alloc (.cells #[.slice a0 n0 e0,.slice a1 n1 c1,.int .u8 p.root,.bool p.tree] 25)=W0 at *
 go_wp2_with fail
 refine (awake10_any W0 HT.out).mono ?_
 rintro e W1 ⟨rfl,hb1⟩
 have HB1:=Lib.hid (HB0.out.trans (hb1.mono HB0.out.size))
 have HB01:=Lib.hid hb1
 have HQ11:=Lib.hid (blk_below HQ1.out hb1 (blk_lt HQ1.out))
 clear hb1 HB0 HQ1
 obtain ⟨_,y0',y1',y2',y3'⟩:=blk4p HQ11.out
 go_wp2_with fail
 refine (made_any p W1 (HP.out.below HB01.out)).mono ?_
 rintro e W2 ⟨hb2,hpost⟩
 have HB2:=Lib.hid (HB1.out.trans (hb2.mono HB1.out.size))
 have HB02:=Lib.hid (HB01.out.trans (hb2.mono HB01.out.size))
 clear hb2 y0' y1' y2' y3' HQ11 HB1 HB01
 rcases hpost with ⟨hok,ss,es,sv,ev,rfl,hss,hes,hr⟩|⟨hno,rfl⟩
 · obtain ⟨sa,sc,ea,ec,rfl,rfl⟩:=hr.forms
   have hlen:=made_len hok hss
   have HFO:=Lib.hid (made_flds (plan_nums HP.out) hss)
   have hm:=made_schM hok (plan_nums HP.out) hss hes
   have HSM:=Lib.hid hm
   have HDF:=Lib.hid (made_defs hss hm)
   have HFE:=Lib.hid (made_few hok hes)
   have hrt:p.root % p.structs.length<ss.length:=by rw [hlen.2.2];exact Nat.mod_lt _ (by omega)
   have HRT:=Lib.hid hrt
   have HR:=Lib.hid hr
   clear hok hss hes hr hlen hrt hm
   generalize p.root % p.structs.length=rt at *
   go_upto_region 4 with (fail)
   have hba:Below W2.heap.size W2 (W2.alloc (.cells #[.slice sa ss.length sc,.slice ea es.length ec,.int .i64 rt] 30)):=(Below.refl _ _).alloc (Nat.le_refl _) _
   have HZ:=Lib.hid (heap_alloc_new W2 (.cells #[.slice sa ss.length sc,.slice ea es.length ec,.int .i64 rt] 30))
   have HB3:=Lib.hid (HB2.out.trans (hba.mono HB2.out.size))
   have HB03:=Lib.hid (HB02.out.trans (hba.mono HB02.out.size))
   have HR3:=Lib.hid (HR.out.below hba)
   clear hba HR HB2 HB02
   generalize W2.alloc (.cells #[.slice sa ss.length sc,.slice ea es.length ec,.int .i64 rt] 30)=W3 at *
   generalize W2.heap.size=Z at *
   obtain ⟨_,z0,z1,z2,_⟩:=blk3 HZ.out
   by_cases hbig:2000<bs.length
   · go_wp2
     go_ret
     exact ⟨rfl,HB3.out⟩
   have hbL:bs.length≤2000:=by omega
   go_upto_region 6 with (fail)
   refine wp_region_noPanic ?_
   refine wp_region_held_drew (S:=(fun w'=>w'.cell? ⟨Z,0,none⟩=some (.slice sa ss.length sc)∧w'.cell? ⟨Z,1,none⟩=some (.slice ea es.length ec)∧w'.cell? ⟨Z,2,none⟩=some (.int .i64 rt))) (by kernel_rfl) ⟨z0,z1,z2⟩ ?_
   intro hS
   refine tk 0 (.agg #[.slice sa ss.length sc,.slice ea es.length ec,.int .i64 rt]) hS ?_ ?_
   · rintro w' ⟨z0,z1,z2⟩
     go_simp
   simp only [Act.put,List.getElem_toArray,List.getElem_cons_zero,List.setIfInBounds_toArray,List.set_cons_zero,List.set_cons_succ]
   refine tk 1 (.agg #[.slice sa ss.length sc,.slice ea es.length ec,.int .i64 rt]) hS ?_ ?_
   · rintro w' ⟨z0,z1,z2⟩
     go_simp
   simp only [Act.put,List.getElem_toArray,List.getElem_cons_succ,List.getElem_cons_zero,List.setIfInBounds_toArray,List.set_cons_zero,List.set_cons_succ]
   refine tk 2 (.slice b0 bs.length cb) hS ?_ ?_
   · rintro w' ⟨z0,z1,z2⟩
     go_simp
   simp only [Act.put,List.getElem_toArray,List.getElem_cons_succ,List.getElem_cons_zero,List.setIfInBounds_toArray,List.set_cons_zero,List.set_cons_succ]
   refine wpAnyH_ready (rs:=[3]) (by kernel_rfl) (by decide) (AllReadyH.cons rfl (fun K hK=>?_) AllReadyH.nil)
   rw [if_pos (by kernel_rfl)]
   go_simp
   refine (hand_encode W3.drew (HR3.out.below (Below.refl _ _).drew) HSM.out HDF.out HRT.out (HBY.out.below (Nat.le_refl _) HB03.out.drew) rfl (by omega) HBC.out).mono ?_
   rintro e W4 ⟨hb4,v,val,rfl,hv,hh,hf,hlen,hs,henc⟩
   have hb4':Below W3.heap.size W3 W4:=(Below.refl _ W3).drew.trans hb4
   refine hK.out _ _ ⟨cell_stays hb4' z0,cell_stays hb4' z1,cell_stays hb4' z2⟩ (fun hS=>?_)
   have HV4:=Lib.hid hv
   have HVF:=Lib.hid (And.intro hh (And.intro hf (And.intro hlen hs)))
   have HENC:=Lib.hid (henc W4 (Below.refl _ _))
   have HB4:=Lib.hid hb4'
   clear hv hh hf hlen hs henc hK K hb4 hb4'
   refine wpAnyH_ready (rs:=[4]) (by kernel_rfl) (by decide) (AllReadyH.cons rfl (fun K hK=>?_) AllReadyH.nil)
   rw [if_pos (by kernel_rfl)]
   go_simp
   refine HENC.out.mono ?_
   rintro e W5 ⟨hb5,hrng,A,cap,rfl,hown⟩
   have hb5':=HB4.out.trans (hb5.mono HB4.out.size)
   refine hK.out _ _ ⟨cell_stays hb5' z0,cell_stays hb5' z1,cell_stays hb5' z2⟩ (fun hS=>?_)
   have HB5:=Lib.hid hb5
   have HB35:=Lib.hid hb5'
   have HOWN:=Lib.hid hown
   have HRNG:=Lib.hid hrng
   have hcap:=(bytes_ownv hown hrng).2
   have HZ5:=Lib.hid (blk_below HZ.out hb5' (blk_lt HZ.out))
   have HVL:=Lib.hid HVF.out.2.2.1
   clear hb5 hb5' hown hrng hK K HENC z0 z1 z2
   have hZS4:=encZ_four (ss.map Prod.fst) 12 rt v
   obtain ⟨zs,hzs⟩:∃ zs,encZ (ss.map Prod.fst) 12 rt v=zs:=⟨_,rfl⟩
   rw [hzs] at HOWN HRNG hcap hZS4 HVL ⊢
   have HZS:=Lib.hid hzs
   have HZ4:=Lib.hid hZS4
   clear hzs
   have hS:=And.intro (blk3 HZ5.out).2.1 (And.intro (blk3 HZ5.out).2.2.1 (blk3 HZ5.out).2.2.2.1)
   refine tk 5 (.slice A zs.length cap) hS ?_ ?_
   · rintro w' ⟨z0,z1,z2⟩
     go_simp
   simp only [Act.put,List.getElem_toArray,List.getElem_cons_succ,List.getElem_cons_zero,List.setIfInBounds_toArray,List.set_cons_zero,List.set_cons_succ]
   refine wpAnyH_done (by kernel_rfl) ?_ _
   refine NoPanic.normal ?_
   try simp only [Exit.then]
   obtain ⟨_,z0,z1,z2,_⟩:=blk3 HZ5.out
   have HBZ:=Lib.hid (bytes_ownv HOWN.out HRNG.out)
   obtain ⟨ys,HYS⟩:∃ ys:List Int,Hid ((0≤cut∧ys=zs.take (cut % ((zs.length:Int)+1)).toNat∧(ys.length:Int)=cut % ((zs.length:Int)+1))∨(cut<0∧ys=zs)):=by
    by_cases hc:0≤cut
    · refine ⟨zs.take (cut % ((zs.length:Int)+1)).toNat,Lib.hid (.inl ⟨hc,rfl,?_⟩)⟩
      have h1:=Int.emod_nonneg cut (show ((zs.length:Int)+1)≠0 by omega)
      have h2:=Int.emod_lt_of_pos cut (show 0<((zs.length:Int)+1) by omega)
      rw [List.length_take]
      omega
    · exact ⟨zs,Lib.hid (.inr ⟨by omega,rfl⟩)⟩
   have HBYY:Hid (Bytes W5 A ys∧ys.length≤cap∧ys.length≤140737488355328):=Lib.hid (by
    have hv:=HVL.out
    have hz2:=HBZ.out.2
    rcases HYS.out with ⟨_,hy,hy2⟩|⟨_,hy⟩
    · have h2:=Int.emod_lt_of_pos cut (show 0<((zs.length:Int)+1) by omega)
      refine ⟨by rw [hy];exact bytes_take HBZ.out.1 _,by omega,by omega⟩
    · subst hy
      exact ⟨HBZ.out.1,hz2,by omega⟩)
   have hyc:=HBYY.out.2.1
   obtain ⟨L,hmx,hE,hL0,hL1⟩:∃ L:Int,max bud 0=L∧atLeast0 bud=L∧0≤L∧L≤9223372036854775807:=by
    by_cases hb0:0≤bud
    · exact ⟨bud,Int.max_eq_left hb0,if_pos hb0,hb0,hbu.2⟩
    · exact ⟨0,Int.max_eq_right (by omega),if_neg hb0,by decide,by decide⟩
   obtain ⟨M,hmn,hM0⟩:∃ M:Int,min L 1099511627776=M∧0≤M∧M≤1099511627776:=⟨_,rfl,by omega,by omega⟩
   have HE:=Lib.hid hE
   obtain ⟨mr,hmr,hmr0⟩:∃ mr:Int,(IntKind.u64.wrap more) % 1000=mr∧0≤mr∧mr<1000:=⟨_,rfl,Int.emod_nonneg _ (by decide),Int.emod_lt_of_pos _ (by decide)⟩
   have hwu:0≤IntKind.u64.wrap more:=wrap_u64_nonneg more
   have hmt:(IntKind.u64.wrap more).tmod 1000=mr:=by rw [Int.tmod_eq_emod_of_nonneg hwu,hmr]
   have hw1:=IntWalk.i64_in mr ⟨by omega,by omega⟩
   have hw1u:=IntWalk.u64_in mr ⟨by omega,by omega⟩
   have hw2:=IntWalk.i64_in (M+1000) ⟨by omega,by omega⟩
   have hw3:=IntWalk.i64_in (M+1000+mr) ⟨by omega,by omega⟩
   have HM3:Hid (0≤M+1000+mr∧M+1000+mr≤9223372036854775807):=Lib.hid ⟨by omega,by omega⟩
   have HL01:=Lib.hid (And.intro hL0 hL1)
   clear hE hmr hmr0 hwu hbig hbu
   have hzlen:(zs.length:Int)+1≤140000000001:=by have:=HVL.out;omega
   have hwz:=IntWalk.i64_in ((zs.length:Int)+1) ⟨by omega,by omega⟩
   have hnz:¬((zs.length:Int)+1)=0:=by omega
   by_cases hc:0≤cut
   case' pos =>
    have hmod:cut.tmod ((zs.length:Int)+1)=(ys.length:Int):=by
     rw [Int.tmod_eq_emod_of_nonneg hc]
     rcases HYS.out with ⟨_,_,h3⟩|⟨h3,_⟩
     · exact h3.symm
     · omega
    go_upto_region 9 with (fail)
   case' neg =>
    have hy:ys=zs:=by
     rcases HYS.out with ⟨h3,_⟩|⟨_,h3⟩
     · omega
     · exact h3
    go_upto_region 9 with (fail)
    rw [←hy]
    clear hy
   all_goals
    clear hzlen hwz hnz hcap hZS4
    have HRW:=Lib.hid (fun (W':World) (hW:Below W5.heap.size W5 W')=>HR3.out.below (HB35.out.trans (hW.mono HB35.out.size)))
    have HBYS:=Lib.hid (fun (W':World) (hW:Below W5.heap.size W5 W')=>HBYY.out.1.below (Nat.le_refl _) hW)
    have HYL:=Lib.hid HBYY.out.2.2
    have HYC:=Lib.hid hyc
    have HAM:=Lib.hid (fun (W':World) (hW:Below W5.heap.size W5 W')=>(fun V hV=>HT.out.below (Nat.le_refl _) (HB03.out.trans (((HB35.out.trans ((hW.trans hV).mono HB35.out.size))).mono HB03.out.size)):Amb W5.heap.size W'))
    refine wp_region_noPanic ?_
    refine wp_region_held_drew (S:=(fun w'=>w'.cell? ⟨Z,0,none⟩=some (.slice sa ss.length sc)∧w'.cell? ⟨Z,1,none⟩=some (.slice ea es.length ec)∧w'.cell? ⟨Z,2,none⟩=some (.int .i64 rt))) (by kernel_rfl) ⟨z0,z1,z2⟩ ?_
    intro hS
    refine tk 0 (.agg #[.slice sa ss.length sc,.slice ea es.length ec,.int .i64 rt]) hS ?_ ?_
    · rintro w' ⟨z0,z1,z2⟩
      go_simp
    simp only [Act.put,List.getElem_toArray,List.getElem_cons_zero,List.setIfInBounds_toArray,List.set_cons_zero,List.set_cons_succ]
    refine tk 1 (.slice A ys.length cap) hS ?_ ?_
    · rintro w' ⟨z0,z1,z2⟩
      go_simp
    simp only [Act.put,List.getElem_toArray,List.getElem_cons_succ,List.getElem_cons_zero,List.setIfInBounds_toArray,List.set_cons_zero,List.set_cons_succ]
    refine wpAnyH_ready (rs:=[2]) (by kernel_rfl) (by decide) (AllReadyH.cons rfl (fun K hK=>?_) AllReadyH.nil)
    rw [if_pos (by kernel_rfl)]
    go_simp
    refine (enough_any W5.drew).mono ?_
    rintro e W6 ⟨rfl,hm6,hb6⟩
    have hl6:Below W5.heap.size W5 W6:=(Below.refl _ W5).drew.trans hb6
    have HL6:=Lib.hid hl6
    have HM6:=Lib.hid (show W6.heap[W5.heap.size]?=some (.cells #[.int .i64 1099511627776,.bool false] 114 (0,0)) from hm6)
    refine hK.out _ _ ⟨cell_stays hl6 z0,cell_stays hl6 z1,cell_stays hl6 z2⟩ (fun hS=>?_)
    clear hm6 hb6 hl6 hK K
    refine wpAnyH_ready (rs:=[3]) (by kernel_rfl) (by decide) (AllReadyH.cons rfl (fun K hK=>?_) AllReadyH.nil)
    rw [if_pos (by kernel_rfl)]
    go_simp
    refine (fread_all W6 rt (HRW.out W6 HL6.out) HSM.out HDF.out HFE.out HRT.out (HBYS.out W6 HL6.out) HYL.out HYC.out HM6.out ⟨by omega,by omega⟩ (B:=W5.heap.size) (Nat.le_refl _) (HAM.out W6 HL6.out)).mono ?_
    rintro e W7 hpost
    obtain ⟨hx7,x1,n1,rfl,hf1⟩:=hpost.form
    have HF1:=Lib.hid hf1
    have hb7:Below W5.heap.size W6 W7:=(hx7.mono HL6.out.size).below (Nat.le_refl _)
    have HL7:=Lib.hid (HL6.out.trans hb7)
    have HZ7:=Lib.hid (blk_below HZ5.out HL7.out (blk_lt HZ5.out))
    refine hK.out _ _ ⟨(blk3 HZ7.out).2.1,(blk3 HZ7.out).2.2.1,(blk3 HZ7.out).2.2.2.1⟩ (fun hS=>?_)
    clear hpost hx7 hf1 hb7 hK K z0 z1 z2
    have hS:=And.intro (blk3 HZ7.out).2.1 (And.intro (blk3 HZ7.out).2.2.1 (blk3 HZ7.out).2.2.2.1)
    refine tk 4 (.tuple #[x1,.int .i64 n1]) hS ?_ ?_
    · rintro w' ⟨z0,z1,z2⟩
      go_simp
    simp only [Act.put,List.getElem_toArray,List.getElem_cons_succ,List.getElem_cons_zero,List.setIfInBounds_toArray,List.set_cons_zero,List.set_cons_succ]
    refine tk 5 x1 hS ?_ ?_
    · rintro w' ⟨z0,z1,z2⟩
      go_simp
    simp only [Act.put,List.getElem_toArray,List.getElem_cons_succ,List.getElem_cons_zero,List.setIfInBounds_toArray,List.set_cons_zero,List.set_cons_succ]
    refine tk 6 (.int .i64 n1) hS ?_ ?_
    · rintro w' ⟨z0,z1,z2⟩
      go_simp
    simp only [Act.put,List.getElem_toArray,List.getElem_cons_succ,List.getElem_cons_zero,List.setIfInBounds_toArray,List.set_cons_zero,List.set_cons_succ]
    refine tk 7 x1 hS ?_ ?_
    · rintro w' ⟨z0,z1,z2⟩
      go_simp
    simp only [Act.put,List.getElem_toArray,List.getElem_cons_succ,List.getElem_cons_zero,List.setIfInBounds_toArray,List.set_cons_zero,List.set_cons_succ]
    refine tk 8 (.int .i64 n1) hS ?_ ?_
    · rintro w' ⟨z0,z1,z2⟩
      go_simp
    simp only [Act.put,List.getElem_toArray,List.getElem_cons_succ,List.getElem_cons_zero,List.setIfInBounds_toArray,List.set_cons_zero,List.set_cons_succ]
    refine wpAnyH_done (by kernel_rfl) ?_ _
    refine NoPanic.normal ?_
    try simp only [Exit.then]
    obtain ⟨_,z0,z1,z2,_⟩:=blk3 HZ7.out
    go_wp2_with fail
    refine (new_any bud W7).mono ?_
    rintro e W8 ⟨rfl,hW8⟩
    have hb8:Below W7.heap.size W7 W8:=by rw [hW8];exact (Below.refl _ _).alloc (Nat.le_refl _) _
    have hm8:W8.heap[W7.heap.size]?=some (.cells #[.int .i64 L,.bool false] 114 (0,0)):=by rw [hW8,HE.out];exact heap_alloc_new W7 _
    have HL8:=Lib.hid (HL7.out.trans (hb8.mono HL7.out.size))
    have HM8:=Lib.hid hm8
    have HZ8:=Lib.hid (blk_below HZ7.out hb8 (blk_lt HZ7.out))
    have HS8:Hid (W7.heap.size<W8.heap.size):=Lib.hid (blk_lt hm8)
    clear hW8 hb8 hm8 z0 z1 z2
    obtain ⟨_,z0,z1,z2,_⟩:=blk3 HZ8.out
    go_wp2_with fail
    refine (fread_all W8 rt (HRW.out W8 HL8.out) HSM.out HDF.out HFE.out HRT.out (HBYS.out W8 HL8.out) HYL.out HYC.out HM8.out HL01.out (B:=W5.heap.size) HL7.out.size (HAM.out W8 HL8.out)).mono ?_
    rintro e W9 hpost
    obtain ⟨hx9,x2,n2,rfl,hf2⟩:=hpost.form
    have HF2:=Lib.hid hf2
    have hb9:Below W5.heap.size W8 W9:=(hx9.mono HL8.out.size).below HL7.out.size
    have HL9:=Lib.hid (HL8.out.trans hb9)
    have HZ9:=Lib.hid (hb9.block Z (blk_lt HZ5.out) |>.trans HZ8.out)
    have HS9:Hid (W7.heap.size<W9.heap.size):=Lib.hid (Nat.lt_of_lt_of_le HS8.out hx9.size)
    clear hpost hx9 hf2 hb9 z0 z1 z2
    obtain ⟨_,z0,z1,z2,_⟩:=blk3 HZ9.out
    go_upto_region 12 with (fail)
    refine wp_region_noPanic ?_
    refine wp_region_held_drew (S:=(fun w'=>w'.cell? ⟨Z,0,none⟩=some (.slice sa ss.length sc)∧w'.cell? ⟨Z,1,none⟩=some (.slice ea es.length ec)∧w'.cell? ⟨Z,2,none⟩=some (.int .i64 rt))) (by kernel_rfl) ⟨z0,z1,z2⟩ ?_
    intro hS
    refine tk 0 (.agg #[.slice sa ss.length sc,.slice ea es.length ec,.int .i64 rt]) hS ?_ ?_
    · rintro w' ⟨z0,z1,z2⟩
      go_simp
    simp only [Act.put,List.getElem_toArray,List.getElem_cons_zero,List.setIfInBounds_toArray,List.set_cons_zero,List.set_cons_succ]
    refine tk 1 (.slice A ys.length cap) hS ?_ ?_
    · rintro w' ⟨z0,z1,z2⟩
      go_simp
    simp only [Act.put,List.getElem_toArray,List.getElem_cons_succ,List.getElem_cons_zero,List.setIfInBounds_toArray,List.set_cons_zero,List.set_cons_succ]
    refine tk 2 (.int .i64 bud) hS ?_ ?_
    · rintro w' ⟨z0,z1,z2⟩
      go_simp
    simp only [Act.put,List.getElem_toArray,List.getElem_cons_succ,List.getElem_cons_zero,List.setIfInBounds_toArray,List.set_cons_zero,List.set_cons_succ]
    refine tk 3 (.int .i64 L) hS ?_ ?_
    · rintro w' ⟨z0,z1,z2⟩
      go_simp
    simp only [Act.put,List.getElem_toArray,List.getElem_cons_succ,List.getElem_cons_zero,List.setIfInBounds_toArray,List.set_cons_zero,List.set_cons_succ]
    refine tk 4 (.int .i64 M) hS ?_ ?_
    · rintro w' ⟨z0,z1,z2⟩
      go_simp
    simp only [Act.put,List.getElem_toArray,List.getElem_cons_succ,List.getElem_cons_zero,List.setIfInBounds_toArray,List.set_cons_zero,List.set_cons_succ]
    refine tk 5 (.int .i64 (M+1000)) hS ?_ ?_
    · rintro w' ⟨z0,z1,z2⟩
      go_simp
    simp only [Act.put,List.getElem_toArray,List.getElem_cons_succ,List.getElem_cons_zero,List.setIfInBounds_toArray,List.set_cons_zero,List.set_cons_succ]
    refine tk 6 (.int .i64 more) hS ?_ ?_
    · rintro w' ⟨z0,z1,z2⟩
      go_simp
    simp only [Act.put,List.getElem_toArray,List.getElem_cons_succ,List.getElem_cons_zero,List.setIfInBounds_toArray,List.set_cons_zero,List.set_cons_succ]
    refine tk 7 (.int .u64 (IntKind.u64.wrap more)) hS ?_ ?_
    · rintro w' ⟨z0,z1,z2⟩
      go_simp
    simp only [Act.put,List.getElem_toArray,List.getElem_cons_succ,List.getElem_cons_zero,List.setIfInBounds_toArray,List.set_cons_zero,List.set_cons_succ]
    refine tk 8 (.int .u64 mr) hS ?_ ?_
    · rintro w' ⟨z0,z1,z2⟩
      go_simp
    simp only [Act.put,List.getElem_toArray,List.getElem_cons_succ,List.getElem_cons_zero,List.setIfInBounds_toArray,List.set_cons_zero,List.set_cons_succ]
    refine tk 9 (.int .i64 mr) hS ?_ ?_
    · rintro w' ⟨z0,z1,z2⟩
      go_simp
    simp only [Act.put,List.getElem_toArray,List.getElem_cons_succ,List.getElem_cons_zero,List.setIfInBounds_toArray,List.set_cons_zero,List.set_cons_succ]
    refine tk 10 (.int .i64 (M+1000+mr)) hS ?_ ?_
    · rintro w' ⟨z0,z1,z2⟩
      go_simp
    simp only [Act.put,List.getElem_toArray,List.getElem_cons_succ,List.getElem_cons_zero,List.setIfInBounds_toArray,List.set_cons_zero,List.set_cons_succ]
    refine wpAnyH_ready (rs:=[11]) (by kernel_rfl) (by decide) (AllReadyH.cons rfl (fun K hK=>?_) AllReadyH.nil)
    rw [if_pos (by kernel_rfl)]
    go_simp
    refine (new_any (M+1000+mr) W9.drew).mono ?_
    rintro e W10 ⟨rfl,hW10⟩
    have hl10:Below W9.heap.size W9 W10:=by rw [hW10];exact (Below.refl _ W9).drew.alloc (Nat.le_refl _) _
    have hm10:W10.heap[W9.heap.size]?=some (.cells #[.int .i64 (M+1000+mr),.bool false] 114 (0,0)):=by rw [hW10,show atLeast0 (M+1000+mr)=M+1000+mr from if_pos HM3.out.1];exact heap_alloc_new W9.drew _
    have HL10:=Lib.hid (HL9.out.trans (hl10.mono HL9.out.size))
    have HM10:=Lib.hid hm10
    have HB10:=Lib.hid hl10
    refine hK.out _ _ ⟨cell_stays hl10 z0,cell_stays hl10 z1,cell_stays hl10 z2⟩ (fun hS=>?_)
    clear hW10 hl10 hm10 hK K
    refine wpAnyH_ready (rs:=[12]) (by kernel_rfl) (by decide) (AllReadyH.cons rfl (fun K hK=>?_) AllReadyH.nil)
    rw [if_pos (by kernel_rfl)]
    go_simp
    refine (fread_all W10 rt (HRW.out W10 HL10.out) HSM.out HDF.out HFE.out HRT.out (HBYS.out W10 HL10.out) HYL.out HYC.out HM10.out HM3.out (B:=W5.heap.size) HL9.out.size (HAM.out W10 HL10.out)).mono ?_
    rintro e W11 hpost
    obtain ⟨hx11,x3,n3,rfl,hf3⟩:=hpost.form
    have HF3:=Lib.hid hf3
    have hb11:Below W5.heap.size W10 W11:=(hx11.mono HL10.out.size).below HL9.out.size
    have HL11:=Lib.hid (HL10.out.trans hb11)
    have HZ11:=Lib.hid (blk_below HZ5.out HL11.out (blk_lt HZ5.out))
    have HX11:Hid (True∧∀ k,k<W9.heap.size→k<W9.heap.size→W11.heap[k]?=W9.heap[k]?):=Lib.hid ⟨trivial,fun k h1 _=>(hx11.block k (by have:=HB10.out.size;omega) (by omega)).trans (HB10.out.block k h1)⟩
    have HBF:=Lib.hid (HB3.out.trans ((HB35.out.trans (HL11.out.mono HB35.out.size)).mono HB3.out.size))
    refine hK.out _ _ ⟨(blk3 HZ11.out).2.1,(blk3 HZ11.out).2.2.1,(blk3 HZ11.out).2.2.2.1⟩ (fun hS=>?_)
    clear hpost hx11 hf3 hb11 hK K z0 z1 z2
    have hS:=And.intro (blk3 HZ11.out).2.1 (And.intro (blk3 HZ11.out).2.2.1 (blk3 HZ11.out).2.2.2.1)
    obtain ⟨_,z0,z1,z2,_⟩:=blk3 HZ11.out
    refine tk 13 (.tuple #[x3,.int .i64 n3]) hS ?_ ?_
    · rintro w' ⟨z0,z1,z2⟩
      go_simp
    simp only [Act.put,List.getElem_toArray,List.getElem_cons_succ,List.getElem_cons_zero,List.setIfInBounds_toArray,List.set_cons_zero,List.set_cons_succ]
    refine tk 14 x3 hS ?_ ?_
    · rintro w' ⟨z0,z1,z2⟩
      go_simp
    simp only [Act.put,List.getElem_toArray,List.getElem_cons_succ,List.getElem_cons_zero,List.setIfInBounds_toArray,List.set_cons_zero,List.set_cons_succ]
    refine tk 15 (.int .i64 n3) hS ?_ ?_
    · rintro w' ⟨z0,z1,z2⟩
      go_simp
    simp only [Act.put,List.getElem_toArray,List.getElem_cons_succ,List.getElem_cons_zero,List.setIfInBounds_toArray,List.set_cons_zero,List.set_cons_succ]
    refine tk 16 x3 hS ?_ ?_
    · rintro w' ⟨z0,z1,z2⟩
      go_simp
    simp only [Act.put,List.getElem_toArray,List.getElem_cons_succ,List.getElem_cons_zero,List.setIfInBounds_toArray,List.set_cons_zero,List.set_cons_succ]
    refine tk 17 (.int .i64 n3) hS ?_ ?_
    · rintro w' ⟨z0,z1,z2⟩
      go_simp
    simp only [Act.put,List.getElem_toArray,List.getElem_cons_succ,List.getElem_cons_zero,List.setIfInBounds_toArray,List.set_cons_zero,List.set_cons_succ]
    refine wpAnyH_done (by kernel_rfl) ?_ _
    refine NoPanic.normal ?_
    try simp only [Exit.then]
    clear z0 z1 z2
    have hq1:=HF1.out.big (by decide)
    have HLM:=Lib.hid hmx
    rcases hq1 with ⟨rfl,hG⟩|⟨rfl,hG⟩
    · rcases HF2.out.good hG with ⟨rfl,⟨T2,r2,rfl⟩,ml2,hm2,hle2⟩|⟨rfl,rfl⟩
      · have HM11:=Lib.hid (show IsMeter W11 W7.heap.size ml2 false from blk_meter (HX11.out.2 W7.heap.size HS9.out (blk_lt' hm2) |>.trans hm2))
        have hle:=hle2
        clear hm2
        rcases HF3.out.good hG with ⟨rfl,⟨T3,r3,rfl⟩,_⟩|⟨rfl,rfl⟩
        all_goals
         go_wp2_with fail
         refine (left_any W7.heap.size ml2 false W11 HM11.out).mono ?_
         rintro e _ ⟨rfl,rfl⟩
         go_wp2
         go_ret
         exact ⟨rfl,HBF.out⟩
      · rcases HF3.out.good hG with ⟨rfl,⟨T3,r3,rfl⟩,_⟩|⟨rfl,rfl⟩
        all_goals
         go_wp2
         go_ret
         exact ⟨rfl,HBF.out⟩
    · rcases HF2.out.bad hG with ⟨rfl,rfl⟩|⟨rfl,rfl⟩
      all_goals
       rcases HF3.out.bad hG with ⟨rfl,rfl⟩|⟨rfl,rfl⟩
       all_goals
        go_wp2
        go_ret
        exact ⟨rfl,HBF.out⟩
 · go_wp2
   go_ret
   exact ⟨rfl,(HB2.out.alloc HB2.out.size _)⟩
theorem flatreadBudgets_walk (p:Plan)(b0:Option Addr)(nb cb:Nat)(z1:List Int)(bud more cut:Int){a0 a1:Option Addr}{n0 e0 n1 c1:Nat}(w:World)(hp:IsPlan w p a0 n0 e0 a1 n1 c1)(h1:IsRow .u8 w b0 nb cb z1)(h2:(Lit.int .i64 bud).wf=true)(_h3:(Lit.int .i64 more).wf=true)(h4:(Lit.int .i64 cut).wf=true)(hT:Tabs w) :
  Calls Tryd.prog 6 #[.agg #[.slice a0 n0 e0,.slice a1 n1 c1,.int .u8 p.root,.bool p.tree],.slice b0 nb cb,.int .i64 bud,.int .i64 more,.int .i64 cut] w fun e w'=>e=.returned (.bool true)∧Below w.heap.size w w':=by
 obtain ⟨k1,k2,k3,_⟩:=bytes_row h1
 exact fbud_go p _ bud more cut (bounds_i64 h2) (bounds_i64 h4) w hp k1 k2 k3 hT
end Go.Proofs.YtpbaaedijfofnaaDoor
