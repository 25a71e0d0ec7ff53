/-
  The statement of the law FlatreadSpread, from its walk: for every input that can be read the law returns true, and its arguments read as they did. Conditions: those of the given row (the listed tables hold what the program's text lays; the card ties them).
-/
import Derived.Test.YtpbaaedijfofnaaDoorPkV53
import Derived.Test.YtpbaaedijfofnaaDoorPkV1
import Derived.Test.YtpbaaedijfofnaaDoorPkV2
import Derived.Test.YtpbaaedijfofnaaDoorPkV3
import Derived.Test.YtpbaaedijfofnaaDoorPkV4
import Derived.Test.YtpbaaedijfofnaaDoorPkV5
import Derived.Test.YtpbaaedijfofnaaDoorPkV6
import Derived.Test.YtpbaaedijfofnaaDoorPkV7
import Derived.Test.YtpbaaedijfofnaaDoorPkV8
import Derived.Test.YtpbaaedijfofnaaDoorPkV9
import Derived.Test.YtpbaaedijfofnaaDoorPkV10
import Derived.Test.YtpbaaedijfofnaaDoorPkV11
import Derived.Test.YtpbaaedijfofnaaDoorPkV12
import Derived.Test.YtpbaaedijfofnaaDoorPkV13
import Derived.Test.YtpbaaedijfofnaaDoorPkV14
import Derived.Test.YtpbaaedijfofnaaDoorPkV15
import Derived.Test.YtpbaaedijfofnaaDoorPkV16
import Derived.Test.YtpbaaedijfofnaaDoorPkV17
import Derived.Test.YtpbaaedijfofnaaDoorPkV18
import Derived.Test.YtpbaaedijfofnaaDoorPkV19
import Derived.Test.YtpbaaedijfofnaaDoorPkV20
import Derived.Test.YtpbaaedijfofnaaDoorPkV21
import Derived.Test.YtpbaaedijfofnaaDoorPkV22
import Derived.Test.YtpbaaedijfofnaaDoorPkV23
import Derived.Test.YtpbaaedijfofnaaDoorPkV24
import Derived.Test.YtpbaaedijfofnaaDoorPkV25
import Derived.Test.YtpbaaedijfofnaaDoorPkV26
import Derived.Test.YtpbaaedijfofnaaDoorPkV27
import Derived.Test.YtpbaaedijfofnaaDoorPkV28
import Derived.Test.YtpbaaedijfofnaaDoorPkV29
import Derived.Test.YtpbaaedijfofnaaDoorPkV30
import Derived.Test.YtpbaaedijfofnaaDoorPkV31
import Derived.Test.YtpbaaedijfofnaaDoorPkV32
import Derived.Test.YtpbaaedijfofnaaDoorPkV33
import Derived.Test.YtpbaaedijfofnaaDoorPkV34
import Derived.Test.YtpbaaedijfofnaaDoorPkV35
import Derived.Test.YtpbaaedijfofnaaDoorPkV36
import Derived.Test.YtpbaaedijfofnaaDoorPkV37
import Derived.Test.YtpbaaedijfofnaaDoorPkV38
import Derived.Test.YtpbaaedijfofnaaDoorPkV39
import Derived.Test.YtpbaaedijfofnaaDoorPkV40
import Derived.Test.YtpbaaedijfofnaaDoorPkV41
import Derived.Test.YtpbaaedijfofnaaDoorPkV42
import Derived.Test.YtpbaaedijfofnaaDoorPkV43
import Derived.Test.YtpbaaedijfofnaaDoorPkV44
import Derived.Test.YtpbaaedijfofnaaDoorPkV45
import Derived.Test.YtpbaaedijfofnaaDoorPkV46
import Derived.Test.YtpbaaedijfofnaaDoorPkV47
import Derived.Test.YtpbaaedijfofnaaDoorPkV48
import Derived.Test.YtpbaaedijfofnaaDoorPkV49
import Derived.Test.YtpbaaedijfofnaaDoorPkV50
import Derived.Test.YtpbaaedijfofnaaDoorPkV51
import Derived.Deep.RegionHeld3
import Derived.Test.YtpbaaedijfofnaaDoorCards
import Derived.Test.YtpbaaedijfofnaaDoorTie
namespace Go.Proofs.YtpbaaedijfofnaaDoor
open Go.ChangeShapes Go.WideShapes Go.ChangeAt Go.RowKit Go.Shelf
theorem bytes_all {W:World}{a:Option Addr}{zs:List Int}(h:Bytes W a zs):∀ z ∈ zs,0≤z∧z≤255:=fun z hz=>by
 obtain ⟨i,hi,rfl⟩:=List.getElem_of_mem hz
 have:=h.1 i
 rwa [List.getD,List.getElem?_eq_getElem hi,Option.getD_some] at this
end Go.Proofs.YtpbaaedijfofnaaDoor
namespace Go.Proofs.YtpbaaedijfofnaaDoor
open Go.ChangeShapes Go.WideShapes Go.ChangeAt Go.RowKit Go.Shelf
theorem u8_infoT:(Tryd.prog.info? 5).map (fun i=>(i.zero,i.size,i.bytes))=some (some (.int .u8 0),1,1):=by kernel_rfl
end Go.Proofs.YtpbaaedijfofnaaDoor
namespace Go.Proofs.YtpbaaedijfofnaaDoor
open Go.ChangeShapes Go.WideShapes Go.ChangeAt Go.RowKit Go.Shelf
set_option maxRecDepth 100000 in
set_option maxHeartbeats 16000000 in
theorem fspr_go (p:Plan){a0 a1 b0:Option Addr}{n0 e0 n1 c1 nb cb:Nat}(bs:List Int){c0:Option Addr}{ny cy:Nat}(ys:List Int)(w:World)(hy:Bytes w c0 ys)(hyn:ys.length=ny)(hyc:ny≤cy)(hp:IsPlan w p a0 n0 e0 a1 n1 c1)(hb:Bytes w b0 bs)(hbn:bs.length=nb)(hbc:nb≤cb)(hT:Tabs w) :
  Calls Tryd.prog 9 #[.agg #[.slice a0 n0 e0,.slice a1 n1 c1,.int .u8 p.root,.bool p.tree],.slice b0 nb cb,.slice c0 ny cy] w fun e w'=>e=.returned (.bool true)∧Below w.heap.size w w':=by
 subst hbn
 subst hyn
 have hb1:=(Below.refl w.heap.size w).alloc (Nat.le_refl _) (.cells #[.slice a0 n0 e0,.slice a1 n1 c1,.int .u8 p.root,.bool p.tree] 25)
 have HP:=Lib.hid (hp.below hb1)
 have HT:=Lib.hid (hT.below (Nat.le_refl _) hb1)
 have HBY:=Lib.hid (hb.below (Nat.le_refl _) hb1)
 have HYB:=Lib.hid (hy.below (Nat.le_refl _) hb1)
 have HYCC:=Lib.hid hyc
 have HB0:=Lib.hid hb1
 have HQ1:=Lib.hid (heap_alloc_new w (.cells #[.slice a0 n0 e0,.slice a1 n1 c1,.int .u8 p.root,.bool p.tree] 25))
 have HBC:=Lib.hid hbc
 clear hp hT hb hb1 hbc hy hyc
 go_enter Tryd.func9,Tryd.ntmps9
 go_upto_region 1 with (fail)
 generalize w.alloc (.cells #[.slice a0 n0 e0,.slice a1 n1 c1,.int .u8 p.root,.bool p.tree] 25)=W0 at *
 go_wp2_with fail
 refine (awake10_any W0 HT.out).mono ?_
 rintro e W1 ⟨rfl,hb1⟩
 have HB1:=Lib.hid (HB0.out.trans (hb1.mono HB0.out.size))
 have HB01:=Lib.hid hb1
 have HQ11:=Lib.hid (blk_below HQ1.out hb1 (blk_lt HQ1.out))
 clear hb1 HB0 HQ1
 obtain ⟨_,y0',y1',y2',y3'⟩:=blk4p HQ11.out
 go_wp2_with fail
 refine (made_any p W1 (HP.out.below HB01.out)).mono ?_
 rintro e W2 ⟨hb2,hpost⟩
 have HB2:=Lib.hid (HB1.out.trans (hb2.mono HB1.out.size))
 have HB02:=Lib.hid (HB01.out.trans (hb2.mono HB01.out.size))
 clear hb2 y0' y1' y2' y3' HQ11 HB1 HB01
 rcases hpost with ⟨hok,ss,es,sv,ev,rfl,hss,hes,hr⟩|⟨hno,rfl⟩
 · obtain ⟨sa,sc,ea,ec,rfl,rfl⟩:=hr.forms
   have hlen:=made_len hok hss
   have HFO:=Lib.hid (made_flds (plan_nums HP.out) hss)
   have hm:=made_schM hok (plan_nums HP.out) hss hes
   have HSM:=Lib.hid hm
   have HDF:=Lib.hid (made_defs hss hm)
   have HFE:=Lib.hid (made_few hok hes)
   have hrt:p.root % p.structs.length<ss.length:=by rw [hlen.2.2];exact Nat.mod_lt _ (by omega)
   have HRT:=Lib.hid hrt
   have HR:=Lib.hid hr
   have HF8:=Lib.hid (made_few8 hes)
   clear hok hss hes hr hlen hrt hm
   generalize p.root % p.structs.length=rt at *
   go_upto_region 4 with (fail)
   have hba:Below W2.heap.size W2 (W2.alloc (.cells #[.slice sa ss.length sc,.slice ea es.length ec,.int .i64 rt] 30)):=(Below.refl _ _).alloc (Nat.le_refl _) _
   have HZ:=Lib.hid (heap_alloc_new W2 (.cells #[.slice sa ss.length sc,.slice ea es.length ec,.int .i64 rt] 30))
   have HB3:=Lib.hid (HB2.out.trans (hba.mono HB2.out.size))
   have HB03:=Lib.hid (HB02.out.trans (hba.mono HB02.out.size))
   have HR3:=Lib.hid (HR.out.below hba)
   clear hba HR HB2 HB02
   generalize W2.alloc (.cells #[.slice sa ss.length sc,.slice ea es.length ec,.int .i64 rt] 30)=W3 at *
   generalize W2.heap.size=Z at *
   obtain ⟨_,z0,z1,z2,_⟩:=blk3 HZ.out
   by_cases hbig:2000<bs.length
   · go_wp2
     go_ret
     exact ⟨rfl,HB3.out⟩
   have hbL:bs.length≤2000:=by omega
   by_cases hbig2:2000<ys.length
   · go_wp2
     go_ret
     exact ⟨rfl,HB3.out⟩
   have hyL:ys.length≤2000:=by omega
   go_upto_region 6 with (fail)
   go_wp2_with fail
   refine (hand_encode W3 HR3.out HSM.out HDF.out HRT.out (HBY.out.below (Nat.le_refl _) HB03.out) rfl (by omega) HBC.out).mono ?_
   rintro e W4 ⟨hb4,v,val,rfl,hv,hh,hf,hlen,hs,henc⟩
   have HNU:=Lib.hid (isV_nums hv)
   obtain ⟨da,dk,dc,dd,rfl,_⟩:=IsV.form hv
   have hba:Below W4.heap.size W4 (W4.alloc (.cells #[.int .u64 v.num,.slice da v.bytes.length dc,.slice dk v.kids.length dd,.bool v.has] 36)):=(Below.refl _ _).alloc (Nat.le_refl _) _
   have HVB:=Lib.hid (heap_alloc_new W4 (.cells #[.int .u64 v.num,.slice da v.bytes.length dc,.slice dk v.kids.length dd,.bool v.has] 36))
   have HB35:=Lib.hid (hb4.trans (hba.mono hb4.size))
   have HV5:=Lib.hid (hv.later hba)
   have HENC:=Lib.hid (henc _ hba)
   have HVF:=Lib.hid (And.intro hh (And.intro hf (And.intro hlen hs)))
   have HZ5:=Lib.hid (blk_below HZ.out HB35.out (blk_lt HZ.out))
   clear hv hh hf hlen hs henc hba hb4 z0 z1 z2
   go_upto_region 7 with (fail)
   generalize W4.alloc (.cells #[.int .u64 v.num,.slice da v.bytes.length dc,.slice dk v.kids.length dd,.bool v.has] 36)=W5 at *
   generalize W4.heap.size=VB at *
   obtain ⟨_,z0,z1,z2,_⟩:=blk3 HZ5.out
   obtain ⟨_,t0,t1,t2,t3⟩:=blk4p HVB.out
   go_wp2_with fail
   refine HENC.out.mono ?_
   rintro e W6 ⟨hb6,hrng,A,cap,rfl,hown⟩
   have HB56:=Lib.hid hb6
   have HB36:=Lib.hid (HB35.out.trans (hb6.mono HB35.out.size))
   have HOWN:=Lib.hid hown
   have HRNG:=Lib.hid hrng
   have HZ6:=Lib.hid (blk_below HZ5.out hb6 (blk_lt HZ5.out))
   have HVB6:=Lib.hid (blk_below HVB.out hb6 (blk_lt HVB.out))
   have HV6:=Lib.hid (HV5.out.later hb6)
   have HVL:=Lib.hid HVF.out.2.2.1
   clear hb6 hown hrng HENC z0 z1 z2 t0 t1 t2 t3
   obtain ⟨xs,hxs⟩:∃ xs,encZ (ss.map Prod.fst) 12 rt v=xs:=⟨_,rfl⟩
   rw [hxs] at HOWN HRNG HVL ⊢
   have HXS:=Lib.hid hxs
   clear hxs
   obtain ⟨zs,hzs⟩:∃ zs,xs++ys=zs:=⟨_,rfl⟩
   have hzl:xs.length+ys.length=zs.length:=by rw [←hzs,List.length_append]
   have HYB6:=Lib.hid (HYB.out.below (Nat.le_refl _) (HB03.out.trans (HB36.out.mono HB03.out.size)))
   have HSRC:=Lib.hid (src_bytes HYB6.out (fun p x hp=>hp) cy)
   have HLN:Hid (xs.length≤140000000000∧ys.length≤2000):=Lib.hid ⟨HVL.out,hyL⟩
   obtain ⟨i0,hi0,hzz0,hzz1,hzz2⟩:=info_parts u8_infoT
   have I1:=Lib.hid hi0
   have I2:=Lib.hid hzz0
   have I3:=Lib.hid hzz1
   have I4:=Lib.hid hzz2
   clear hi0 hzz0 hzz1 hzz2
   go_upto_region 8 with (at_builtin;refine wpList_append_any _ rfl (.tmp 37) (.tmp 38) 22 22 rfl W5.heap.size 5 i0 _ 1 Tryd.underlying22 I1.out I2.out I3.out rfl _ xs.length (u8s xs) rfl HOWN.out _ ys.length (u8Cells ys) rfl HSRC.out (by have:=HLN.out;unfold maxLen;omega) (by have:=HLN.out;rw [I4.out];omega) HB56.out.size ?_;intro v4 W7 hown4 hg4 hat4;clear hat4;obtain ⟨a4,m4,rfl⟩:=ownsRow_form hown4;have HB57:=Lib.hid (HB56.out.grown hg4 HB56.out.size (fun k hk=>(ownsRow_lt HOWN.out k hk).1));have HO4:=Lib.hid hown4;rw [hzl];clear hown4 hg4)
   have HB37:=Lib.hid (HB35.out.trans (HB57.out.mono HB35.out.size))
   have HOW:Hid (OwnV W7 W5.heap.size 5 a4 m4 zs):=Lib.hid (by
    show W7.ownsRow W5.heap.size 5 1 (.slice a4 zs.length m4) zs.length (u8s zs)
    rw [←hzl,←hzs,show u8s (xs++ys)=u8s xs++u8Cells ys from List.map_append ..]
    exact HO4.out)
   have HBO:=Lib.hid (bytes_ownv HOW.out (fun z hz=>by
    rw [←hzs] at hz
    rcases List.mem_append.1 hz with hz|hz
    · exact HRNG.out z hz
    · exact bytes_all HYB6.out z hz))
   have HZ7:=Lib.hid (blk_below HZ5.out HB57.out (blk_lt HZ5.out))
   have HVB7:=Lib.hid (blk_below HVB.out HB57.out (blk_lt HVB.out))
   have HV7:=Lib.hid (HV5.out.later HB57.out)
   have HZS:=Lib.hid (show encZ (ss.map Prod.fst) 12 rt v++ys=zs by rw [HXS.out];exact hzs)
   have HZL:=Lib.hid hzl
   clear hzl hzs HO4 HOWN HRNG HSRC I1 I2 I3 I4
   have HYC:=Lib.hid HBO.out.2
   have hyc:=HYC.out
   have HYL:Hid (zs.length≤140737488355328):=Lib.hid (by have:=HLN.out;have:=HZL.out;omega)
   have HRW:=Lib.hid (fun (W':World) (hW:Below W7.heap.size W7 W')=>HR3.out.below (HB37.out.trans (hW.mono HB37.out.size)))
   have HBYS:=Lib.hid (fun (W':World) (hW:Below W7.heap.size W7 W')=>HBO.out.1.below (Nat.le_refl _) hW)
   have HAM:=Lib.hid (fun (W':World) (hW:Below W7.heap.size W7 W')=>(fun V hV=>HT.out.below (Nat.le_refl _) (HB03.out.trans (((HB37.out.trans ((hW.trans hV).mono HB37.out.size))).mono HB03.out.size)):Amb W7.heap.size W'))
   obtain ⟨_,z0,z1,z2,_⟩:=blk3 HZ7.out
   by_cases hbg:16384<zs.length
   · go_wp2
     go_ret
     exact ⟨rfl,HB3.out.trans (HB37.out.mono HB3.out.size)⟩
   go_upto_region 10 with (fail)
   refine wp_region_noPanic ?_
   refine wp_region_held_drew (S:=(fun w'=>w'.cell? ⟨Z,0,none⟩=some (.slice sa ss.length sc)∧w'.cell? ⟨Z,1,none⟩=some (.slice ea es.length ec)∧w'.cell? ⟨Z,2,none⟩=some (.int .i64 rt))) (by kernel_rfl) ⟨z0,z1,z2⟩ ?_
   intro hS
   refine tk 0 (.agg #[.slice sa ss.length sc,.slice ea es.length ec,.int .i64 rt]) hS ?_ ?_
   · rintro w' ⟨z0,z1,z2⟩
     go_simp
   simp only [td]
   refine tk 1 (.slice a4 zs.length m4) hS ?_ ?_
   · rintro w' ⟨z0,z1,z2⟩
     go_simp
   simp only [td]
   refine wpAnyH_ready (rs:=[2]) (by kernel_rfl) (by decide) (AllReadyH.cons rfl (fun K hK=>?_) AllReadyH.nil)
   rw [if_pos (by kernel_rfl)]
   go_simp
   refine (enough_any W7.drew).mono ?_
   rintro e W8 ⟨rfl,hm8,hb8⟩
   have hl8:Below W7.heap.size W7 W8:=(Below.refl _ W7).drew.trans hb8
   have HL8:=Lib.hid hl8
   have HM8:=Lib.hid (show W8.heap[W7.heap.size]?=some (.cells #[.int .i64 1099511627776,.bool false] 114 (0,0)) from hm8)
   refine hK.out _ _ ⟨cell_stays hl8 z0,cell_stays hl8 z1,cell_stays hl8 z2⟩ (fun hS=>?_)
   clear hm8 hb8 hl8 hK K
   refine wpAnyH_ready (rs:=[3]) (by kernel_rfl) (by decide) (AllReadyH.cons rfl (fun K hK=>?_) AllReadyH.nil)
   rw [if_pos (by kernel_rfl)]
   go_simp
   refine (fread_own W8 rt (ys:=ys) (HRW.out W8 HL8.out) HSM.out HDF.out HFE.out HF8.out HRT.out (HBYS.out W8 HL8.out) HYL.out HYC.out HM8.out ⟨by omega,by omega⟩ (B:=W7.heap.size) (Nat.le_refl _) (HAM.out W8 HL8.out) HZS.out HVF.out.2.1 HVF.out.1 HNU.out).mono ?_
   rintro e W9 ⟨hx9,hpost⟩
   have hb9:Below W7.heap.size W8 W9:=(hx9.mono HL8.out.size).below (Nat.le_refl _)
   have HL9:=Lib.hid (HL8.out.trans hb9)
   have HZ9:=Lib.hid (blk_below HZ7.out HL9.out (blk_lt HZ7.out))
   have HVB9:=Lib.hid (blk_below HVB7.out HL9.out (blk_lt HVB7.out))
   have hS9:=And.intro (blk3 HZ9.out).2.1 (And.intro (blk3 HZ9.out).2.2.1 (blk3 HZ9.out).2.2.2.1)
   clear z0 z1 z2 hx9 hb9
   rcases hpost with ⟨hsm,T,rv,rfl,hsh⟩|⟨hbg2,rfl⟩
   · refine hK.out _ _ hS9 (fun hS=>?_)
     clear hK K hS9
     have hS:=And.intro (blk3 HZ9.out).2.1 (And.intro (blk3 HZ9.out).2.2.1 (blk3 HZ9.out).2.2.2.1)
     refine tk 4 (.tuple #[.iface T rv,.int .i64 0]) hS ?_ ?_
     · rintro w' ⟨z0,z1,z2⟩
       go_simp
     simp only [td]
     refine tk 5 (.iface T rv) hS ?_ ?_
     · rintro w' ⟨z0,z1,z2⟩
       go_simp
     simp only [td]
     refine tk 6 (.int .i64 0) hS ?_ ?_
     · rintro w' ⟨z0,z1,z2⟩
       go_simp
     simp only [td]
     refine tk 7 (.iface T rv) hS ?_ ?_
     · rintro w' ⟨z0,z1,z2⟩
       go_simp
     simp only [td]
     refine tk 8 (.int .i64 0) hS ?_ ?_
     · rintro w' ⟨z0,z1,z2⟩
       go_simp
     simp only [td]
     refine wpAnyH_done (by kernel_rfl) ?_ _
     refine NoPanic.normal ?_
     try simp only [Exit.then]
     have HV9:=Lib.hid (HV7.out.later HL9.out)
     have HSH:=Lib.hid hsh
     have HTR:Hid (∀ W,Below W9.heap.size W9 W→Calls Tryd.prog 26 #[.agg #[.slice sa ss.length sc,.slice ea es.length ec,.int .i64 rt],.int .i64 rt,.iface T rv] W fun e w'=>(∃ val',e=.returned val'∧VH (newS W.heap.size) w' v val')∧Below W.heap.size W w'):=Lib.hid (fun W hb=>stree_any W rt rt ((HRW.out W (HL9.out.trans (hb.mono HL9.out.size))).crows) HFO.out (fun i hi=>by
      have hi2:i<ss.length:=by rw [List.length_map] at hi;exact hi
      have h5:=(HSM.out.2 ss[i] (List.getElem_mem hi2)).1
      rw [List.getElem_map]
      show (ss[i].1.fields.map cF).length≤1000000
      rw [List.length_map]
      omega) v _ (HSH.out.later _ hb))
     clear hsh
     go_upto_region 11 with (fail)
     obtain ⟨_,s0,s1,s2,_⟩:=blk3 HZ9.out
     obtain ⟨_,s3,s4,s5,s6⟩:=blk4p HVB9.out
     refine wp_region_noPanic ?_
     refine wp_region_held_drew (S:=(fun w'=>w'.cell? ⟨Z,0,none⟩=some (.slice sa ss.length sc)∧w'.cell? ⟨Z,1,none⟩=some (.slice ea es.length ec)∧w'.cell? ⟨Z,2,none⟩=some (.int .i64 rt)∧w'.cell? ⟨VB,0,none⟩=some (.int .u64 v.num)∧w'.cell? ⟨VB,1,none⟩=some (.slice da v.bytes.length dc)∧w'.cell? ⟨VB,2,none⟩=some (.slice dk v.kids.length dd)∧w'.cell? ⟨VB,3,none⟩=some (.bool v.has))) (by kernel_rfl) ⟨s0,s1,s2,s3,s4,s5,s6⟩ ?_
     intro hS
     refine tk 0 (.int .i64 0) hS ?_ ?_
     · rintro w' ⟨s0,s1,s2,s3,s4,s5,s6⟩
       go_simp
     simp only [td]
     refine tk 1 (.bool true) hS ?_ ?_
     · rintro w' ⟨s0,s1,s2,s3,s4,s5,s6⟩
       go_simp
     simp only [td]
     refine tk 2 (.bool true) hS ?_ ?_
     · rintro w' ⟨s0,s1,s2,s3,s4,s5,s6⟩
       go_simp
     simp only [td]
     refine tk 3 (.iface T rv) hS ?_ ?_
     · rintro w' ⟨s0,s1,s2,s3,s4,s5,s6⟩
       go_simp
     simp only [td]
     refine tk 4 (.bool true) hS ?_ ?_
     · rintro w' ⟨s0,s1,s2,s3,s4,s5,s6⟩
       go_simp
     simp only [td]
     refine tk 5 (.bool true) hS ?_ ?_
     · rintro w' ⟨s0,s1,s2,s3,s4,s5,s6⟩
       go_simp
     simp only [td]
     refine tk 6 (.bool true) hS ?_ ?_
     · rintro w' ⟨s0,s1,s2,s3,s4,s5,s6⟩
       go_simp
     simp only [td]
     refine tk 7 (.agg #[.slice sa ss.length sc,.slice ea es.length ec,.int .i64 rt]) hS ?_ ?_
     · rintro w' ⟨s0,s1,s2,s3,s4,s5,s6⟩
       go_simp
     simp only [td]
     refine tk 8 (.pointer (some ⟨Z,2,none⟩)) hS ?_ ?_
     · rintro w' ⟨s0,s1,s2,s3,s4,s5,s6⟩
       go_simp
     simp only [td]
     refine tk 9 (.int .i64 rt) hS ?_ ?_
     · rintro w' ⟨s0,s1,s2,s3,s4,s5,s6⟩
       go_simp
     simp only [td]
     refine tk 10 (.iface T rv) hS ?_ ?_
     · rintro w' ⟨s0,s1,s2,s3,s4,s5,s6⟩
       go_simp
     simp only [td]
     refine tk 12 (.agg #[.int .u64 v.num,.slice da v.bytes.length dc,.slice dk v.kids.length dd,.bool v.has]) hS ?_ ?_
     · rintro w' ⟨s0,s1,s2,s3,s4,s5,s6⟩
       go_simp
     simp only [td]
     refine wpAnyH_ready (rs:=[11]) (by kernel_rfl) (by decide) (AllReadyH.cons rfl (fun K hK=>?_) AllReadyH.nil)
     rw [if_pos (by kernel_rfl)]
     go_simp
     refine (HTR.out W9.drew ((Below.refl _ W9).drew)).mono ?_
     rintro e Wh1 ⟨⟨val9,rfl,hvh9⟩,hb1⟩
     have hx1:Below W9.heap.size W9 Wh1:=(Below.refl _ W9).drew.trans hb1
     have ns0:=cell_stays hx1 s0
     have ns1:=cell_stays hx1 s1
     have ns2:=cell_stays hx1 s2
     have ns3:=cell_stays hx1 s3
     have ns4:=cell_stays hx1 s4
     have ns5:=cell_stays hx1 s5
     have ns6:=cell_stays hx1 s6
     have hv9:=hvh9.out
     have HV9:=Lib.hid (HV9.out.later hx1)
     refine hK.out _ _ ⟨ns0,ns1,ns2,ns3,ns4,ns5,ns6⟩ (fun hS=>?_)
     clear ns0 ns1 ns2 ns3 ns4 ns5 ns6
     refine wpAnyH_ready (rs:=[13]) (by kernel_rfl) (by decide) (AllReadyH.cons rfl (fun K hK=>?_) AllReadyH.nil)
     rw [if_pos (by kernel_rfl)]
     go_simp
     refine (same_any v Wh1 v _ _ hv9 HV9.out).mono ?_
     rintro e Wh2 ⟨⟨rr,rfl,hrr⟩,hb2⟩
     have hx2:Below W9.heap.size W9 Wh2:=hx1.trans (hb2.mono hx1.size)
     have ns0:=cell_stays hx2 s0
     have ns1:=cell_stays hx2 s1
     have ns2:=cell_stays hx2 s2
     have ns3:=cell_stays hx2 s3
     have ns4:=cell_stays hx2 s4
     have ns5:=cell_stays hx2 s5
     have ns6:=cell_stays hx2 s6
     obtain rfl:rr=true:=hrr.2 rfl
     refine hK.out _ _ ⟨ns0,ns1,ns2,ns3,ns4,ns5,ns6⟩ (fun hS=>?_)
     clear ns0 ns1 ns2 ns3 ns4 ns5 ns6
     refine tk 14 (.bool true) hS ?_ ?_
     · rintro w' ⟨s0,s1,s2,s3,s4,s5,s6⟩
       go_simp
     simp only [td]
     refine tk 15 (.bool true) hS ?_ ?_
     · rintro w' ⟨s0,s1,s2,s3,s4,s5,s6⟩
       go_simp
     simp only [td]
     refine wpAnyH_done (by kernel_rfl) ?_ _
     refine NoPanic.normal ?_
     try simp only [Exit.then]
     have HB8:=Lib.hid (HB37.out.trans ((HL9.out.trans (hx2.mono HL9.out.size)).mono HB37.out.size))
     clear hS s0 s1 s2 s3 s4 s5 s6 hrr hb1 hb2 hx1 hx2 hv9 hvh9
     go_wp2
     go_ret
     exact ⟨rfl,HB3.out.trans (HB8.out.mono HB3.out.size)⟩
   · exact absurd hbg2 hbg
 · go_wp2
   go_ret
   exact ⟨rfl,(HB2.out.alloc HB2.out.size _)⟩
theorem flatreadSpread_walk (p:Plan)(b0:Option Addr)(nb cb:Nat)(z1:List Int)(c0:Option Addr)(ny cy:Nat)(z2:List Int){a0 a1:Option Addr}{n0 e0 n1 c1:Nat}(w:World)(hp:IsPlan w p a0 n0 e0 a1 n1 c1)(h1:IsRow .u8 w b0 nb cb z1)(h2:IsRow .u8 w c0 ny cy z2)(hT:Tabs w) :
  Calls Tryd.prog 9 #[.agg #[.slice a0 n0 e0,.slice a1 n1 c1,.int .u8 p.root,.bool p.tree],.slice b0 nb cb,.slice c0 ny cy] w fun e w'=>e=.returned (.bool true)∧Below w.heap.size w w':=by
 obtain ⟨k1,k2,k3,_⟩:=bytes_row h1
 obtain ⟨j1,j2,j3,_⟩:=bytes_row h2
 exact fspr_go p _ _ w j1 j2 j3 hp k1 k2 k3 hT
end Go.Proofs.YtpbaaedijfofnaaDoor
namespace Go.Proofs.YtpbaaedijfofnaaDoor
open Go.ChangeShapes Go.WideShapes Go.ChangeAt Go.RowKit
open Go.ChangeMaps (open_string shut_string)
namespace flatreadSpreadFrame
theorem laid_met (os:Os):laidMet Tryd.prog Rows.flatreadSpreadRow.laid ((laidWorld os).forCall (fun _ _=>0) ⟨#[],#[Value.agg #[Value.slice none 0 0,Value.slice none 0 0,Value.int .u8 0,Value.bool false],Value.slice none 0 0,Value.slice none 0 0],[]⟩).memory:=
 laidMet_of_run' 8 (by kernel_rfl) (by kernel_rfl)
theorem reads (os:Os){H:Type}(enc:TypeId × Value→H):∃ places,DataW.whole enc Tryd.prog ((laidWorld os).forCall (fun _ _=>0) ⟨#[],#[Value.agg #[Value.slice none 0 0,Value.slice none 0 0,Value.int .u8 0,Value.bool false],Value.slice none 0 0,Value.slice none 0 0],[]⟩).memory Tryd.f9.params.toList Rows.flatreadSpreadSpec.vars false #[Value.agg #[Value.slice none 0 0,Value.slice none 0 0,Value.int .u8 0,Value.bool false],Value.slice none 0 0,Value.slice none 0 0].toList 8=some ([.agg [.nil,.nil,.lit (.int .u8 0),.lit (.bool false)],.nil,.nil],[],places):=
 ⟨[],by kernel_rfl⟩
set_option maxRecDepth 100000 in
theorem contract (H:Type)(enc:TypeId × Value→H)(W:World)(base:Nat)(args:Array Value)(ds gs:List (DataW H))(before:List MemPlace)
  (hval0:∀ (j:Nat) t v,Tryd.f9.params[j]?=some t→args[j]?=some v→Value.okWide Tryd.prog W .any base t v)
  (hW:DataW.Whole enc Tryd.prog Tryd.f9.params.toList Rows.flatreadSpreadSpec.vars false W args.toList ds gs before) (hL:laidMetH Tryd.prog Rows.flatreadSpreadRow.laid W) :
  Calls Tryd.prog 9 args W fun e W'=>∃ v,e=.returned v∧Rows.flatreadSpreadSpec.post enc Tryd.prog Tryd.f9 false true false false W args v W':=by
 have hval:∀ (j:Nat) t v,Tryd.f9.params[j]?=some t→args[j]?=some v→Value.okWide Tryd.prog W .any base t v:=hval0
 have hW':=hW
 obtain ⟨p,q,hA0,hV,rfl,_hfz,_hnd⟩:=hW
 have hA:DataW.TrodAll enc Tryd.prog W 0 (fun _=>true) true Tryd.f9.params.toList args.toList ds p:=hA0
 rw [Tryd.params9] at hA hval
 obtain ⟨v0,vs0,d0,ds0,p0,q0,hargs,rfl,rfl,h0,r0⟩:=trodAll_cons hA
 obtain ⟨v1,vs1,d1,ds1,p1,q1,rfl,rfl,rfl,h1,r1⟩:=trodAll_cons r0
 obtain ⟨v2,vs2,d2,ds2,p2,q2,rfl,rfl,rfl,h2,r2⟩:=trodAll_cons r1
 obtain ⟨rfl,rfl,rfl⟩:=trodAll_nil r2
 obtain rfl:args=#[v0,v1,v2]:=by cases args;simp_all
 obtain ⟨rfl,rfl⟩:=trodVars_none hV
 have k0:=h0
 have lt0:∀ x ∈ p0,x.block<W.heap.size:=by obtain ⟨m,hm⟩:=k0;exact DataW.trod_lt m _ _ _ hm
 obtain ⟨a0,_,_,_,_,_,_,rfl,w0⟩:=open_plan (hval 0 25 v0 rfl rfl) h0
 obtain ⟨a1,len1,cap1,rfl⟩:=okWide_slice Tryd.underlying22 (hval 1 22 v1 rfl rfl)
 have k1:=h1
 have lt1:∀ x ∈ p1,x.block<W.heap.size:=by obtain ⟨m,hm⟩:=k1;exact DataW.trod_lt m _ _ _ hm
 obtain ⟨z1,w1⟩:∃ zs,IsRow .u8 W a1 len1 cap1 zs:=by
  obtain ⟨fuel,hf⟩:=h1
  rcases open_ints Tryd.underlying22 Tryd.underlying5 (by kernel_rfl) hf with ⟨hcs,_⟩|⟨x,l,c,zs,hcs,_,hl,hm,hz,_,hcell,hwz⟩
  · simp [Value.cells] at hcs
    obtain ⟨rfl,rfl,rfl⟩:=hcs
    exact ⟨[],isRow_nil _ _ _⟩
  · simp [Value.cells] at hcs
    obtain ⟨rfl,rfl,rfl⟩:=hcs
    exact ⟨zs,isRow_of hl hm (by simpa using hz) hcell hwz⟩
 obtain ⟨a2,len2,cap2,rfl⟩:=okWide_slice Tryd.underlying22 (hval 2 22 v2 rfl rfl)
 have k2:=h2
 have lt2:∀ x ∈ p2,x.block<W.heap.size:=by obtain ⟨m,hm⟩:=k2;exact DataW.trod_lt m _ _ _ hm
 obtain ⟨z2,w2⟩:∃ zs,IsRow .u8 W a2 len2 cap2 zs:=by
  obtain ⟨fuel,hf⟩:=h2
  rcases open_ints Tryd.underlying22 Tryd.underlying5 (by kernel_rfl) hf with ⟨hcs,_⟩|⟨x,l,c,zs,hcs,_,hl,hm,hz,_,hcell,hwz⟩
  · simp [Value.cells] at hcs
    obtain ⟨rfl,rfl,rfl⟩:=hcs
    exact ⟨[],isRow_nil _ _ _⟩
  · simp [Value.cells] at hcs
    obtain ⟨rfl,rfl,rfl⟩:=hcs
    exact ⟨zs,isRow_of hl hm (by simpa using hz) hcell hwz⟩
 clear hA0 hval0
 refine (flatreadSpread_walk a0 a1 len1 cap1 z1 a2 len2 cap2 z2 W w0 w1 w2 (tabs_of_laid hL)).mono fun e W' ⟨he,bel⟩=>?_
 subst he
 exact ⟨_,rfl,_,_,_,[],_,[],hW',trodAll_mk1 (shut_bool Tryd.underlying4 _),(trodAll_cons_mk (Below.trod laidOut (by kernel_rfl) (of_decide_eq_true (by kernel_rfl)) k0 bel lt0) (trodAll_cons_mk (Below.trod laidOut (by kernel_rfl) (of_decide_eq_true (by kernel_rfl)) k1 bel lt1) (trodAll_cons_mk (Below.trod laidOut (by kernel_rfl) (of_decide_eq_true (by kernel_rfl)) k2 bel lt2) trodAll_mk0))),rfl,bel.frame _,fun h=>by cases h⟩
set_option maxRecDepth 100000 in
theorem lifted (os:Os)(started:os.Started)(H:Type)(enc:TypeId × Value→H)(F:Stop.Interp) :
  ReturnsInHanded {} Tryd.checked os 9 .any ((OpenSpec.ofChange Rows.flatreadSpreadSpec).preRow enc Tryd.prog Tryd.f9 Rows.flatreadSpreadRow.domain false Rows.flatreadSpreadRow.laid) (((OpenSpec.ofChange Rows.flatreadSpreadSpec).at F).post enc Tryd.prog Tryd.f9 false true false false):=by
 obtain ⟨places,hx⟩:=reads os enc
 refine returnsInHanded_of_row (C:=Tryd.checked) (s:=OpenSpec.ofChange Rows.flatreadSpreadSpec) own started (by kernel_rfl) Tryd.func9
  (witness_row_at (enc:=enc) (C:=Tryd.checked) false (laidWorld os) #[Value.agg #[Value.slice none 0 0,Value.slice none 0 0,Value.int .u8 0,Value.bool false],Value.slice none 0 0,Value.slice none 0 0] rfl (by kernel_rfl) (by kernel_rfl) (by kernel_rfl)
   (OpenSpec.preRow_of_cond 8 hx (by kernel_rfl) (fun k hk=>by cases hk) (by kernel_rfl) (laid_met os))) ?_
 intro W base args ds gs before hval hW _ _ _ hL _ _
 exact contract H enc W base args ds gs before hval hW hL
theorem said:Rows.FlatreadSpreadSaid:=
 OpenClaim.holds_of_cond 9 Tryd.f9 rfl rfl rfl rfl rfl rfl rfl ⟨rfl,rfl,rfl,rfl,rfl⟩ rfl rfl rfl rfl rfl (by kernel_rfl) Tryd.func9 (by kernel_rfl)
  (of_decide_eq_true (by kernel_rfl)) (by unfold Func.isWrapper;first|(rw [if_pos (by decide +kernel)];kernel_rfl)|(rw [if_neg (by decide +kernel)];exact ⟨rfl,rfl⟩))
  (fun os started H enc _ F=>by rw [OpenClaim.pre_eq_preRow];exact lifted os started H enc F)
theorem plain (f:FuncId)(fn:Func)(hf:Tryd.pinned.checked.prog.funcNamed "transom/transomlaw10.FlatreadSpread" = some f)(hfn:Tryd.pinned.checked.prog.funcs[f]?=some fn) :
  false=Tryd.pinned.checked.prog.looks []∧∀ (j:Nat) t,fn.params[j]?=some t→Tryd.pinned.checked.prog.wantsStandIn t=false:=by
 obtain rfl:f=9 := Option.some.inj ((show Tryd.prog.funcNamed "transom/transomlaw10.FlatreadSpread" = some 9 by kernel_rfl).symm.trans hf) |>.symm
 obtain rfl:fn=Tryd.f9 := (Option.some.inj (Tryd.func9.symm.trans hfn)).symm
 refine ⟨by kernel_rfl,fun j t ht=>?_⟩
 rw [Tryd.params9] at ht
 have hm:t=25 ∨ t=22 ∨ t=22 := by simpa using Array.mem_of_getElem? ht
 rcases hm with rfl|rfl|rfl
 · exact (show Tryd.prog.wantsStandIn 25 = false by kernel_rfl)
 · exact (show Tryd.prog.wantsStandIn 22 = false by kernel_rfl)
 · exact (show Tryd.prog.wantsStandIn 22 = false by kernel_rfl)
end flatreadSpreadFrame
theorem flatreadSpread_card:Rows.FlatreadSpreadCardSaid:=
 Claim7.holds_tied_plain_at .later [] _ _ _ _ flatreadSpreadFrame.said (fun _ h=>by cases h) (by kernel_rfl) (fun _ h=>by cases h) flatreadSpread_row_tie rfl ⟨rfl,rfl⟩ (by kernel_rfl) rfl flatreadSpreadFrame.plain (by kernel_rfl)
end Go.Proofs.YtpbaaedijfofnaaDoor
