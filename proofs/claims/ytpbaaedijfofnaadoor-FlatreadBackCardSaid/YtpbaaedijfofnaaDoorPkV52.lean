/-
  The statement of the law FlatreadBack, from its walk: for every input that can be read the law returns true, and its arguments read as they did. Conditions: those of the given row (the listed tables hold what the program's text lays; the card ties them).
-/
import Derived.Test.YtpbaaedijfofnaaDoorPkV53
import Derived.Test.YtpbaaedijfofnaaDoorPkV12
import Derived.Test.YtpbaaedijfofnaaDoorPkV14
import Derived.Test.YtpbaaedijfofnaaDoorPkV48
import Derived.Test.YtpbaaedijfofnaaDoorPkV50
import Derived.Test.YtpbaaedijfofnaaDoorPkV51
import Derived.Deep.RegionHeld3
import Derived.Test.YtpbaaedijfofnaaDoorCards
import Derived.Test.YtpbaaedijfofnaaDoorTie
namespace Go.Proofs.YtpbaaedijfofnaaDoor
open Go.ChangeShapes Go.WideShapes Go.ChangeAt Go.RowKit Go.Shelf
set_option maxRecDepth 100000 in
set_option maxHeartbeats 16000000 in
theorem fback_go (p:Plan){a0 a1 b0:Option Addr}{n0 e0 n1 c1 nb cb:Nat}(bs:List Int)  (w:World)(hp:IsPlan w p a0 n0 e0 a1 n1 c1)(hb:Bytes w b0 bs)(hbn:bs.length=nb)(hbc:nb≤cb)(hT:Tabs w) :
  Calls Tryd.prog 5 #[.agg #[.slice a0 n0 e0,.slice a1 n1 c1,.int .u8 p.root,.bool p.tree],.slice b0 nb cb] w fun e w'=>e=.returned (.bool true)∧Below w.heap.size w w':=by
 subst hbn
 have hb1:=(Below.refl w.heap.size w).alloc (Nat.le_refl _) (.cells #[.slice a0 n0 e0,.slice a1 n1 c1,.int .u8 p.root,.bool p.tree] 25)
 have HP:=Lib.hid (hp.below hb1)
 have HT:=Lib.hid (hT.below (Nat.le_refl _) hb1)
 have HBY:=Lib.hid (hb.below (Nat.le_refl _) hb1)
 have HB0:=Lib.hid hb1
 have HQ1:=Lib.hid (heap_alloc_new w (.cells #[.slice a0 n0 e0,.slice a1 n1 c1,.int .u8 p.root,.bool p.tree] 25))
 have HBC:=Lib.hid hbc
 clear hp hT hb hb1 hbc
 go_enter Tryd.func5,Tryd.ntmps5
 go_upto_region 1 with (fail)
 generalize w.alloc (.cells #[.slice a0 n0 e0,.slice a1 n1 c1,.int .u8 p.root,.bool p.tree] 25)=W0 at *
 go_wp2_with fail
 refine (awake10_any W0 HT.out).mono ?_
 rintro e W1 ⟨rfl,hb1⟩
 have HB1:=Lib.hid (HB0.out.trans (hb1.mono HB0.out.size))
 have HB01:=Lib.hid hb1
 have HQ11:=Lib.hid (blk_below HQ1.out hb1 (blk_lt HQ1.out))
 clear hb1 HB0 HQ1
 obtain ⟨_,y0',y1',y2',y3'⟩:=blk4p HQ11.out
 go_wp2_with fail
 refine (made_any p W1 (HP.out.below HB01.out)).mono ?_
 rintro e W2 ⟨hb2,hpost⟩
 have HB2:=Lib.hid (HB1.out.trans (hb2.mono HB1.out.size))
 have HB02:=Lib.hid (HB01.out.trans (hb2.mono HB01.out.size))
 clear hb2 y0' y1' y2' y3' HQ11 HB1 HB01
 rcases hpost with ⟨hok,ss,es,sv,ev,rfl,hss,hes,hr⟩|⟨hno,rfl⟩
 · obtain ⟨sa,sc,ea,ec,rfl,rfl⟩:=hr.forms
   have hlen:=made_len hok hss
   have HFO:=Lib.hid (made_flds (plan_nums HP.out) hss)
   have hm:=made_schM hok (plan_nums HP.out) hss hes
   have HSM:=Lib.hid hm
   have HDF:=Lib.hid (made_defs hss hm)
   have HFE:=Lib.hid (made_few hok hes)
   have hrt:p.root % p.structs.length<ss.length:=by rw [hlen.2.2];exact Nat.mod_lt _ (by omega)
   have HRT:=Lib.hid hrt
   have HR:=Lib.hid hr
   have HF8:=Lib.hid (made_few8 hes)
   clear hok hss hes hr hlen hrt hm
   generalize p.root % p.structs.length=rt at *
   go_upto_region 4 with (fail)
   have hba:Below W2.heap.size W2 (W2.alloc (.cells #[.slice sa ss.length sc,.slice ea es.length ec,.int .i64 rt] 30)):=(Below.refl _ _).alloc (Nat.le_refl _) _
   have HZ:=Lib.hid (heap_alloc_new W2 (.cells #[.slice sa ss.length sc,.slice ea es.length ec,.int .i64 rt] 30))
   have HB3:=Lib.hid (HB2.out.trans (hba.mono HB2.out.size))
   have HB03:=Lib.hid (HB02.out.trans (hba.mono HB02.out.size))
   have HR3:=Lib.hid (HR.out.below hba)
   clear hba HR HB2 HB02
   generalize W2.alloc (.cells #[.slice sa ss.length sc,.slice ea es.length ec,.int .i64 rt] 30)=W3 at *
   generalize W2.heap.size=Z at *
   obtain ⟨_,z0,z1,z2,_⟩:=blk3 HZ.out
   by_cases hbig:2000<bs.length
   · go_wp2
     go_ret
     exact ⟨rfl,HB3.out⟩
   have hbL:bs.length≤2000:=by omega
   go_upto_region 6 with (fail)
   go_wp2_with fail
   refine (hand_encode W3 HR3.out HSM.out HDF.out HRT.out (HBY.out.below (Nat.le_refl _) HB03.out) rfl (by omega) HBC.out).mono ?_
   rintro e W4 ⟨hb4,v,val,rfl,hv,hh,hf,hlen,hs,henc⟩
   have HNU:=Lib.hid (isV_nums hv)
   obtain ⟨da,dk,dc,dd,rfl,_⟩:=IsV.form hv
   have hba:Below W4.heap.size W4 (W4.alloc (.cells #[.int .u64 v.num,.slice da v.bytes.length dc,.slice dk v.kids.length dd,.bool v.has] 36)):=(Below.refl _ _).alloc (Nat.le_refl _) _
   have HVB:=Lib.hid (heap_alloc_new W4 (.cells #[.int .u64 v.num,.slice da v.bytes.length dc,.slice dk v.kids.length dd,.bool v.has] 36))
   have HB35:=Lib.hid (hb4.trans (hba.mono hb4.size))
   have HV5:=Lib.hid (hv.later hba)
   have HENC:=Lib.hid (henc _ hba)
   have HVF:=Lib.hid (And.intro hh (And.intro hf (And.intro hlen hs)))
   have HZ5:=Lib.hid (blk_below HZ.out HB35.out (blk_lt HZ.out))
   clear hv hh hf hlen hs henc hba hb4 z0 z1 z2
   go_upto_region 7 with (fail)
   generalize W4.alloc (.cells #[.int .u64 v.num,.slice da v.bytes.length dc,.slice dk v.kids.length dd,.bool v.has] 36)=W5 at *
   generalize W4.heap.size=VB at *
   obtain ⟨_,z0,z1,z2,_⟩:=blk3 HZ5.out
   obtain ⟨_,t0,t1,t2,t3⟩:=blk4p HVB.out
   go_wp2_with fail
   refine HENC.out.mono ?_
   rintro e W6 ⟨hb6,hrng,A,cap,rfl,hown⟩
   have HB56:=Lib.hid hb6
   have HB36:=Lib.hid (HB35.out.trans (hb6.mono HB35.out.size))
   have HBO:=Lib.hid (bytes_ownv hown hrng)
   have HZ6:=Lib.hid (blk_below HZ5.out hb6 (blk_lt HZ5.out))
   have HVB6:=Lib.hid (blk_below HVB.out hb6 (blk_lt HVB.out))
   have HV6:=Lib.hid (HV5.out.later hb6)
   have HVL:=Lib.hid HVF.out.2.2.1
   clear hb6 hown hrng HENC z0 z1 z2 t0 t1 t2 t3
   obtain ⟨zs,hzs⟩:∃ zs,encZ (ss.map Prod.fst) 12 rt v=zs:=⟨_,rfl⟩
   rw [hzs] at HBO HVL ⊢
   have HZS:=Lib.hid hzs
   clear hzs
   have HYC:=Lib.hid HBO.out.2
   have hyc:=HYC.out
   have HYL:Hid (zs.length≤140737488355328):=Lib.hid (by have:=HVL.out;omega)
   have HRW:=Lib.hid (fun (W':World) (hW:Below W6.heap.size W6 W')=>HR3.out.below (HB36.out.trans (hW.mono HB36.out.size)))
   have HBYS:=Lib.hid (fun (W':World) (hW:Below W6.heap.size W6 W')=>HBO.out.1.below (Nat.le_refl _) hW)
   have HAM:=Lib.hid (fun (W':World) (hW:Below W6.heap.size W6 W')=>(fun V hV=>HT.out.below (Nat.le_refl _) (HB03.out.trans (((HB36.out.trans ((hW.trans hV).mono HB36.out.size))).mono HB03.out.size)):Amb W6.heap.size W'))
   obtain ⟨_,z0,z1,z2,_⟩:=blk3 HZ6.out
   go_upto_region 8 with (fail)
   refine wp_region_noPanic ?_
   refine wp_region_held_drew (S:=(fun w'=>w'.cell? ⟨Z,0,none⟩=some (.slice sa ss.length sc)∧w'.cell? ⟨Z,1,none⟩=some (.slice ea es.length ec)∧w'.cell? ⟨Z,2,none⟩=some (.int .i64 rt))) (by kernel_rfl) ⟨z0,z1,z2⟩ ?_
   intro hS
   refine tk 0 (.agg #[.slice sa ss.length sc,.slice ea es.length ec,.int .i64 rt]) hS ?_ ?_
   · rintro w' ⟨z0,z1,z2⟩
     go_simp
   simp only [td]
   refine tk 1 (.slice A zs.length cap) hS ?_ ?_
   · rintro w' ⟨z0,z1,z2⟩
     go_simp
   simp only [td]
   refine wpAnyH_ready (rs:=[2]) (by kernel_rfl) (by decide) (AllReadyH.cons rfl (fun K hK=>?_) AllReadyH.nil)
   rw [if_pos (by kernel_rfl)]
   go_simp
   refine (enough_any W6.drew).mono ?_
   rintro e W7 ⟨rfl,hm7,hb7⟩
   have hl7:Below W6.heap.size W6 W7:=(Below.refl _ W6).drew.trans hb7
   have HL7:=Lib.hid hl7
   have HM7:=Lib.hid (show W7.heap[W6.heap.size]?=some (.cells #[.int .i64 1099511627776,.bool false] 114 (0,0)) from hm7)
   refine hK.out _ _ ⟨cell_stays hl7 z0,cell_stays hl7 z1,cell_stays hl7 z2⟩ (fun hS=>?_)
   clear hm7 hb7 hl7 hK K
   refine wpAnyH_ready (rs:=[3]) (by kernel_rfl) (by decide) (AllReadyH.cons rfl (fun K hK=>?_) AllReadyH.nil)
   rw [if_pos (by kernel_rfl)]
   go_simp
   refine (fread_own W7 rt (ys:=[]) (HRW.out W7 HL7.out) HSM.out HDF.out HFE.out HF8.out HRT.out (HBYS.out W7 HL7.out) HYL.out HYC.out HM7.out ⟨by omega,by omega⟩ (B:=W6.heap.size) (Nat.le_refl _) (HAM.out W7 HL7.out) ((List.append_nil _).trans HZS.out) HVF.out.2.1 HVF.out.1 HNU.out).mono ?_
   rintro e W8 ⟨hx8,hpost⟩
   have hb8:Below W6.heap.size W7 W8:=(hx8.mono HL7.out.size).below (Nat.le_refl _)
   have HL8:=Lib.hid (HL7.out.trans hb8)
   have HZ8:=Lib.hid (blk_below HZ6.out HL8.out (blk_lt HZ6.out))
   have HVB8:=Lib.hid (blk_below HVB6.out HL8.out (blk_lt HVB6.out))
   have hS8:=And.intro (blk3 HZ8.out).2.1 (And.intro (blk3 HZ8.out).2.2.1 (blk3 HZ8.out).2.2.2.1)
   clear z0 z1 z2 hx8 hb8
   rcases hpost with ⟨hsm,T,rv,rfl,hsh⟩|⟨hbg,rfl⟩
   · refine hK.out _ _ hS8 (fun hS=>?_)
     clear hK K hS8
     have hS:=And.intro (blk3 HZ8.out).2.1 (And.intro (blk3 HZ8.out).2.2.1 (blk3 HZ8.out).2.2.2.1)
     refine tk 4 (.tuple #[.iface T rv,.int .i64 0]) hS ?_ ?_
     · rintro w' ⟨z0,z1,z2⟩
       go_simp
     simp only [td]
     refine tk 5 (.iface T rv) hS ?_ ?_
     · rintro w' ⟨z0,z1,z2⟩
       go_simp
     simp only [td]
     refine tk 6 (.int .i64 0) hS ?_ ?_
     · rintro w' ⟨z0,z1,z2⟩
       go_simp
     simp only [td]
     refine tk 7 (.iface T rv) hS ?_ ?_
     · rintro w' ⟨z0,z1,z2⟩
       go_simp
     simp only [td]
     refine tk 8 (.int .i64 0) hS ?_ ?_
     · rintro w' ⟨z0,z1,z2⟩
       go_simp
     simp only [td]
     refine wpAnyH_done (by kernel_rfl) ?_ _
     refine NoPanic.normal ?_
     try simp only [Exit.then]
     have HV8:=Lib.hid (HV6.out.later HL8.out)
     have HSH:=Lib.hid hsh
     have hnb:¬16384<zs.length:=by omega
     have HTR:Hid (∀ W,Below W8.heap.size W8 W→Calls Tryd.prog 26 #[.agg #[.slice sa ss.length sc,.slice ea es.length ec,.int .i64 rt],.int .i64 rt,.iface T rv] W fun e w'=>(∃ val',e=.returned val'∧VH (newS W.heap.size) w' v val')∧Below W.heap.size W w'):=Lib.hid (fun W hb=>stree_any W rt rt ((HRW.out W (HL8.out.trans (hb.mono HL8.out.size))).crows) HFO.out (fun i hi=>by
      have hi2:i<ss.length:=by rw [List.length_map] at hi;exact hi
      have h5:=(HSM.out.2 ss[i] (List.getElem_mem hi2)).1
      rw [List.getElem_map]
      show (ss[i].1.fields.map cF).length≤1000000
      rw [List.length_map]
      omega) v _ (HSH.out.later _ hb))
     clear hsh
     go_upto_region 11 with (fail)
     obtain ⟨_,s0,s1,s2,_⟩:=blk3 HZ8.out
     obtain ⟨_,s3,s4,s5,s6⟩:=blk4p HVB8.out
     refine wp_region_noPanic ?_
     refine wp_region_held_drew (S:=(fun w'=>w'.cell? ⟨Z,0,none⟩=some (.slice sa ss.length sc)∧w'.cell? ⟨Z,1,none⟩=some (.slice ea es.length ec)∧w'.cell? ⟨Z,2,none⟩=some (.int .i64 rt)∧w'.cell? ⟨VB,0,none⟩=some (.int .u64 v.num)∧w'.cell? ⟨VB,1,none⟩=some (.slice da v.bytes.length dc)∧w'.cell? ⟨VB,2,none⟩=some (.slice dk v.kids.length dd)∧w'.cell? ⟨VB,3,none⟩=some (.bool v.has))) (by kernel_rfl) ⟨s0,s1,s2,s3,s4,s5,s6⟩ ?_
     intro hS
     refine tk 0 (.int .i64 0) hS ?_ ?_
     · rintro w' ⟨s0,s1,s2,s3,s4,s5,s6⟩
       go_simp
     simp only [td]
     refine tk 1 (.bool true) hS ?_ ?_
     · rintro w' ⟨s0,s1,s2,s3,s4,s5,s6⟩
       go_simp
     simp only [td]
     refine tk 2 (.bool true) hS ?_ ?_
     · rintro w' ⟨s0,s1,s2,s3,s4,s5,s6⟩
       go_simp
     simp only [td]
     refine tk 3 (.iface T rv) hS ?_ ?_
     · rintro w' ⟨s0,s1,s2,s3,s4,s5,s6⟩
       go_simp
     simp only [td]
     refine tk 4 (.bool true) hS ?_ ?_
     · rintro w' ⟨s0,s1,s2,s3,s4,s5,s6⟩
       go_simp
     simp only [td]
     refine tk 5 (.bool true) hS ?_ ?_
     · rintro w' ⟨s0,s1,s2,s3,s4,s5,s6⟩
       go_simp
     simp only [td]
     refine tk 6 (.bool true) hS ?_ ?_
     · rintro w' ⟨s0,s1,s2,s3,s4,s5,s6⟩
       go_simp
     simp only [td]
     refine tk 7 (.agg #[.slice sa ss.length sc,.slice ea es.length ec,.int .i64 rt]) hS ?_ ?_
     · rintro w' ⟨s0,s1,s2,s3,s4,s5,s6⟩
       go_simp
     simp only [td]
     refine tk 8 (.pointer (some ⟨Z,2,none⟩)) hS ?_ ?_
     · rintro w' ⟨s0,s1,s2,s3,s4,s5,s6⟩
       go_simp
     simp only [td]
     refine tk 9 (.int .i64 rt) hS ?_ ?_
     · rintro w' ⟨s0,s1,s2,s3,s4,s5,s6⟩
       go_simp
     simp only [td]
     refine tk 10 (.iface T rv) hS ?_ ?_
     · rintro w' ⟨s0,s1,s2,s3,s4,s5,s6⟩
       go_simp
     simp only [td]
     refine tk 12 (.agg #[.int .u64 v.num,.slice da v.bytes.length dc,.slice dk v.kids.length dd,.bool v.has]) hS ?_ ?_
     · rintro w' ⟨s0,s1,s2,s3,s4,s5,s6⟩
       go_simp
     simp only [td]
     refine wpAnyH_ready (rs:=[11]) (by kernel_rfl) (by decide) (AllReadyH.cons rfl (fun K hK=>?_) AllReadyH.nil)
     rw [if_pos (by kernel_rfl)]
     go_simp
     refine (HTR.out W8.drew ((Below.refl _ W8).drew)).mono ?_
     rintro e Wh1 ⟨⟨val9,rfl,hvh9⟩,hb1⟩
     have hx1:Below W8.heap.size W8 Wh1:=(Below.refl _ W8).drew.trans hb1
     have ns0:=cell_stays hx1 s0
     have ns1:=cell_stays hx1 s1
     have ns2:=cell_stays hx1 s2
     have ns3:=cell_stays hx1 s3
     have ns4:=cell_stays hx1 s4
     have ns5:=cell_stays hx1 s5
     have ns6:=cell_stays hx1 s6
     have hv9:=hvh9.out
     have HV9:=Lib.hid (HV8.out.later hx1)
     refine hK.out _ _ ⟨ns0,ns1,ns2,ns3,ns4,ns5,ns6⟩ (fun hS=>?_)
     clear ns0 ns1 ns2 ns3 ns4 ns5 ns6
     refine wpAnyH_ready (rs:=[13]) (by kernel_rfl) (by decide) (AllReadyH.cons rfl (fun K hK=>?_) AllReadyH.nil)
     rw [if_pos (by kernel_rfl)]
     go_simp
     refine (same_any v Wh1 v _ _ hv9 HV9.out).mono ?_
     rintro e Wh2 ⟨⟨rr,rfl,hrr⟩,hb2⟩
     have hx2:Below W8.heap.size W8 Wh2:=hx1.trans (hb2.mono hx1.size)
     have ns0:=cell_stays hx2 s0
     have ns1:=cell_stays hx2 s1
     have ns2:=cell_stays hx2 s2
     have ns3:=cell_stays hx2 s3
     have ns4:=cell_stays hx2 s4
     have ns5:=cell_stays hx2 s5
     have ns6:=cell_stays hx2 s6
     obtain rfl:rr=true:=hrr.2 rfl
     refine hK.out _ _ ⟨ns0,ns1,ns2,ns3,ns4,ns5,ns6⟩ (fun hS=>?_)
     clear ns0 ns1 ns2 ns3 ns4 ns5 ns6
     refine tk 14 (.bool true) hS ?_ ?_
     · rintro w' ⟨s0,s1,s2,s3,s4,s5,s6⟩
       go_simp
     simp only [td]
     refine tk 15 (.bool true) hS ?_ ?_
     · rintro w' ⟨s0,s1,s2,s3,s4,s5,s6⟩
       go_simp
     simp only [td]
     refine wpAnyH_done (by kernel_rfl) ?_ _
     refine NoPanic.normal ?_
     try simp only [Exit.then]
     have HB8:=Lib.hid (HB36.out.trans ((HL8.out.trans (hx2.mono HL8.out.size)).mono HB36.out.size))
     clear hS s0 s1 s2 s3 s4 s5 s6 hrr hb1 hb2 hx1 hx2 hv9 hvh9
     go_wp2
     go_ret
     exact ⟨rfl,HB3.out.trans (HB8.out.mono HB3.out.size)⟩
   · refine hK.out _ _ hS8 (fun hS=>?_)
     clear hK K hS8
     have hS:=And.intro (blk3 HZ8.out).2.1 (And.intro (blk3 HZ8.out).2.2.1 (blk3 HZ8.out).2.2.2.1)
     refine tk 4 (.tuple #[.nilIface,.int .i64 20]) hS ?_ ?_
     · rintro w' ⟨z0,z1,z2⟩
       go_simp
     simp only [td]
     refine tk 5 (.nilIface) hS ?_ ?_
     · rintro w' ⟨z0,z1,z2⟩
       go_simp
     simp only [td]
     refine tk 6 (.int .i64 20) hS ?_ ?_
     · rintro w' ⟨z0,z1,z2⟩
       go_simp
     simp only [td]
     refine tk 7 (.nilIface) hS ?_ ?_
     · rintro w' ⟨z0,z1,z2⟩
       go_simp
     simp only [td]
     refine tk 8 (.int .i64 20) hS ?_ ?_
     · rintro w' ⟨z0,z1,z2⟩
       go_simp
     simp only [td]
     refine wpAnyH_done (by kernel_rfl) ?_ _
     refine NoPanic.normal ?_
     try simp only [Exit.then]
     have HB8:=Lib.hid (HB36.out.trans (HL8.out.mono HB36.out.size))
     clear hS
     go_wp2
     go_ret
     exact ⟨rfl,HB3.out.trans (HB8.out.mono HB3.out.size)⟩
 · go_wp2
   go_ret
   exact ⟨rfl,(HB2.out.alloc HB2.out.size _)⟩
theorem flatreadBack_walk (p:Plan)(b0:Option Addr)(nb cb:Nat)(z1:List Int){a0 a1:Option Addr}{n0 e0 n1 c1:Nat}(w:World)(hp:IsPlan w p a0 n0 e0 a1 n1 c1)(h1:IsRow .u8 w b0 nb cb z1)(hT:Tabs w) :
  Calls Tryd.prog 5 #[.agg #[.slice a0 n0 e0,.slice a1 n1 c1,.int .u8 p.root,.bool p.tree],.slice b0 nb cb] w fun e w'=>e=.returned (.bool true)∧Below w.heap.size w w':=by
 obtain ⟨k1,k2,k3,_⟩:=bytes_row h1
 exact fback_go p _ w hp k1 k2 k3 hT
end Go.Proofs.YtpbaaedijfofnaaDoor
namespace Go.Proofs.YtpbaaedijfofnaaDoor
open Go.ChangeShapes Go.WideShapes Go.ChangeAt Go.RowKit
open Go.ChangeMaps (open_string shut_string)
namespace flatreadBackFrame
theorem laid_met (os:Os):laidMet Tryd.prog Rows.flatreadBackRow.laid ((laidWorld os).forCall (fun _ _=>0) ⟨#[],#[Value.agg #[Value.slice none 0 0,Value.slice none 0 0,Value.int .u8 0,Value.bool false],Value.slice none 0 0],[]⟩).memory:=
 laidMet_of_run' 8 (by kernel_rfl) (by kernel_rfl)
theorem reads (os:Os){H:Type}(enc:TypeId × Value→H):∃ places,DataW.whole enc Tryd.prog ((laidWorld os).forCall (fun _ _=>0) ⟨#[],#[Value.agg #[Value.slice none 0 0,Value.slice none 0 0,Value.int .u8 0,Value.bool false],Value.slice none 0 0],[]⟩).memory Tryd.f5.params.toList Rows.flatreadBackSpec.vars false #[Value.agg #[Value.slice none 0 0,Value.slice none 0 0,Value.int .u8 0,Value.bool false],Value.slice none 0 0].toList 8=some ([.agg [.nil,.nil,.lit (.int .u8 0),.lit (.bool false)],.nil],[],places):=
 ⟨[],by kernel_rfl⟩
set_option maxRecDepth 100000 in
theorem contract (H:Type)(enc:TypeId × Value→H)(W:World)(base:Nat)(args:Array Value)(ds gs:List (DataW H))(before:List MemPlace)
  (hval0:∀ (j:Nat) t v,Tryd.f5.params[j]?=some t→args[j]?=some v→Value.okWide Tryd.prog W .any base t v)
  (hW:DataW.Whole enc Tryd.prog Tryd.f5.params.toList Rows.flatreadBackSpec.vars false W args.toList ds gs before) (hL:laidMetH Tryd.prog Rows.flatreadBackRow.laid W) :
  Calls Tryd.prog 5 args W fun e W'=>∃ v,e=.returned v∧Rows.flatreadBackSpec.post enc Tryd.prog Tryd.f5 false true false false W args v W':=by
 have hval:∀ (j:Nat) t v,Tryd.f5.params[j]?=some t→args[j]?=some v→Value.okWide Tryd.prog W .any base t v:=hval0
 have hW':=hW
 obtain ⟨p,q,hA0,hV,rfl,_hfz,_hnd⟩:=hW
 have hA:DataW.TrodAll enc Tryd.prog W 0 (fun _=>true) true Tryd.f5.params.toList args.toList ds p:=hA0
 rw [Tryd.params5] at hA hval
 obtain ⟨v0,vs0,d0,ds0,p0,q0,hargs,rfl,rfl,h0,r0⟩:=trodAll_cons hA
 obtain ⟨v1,vs1,d1,ds1,p1,q1,rfl,rfl,rfl,h1,r1⟩:=trodAll_cons r0
 obtain ⟨rfl,rfl,rfl⟩:=trodAll_nil r1
 obtain rfl:args=#[v0,v1]:=by cases args;simp_all
 obtain ⟨rfl,rfl⟩:=trodVars_none hV
 have k0:=h0
 have lt0:∀ x ∈ p0,x.block<W.heap.size:=by obtain ⟨m,hm⟩:=k0;exact DataW.trod_lt m _ _ _ hm
 obtain ⟨a0,_,_,_,_,_,_,rfl,w0⟩:=open_plan (hval 0 25 v0 rfl rfl) h0
 obtain ⟨a1,len1,cap1,rfl⟩:=okWide_slice Tryd.underlying22 (hval 1 22 v1 rfl rfl)
 have k1:=h1
 have lt1:∀ x ∈ p1,x.block<W.heap.size:=by obtain ⟨m,hm⟩:=k1;exact DataW.trod_lt m _ _ _ hm
 obtain ⟨z1,w1⟩:∃ zs,IsRow .u8 W a1 len1 cap1 zs:=by
  obtain ⟨fuel,hf⟩:=h1
  rcases open_ints Tryd.underlying22 Tryd.underlying5 (by kernel_rfl) hf with ⟨hcs,_⟩|⟨x,l,c,zs,hcs,_,hl,hm,hz,_,hcell,hwz⟩
  · simp [Value.cells] at hcs
    obtain ⟨rfl,rfl,rfl⟩:=hcs
    exact ⟨[],isRow_nil _ _ _⟩
  · simp [Value.cells] at hcs
    obtain ⟨rfl,rfl,rfl⟩:=hcs
    exact ⟨zs,isRow_of hl hm (by simpa using hz) hcell hwz⟩
 clear hA0 hval0
 refine (flatreadBack_walk a0 a1 len1 cap1 z1 W w0 w1 (tabs_of_laid hL)).mono fun e W' ⟨he,bel⟩=>?_
 subst he
 exact ⟨_,rfl,_,_,_,[],_,[],hW',trodAll_mk1 (shut_bool Tryd.underlying4 _),(trodAll_cons_mk (Below.trod laidOut (by kernel_rfl) (of_decide_eq_true (by kernel_rfl)) k0 bel lt0) (trodAll_cons_mk (Below.trod laidOut (by kernel_rfl) (of_decide_eq_true (by kernel_rfl)) k1 bel lt1) trodAll_mk0)),rfl,bel.frame _,fun h=>by cases h⟩
set_option maxRecDepth 100000 in
theorem lifted (os:Os)(started:os.Started)(H:Type)(enc:TypeId × Value→H)(F:Stop.Interp) :
  ReturnsInHanded {} Tryd.checked os 5 .any ((OpenSpec.ofChange Rows.flatreadBackSpec).preRow enc Tryd.prog Tryd.f5 Rows.flatreadBackRow.domain false Rows.flatreadBackRow.laid) (((OpenSpec.ofChange Rows.flatreadBackSpec).at F).post enc Tryd.prog Tryd.f5 false true false false):=by
 obtain ⟨places,hx⟩:=reads os enc
 refine returnsInHanded_of_row (C:=Tryd.checked) (s:=OpenSpec.ofChange Rows.flatreadBackSpec) own started (by kernel_rfl) Tryd.func5
  (witness_row_at (enc:=enc) (C:=Tryd.checked) false (laidWorld os) #[Value.agg #[Value.slice none 0 0,Value.slice none 0 0,Value.int .u8 0,Value.bool false],Value.slice none 0 0] rfl (by kernel_rfl) (by kernel_rfl) (by kernel_rfl)
   (OpenSpec.preRow_of_cond 8 hx (by kernel_rfl) (fun k hk=>by cases hk) (by kernel_rfl) (laid_met os))) ?_
 intro W base args ds gs before hval hW _ _ _ hL _ _
 exact contract H enc W base args ds gs before hval hW hL
theorem said:Rows.FlatreadBackSaid:=
 OpenClaim.holds_of_cond 5 Tryd.f5 rfl rfl rfl rfl rfl rfl rfl ⟨rfl,rfl,rfl,rfl,rfl⟩ rfl rfl rfl rfl rfl (by kernel_rfl) Tryd.func5 (by kernel_rfl)
  (of_decide_eq_true (by kernel_rfl)) (by unfold Func.isWrapper;first|(rw [if_pos (by decide +kernel)];kernel_rfl)|(rw [if_neg (by decide +kernel)];exact ⟨rfl,rfl⟩))
  (fun os started H enc _ F=>by rw [OpenClaim.pre_eq_preRow];exact lifted os started H enc F)
theorem plain (f:FuncId)(fn:Func)(hf:Tryd.pinned.checked.prog.funcNamed "transom/transomlaw10.FlatreadBack" = some f)(hfn:Tryd.pinned.checked.prog.funcs[f]?=some fn) :
  false=Tryd.pinned.checked.prog.looks []∧∀ (j:Nat) t,fn.params[j]?=some t→Tryd.pinned.checked.prog.wantsStandIn t=false:=by
 obtain rfl:f=5 := Option.some.inj ((show Tryd.prog.funcNamed "transom/transomlaw10.FlatreadBack" = some 5 by kernel_rfl).symm.trans hf) |>.symm
 obtain rfl:fn=Tryd.f5 := (Option.some.inj (Tryd.func5.symm.trans hfn)).symm
 refine ⟨by kernel_rfl,fun j t ht=>?_⟩
 rw [Tryd.params5] at ht
 have hm:t=25 ∨ t=22 := by simpa using Array.mem_of_getElem? ht
 rcases hm with rfl|rfl
 · exact (show Tryd.prog.wantsStandIn 25 = false by kernel_rfl)
 · exact (show Tryd.prog.wantsStandIn 22 = false by kernel_rfl)
end flatreadBackFrame
theorem flatreadBack_card:Rows.FlatreadBackCardSaid:=
 Claim7.holds_tied_plain_at .later [] _ _ _ _ flatreadBackFrame.said (fun _ h=>by cases h) (by kernel_rfl) (fun _ h=>by cases h) flatreadBack_row_tie rfl ⟨rfl,rfl⟩ (by kernel_rfl) rfl flatreadBackFrame.plain (by kernel_rfl)
end Go.Proofs.YtpbaaedijfofnaaDoor
