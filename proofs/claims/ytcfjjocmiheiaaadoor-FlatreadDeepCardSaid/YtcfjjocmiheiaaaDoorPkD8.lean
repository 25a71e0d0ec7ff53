/-
  Package flatread: the table at a place. Conditions: those that each theorem names.
-/
import Derived.Test.YtcfjjocmiheiaaaDoorPkD52
import Derived.Test.YtcfjjocmiheiaaaDoorPkD5
import Derived.Test.YtcfjjocmiheiaaaDoorPkD6
import Derived.Deep.MidRow
import Derived.Deep.RegionHeld3
import Derived.Deep.Cut
namespace Go.Proofs.YtcfjjocmiheiaaaDoor
open Go.ChangeShapes Go.WideShapes Go.ChangeAt Go.RowKit Go.Shelf
def ldO (zs:List Int)(a:Int)(n:Nat):Int:=if inZ (lenZ zs) a n=true then leAt zs a.toNat n else 0
theorem load_opt (p:Option Addr)(cap:Nat)(zs:List Int)(a:Int)(n:Nat)(w:World)(hz:Bytes w p zs)(hl:zs.length≤16384)(hn:n=1∨n=2∨n=4∨n=8) :
  Calls Tryd.prog 123 #[.slice p zs.length cap,.int .i64 a,.int .i64 n] w fun e w'=>e=.returned (.tuple #[.int .u64 (ldO zs a n),.bool (inZ (lenZ zs) a n)])∧w=w':=by
 unfold ldO
 by_cases h:inZ (lenZ zs) a n=true
 · rw [if_pos h,h]
   exact load_in p cap zs a n w hz hl h (by omega)
 · rw [if_neg h,Bool.not_eq_true _ |>.mp h]
   exact load_out p cap zs a n w hl h
theorem within_opt (p:Option Addr)(zs:List Int)(cap:Nat)(a n:Int)(w:World)(hl:zs.length≤16384) :
  Calls Tryd.prog 125 #[.slice p zs.length cap,.int .i64 a,.int .i64 n] w fun e w'=>e=.returned (.bool (inZ (lenZ zs) a n))∧w=w':=by
 by_cases h:inZ (lenZ zs) a n=true
 · have h1:=inZ_iff.1 h
   unfold lenZ at h1
   rw [h]
   exact within_yes p zs.length cap a n w (by omega) h1.1 h1.2.1 (by omega) h1.2.2
 · rw [Bool.not_eq_true _ |>.mp h]
   exact within_no p zs.length cap a n w (by omega) (by have h1:=inZ_no h;unfold lenZ at h1;exact h1)
theorem ldO_2 (zs:List Int)(a:Int)(hz:∀ i,0≤zs.getD i 0∧zs.getD i 0≤255):0≤ldO zs a 2∧ldO zs a 2<65536:=by
 unfold ldO
 split
 · exact leAt_2 zs _ hz
 · omega
theorem keep4f {w:World}{g:Nat}{p:Addr}{v x0 x1 x2 x3:Value}(h:w.cell? p=some v)(hp:p.block≠g):(set4 w g x0 x1 x2 x3).cell? p=some v:=by
 have e:∀ (w:World) (i:Nat) (x:Value),(w.setCell ⟨g,i,none⟩ x).cell? p=w.cell? p:=fun w i x=>World.cell?_of_block (Below.heap_setCell _ _ _ _ hp)
 unfold set4
 rw [e,e,e,e,h]
def TabPost (zs:List Int)(at':Int)(e:Ending):Prop:=
 (∃ t,tabZ zs at'=some t∧e=.returned (.tuple #[tabV t at',.bool true]))∨(tabZ zs at'=none∧∃ a b c d:Int,e=.returned (.tuple #[.agg #[.int .i64 a,.int .i64 b,.int .i64 c,.int .i64 d],.bool false]))
theorem tab_is {zs:List Int}{at' s:Int}(h:inZ (lenZ zs) at' 4=true)(hs:s=sg32 (leAt zs at'.toNat 4)) :
  tabZ zs at'=if (decide (4≤ldO zs (at'-s+2) 2∧4≤ldO zs (at'-s) 2∧ldO zs (at'-s) 2 % 2=0)&&(inZ (lenZ zs) at' (ldO zs (at'-s+2) 2)&&inZ (lenZ zs) (at'-s) (ldO zs (at'-s) 2)))=true then some ⟨ldO zs (at'-s+2) 2,at'-s,ldO zs (at'-s) 2⟩ else none:=by
 unfold tabZ tabOf
 rw [if_pos h,←hs]
 generalize at'-s=la
 by_cases h1:inZ (lenZ zs) la 4=true
 · have h2:=inZ_iff.1 h1
   have e1:ldO zs la 2=leAt zs la.toNat 2:=if_pos (inZ_iff.2 (by omega))
   have e2:ldO zs (la+2) 2=leAt zs (la.toNat+2) 2:=by
    unfold ldO
    rw [if_pos (inZ_iff.2 (by omega)),show (la+2).toNat=la.toNat+2 by omega]
   rw [if_pos h1,e1,e2]
   generalize leAt zs la.toNat 2=a
   generalize leAt zs (la.toNat+2) 2=b
   by_cases h3:4≤b∧4≤a∧a % 2=0
   · rw [decide_eq_true h3]
     cases h4:inZ (lenZ zs) la a<;>cases h5:inZ (lenZ zs) at' b<;>simp [h3]
   · rw [decide_eq_false h3,if_neg (by intro h6;exact h3 ⟨h6.1.2.2,h6.1.1,h6.1.2.1⟩)]
     rfl
 · rw [if_neg h1,if_neg ?_]
   intro h3
   rw [Bool.and_eq_true,Bool.and_eq_true] at h3
   have h4:=of_decide_eq_true h3.1
   apply h1
   unfold ldO at h4
   split at h4
   · split at h4
     · rename_i a b
       have a1:=inZ_iff.1 a
       have b1:=inZ_iff.1 b
       exact inZ_iff.2 (by omega)
     · omega
   · omega
set_option maxRecDepth 100000 in
set_option maxHeartbeats 8000000 in
theorem ftab_any (w:World){base m:Nat}{bp:Option Addr}{bc:Nat}{sv ev:Value}{zs:List Int}{fs:List (List CFld × Value)}{ns:List Nat}(h:IsMsg base w m bp bc sv ev zs fs ns)(at':Int)(hat : -1000000000000≤at'∧at'≤1000000000000) :
  Calls Tryd.prog 97 #[.pointer (some ⟨m,0,none⟩),.int .i64 at'] w fun e w'=>TabPost zs at' e∧Below w.heap.size w w':=by
 have hb:=(Below.refl w.heap.size w).alloc (Nat.le_refl _) (.cells #[.int .i64 0,.int .i64 0,.int .i64 0,.int .i64 0] 118)
 have HB:=Lib.hid hb
 have HM:=Lib.hid (h.below hb)
 have HR0:=Lib.hid (heap_alloc_new w (.cells #[.int .i64 0,.int .i64 0,.int .i64 0,.int .i64 0] 118))
 have hlen:=h.len
 have HMW0:Hid (m≠w.heap.size):=Lib.hid (by have:=blk_lt h.blk;omega)
 have hzb:=h.bytes.1
 have HZB:=Lib.hid hzb
 clear hb h
 by_cases hin:inZ (lenZ zs) at' 4=true
 case neg =>
  have HN:Hid (tabZ zs at'=none):=Lib.hid (by unfold tabZ;rw [if_neg hin])
  have HL:Hid (∀ W,Calls Tryd.prog 123 #[.slice bp zs.length bc,.int .i64 at',.int .i64 4] W fun e w'=>e=.returned (.tuple #[.int .u64 0,.bool false])∧W=w'):=Lib.hid (fun W=>load_out bp bc zs at' 4 W hlen hin)
  clear hin hzb
  go_enter Tryd.func97,Tryd.ntmps97
  go_upto_region 1 with (fail)
  generalize w.alloc (.cells #[.int .i64 0,.int .i64 0,.int .i64 0,.int .i64 0] 118)=W0 at *
  obtain ⟨_,m0,m1,m2,_⟩:=blk3 HM.out.blk
  obtain ⟨_,u0,u1,u2,u3⟩:=blk4p HR0.out
  have p0:=blk_frozen HR0.out 0
  have p1:=blk_frozen HR0.out 1
  have p2:=blk_frozen HR0.out 2
  have p3:=blk_frozen HR0.out 3
  go_wp2_with fail
  refine (HL.out _).mono ?_
  rintro e _ ⟨rfl,rfl⟩
  go_wp2
  refine post_gen (fun Wf=>Wf.heap[w.heap.size]?=some (.cells #[.int .i64 0,.int .i64 0,.int .i64 0,.int .i64 0] 118 (0,0))∧Below w.heap.size w Wf) ⟨?_,?_⟩ ?_
  · exact blk_set4 HR0.out _ _ _ _
  · exact below_set4 HB.out (Nat.le_refl _) _ _ _ _
  · rintro Wf ⟨e1,e2⟩
    obtain ⟨_,d0,d1,d2,d3⟩:=blk4p e1
    exact bodyPost_ret (v:=.tuple #[.agg #[.int .i64 0,.int .i64 0,.int .i64 0,.int .i64 0],.bool false]) (by simp [results,Tryd.results97,go_sem,d0,d1,d2,d3]) rfl ⟨.inr ⟨HN.out,_,_,_,_,rfl⟩,e2⟩
 have hld:=leAt_4 zs at'.toNat hzb
 have HL:Hid (∀ W,Below (w.alloc (.cells #[.int .i64 0,.int .i64 0,.int .i64 0,.int .i64 0] 118)).heap.size (w.alloc (.cells #[.int .i64 0,.int .i64 0,.int .i64 0,.int .i64 0] 118)) W→Calls Tryd.prog 123 #[.slice bp zs.length bc,.int .i64 at',.int .i64 4] W fun e w'=>e=.returned (.tuple #[.int .u64 (leAt zs at'.toNat 4),.bool true])∧W=w'):=Lib.hid (fun W hb=>load_in bp bc zs at' 4 W (HM.out.bytes.below (Nat.le_refl _) hb) hlen hin (by decide))
 have hsg:=sg32_is hld.1 hld.2
 have hsb:=sg32_bd hld.1 hld.2
 have hti:=tab_is (s:=sg32 (leAt zs at'.toNat 4)) hin rfl
 generalize sg32 (leAt zs at'.toNat 4)=s at *
 generalize leAt zs at'.toNat 4=z at *
 have hws:=IntWalk.i64_in s ⟨by omega,by omega⟩
 have hwl:=IntWalk.i64_in (at'-s) ⟨by omega,by omega⟩
 obtain ⟨la,hla⟩:∃ la,at'-s=la:=⟨_,rfl⟩
 rw [hla] at hti hwl
 have hlb : -2000000000000≤la∧la≤2000000000000:=by omega
 have hwl2:=IntWalk.i64_in (la+2) ⟨by omega,by omega⟩
 have HL1:Hid (∀ W,Below (w.alloc (.cells #[.int .i64 0,.int .i64 0,.int .i64 0,.int .i64 0] 118)).heap.size (w.alloc (.cells #[.int .i64 0,.int .i64 0,.int .i64 0,.int .i64 0] 118)) W→Calls Tryd.prog 123 #[.slice bp zs.length bc,.int .i64 la,.int .i64 2] W fun e w'=>e=.returned (.tuple #[.int .u64 (ldO zs la 2),.bool (inZ (lenZ zs) la 2)])∧W=w'):=Lib.hid (fun W hb=>load_opt bp bc zs la 2 W (HM.out.bytes.below (Nat.le_refl _) hb) hlen (by decide))
 have HL2:Hid (∀ W,Below (w.alloc (.cells #[.int .i64 0,.int .i64 0,.int .i64 0,.int .i64 0] 118)).heap.size (w.alloc (.cells #[.int .i64 0,.int .i64 0,.int .i64 0,.int .i64 0] 118)) W→Calls Tryd.prog 123 #[.slice bp zs.length bc,.int .i64 (la+2),.int .i64 2] W fun e w'=>e=.returned (.tuple #[.int .u64 (ldO zs (la+2) 2),.bool (inZ (lenZ zs) (la+2) 2)])∧W=w'):=Lib.hid (fun W hb=>load_opt bp bc zs (la+2) 2 W (HM.out.bytes.below (Nat.le_refl _) hb) hlen (by decide))
 have ha:=ldO_2 zs la HZB.out
 have hbb:=ldO_2 zs (la+2) HZB.out
 generalize ldO zs la 2=a at *
 generalize ldO zs (la+2) 2=b at *
 generalize inZ (lenZ zs) la 2=i1 at *
 generalize inZ (lenZ zs) (la+2) 2=i2 at *
 have hwa:=IntWalk.i64_in a ⟨by omega,by omega⟩
 have hwb:=IntWalk.i64_in b ⟨by omega,by omega⟩
 have HLA:=Lib.hid hla
 have HTI:=Lib.hid hti
 have ha0:0≤a:=ha.1
 have HSZ:=Lib.hid (fun W=>fsized_any at' b la a W ha0)
 have HW1:=Lib.hid (fun W=>within_opt bp zs bc at' b W hlen)
 have HW2:=Lib.hid (fun W=>within_opt bp zs bc la a W hlen)
 clear hti hin hzb hld hsb
 obtain ⟨tz,htz⟩:∃ tz,tabZ zs at'=tz:=⟨_,rfl⟩
 have HTZ:=Lib.hid htz
 rw [htz] at HTI
 clear htz
 generalize decide (4≤b∧4≤a∧a % 2=0)=b1 at *
 generalize inZ (lenZ zs) at' b=b2 at *
 generalize inZ (lenZ zs) la a=b3 at *
 go_enter Tryd.func97,Tryd.ntmps97
 go_upto_region 1 with (fail)
 generalize w.alloc (.cells #[.int .i64 0,.int .i64 0,.int .i64 0,.int .i64 0] 118)=W0 at *
 have HWS:Hid (w.heap.size<W0.heap.size):=Lib.hid (blk_lt HR0.out)
 obtain ⟨_,m0,m1,m2,_⟩:=blk3 HM.out.blk
 go_wp2_with fail
 refine (HL.out _ (Below.refl _ _)).mono ?_
 rintro e _ ⟨rfl,rfl⟩
 go_wp2_with fail
 refine (HL1.out _ (Below.refl _ _)).mono ?_
 rintro e _ ⟨rfl,rfl⟩
 go_wp2_with fail
 refine (HL2.out _ (Below.refl _ _)).mono ?_
 rintro e _ ⟨rfl,rfl⟩
 go_upto_region 8 with (fail)
 have hba:Below W0.heap.size W0 (W0.alloc (.cells #[.int .i64 at',.int .i64 b,.int .i64 la,.int .i64 a] 118)):=(Below.refl _ _).alloc (Nat.le_refl _) _
 have hT:=heap_alloc_new W0 (.cells #[.int .i64 at',.int .i64 b,.int .i64 la,.int .i64 a] 118)
 have HB1:=Lib.hid (HB.out.trans (hba.mono HB.out.size))
 have HR1:=Lib.hid (blk_below HR0.out hba (blk_lt HR0.out))
 have s0:=cell_stays hba m0
 clear hba m0 m1 m2 HR0
 generalize W0.alloc (.cells #[.int .i64 at',.int .i64 b,.int .i64 la,.int .i64 a] 118)=W1 at *
 have HS0:Hid (w.heap.size<W0.heap.size):=HWS
 generalize W0.heap.size=T at *
 obtain ⟨_,s1,s2,s3,s4⟩:=blk4p hT
 clear hT
 have HMW:Hid (m≠w.heap.size):=HMW0
 have HTW:Hid (T≠w.heap.size):=Lib.hid (by have:=HS0.out;omega)
 cases b1 with
 | false =>
  refine wp_region_noPanic ?_
  refine wp_region_held_drew (S:=(fun w'=>w'.cell? ⟨m,0,none⟩=some (.slice bp zs.length bc)∧w'.cell? ⟨T,0,none⟩=some (.int .i64 at')∧w'.cell? ⟨T,1,none⟩=some (.int .i64 b)∧w'.cell? ⟨T,2,none⟩=some (.int .i64 la)∧w'.cell? ⟨T,3,none⟩=some (.int .i64 a))) (by kernel_rfl) ⟨s0,s1,s2,s3,s4⟩ ?_
  intro hS
  refine tk 0 (.agg #[.int .i64 at',.int .i64 b,.int .i64 la,.int .i64 a]) hS ?_ ?_
  · rintro w' ⟨s0,s1,s2,s3,s4⟩
    go_simp
  simp only [td]
  refine tk 1 (.agg #[.int .i64 at',.int .i64 b,.int .i64 la,.int .i64 a]) hS ?_ ?_
  · rintro w' ⟨s0,s1,s2,s3,s4⟩
    go_simp
  simp only [td]
  refine wpAnyH_ready (rs:=[2]) (by kernel_rfl) (by decide) (AllReadyH.cons rfl (fun K hK=>?_) AllReadyH.nil)
  rw [if_pos (by kernel_rfl)]
  go_simp
  refine (HSZ.out W1.drew).mono ?_
  rintro e Wh1 ⟨rfl,hb1⟩
  have hx1:Below W1.heap.size W1 Wh1:=(Below.refl _ W1).drew.trans hb1
  have ns0:=cell_stays hx1 s0
  have ns1:=cell_stays hx1 s1
  have ns2:=cell_stays hx1 s2
  have ns3:=cell_stays hx1 s3
  have ns4:=cell_stays hx1 s4
  refine hK.out _ _ ⟨ns0,ns1,ns2,ns3,ns4⟩ (fun hS=>?_)
  clear ns0 ns1 ns2 ns3 ns4
  refine tk 3 (.bool false) hS ?_ ?_
  · rintro w' ⟨s0,s1,s2,s3,s4⟩
    go_simp
  simp only [td]
  refine wpAnyH_take (i:=4) (v:=undef) rfl (by kernel_rfl) (by kernel_rfl) (by kernel_rfl) (fun _ _ _ h=>h) (Or.inr ⟨by kernel_rfl,rfl⟩) hS ?_
  simp only [td]
  refine wpAnyH_take (i:=5) (v:=undef) rfl (by kernel_rfl) (by kernel_rfl) (by kernel_rfl) (fun _ _ _ h=>h) (Or.inr ⟨by kernel_rfl,rfl⟩) hS ?_
  simp only [td]
  refine wpAnyH_take (i:=6) (v:=undef) rfl (by kernel_rfl) (by kernel_rfl) (by kernel_rfl) (fun _ _ _ h=>h) (Or.inr ⟨by kernel_rfl,rfl⟩) hS ?_
  simp only [td]
  refine wpAnyH_take (i:=7) (v:=undef) rfl (by kernel_rfl) (by kernel_rfl) (by kernel_rfl) (fun _ _ _ h=>h) (Or.inr ⟨by kernel_rfl,rfl⟩) hS ?_
  simp only [td]
  refine wpAnyH_take (i:=8) (v:=undef) rfl (by kernel_rfl) (by kernel_rfl) (by kernel_rfl) (fun _ _ _ h=>h) (Or.inr ⟨by kernel_rfl,rfl⟩) hS ?_
  simp only [td]
  refine wpAnyH_take (i:=9) (v:=undef) rfl (by kernel_rfl) (by kernel_rfl) (by kernel_rfl) (fun _ _ _ h=>h) (Or.inr ⟨by kernel_rfl,rfl⟩) hS ?_
  simp only [td]
  refine wpAnyH_take (i:=10) (v:=undef) rfl (by kernel_rfl) (by kernel_rfl) (by kernel_rfl) (fun _ _ _ h=>h) (Or.inr ⟨by kernel_rfl,rfl⟩) hS ?_
  simp only [td]
  refine wpAnyH_take (i:=11) (v:=undef) rfl (by kernel_rfl) (by kernel_rfl) (by kernel_rfl) (fun _ _ _ h=>h) (Or.inr ⟨by kernel_rfl,rfl⟩) hS ?_
  simp only [td]
  refine tk 12 (.bool false) hS ?_ ?_
  · rintro w' ⟨s0,s1,s2,s3,s4⟩
    go_simp
  simp only [td]
  refine tk 13 (.bool false) hS ?_ ?_
  · rintro w' ⟨s0,s1,s2,s3,s4⟩
    go_simp
  simp only [td]
  refine wpAnyH_take (i:=14) (v:=undef) rfl (by kernel_rfl) (by kernel_rfl) (by kernel_rfl) (fun _ _ _ h=>h) (Or.inr ⟨by kernel_rfl,rfl⟩) hS ?_
  simp only [td]
  refine wpAnyH_take (i:=15) (v:=undef) rfl (by kernel_rfl) (by kernel_rfl) (by kernel_rfl) (fun _ _ _ h=>h) (Or.inr ⟨by kernel_rfl,rfl⟩) hS ?_
  simp only [td]
  refine wpAnyH_take (i:=16) (v:=undef) rfl (by kernel_rfl) (by kernel_rfl) (by kernel_rfl) (fun _ _ _ h=>h) (Or.inr ⟨by kernel_rfl,rfl⟩) hS ?_
  simp only [td]
  refine wpAnyH_take (i:=17) (v:=undef) rfl (by kernel_rfl) (by kernel_rfl) (by kernel_rfl) (fun _ _ _ h=>h) (Or.inr ⟨by kernel_rfl,rfl⟩) hS ?_
  simp only [td]
  refine wpAnyH_take (i:=18) (v:=undef) rfl (by kernel_rfl) (by kernel_rfl) (by kernel_rfl) (fun _ _ _ h=>h) (Or.inr ⟨by kernel_rfl,rfl⟩) hS ?_
  simp only [td]
  refine wpAnyH_take (i:=19) (v:=undef) rfl (by kernel_rfl) (by kernel_rfl) (by kernel_rfl) (fun _ _ _ h=>h) (Or.inr ⟨by kernel_rfl,rfl⟩) hS ?_
  simp only [td]
  refine wpAnyH_take (i:=20) (v:=undef) rfl (by kernel_rfl) (by kernel_rfl) (by kernel_rfl) (fun _ _ _ h=>h) (Or.inr ⟨by kernel_rfl,rfl⟩) hS ?_
  simp only [td]
  refine wpAnyH_take (i:=21) (v:=undef) rfl (by kernel_rfl) (by kernel_rfl) (by kernel_rfl) (fun _ _ _ h=>h) (Or.inr ⟨by kernel_rfl,rfl⟩) hS ?_
  simp only [td]
  refine tk 22 (.bool false) hS ?_ ?_
  · rintro w' ⟨s0,s1,s2,s3,s4⟩
    go_simp
  simp only [td]
  have hR4:=blk_below HR1.out hx1 (blk_lt HR1.out)
  obtain ⟨_,u0,u1,u2,u3⟩:=blk4p hR4
  have hthere:Wh1.there w.heap.size 0 4:=fun j hj=>by
   have h4:j=0∨j=1∨j=2∨j=3:=by omega
   rcases h4 with rfl|rfl|rfl|rfl
   · exact ⟨by rw [Nat.add_zero,u0];rfl,blk_frozen hR4 _⟩
   · exact ⟨by rw [Nat.zero_add,u1];rfl,blk_frozen hR4 _⟩
   · exact ⟨by rw [Nat.zero_add,u2];rfl,blk_frozen hR4 _⟩
   · exact ⟨by rw [Nat.zero_add,u3];rfl,blk_frozen hR4 _⟩
  refine wpAnyH_ready (rs:=[23]) (by kernel_rfl) (by decide) (AllReadyH.cons rfl (fun K hK=>?_) AllReadyH.nil)
  rw [if_pos (by kernel_rfl)]
  refine wp_store_mid 118 (.tmp 4) (.tmp 57) rfl w.heap.size 0 #[.int .i64 at',.int .i64 b,.int .i64 la,.int .i64 a] rfl rfl hthere (by kernel_rfl) (Array.all_eq_true_iff_forall_mem.2 (by intro x hx;simp at hx;rcases hx with rfl|rfl|rfl|rfl<;>rfl)) ?_
  change K _ (set4 Wh1 w.heap.size (.int .i64 at') (.int .i64 b) (.int .i64 la) (.int .i64 a))
  have hks:∀ (bb o:Nat) (c:Value),bb≠w.heap.size→W1.cell? ⟨bb,o,none⟩=some c→(set4 Wh1 w.heap.size (.int .i64 at') (.int .i64 b) (.int .i64 la) (.int .i64 a)).cell? ⟨bb,o,none⟩=some c:=fun bb o c hbb hc=>keep4f (cell_stays hx1 hc) hbb
  refine hK.out _ _ ⟨hks _ _ _ HMW.out s0,hks _ _ _ HTW.out s1,hks _ _ _ HTW.out s2,hks _ _ _ HTW.out s3,hks _ _ _ HTW.out s4⟩ (fun hS=>?_)
  refine tk 24 (.bool false) hS ?_ ?_
  · rintro w' ⟨s0,s1,s2,s3,s4⟩
    go_simp
  simp only [td]
  refine wpAnyH_done (by kernel_rfl) ?_ _
  refine NoPanic.normal ?_
  try simp only [Exit.then]
  have HE1:=Lib.hid (show (set4 Wh1 w.heap.size (.int .i64 at') (.int .i64 b) (.int .i64 la) (.int .i64 a)).heap[w.heap.size]?=some (.cells #[.int .i64 at',.int .i64 b,.int .i64 la,.int .i64 a] 118 (0,0)) from blk_set4 hR4 _ _ _ _)
  have HE2:=Lib.hid (show Below w.heap.size w (set4 Wh1 w.heap.size (.int .i64 at') (.int .i64 b) (.int .i64 la) (.int .i64 a)) from below_set4 (HB1.out.trans (hx1.mono HB1.out.size)) (Nat.le_refl w.heap.size) (.int .i64 at') (.int .i64 b) (.int .i64 la) (.int .i64 a))
  clear hS hks hthere u0 u1 u2 u3 hR4 s0 s1 s2 s3 s4
  generalize set4 Wh1 w.heap.size (.int .i64 at') (.int .i64 b) (.int .i64 la) (.int .i64 a)=W9 at *
  go_wp2
  refine post_gen (fun Wf=>Wf.heap[w.heap.size]?=some (.cells #[.int .i64 at',.int .i64 b,.int .i64 la,.int .i64 a] 118 (0,0))∧Below w.heap.size w Wf) ⟨HE1.out,HE2.out⟩ ?_
  rintro Wf ⟨e1,e2⟩
  obtain ⟨_,d0,d1,d2,d3⟩:=blk4p e1
  refine bodyPost_ret (v:=.tuple #[.agg #[.int .i64 at',.int .i64 b,.int .i64 la,.int .i64 a],.bool false]) (by simp [results,Tryd.results97,go_sem,d0,d1,d2,d3]) rfl ⟨?_,e2⟩
  exact .inr ⟨HTZ.out.trans HTI.out,_,_,_,_,rfl⟩
 | true =>
  cases b2 with
  | false =>
   refine wp_region_noPanic ?_
   refine wp_region_held_drew (S:=(fun w'=>w'.cell? ⟨m,0,none⟩=some (.slice bp zs.length bc)∧w'.cell? ⟨T,0,none⟩=some (.int .i64 at')∧w'.cell? ⟨T,1,none⟩=some (.int .i64 b)∧w'.cell? ⟨T,2,none⟩=some (.int .i64 la)∧w'.cell? ⟨T,3,none⟩=some (.int .i64 a))) (by kernel_rfl) ⟨s0,s1,s2,s3,s4⟩ ?_
   intro hS
   refine tk 0 (.agg #[.int .i64 at',.int .i64 b,.int .i64 la,.int .i64 a]) hS ?_ ?_
   · rintro w' ⟨s0,s1,s2,s3,s4⟩
     go_simp
   simp only [td]
   refine tk 1 (.agg #[.int .i64 at',.int .i64 b,.int .i64 la,.int .i64 a]) hS ?_ ?_
   · rintro w' ⟨s0,s1,s2,s3,s4⟩
     go_simp
   simp only [td]
   refine wpAnyH_ready (rs:=[2]) (by kernel_rfl) (by decide) (AllReadyH.cons rfl (fun K hK=>?_) AllReadyH.nil)
   rw [if_pos (by kernel_rfl)]
   go_simp
   refine (HSZ.out W1.drew).mono ?_
   rintro e Wh1 ⟨rfl,hb1⟩
   have hx1:Below W1.heap.size W1 Wh1:=(Below.refl _ W1).drew.trans hb1
   have ns0:=cell_stays hx1 s0
   have ns1:=cell_stays hx1 s1
   have ns2:=cell_stays hx1 s2
   have ns3:=cell_stays hx1 s3
   have ns4:=cell_stays hx1 s4
   refine hK.out _ _ ⟨ns0,ns1,ns2,ns3,ns4⟩ (fun hS=>?_)
   clear ns0 ns1 ns2 ns3 ns4
   refine tk 3 (.bool true) hS ?_ ?_
   · rintro w' ⟨s0,s1,s2,s3,s4⟩
     go_simp
   simp only [td]
   refine tk 4 (.pointer (some ⟨m,0,none⟩)) hS ?_ ?_
   · rintro w' ⟨s0,s1,s2,s3,s4⟩
     go_simp
   simp only [td]
   refine tk 5 (.pointer (some ⟨m,0,none⟩)) hS ?_ ?_
   · rintro w' ⟨s0,s1,s2,s3,s4⟩
     go_simp
   simp only [td]
   refine tk 6 (.pointer (some ⟨m,0,none⟩)) hS ?_ ?_
   · rintro w' ⟨s0,s1,s2,s3,s4⟩
     go_simp
   simp only [td]
   refine tk 7 (.slice bp zs.length bc) hS ?_ ?_
   · rintro w' ⟨s0,s1,s2,s3,s4⟩
     go_simp
   simp only [td]
   refine tk 8 (.int .i64 at') hS ?_ ?_
   · rintro w' ⟨s0,s1,s2,s3,s4⟩
     go_simp
   simp only [td]
   refine tk 9 (.pointer (some ⟨T,1,none⟩)) hS ?_ ?_
   · rintro w' ⟨s0,s1,s2,s3,s4⟩
     go_simp
   simp only [td]
   refine tk 10 (.int .i64 b) hS ?_ ?_
   · rintro w' ⟨s0,s1,s2,s3,s4⟩
     go_simp
   simp only [td]
   refine wpAnyH_ready (rs:=[11]) (by kernel_rfl) (by decide) (AllReadyH.cons rfl (fun K hK=>?_) AllReadyH.nil)
   rw [if_pos (by kernel_rfl)]
   go_simp
   refine (HW1.out Wh1).mono ?_
   rintro e _ ⟨rfl,rfl⟩
   have ns0:=cell_stays hx1 s0
   have ns1:=cell_stays hx1 s1
   have ns2:=cell_stays hx1 s2
   have ns3:=cell_stays hx1 s3
   have ns4:=cell_stays hx1 s4
   refine hK.out _ _ ⟨ns0,ns1,ns2,ns3,ns4⟩ (fun hS=>?_)
   clear ns0 ns1 ns2 ns3 ns4
   refine tk 12 (.bool false) hS ?_ ?_
   · rintro w' ⟨s0,s1,s2,s3,s4⟩
     go_simp
   simp only [td]
   refine tk 13 (.bool false) hS ?_ ?_
   · rintro w' ⟨s0,s1,s2,s3,s4⟩
     go_simp
   simp only [td]
   refine wpAnyH_take (i:=14) (v:=undef) rfl (by kernel_rfl) (by kernel_rfl) (by kernel_rfl) (fun _ _ _ h=>h) (Or.inr ⟨by kernel_rfl,rfl⟩) hS ?_
   simp only [td]
   refine wpAnyH_take (i:=15) (v:=undef) rfl (by kernel_rfl) (by kernel_rfl) (by kernel_rfl) (fun _ _ _ h=>h) (Or.inr ⟨by kernel_rfl,rfl⟩) hS ?_
   simp only [td]
   refine wpAnyH_take (i:=16) (v:=undef) rfl (by kernel_rfl) (by kernel_rfl) (by kernel_rfl) (fun _ _ _ h=>h) (Or.inr ⟨by kernel_rfl,rfl⟩) hS ?_
   simp only [td]
   refine wpAnyH_take (i:=17) (v:=undef) rfl (by kernel_rfl) (by kernel_rfl) (by kernel_rfl) (fun _ _ _ h=>h) (Or.inr ⟨by kernel_rfl,rfl⟩) hS ?_
   simp only [td]
   refine wpAnyH_take (i:=18) (v:=undef) rfl (by kernel_rfl) (by kernel_rfl) (by kernel_rfl) (fun _ _ _ h=>h) (Or.inr ⟨by kernel_rfl,rfl⟩) hS ?_
   simp only [td]
   refine wpAnyH_take (i:=19) (v:=undef) rfl (by kernel_rfl) (by kernel_rfl) (by kernel_rfl) (fun _ _ _ h=>h) (Or.inr ⟨by kernel_rfl,rfl⟩) hS ?_
   simp only [td]
   refine wpAnyH_take (i:=20) (v:=undef) rfl (by kernel_rfl) (by kernel_rfl) (by kernel_rfl) (fun _ _ _ h=>h) (Or.inr ⟨by kernel_rfl,rfl⟩) hS ?_
   simp only [td]
   refine wpAnyH_take (i:=21) (v:=undef) rfl (by kernel_rfl) (by kernel_rfl) (by kernel_rfl) (fun _ _ _ h=>h) (Or.inr ⟨by kernel_rfl,rfl⟩) hS ?_
   simp only [td]
   refine tk 22 (.bool false) hS ?_ ?_
   · rintro w' ⟨s0,s1,s2,s3,s4⟩
     go_simp
   simp only [td]
   have hR4:=blk_below HR1.out hx1 (blk_lt HR1.out)
   obtain ⟨_,u0,u1,u2,u3⟩:=blk4p hR4
   have hthere:Wh1.there w.heap.size 0 4:=fun j hj=>by
    have h4:j=0∨j=1∨j=2∨j=3:=by omega
    rcases h4 with rfl|rfl|rfl|rfl
    · exact ⟨by rw [Nat.add_zero,u0];rfl,blk_frozen hR4 _⟩
    · exact ⟨by rw [Nat.zero_add,u1];rfl,blk_frozen hR4 _⟩
    · exact ⟨by rw [Nat.zero_add,u2];rfl,blk_frozen hR4 _⟩
    · exact ⟨by rw [Nat.zero_add,u3];rfl,blk_frozen hR4 _⟩
   refine wpAnyH_ready (rs:=[23]) (by kernel_rfl) (by decide) (AllReadyH.cons rfl (fun K hK=>?_) AllReadyH.nil)
   rw [if_pos (by kernel_rfl)]
   refine wp_store_mid 118 (.tmp 4) (.tmp 57) rfl w.heap.size 0 #[.int .i64 at',.int .i64 b,.int .i64 la,.int .i64 a] rfl rfl hthere (by kernel_rfl) (Array.all_eq_true_iff_forall_mem.2 (by intro x hx;simp at hx;rcases hx with rfl|rfl|rfl|rfl<;>rfl)) ?_
   change K _ (set4 Wh1 w.heap.size (.int .i64 at') (.int .i64 b) (.int .i64 la) (.int .i64 a))
   have hks:∀ (bb o:Nat) (c:Value),bb≠w.heap.size→W1.cell? ⟨bb,o,none⟩=some c→(set4 Wh1 w.heap.size (.int .i64 at') (.int .i64 b) (.int .i64 la) (.int .i64 a)).cell? ⟨bb,o,none⟩=some c:=fun bb o c hbb hc=>keep4f (cell_stays hx1 hc) hbb
   refine hK.out _ _ ⟨hks _ _ _ HMW.out s0,hks _ _ _ HTW.out s1,hks _ _ _ HTW.out s2,hks _ _ _ HTW.out s3,hks _ _ _ HTW.out s4⟩ (fun hS=>?_)
   refine tk 24 (.bool false) hS ?_ ?_
   · rintro w' ⟨s0,s1,s2,s3,s4⟩
     go_simp
   simp only [td]
   refine wpAnyH_done (by kernel_rfl) ?_ _
   refine NoPanic.normal ?_
   try simp only [Exit.then]
   have HE1:=Lib.hid (show (set4 Wh1 w.heap.size (.int .i64 at') (.int .i64 b) (.int .i64 la) (.int .i64 a)).heap[w.heap.size]?=some (.cells #[.int .i64 at',.int .i64 b,.int .i64 la,.int .i64 a] 118 (0,0)) from blk_set4 hR4 _ _ _ _)
   have HE2:=Lib.hid (show Below w.heap.size w (set4 Wh1 w.heap.size (.int .i64 at') (.int .i64 b) (.int .i64 la) (.int .i64 a)) from below_set4 (HB1.out.trans (hx1.mono HB1.out.size)) (Nat.le_refl w.heap.size) (.int .i64 at') (.int .i64 b) (.int .i64 la) (.int .i64 a))
   clear hS hks hthere u0 u1 u2 u3 hR4 s0 s1 s2 s3 s4
   generalize set4 Wh1 w.heap.size (.int .i64 at') (.int .i64 b) (.int .i64 la) (.int .i64 a)=W9 at *
   go_wp2
   refine post_gen (fun Wf=>Wf.heap[w.heap.size]?=some (.cells #[.int .i64 at',.int .i64 b,.int .i64 la,.int .i64 a] 118 (0,0))∧Below w.heap.size w Wf) ⟨HE1.out,HE2.out⟩ ?_
   rintro Wf ⟨e1,e2⟩
   obtain ⟨_,d0,d1,d2,d3⟩:=blk4p e1
   refine bodyPost_ret (v:=.tuple #[.agg #[.int .i64 at',.int .i64 b,.int .i64 la,.int .i64 a],.bool false]) (by simp [results,Tryd.results97,go_sem,d0,d1,d2,d3]) rfl ⟨?_,e2⟩
   exact .inr ⟨HTZ.out.trans HTI.out,_,_,_,_,rfl⟩
  | true =>
   refine wp_region_noPanic ?_
   refine wp_region_held_drew (S:=(fun w'=>w'.cell? ⟨m,0,none⟩=some (.slice bp zs.length bc)∧w'.cell? ⟨T,0,none⟩=some (.int .i64 at')∧w'.cell? ⟨T,1,none⟩=some (.int .i64 b)∧w'.cell? ⟨T,2,none⟩=some (.int .i64 la)∧w'.cell? ⟨T,3,none⟩=some (.int .i64 a))) (by kernel_rfl) ⟨s0,s1,s2,s3,s4⟩ ?_
   intro hS
   refine tk 0 (.agg #[.int .i64 at',.int .i64 b,.int .i64 la,.int .i64 a]) hS ?_ ?_
   · rintro w' ⟨s0,s1,s2,s3,s4⟩
     go_simp
   simp only [td]
   refine tk 1 (.agg #[.int .i64 at',.int .i64 b,.int .i64 la,.int .i64 a]) hS ?_ ?_
   · rintro w' ⟨s0,s1,s2,s3,s4⟩
     go_simp
   simp only [td]
   refine wpAnyH_ready (rs:=[2]) (by kernel_rfl) (by decide) (AllReadyH.cons rfl (fun K hK=>?_) AllReadyH.nil)
   rw [if_pos (by kernel_rfl)]
   go_simp
   refine (HSZ.out W1.drew).mono ?_
   rintro e Wh1 ⟨rfl,hb1⟩
   have hx1:Below W1.heap.size W1 Wh1:=(Below.refl _ W1).drew.trans hb1
   have ns0:=cell_stays hx1 s0
   have ns1:=cell_stays hx1 s1
   have ns2:=cell_stays hx1 s2
   have ns3:=cell_stays hx1 s3
   have ns4:=cell_stays hx1 s4
   refine hK.out _ _ ⟨ns0,ns1,ns2,ns3,ns4⟩ (fun hS=>?_)
   clear ns0 ns1 ns2 ns3 ns4
   refine tk 3 (.bool true) hS ?_ ?_
   · rintro w' ⟨s0,s1,s2,s3,s4⟩
     go_simp
   simp only [td]
   refine tk 4 (.pointer (some ⟨m,0,none⟩)) hS ?_ ?_
   · rintro w' ⟨s0,s1,s2,s3,s4⟩
     go_simp
   simp only [td]
   refine tk 5 (.pointer (some ⟨m,0,none⟩)) hS ?_ ?_
   · rintro w' ⟨s0,s1,s2,s3,s4⟩
     go_simp
   simp only [td]
   refine tk 6 (.pointer (some ⟨m,0,none⟩)) hS ?_ ?_
   · rintro w' ⟨s0,s1,s2,s3,s4⟩
     go_simp
   simp only [td]
   refine tk 7 (.slice bp zs.length bc) hS ?_ ?_
   · rintro w' ⟨s0,s1,s2,s3,s4⟩
     go_simp
   simp only [td]
   refine tk 8 (.int .i64 at') hS ?_ ?_
   · rintro w' ⟨s0,s1,s2,s3,s4⟩
     go_simp
   simp only [td]
   refine tk 9 (.pointer (some ⟨T,1,none⟩)) hS ?_ ?_
   · rintro w' ⟨s0,s1,s2,s3,s4⟩
     go_simp
   simp only [td]
   refine tk 10 (.int .i64 b) hS ?_ ?_
   · rintro w' ⟨s0,s1,s2,s3,s4⟩
     go_simp
   simp only [td]
   refine wpAnyH_ready (rs:=[11]) (by kernel_rfl) (by decide) (AllReadyH.cons rfl (fun K hK=>?_) AllReadyH.nil)
   rw [if_pos (by kernel_rfl)]
   go_simp
   refine (HW1.out Wh1).mono ?_
   rintro e _ ⟨rfl,rfl⟩
   have ns0:=cell_stays hx1 s0
   have ns1:=cell_stays hx1 s1
   have ns2:=cell_stays hx1 s2
   have ns3:=cell_stays hx1 s3
   have ns4:=cell_stays hx1 s4
   refine hK.out _ _ ⟨ns0,ns1,ns2,ns3,ns4⟩ (fun hS=>?_)
   clear ns0 ns1 ns2 ns3 ns4
   refine tk 12 (.bool true) hS ?_ ?_
   · rintro w' ⟨s0,s1,s2,s3,s4⟩
     go_simp
   simp only [td]
   refine tk 13 (.bool true) hS ?_ ?_
   · rintro w' ⟨s0,s1,s2,s3,s4⟩
     go_simp
   simp only [td]
   refine tk 14 (.pointer (some ⟨m,0,none⟩)) hS ?_ ?_
   · rintro w' ⟨s0,s1,s2,s3,s4⟩
     go_simp
   simp only [td]
   refine tk 15 (.pointer (some ⟨m,0,none⟩)) hS ?_ ?_
   · rintro w' ⟨s0,s1,s2,s3,s4⟩
     go_simp
   simp only [td]
   refine tk 16 (.pointer (some ⟨m,0,none⟩)) hS ?_ ?_
   · rintro w' ⟨s0,s1,s2,s3,s4⟩
     go_simp
   simp only [td]
   refine tk 17 (.slice bp zs.length bc) hS ?_ ?_
   · rintro w' ⟨s0,s1,s2,s3,s4⟩
     go_simp
   simp only [td]
   refine tk 18 (.int .i64 la) hS ?_ ?_
   · rintro w' ⟨s0,s1,s2,s3,s4⟩
     go_simp
   simp only [td]
   refine tk 19 (.pointer (some ⟨T,3,none⟩)) hS ?_ ?_
   · rintro w' ⟨s0,s1,s2,s3,s4⟩
     go_simp
   simp only [td]
   refine tk 20 (.int .i64 a) hS ?_ ?_
   · rintro w' ⟨s0,s1,s2,s3,s4⟩
     go_simp
   simp only [td]
   refine wpAnyH_ready (rs:=[21]) (by kernel_rfl) (by decide) (AllReadyH.cons rfl (fun K hK=>?_) AllReadyH.nil)
   rw [if_pos (by kernel_rfl)]
   go_simp
   refine (HW2.out Wh1).mono ?_
   rintro e _ ⟨rfl,rfl⟩
   have ns0:=cell_stays hx1 s0
   have ns1:=cell_stays hx1 s1
   have ns2:=cell_stays hx1 s2
   have ns3:=cell_stays hx1 s3
   have ns4:=cell_stays hx1 s4
   refine hK.out _ _ ⟨ns0,ns1,ns2,ns3,ns4⟩ (fun hS=>?_)
   clear ns0 ns1 ns2 ns3 ns4
   refine tk 22 (.bool b3) hS ?_ ?_
   · rintro w' ⟨s0,s1,s2,s3,s4⟩
     go_simp
   simp only [td]
   have hR4:=blk_below HR1.out hx1 (blk_lt HR1.out)
   obtain ⟨_,u0,u1,u2,u3⟩:=blk4p hR4
   have hthere:Wh1.there w.heap.size 0 4:=fun j hj=>by
    have h4:j=0∨j=1∨j=2∨j=3:=by omega
    rcases h4 with rfl|rfl|rfl|rfl
    · exact ⟨by rw [Nat.add_zero,u0];rfl,blk_frozen hR4 _⟩
    · exact ⟨by rw [Nat.zero_add,u1];rfl,blk_frozen hR4 _⟩
    · exact ⟨by rw [Nat.zero_add,u2];rfl,blk_frozen hR4 _⟩
    · exact ⟨by rw [Nat.zero_add,u3];rfl,blk_frozen hR4 _⟩
   refine wpAnyH_ready (rs:=[23]) (by kernel_rfl) (by decide) (AllReadyH.cons rfl (fun K hK=>?_) AllReadyH.nil)
   rw [if_pos (by kernel_rfl)]
   refine wp_store_mid 118 (.tmp 4) (.tmp 57) rfl w.heap.size 0 #[.int .i64 at',.int .i64 b,.int .i64 la,.int .i64 a] rfl rfl hthere (by kernel_rfl) (Array.all_eq_true_iff_forall_mem.2 (by intro x hx;simp at hx;rcases hx with rfl|rfl|rfl|rfl<;>rfl)) ?_
   change K _ (set4 Wh1 w.heap.size (.int .i64 at') (.int .i64 b) (.int .i64 la) (.int .i64 a))
   have hks:∀ (bb o:Nat) (c:Value),bb≠w.heap.size→W1.cell? ⟨bb,o,none⟩=some c→(set4 Wh1 w.heap.size (.int .i64 at') (.int .i64 b) (.int .i64 la) (.int .i64 a)).cell? ⟨bb,o,none⟩=some c:=fun bb o c hbb hc=>keep4f (cell_stays hx1 hc) hbb
   refine hK.out _ _ ⟨hks _ _ _ HMW.out s0,hks _ _ _ HTW.out s1,hks _ _ _ HTW.out s2,hks _ _ _ HTW.out s3,hks _ _ _ HTW.out s4⟩ (fun hS=>?_)
   refine tk 24 (.bool b3) hS ?_ ?_
   · rintro w' ⟨s0,s1,s2,s3,s4⟩
     go_simp
   simp only [td]
   refine wpAnyH_done (by kernel_rfl) ?_ _
   refine NoPanic.normal ?_
   try simp only [Exit.then]
   have HE1:=Lib.hid (show (set4 Wh1 w.heap.size (.int .i64 at') (.int .i64 b) (.int .i64 la) (.int .i64 a)).heap[w.heap.size]?=some (.cells #[.int .i64 at',.int .i64 b,.int .i64 la,.int .i64 a] 118 (0,0)) from blk_set4 hR4 _ _ _ _)
   have HE2:=Lib.hid (show Below w.heap.size w (set4 Wh1 w.heap.size (.int .i64 at') (.int .i64 b) (.int .i64 la) (.int .i64 a)) from below_set4 (HB1.out.trans (hx1.mono HB1.out.size)) (Nat.le_refl w.heap.size) (.int .i64 at') (.int .i64 b) (.int .i64 la) (.int .i64 a))
   clear hS hks hthere u0 u1 u2 u3 hR4 s0 s1 s2 s3 s4
   generalize set4 Wh1 w.heap.size (.int .i64 at') (.int .i64 b) (.int .i64 la) (.int .i64 a)=W9 at *
   go_wp2
   refine post_gen (fun Wf=>Wf.heap[w.heap.size]?=some (.cells #[.int .i64 at',.int .i64 b,.int .i64 la,.int .i64 a] 118 (0,0))∧Below w.heap.size w Wf) ⟨HE1.out,HE2.out⟩ ?_
   rintro Wf ⟨e1,e2⟩
   obtain ⟨_,d0,d1,d2,d3⟩:=blk4p e1
   refine bodyPost_ret (v:=.tuple #[.agg #[.int .i64 at',.int .i64 b,.int .i64 la,.int .i64 a],.bool b3]) (by simp [results,Tryd.results97,go_sem,d0,d1,d2,d3]) rfl ⟨?_,e2⟩
   have hti:=HTI.out
   cases b3 with
   | true=>exact .inl ⟨_,HTZ.out.trans hti,rfl⟩
   | false=>exact .inr ⟨HTZ.out.trans hti,_,_,_,_,rfl⟩
end Go.Proofs.YtcfjjocmiheiaaaDoor
