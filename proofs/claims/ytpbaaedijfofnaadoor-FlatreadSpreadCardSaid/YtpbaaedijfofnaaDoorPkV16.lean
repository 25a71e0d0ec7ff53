/-
  What the hand's Made makes has such fields as the package view and the document's Value are told of. Conditions: those that each theorem names.
-/
import Derived.Test.YtpbaaedijfofnaaDoorPkV3
import Derived.Test.YtpbaaedijfofnaaDoorPkV9
import Derived.Test.YtpbaaedijfofnaaDoorPkV11
import Derived.Test.YtpbaaedijfofnaaDoorPkV13
namespace Go.Proofs.YtpbaaedijfofnaaDoor
open Go.ChangeShapes Go.WideShapes Go.ChangeAt Go.RowKit Go.Shelf
theorem part_bytes {w:World}{g off o a n:Nat}{zs:List Int}(h:Bytes w (some ⟨g,off,none⟩) zs)(ho:0<n→o=off+a)(hn:a+n≤zs.length):Bytes w (some ⟨g,o,none⟩) (partZ zs a n):=by
 have hget:∀ i,(partZ zs a n).getD i 0=if i<n then zs.getD (a+i) 0 else 0:=fun i=>by
  unfold partZ
  rw [List.getD,List.getElem?_take]
  split
  · rw [List.getElem?_drop,List.getD]
  · rfl
 have hlen:(partZ zs a n).length=n:=by unfold partZ;rw [List.length_take,List.length_drop];omega
 refine ⟨fun i=>?_,fun hne=>?_⟩
 · rw [hget i]
   split
   · exact h.1 _
   · omega
 · have hn0:0<n:=by rw [←hlen];exact List.length_pos_iff.2 hne
   have hzne:zs≠[]:=fun e=>by subst e;simp at hn;omega
   obtain ⟨b,off',e,hlt,hc⟩:=h.2 hzne
   injection e with e
   injection e with e1 e2 _
   subst e1 e2
   refine ⟨g,o,rfl,hlt,fun i hi=>?_⟩
   rw [hlen] at hi
   have h1:=hc (a+i) (by omega)
   rw [ho hn0,Nat.add_assoc,h1,hget i,if_pos hi]
theorem partZ_length {zs:List Int}{a n:Nat}(h:a+n≤zs.length):(partZ zs a n).length=n:=by unfold partZ;rw [List.length_take,List.length_drop];omega
def bytesOk (zs:List Int)(k:Nat)(at':Int):Bool:=
 inZ (lenZ zs) at' 4&&(inZ (lenZ zs) (at'+4) (leAt zs at'.toNat 4)&&(!decide (k=11)||(inZ (lenZ zs) (at'+4+leAt zs at'.toNat 4) 1&&decide (zs.getD (at'.toNat+4+(leAt zs at'.toNat 4).toNat) 0=0))))
def FBytesPost (zs:List Int)(k:Nat)(at':Int)(e:Ending)(w':World):Prop:=
 (bytesOk zs k at'=true∧∃ g o,e=.returned (.tuple #[.slice (some ⟨g,o,none⟩) (leAt zs at'.toNat 4).toNat (leAt zs at'.toNat 4).toNat,.bool true])∧Bytes w' (some ⟨g,o,none⟩) (partZ zs (at'.toNat+4) (leAt zs at'.toNat 4).toNat))∨(bytesOk zs k at'=false∧e=.returned (.tuple #[.slice none 0 0,.bool false]))
set_option maxRecDepth 100000 in
set_option maxHeartbeats 8000000 in
theorem fbytes_any (w:World){base m:Nat}{bp:Option Addr}{bc:Nat}{sv ev:Value}{zs:List Int}{fs:List (List CFld × Value)}{ns:List Nat}(h:IsMsg base w m bp bc sv ev zs fs ns)(k:Nat)(ref lists at':Int) :
  Calls Tryd.prog 150 #[.pointer (some ⟨m,0,none⟩),.int .i64 at',.agg #[.int .u8 k,.int .i64 ref,.int .i64 lists]] w fun e w'=>FBytesPost zs k at' e w'∧Below w.heap.size w w':=by
 have hb:=(Below.refl w.heap.size w).alloc (Nat.le_refl _) (.cells #[.int .u8 k,.int .i64 ref,.int .i64 lists] 62)
 have HB:=Lib.hid hb
 have HM:=Lib.hid (h.below hb)
 obtain ⟨_,x0,x1,x2,_⟩:=blk3 (heap_alloc_new w (.cells #[.int .u8 k,.int .i64 ref,.int .i64 lists] 62))
 have hlen:=h.len
 have hcap:=h.cap
 have hzb:=h.bytes.1
 clear hb h
 by_cases hin:inZ (lenZ zs) at' 4=true
 case neg =>
  have HV:Hid (bytesOk zs k at'=false):=Lib.hid (by unfold bytesOk;rw [Bool.not_eq_true _ |>.mp hin];rfl)
  have HL:Hid (∀ W,Calls Tryd.prog 133 #[.slice bp zs.length bc,.int .i64 at',.int .i64 4] W fun e w'=>e=.returned (.tuple #[.int .u64 0,.bool false])∧W=w'):=Lib.hid (fun W=>load_out bp bc zs at' 4 W hlen hin)
  clear hin hzb hcap
  go_enter Tryd.func150,Tryd.ntmps150
  go_upto_region 1 with (fail)
  generalize w.alloc (.cells #[.int .u8 k,.int .i64 ref,.int .i64 lists] 62)=W0 at *
  obtain ⟨_,m0,m1,m2,_⟩:=blk3 HM.out.blk
  go_wp2_with fail
  refine (HL.out _).mono ?_
  rintro e _ ⟨rfl,rfl⟩
  go_wp2
  go_ret2
  exact ⟨.inr ⟨HV.out,rfl⟩,HB.out⟩
 have h1:=inZ_iff.1 hin
 have hz:lenZ zs=(zs.length:Int):=rfl
 rw [hz] at h1
 have hne:zs≠[]:=fun e=>by subst e;simp at h1;omega
 obtain ⟨g,off,rfl,_,_⟩:=HM.out.bytes.2 hne
 have hld:=leAt_4 zs at'.toNat hzb
 have HLB:=Lib.hid (show ∀ W,Below (w.alloc (.cells #[.int .u8 k,.int .i64 ref,.int .i64 lists] 62)).heap.size (w.alloc (.cells #[.int .u8 k,.int .i64 ref,.int .i64 lists] 62)) W→Bytes W (some ⟨g,off,none⟩) zs from fun W hb=>HM.out.bytes.below (Nat.le_refl _) hb)
 have HL:Hid (∀ W,Below (w.alloc (.cells #[.int .u8 k,.int .i64 ref,.int .i64 lists] 62)).heap.size (w.alloc (.cells #[.int .u8 k,.int .i64 ref,.int .i64 lists] 62)) W→Calls Tryd.prog 133 #[.slice (some ⟨g,off,none⟩) zs.length bc,.int .i64 at',.int .i64 4] W fun e w'=>e=.returned (.tuple #[.int .u64 (leAt zs at'.toNat 4),.bool true])∧W=w'):=Lib.hid (fun W hb=>load_in _ bc zs at' 4 W (HLB.out W hb) hlen hin (by decide))
 have hw4:=IntWalk.i64_in (at'+4) ⟨by omega,by omega⟩
 obtain ⟨P,hP⟩:∃ P,FBytesPost zs k at'=P:=⟨_,rfl⟩
 rw [hP]
 have HP:=Lib.hid hP.symm
 clear hP
 unfold FBytesPost bytesOk at HP
 rw [hin,Bool.true_and] at HP
 have hzn:=fun (zz:Int) (hzz:zz=leAt zs at'.toNat 4)=>hzz
 obtain ⟨n,hn⟩:∃ n:Nat,leAt zs at'.toNat 4=(n:Int):=Int.eq_ofNat_of_zero_le hld.1
 rw [hn] at HP HL hld
 rw [Int.toNat_natCast] at HP
 clear hzn hn
 have hcv:=IntWalk.i64_in (n:Int) ⟨by omega,by omega⟩
 by_cases hin2:inZ (lenZ zs) (at'+4) n=true
 case neg =>
  have HV:Hid (P=fun e w'=>(False∧∃ g o,e=.returned (.tuple #[.slice (some ⟨g,o,none⟩) n n,.bool true])∧Bytes w' (some ⟨g,o,none⟩) (partZ zs (at'.toNat+4) n))∨(True∧e=.returned (.tuple #[.slice none 0 0,.bool false]))):=Lib.hid (by
   rw [HP.out]
   funext e w'
   rw [Bool.not_eq_true _ |>.mp hin2]
   simp)
  have HPT:Hid (∀ W,Calls Tryd.prog 154 #[.slice (some ⟨g,off,none⟩) zs.length bc,.int .i64 (at'+4),.int .i64 n] W fun e w'=>e=.returned (.tuple #[.slice none 0 0,.bool false])∧W=w'):=Lib.hid (fun W=>part_no _ zs.length bc (at'+4) n W (by omega) (by have:=inZ_no hin2;rw [hz] at this;exact this))
  clear hin hin2 hzb hcap HP
  go_enter Tryd.func150,Tryd.ntmps150
  go_upto_region 1 with (fail)
  generalize w.alloc (.cells #[.int .u8 k,.int .i64 ref,.int .i64 lists] 62)=W0 at *
  obtain ⟨_,m0,m1,m2,_⟩:=blk3 HM.out.blk
  go_wp2_with fail
  refine (HL.out _ (Below.refl _ _)).mono ?_
  rintro e _ ⟨rfl,rfl⟩
  go_wp2_with fail
  refine (HPT.out _).mono ?_
  rintro e _ ⟨rfl,rfl⟩
  go_wp2
  go_ret2
  exact ⟨by rw [HV.out];exact .inr ⟨trivial,rfl⟩,HB.out⟩
 have h2:=inZ_iff.1 hin2
 rw [hz] at h2
 rw [hin2,Bool.true_and] at HP
 have hatn:(at'+4).toNat=at'.toNat+4:=by omega
 have HPT:Hid (∀ W,Calls Tryd.prog 154 #[.slice (some ⟨g,off,none⟩) zs.length bc,.int .i64 (at'+4),.int .i64 n] W fun e w'=>PartIs g off (at'.toNat+4) n e∧W=w'):=Lib.hid (fun W=>by
  have h:=part_yes g off zs.length bc (at'+4) n W (by omega) hcap h2.1 h2.2.1 (by omega) h2.2.2
  rw [hatn,Int.toNat_natCast] at h
  exact h)
 have HPB:=Lib.hid (show ∀ W o,Below (w.alloc (.cells #[.int .u8 k,.int .i64 ref,.int .i64 lists] 62)).heap.size (w.alloc (.cells #[.int .u8 k,.int .i64 ref,.int .i64 lists] 62)) W→(0<n→o=off+(at'.toNat+4))→Bytes W (some ⟨g,o,none⟩) (partZ zs (at'.toNat+4) n) from fun W o hb ho=>part_bytes (HLB.out W hb) ho (by omega))
 by_cases hk:k=11
 case neg =>
  have HV:Hid (P=fun e w'=>(True∧∃ g o,e=.returned (.tuple #[.slice (some ⟨g,o,none⟩) n n,.bool true])∧Bytes w' (some ⟨g,o,none⟩) (partZ zs (at'.toNat+4) n))∨(False∧e=.returned (.tuple #[.slice none 0 0,.bool false]))):=Lib.hid (by
   rw [HP.out]
   funext e w'
   rw [decide_eq_false hk]
   simp)
  have t11:((k:Int)==11)=false:=by simp;omega
  clear hin hin2 hzb hcap HP hk
  go_enter Tryd.func150,Tryd.ntmps150
  go_upto_region 1 with (fail)
  generalize w.alloc (.cells #[.int .u8 k,.int .i64 ref,.int .i64 lists] 62)=W0 at *
  obtain ⟨_,m0,m1,m2,_⟩:=blk3 HM.out.blk
  go_wp2_with fail
  refine (HL.out _ (Below.refl _ _)).mono ?_
  rintro e _ ⟨rfl,rfl⟩
  go_wp2_with fail
  refine (HPT.out _).mono ?_
  rintro e _ ⟨⟨o,rfl,ho⟩,rfl⟩
  have HPB2:=Lib.hid (HPB.out _ o (Below.refl _ _) ho)
  clear ho
  go_wp2
  go_ret2
  exact ⟨by rw [HV.out];exact .inl ⟨trivial,_,_,rfl,HPB2.out⟩,HB.out⟩
 subst hk
 have hw5:=IntWalk.i64_in (at'+4+n) ⟨by omega,by omega⟩
 have hatn2:(at'+4+n).toNat=at'.toNat+4+n:=by omega
 have HL2:Hid (∀ W,Below (w.alloc (.cells #[.int .u8 ((11:Nat):Int),.int .i64 ref,.int .i64 lists] 62)).heap.size (w.alloc (.cells #[.int .u8 ((11:Nat):Int),.int .i64 ref,.int .i64 lists] 62)) W→Calls Tryd.prog 133 #[.slice (some ⟨g,off,none⟩) zs.length bc,.int .i64 (at'+4+n),.int .i64 1] W fun e w'=>e=.returned (.tuple #[.int .u64 (ldO zs (at'+4+n) 1),.bool (inZ (lenZ zs) (at'+4+n) 1)])∧W=w'):=Lib.hid (fun W hb=>load_opt _ bc zs (at'+4+n) 1 W (HLB.out W hb) hlen (by decide))
 have hl1:inZ (lenZ zs) (at'+4+n) 1=true→ldO zs (at'+4+n) 1=zs.getD (at'.toNat+4+n) 0:=fun h=>by
  unfold ldO
  rw [show ((1:Nat):Int)=1 from rfl,if_pos h,hatn2,leAt_one]
 generalize ldO zs (at'+4+n) 1=z at *
 have HV:Hid (P=fun e w'=>((inZ (lenZ zs) (at'+4+n) 1&&decide (z=0))=true∧∃ g o,e=.returned (.tuple #[.slice (some ⟨g,o,none⟩) n n,.bool true])∧Bytes w' (some ⟨g,o,none⟩) (partZ zs (at'.toNat+4) n))∨((inZ (lenZ zs) (at'+4+n) 1&&decide (z=0))=false∧e=.returned (.tuple #[.slice none 0 0,.bool false]))):=Lib.hid (by
  rw [HP.out]
  funext e w'
  by_cases h:inZ (lenZ zs) (at'+4+n) 1=true
  · rw [hl1 h];simp
  · rw [Bool.not_eq_true _ |>.mp h];simp)
 have HBZ:Hid (∀ i,zs.getD i 0=zs.getD i 0):=Lib.hid (fun _=>rfl)
 clear hin hin2 hzb hcap HP hl1 HBZ
 generalize inZ (lenZ zs) (at'+4+n) 1=b at *
 cases b with
 | false =>
  go_enter Tryd.func150,Tryd.ntmps150
  go_upto_region 1 with (fail)
  generalize w.alloc (.cells #[.int .u8 ((11:Nat):Int),.int .i64 ref,.int .i64 lists] 62)=W0 at *
  obtain ⟨_,m0,m1,m2,_⟩:=blk3 HM.out.blk
  go_wp2_with fail
  refine (HL.out _ (Below.refl _ _)).mono ?_
  rintro e _ ⟨rfl,rfl⟩
  go_wp2_with fail
  refine (HPT.out _).mono ?_
  rintro e _ ⟨⟨o,rfl,ho⟩,rfl⟩
  clear ho
  go_wp2_with fail
  refine (HL2.out _ (Below.refl _ _)).mono ?_
  rintro e _ ⟨rfl,rfl⟩
  go_wp2
  go_ret2
  exact ⟨by rw [HV.out];exact .inr ⟨rfl,rfl⟩,HB.out⟩
 | true =>
  by_cases hz0:z=0
  · subst hz0
    go_enter Tryd.func150,Tryd.ntmps150
    go_upto_region 1 with (fail)
    generalize w.alloc (.cells #[.int .u8 ((11:Nat):Int),.int .i64 ref,.int .i64 lists] 62)=W0 at *
    obtain ⟨_,m0,m1,m2,_⟩:=blk3 HM.out.blk
    go_wp2_with fail
    refine (HL.out _ (Below.refl _ _)).mono ?_
    rintro e _ ⟨rfl,rfl⟩
    go_wp2_with fail
    refine (HPT.out _).mono ?_
    rintro e _ ⟨⟨o,rfl,ho⟩,rfl⟩
    have HPB2:=Lib.hid (HPB.out _ o (Below.refl _ _) ho)
    clear ho
    go_wp2_with fail
    refine (HL2.out _ (Below.refl _ _)).mono ?_
    rintro e _ ⟨rfl,rfl⟩
    go_wp2
    go_ret2
    exact ⟨by rw [HV.out];exact .inl ⟨rfl,_,_,rfl,HPB2.out⟩,HB.out⟩
  · have t0:(z==0)=false:=by simpa using hz0
    have HV2:Hid ((true&&decide (z=0))=false):=Lib.hid (by simp [hz0])
    clear hz0
    go_enter Tryd.func150,Tryd.ntmps150
    go_upto_region 1 with (fail)
    generalize w.alloc (.cells #[.int .u8 ((11:Nat):Int),.int .i64 ref,.int .i64 lists] 62)=W0 at *
    obtain ⟨_,m0,m1,m2,_⟩:=blk3 HM.out.blk
    go_wp2_with fail
    refine (HL.out _ (Below.refl _ _)).mono ?_
    rintro e _ ⟨rfl,rfl⟩
    go_wp2_with fail
    refine (HPT.out _).mono ?_
    rintro e _ ⟨⟨o,rfl,ho⟩,rfl⟩
    clear ho
    go_wp2_with fail
    refine (HL2.out _ (Below.refl _ _)).mono ?_
    rintro e _ ⟨rfl,rfl⟩
    go_wp2
    go_ret2
    exact ⟨by rw [HV.out];exact .inr ⟨HV2.out,rfl⟩,HB.out⟩
end Go.Proofs.YtpbaaedijfofnaaDoor
namespace Go.Proofs.YtpbaaedijfofnaaDoor
open Go.ChangeShapes Go.WideShapes Go.ChangeAt Go.RowKit Go.Shelf
set_option maxRecDepth 100000 in
set_option maxHeartbeats 4000000 in
theorem made_any (p:Plan)(w:World){a0 a1:Option Addr}{n0 e0 n1 c1:Nat}(hp:IsPlan w p a0 n0 e0 a1 n1 c1) :
  Calls Tryd.prog 14 #[.agg #[.slice a0 n0 e0,.slice a1 n1 c1,.int .u8 p.root,.bool p.tree]] w (MadePost p w):=by
 obtain ⟨hb,hz1,hz2⟩:=two_start w #[.slice a0 n0 e0,.slice a1 n1 c1,.int .u8 p.root,.bool p.tree] #[.slice none 0 0,.slice none 0 0,.int .i64 0] 25 30
 have HP:=Lib.hid hp
 have HB:=Lib.hid hb
 have HZ1:=Lib.hid hz1
 have HZ2:=Lib.hid hz2
 have hrt:=hp.rt
 have hcaps:n0≤9223372036854775807∧n1≤9223372036854775807:=by
  have h1:=hp.e_cap
  have h2:=hp.s_cap
  unfold maxLen at h1 h2
  omega
 obtain ⟨hn0,hn1⟩:=hcaps
 have y0:=(blk_cell hz1 0).trans rfl
 have y1:=(blk_cell hz1 1).trans rfl
 have y2:=(blk_cell hz1 2).trans rfl
 obtain ⟨_,_,_,_,s0,s1,s2⟩:=blk3 hz2
 clear hp hb hz1 hz2
 by_cases hg:1≤n1∧n1≤16∧n0≤8
 · obtain ⟨g1,g2,g3⟩:=hg
   have hmod:(p.root:Int) % (n1:Int)=((p.root % n1:Nat):Int):=(Int.natCast_emod _ _).symm
   have hz0:(n1:Int)≠0:=by omega
   have HRT:Hid (p.root % n1=p.root % p.structs.length):=Lib.hid (by rw [HP.out.s_len])
   generalize p.root % n1=rt at *
   have hsz:((w.alloc (.cells #[.slice a0 n0 e0,.slice a1 n1 c1,.int .u8 p.root,.bool p.tree] 25)).alloc (.cells #[.slice none 0 0,.slice none 0 0,.int .i64 0] 30)).heap.size=w.heap.size+2:=by simp
   have HSZ:=Lib.hid hsz
   clear hsz
   go_enter Tryd.func14,Tryd.ntmps14
   go_upto_region 4 with (fail)
   generalize (w.alloc (.cells #[.slice a0 n0 e0,.slice a1 n1 c1,.int .u8 p.root,.bool p.tree] 25)).alloc (.cells #[.slice none 0 0,.slice none 0 0,.int .i64 0] 30)=W0 at *
   have hba:Below W0.heap.size W0 (W0.alloc (.cells #[.slice none 0 0,.slice none 0 0,.int .i64 rt] 30)):=(Below.refl _ _).alloc (Nat.le_refl _) _
   have hba2:=hba
   rw [HSZ.out] at hba2
   have HK1:Hid (MKeeps w w.heap.size (.slice a0 n0 e0) (.slice a1 n1 c1) p.root p.tree (W0.alloc (.cells #[.slice none 0 0,.slice none 0 0,.int .i64 rt] 30))):=Lib.hid ⟨rfl,blk_below HZ1.out hba (blk_lt HZ1.out),blk_below HZ2.out hba (blk_lt HZ2.out),HB.out.trans (hba.mono HB.out.size)⟩
   have hnew:=heap_alloc_new W0 (.cells #[.slice none 0 0,.slice none 0 0,.int .i64 rt] 30)
   rw [HSZ.out] at hnew
   have HS1:Hid (SchAt (w.heap.size+2) (W0.alloc (.cells #[.slice none 0 0,.slice none 0 0,.int .i64 rt] 30)) [] [] (.slice none 0 0) (.slice none 0 0) rt):=Lib.hid ⟨hnew,World.ownsRow_nil _ _ _ _,World.ownsRow_nil _ _ _ _,(fun q hq=>by cases hq),(fun q hq=>by cases hq)⟩
   clear hba hba2 hnew y0 y1 y2 s0 s1 s2
   generalize W0.alloc (.cells #[.slice none 0 0,.slice none 0 0,.int .i64 rt] 30)=W1 at *
   go_wp2_with fail
   refine enums_wp HP.out g3 ⟨rfl,rfl,rfl,rfl,rfl,rfl,rfl⟩ HK1.out HS1.out ?_
   intro c2 w2 es ev hf hk hs hes
   have HK2:=Lib.hid hk
   have HS2:=Lib.hid hs
   have HES:=Lib.hid hes
   obtain ⟨u,rfl⟩:=fra_lit hf
   clear hf hk hs hes
   simp only [Exit.inBlock,Exit.then]
   apply_assumption
   go_wp2_with fail
   refine recs_wp HP.out g3 g2 ⟨rfl,rfl,rfl,rfl,rfl,rfl,rfl⟩ HK2.out HS2.out HES.out ?_ ?_
   · intro c3 w3 ss sv hf hk hs hss hlen
     have HK3:=Lib.hid hk
     have HS3:=Lib.hid hs
     have HOK:Hid (planOk p):=Lib.hid (lens_ok (by rw [HP.out.s_len];exact g1) (by rw [HP.out.s_len];exact g2) (by rw [HP.out.e_len];exact g3) (by rw [HP.out.s_len];exact hlen))
     have HSS:=Lib.hid hss
     obtain ⟨_,o0,o1,o2,_⟩:=blk3 hs.blk
     obtain ⟨_,r0,r1,r2,q0,q1,q2⟩:=blk3 hk.res
     obtain ⟨u3,rfl⟩:=frc_lit hf
     obtain ⟨sva,svc,eva,evc,rfl,rfl⟩:=hs.rows.forms
     clear hf hk hs hss hlen
     simp only [Exit.inBlock,Exit.then]
     apply_assumption
     go_wp2
     refine post_gen (fun Wf=>Wf.heap[w.heap.size+1]?=some (.cells #[.slice sva ss.length svc,.slice eva es.length evc,.int .i64 rt] 30 (0,0))∧Below w.heap.size w Wf∧SchRows w.heap.size Wf ss es (.slice sva ss.length svc) (.slice eva es.length evc)) ⟨?_,?_,?_⟩ ?_
     · exact blk_set3 HK3.out.res _ _ _
     · exact ((HK3.out.bel.setCell (p:=⟨w.heap.size+1,0,none⟩) (Nat.le_succ _) _).setCell (p:=⟨w.heap.size+1,1,none⟩) (Nat.le_succ _) _).setCell (p:=⟨w.heap.size+1,2,none⟩) (Nat.le_succ _) _
     · have hr:=HS3.out.rows
       have key:∀ {e:TypeId} {s:Nat} {v:Value} {n:Nat} {xs:List Value},w3.ownsRow (w.heap.size+2+1) e s v n xs→World.ownsRow (((w3.setCell ⟨w.heap.size+1,0,none⟩ (.slice sva ss.length svc)).setCell ⟨w.heap.size+1,1,none⟩ (.slice eva es.length evc)).setCell ⟨w.heap.size+1,2,none⟩ (.int .i64 rt)) w.heap.size e s v n xs:=fun ho =>
        ownsRow_base (ownsRow_setCell_below (ownsRow_setCell_below (ownsRow_setCell_below ho (by show w.heap.size+1<_;omega) _) (by show w.heap.size+1<_;omega) _) (by show w.heap.size+1<_;omega) _) (by omega)
       exact ⟨key hr.structs,key hr.enums,fun q hq=>key (hr.fields q hq),fun q hq=>key (hr.names q hq)⟩
     · rintro Wf ⟨e1,e2,e3⟩
       obtain ⟨_,d0,d1,d2,_⟩:=blk3 e1
       refine bodyPost_ret (v:=.tuple #[.agg #[.slice sva ss.length svc,.slice eva es.length evc,.int .i64 rt],.bool true]) (by simp [results,Tryd.results14,go_sem,d0,d1,d2]) rfl ⟨e2,.inl ⟨HOK.out,ss,es,_,_,?_,?_,?_,e3⟩⟩
       · rw [HRT.out]
       · rw [HP.out.s_len];exact HSS.out
       · rw [HP.out.e_len];exact HES.out
   · intro c3 w3 j hf hres hbel hj hbad
     have HNO:Hid (¬planOk p):=Lib.hid (lens_bad (by rw [HP.out.s_len];exact hj) hbad)
     have HRE:=Lib.hid hres
     have HBE:=Lib.hid hbel
     obtain ⟨u3,rfl⟩:=frc_lit hf
     clear hf hres hbel hj hbad
     simp only [Exit.inBlock,Exit.then]
     refine post_gen (fun Wf=>Wf.heap[w.heap.size+1]?=some (.cells #[.slice none 0 0,.slice none 0 0,.int .i64 0] 30 (0,0))∧Below w.heap.size w Wf) ⟨HRE.out,HBE.out⟩ ?_
     rintro Wf ⟨e1,e2⟩
     obtain ⟨_,d0,d1,d2,_⟩:=blk3 e1
     exact bodyPost_ret (v:=.tuple #[.agg #[.slice none 0 0,.slice none 0 0,.int .i64 0],.bool false]) (by simp [results,Tryd.results14,go_sem,d0,d1,d2]) rfl (made_no HNO.out e2)
 · exact made_bad p w HP.out hg
end Go.Proofs.YtpbaaedijfofnaaDoor
namespace Go.Proofs.YtpbaaedijfofnaaDoor
open Go.ChangeShapes Go.WideShapes Go.ChangeAt Go.RowKit Go.Shelf
def PlanNums (p:Plan):Prop:=∀ i,i<p.structs.length→∀ k,k<(p.structs.getD i []).length→(((p.structs.getD i []).getD k noPF).dflt:Int)≤18446744073709551615
theorem plan_nums {w:World}{p:Plan}{a0 a1:Option Addr}{n0 e0 n1 c1:Nat}(hp:IsPlan w p a0 n0 e0 a1 n1 c1):PlanNums p:=by
 intro i hi k hk
 obtain ⟨_,_,_,n,_,_,_,_,hn,_,_,hfl⟩:=hp.s_at i (by rw [←hp.s_len];exact hi)
 obtain ⟨_,_,f,hf,_,_,_,_,_,_,_,_,_,_,_,h⟩:=hfl k (by rw [←hn];exact hk)
 rw [hf]
 exact h
theorem sgn_max (m n:Int)(h1:0<m)(h2:m≤2147483648):sgn m n≤18446744073709551615:=by
 unfold sgn
 have:=Int.emod_lt_of_pos n (show 0<2 * m by omega)
 split<;>omega
theorem sgnOf_max (n s:Int)(h:n≤18446744073709551615):sgnOf n s≤18446744073709551615:=by
 unfold sgnOf
 split
 · exact sgn_max _ _ (by decide) (by decide)
 · split
   · exact sgn_max _ _ (by decide) (by decide)
   · split
     · exact sgn_max _ _ (by decide) (by decide)
     · exact h
theorem numP_max (cnt kind n:Nat)(hn:(n:Int)≤18446744073709551615):(numP cnt kind n:Int)≤18446744073709551615:=by
 unfold numP
 split
 · omega
 · split
   · have:=Nat.mod_le n cnt
     omega
   · have hm:((if kSize kind<8 then n % 2 ^ (8 * (kSize kind).toNat) else n:Nat):Int)≤18446744073709551615:=by
      split
      · have:=Nat.mod_le n (2 ^ (8 * (kSize kind).toNat))
        omega
      · exact hn
     simp only
     generalize (if kSize kind<8 then n % 2 ^ (8 * (kSize kind).toNat) else n:Nat)=m at *
     split
     · have:=sgnOf_max m (kSize kind) hm
       omega
     · exact hm
theorem refP_struct {p:Plan}{f:PF}{i:Nat}(hi:i<p.structs.length)(h:kindP p i f=13):refP p i f<p.structs.length:=by
 by_cases h10:f.kind % 13+1=10
 · by_cases h0:p.enums.length=0
   · have:=(kp_a (i:=i) h10 h0).1
     omega
   · have:=(kp_b (i:=i) h10 h0).1
     omega
 · by_cases h13:f.kind % 13+1=13
   · cases ht:p.tree with
     | true =>
      by_cases hl:i+1=p.structs.length
      · have:=(kp_c h13 ht hl).1
        omega
      · rw [(kp_d h13 ht hl).2]
        have:=Nat.mod_lt f.ref (show 0<p.structs.length-i-1 by omega)
        omega
     | false =>
      rw [(kp_e (i:=i) h13 ht).2]
      exact Nat.mod_lt _ (by omega)
   · have:=(kp_f (p:=p) (i:=i) h10 h13).1
     omega
end Go.Proofs.YtpbaaedijfofnaaDoor
namespace Go.Proofs.YtpbaaedijfofnaaDoor
open Go.ChangeShapes Go.WideShapes Go.ChangeAt Go.RowKit Go.Shelf
def crow (ss:List (SRec × Value)):List (CRec × Value):=ss.map fun q=>(cR q.1,q.2)
theorem crow_length (ss:List (SRec × Value)):(crow ss).length=ss.length:=List.length_map _
theorem crow_fst (ss:List (SRec × Value)):(crow ss).map Prod.fst=(ss.map Prod.fst).map cR:=by
 unfold crow
 rw [List.map_map,List.map_map]
 rfl
theorem made_fld {p:Plan}{ss:List (SRec × Value)}(hss:ss.map Prod.fst=recsP p p.structs.length):∀ q ∈ crow ss,∃ i,i<p.structs.length∧(p.structs.getD i []).length=q.1.fields.length∧q.1.name=recName i∧∀ f ∈ q.1.fields,∃ k,k<(p.structs.getD i []).length∧f=cF (fldP p i k ((p.structs.getD i []).getD k noPF)):=by
 intro q hq
 obtain ⟨x,hx,rfl⟩:=List.mem_map.1 hq
 have h1:x.1 ∈ recsP p p.structs.length:=by rw [←hss];exact List.mem_map.2 ⟨x,hx,rfl⟩
 obtain ⟨i,hi,h2⟩:=List.mem_map.1 h1
 refine ⟨i,List.mem_range.1 hi,?_,by rw [←h2];rfl,fun f hf=>?_⟩
 · show _=(x.1.fields.map cF).length
   rw [←h2]
   show _=((fldsP p i _ _).map cF).length
   rw [List.length_map,fldsP_length]
 · obtain ⟨y,hy,rfl⟩:=List.mem_map.1 (show f ∈ x.1.fields.map cF from hf)
   rw [←h2] at hy
   obtain ⟨k,hk,rfl⟩:=List.mem_map.1 (show y ∈ (List.range _).map _ from hy)
   exact ⟨k,List.mem_range.1 hk,rfl⟩
theorem made_ty {p:Plan}{i k:Nat}{f:PF}(hi:i<p.structs.length):1≤(cF (fldP p i k f)).kind∧(cF (fldP p i k f)).kind≤13∧0≤(cF (fldP p i k f)).lists∧(cF (fldP p i k f)).lists≤3∧((cF (fldP p i k f)).kind=13→0≤(cF (fldP p i k f)).ref∧(cF (fldP p i k f)).ref<p.structs.length):=by
 have hk:=kindP_le p i f
 refine ⟨hk.1,hk.2,Int.natCast_nonneg _,?_,fun h=>⟨Int.natCast_nonneg _,?_⟩⟩
 · have:=Nat.mod_lt f.lists (show 0<4 by decide)
   show ((f.lists % 4:Nat):Int)≤3
   omega
 · have:=refP_struct hi (show kindP p i f=13 from h)
   show ((refP p i f:Nat):Int)<_
   omega
theorem made_flds {p:Plan}(hn:PlanNums p){ss:List (SRec × Value)}(hss:ss.map Prod.fst=recsP p p.structs.length):FldsOk (crow ss):=by
 intro q hq f hf
 obtain ⟨i,hi,_,_,hall⟩:=made_fld hss q hq
 obtain ⟨k,hk,rfl⟩:=hall f hf
 obtain ⟨h1,h2,h3,h4,_⟩:=made_ty (k:=k) (f:=(p.structs.getD i []).getD k noPF) hi
 refine ⟨by omega,by omega,by omega,?_⟩
 show (if _ then numP _ _ _ else 0:Nat)≤_
 split
 · have:=numP_max (cntOf p (refP p i ((p.structs.getD i []).getD k noPF))) (kindP p i ((p.structs.getD i []).getD k noPF)) _ (hn i hi k hk)
   omega
 · omega
theorem made_len {p:Plan}{ss:List (SRec × Value)}(hok:planOk p)(hss:ss.map Prod.fst=recsP p p.structs.length):1≤ss.length∧ss.length≤16∧ss.length=p.structs.length:=by
 have hl:ss.length=p.structs.length:=by
  have:=congrArg List.length hss
  rwa [List.length_map,recsP_length] at this
 rw [hl]
 exact ⟨hok.1,hok.2.1,rfl⟩
end Go.Proofs.YtpbaaedijfofnaaDoor
