/-
  Package flatread: the bytes at a place. Conditions: those that each theorem names.
-/
import Derived.Test.YtachghaegokpdaaDoorPkFC6
import Derived.Test.YtachghaegokpdaaDoorPkFC10
namespace Go.Proofs.YtachghaegokpdaaDoor
open Go.ChangeShapes Go.WideShapes Go.ChangeAt Go.RowKit Go.Shelf
theorem part_bytes {w:World}{g off o a n:Nat}{zs:List Int}(h:Bytes w (some ⟨g,off,none⟩) zs)(ho:0<n→o=off+a)(hn:a+n≤zs.length):Bytes w (some ⟨g,o,none⟩) (partZ zs a n):=by
 have hget:∀ i,(partZ zs a n).getD i 0=if i<n then zs.getD (a+i) 0 else 0:=fun i=>by
  unfold partZ
  rw [List.getD,List.getElem?_take]
  split
  · rw [List.getElem?_drop,List.getD]
  · rfl
 have hlen:(partZ zs a n).length=n:=by unfold partZ;rw [List.length_take,List.length_drop];omega
 refine ⟨fun i=>?_,fun hne=>?_⟩
 · rw [hget i]
   split
   · exact h.1 _
   · omega
 · have hn0:0<n:=by rw [←hlen];exact List.length_pos_iff.2 hne
   have hzne:zs≠[]:=fun e=>by subst e;simp at hn;omega
   obtain ⟨b,off',e,hlt,hc⟩:=h.2 hzne
   injection e with e
   injection e with e1 e2 _
   subst e1 e2
   refine ⟨g,o,rfl,hlt,fun i hi=>?_⟩
   rw [hlen] at hi
   have h1:=hc (a+i) (by omega)
   rw [ho hn0,Nat.add_assoc,h1,hget i,if_pos hi]
theorem partZ_length {zs:List Int}{a n:Nat}(h:a+n≤zs.length):(partZ zs a n).length=n:=by unfold partZ;rw [List.length_take,List.length_drop];omega
def bytesOk (zs:List Int)(k:Nat)(at':Int):Bool:=
 inZ (lenZ zs) at' 4&&(inZ (lenZ zs) (at'+4) (leAt zs at'.toNat 4)&&(!decide (k=11)||(inZ (lenZ zs) (at'+4+leAt zs at'.toNat 4) 1&&decide (zs.getD (at'.toNat+4+(leAt zs at'.toNat 4).toNat) 0=0))))
def FBytesPost (zs:List Int)(k:Nat)(at':Int)(e:Ending)(w':World):Prop:=
 (bytesOk zs k at'=true∧∃ g o,e=.returned (.tuple #[.slice (some ⟨g,o,none⟩) (leAt zs at'.toNat 4).toNat (leAt zs at'.toNat 4).toNat,.bool true])∧Bytes w' (some ⟨g,o,none⟩) (partZ zs (at'.toNat+4) (leAt zs at'.toNat 4).toNat))∨(bytesOk zs k at'=false∧e=.returned (.tuple #[.slice none 0 0,.bool false]))
set_option maxRecDepth 100000 in
set_option maxHeartbeats 8000000 in
theorem fbytes_any (w:World){base m:Nat}{bp:Option Addr}{bc:Nat}{sv ev:Value}{zs:List Int}{fs:List (List CFld × Value)}{ns:List Nat}(h:IsMsg base w m bp bc sv ev zs fs ns)(k:Nat)(ref lists at':Int) :
  Calls Tryd.prog 122 #[.pointer (some ⟨m,0,none⟩),.int .i64 at',.agg #[.int .u8 k,.int .i64 ref,.int .i64 lists]] w fun e w'=>FBytesPost zs k at' e w'∧Below w.heap.size w w':=by
 have hb:=(Below.refl w.heap.size w).alloc (Nat.le_refl _) (.cells #[.int .u8 k,.int .i64 ref,.int .i64 lists] 58)
 have HB:=Lib.hid hb
 have HM:=Lib.hid (h.below hb)
 obtain ⟨_,x0,x1,x2,_⟩:=blk3 (heap_alloc_new w (.cells #[.int .u8 k,.int .i64 ref,.int .i64 lists] 58))
 have hlen:=h.len
 have hcap:=h.cap
 have hzb:=h.bytes.1
 clear hb h
 by_cases hin:inZ (lenZ zs) at' 4=true
 case neg =>
  have HV:Hid (bytesOk zs k at'=false):=Lib.hid (by unfold bytesOk;rw [Bool.not_eq_true _ |>.mp hin];rfl)
  have HL:Hid (∀ W,Calls Tryd.prog 111 #[.slice bp zs.length bc,.int .i64 at',.int .i64 4] W fun e w'=>e=.returned (.tuple #[.int .u64 0,.bool false])∧W=w'):=Lib.hid (fun W=>load_out bp bc zs at' 4 W hlen hin)
  clear hin hzb hcap
  go_enter Tryd.func122,Tryd.ntmps122
  go_upto_region 1 with (fail)
  generalize w.alloc (.cells #[.int .u8 k,.int .i64 ref,.int .i64 lists] 58)=W0 at *
  obtain ⟨_,m0,m1,m2,_⟩:=blk3 HM.out.blk
  go_wp2_with fail
  refine (HL.out _).mono ?_
  rintro e _ ⟨rfl,rfl⟩
  go_wp2
  go_ret2
  exact ⟨.inr ⟨HV.out,rfl⟩,HB.out⟩
 have h1:=inZ_iff.1 hin
 have hz:lenZ zs=(zs.length:Int):=rfl
 rw [hz] at h1
 have hne:zs≠[]:=fun e=>by subst e;simp at h1;omega
 obtain ⟨g,off,rfl,_,_⟩:=HM.out.bytes.2 hne
 have hld:=leAt_4 zs at'.toNat hzb
 have HLB:=Lib.hid (show ∀ W,Below (w.alloc (.cells #[.int .u8 k,.int .i64 ref,.int .i64 lists] 58)).heap.size (w.alloc (.cells #[.int .u8 k,.int .i64 ref,.int .i64 lists] 58)) W→Bytes W (some ⟨g,off,none⟩) zs from fun W hb=>HM.out.bytes.below (Nat.le_refl _) hb)
 have HL:Hid (∀ W,Below (w.alloc (.cells #[.int .u8 k,.int .i64 ref,.int .i64 lists] 58)).heap.size (w.alloc (.cells #[.int .u8 k,.int .i64 ref,.int .i64 lists] 58)) W→Calls Tryd.prog 111 #[.slice (some ⟨g,off,none⟩) zs.length bc,.int .i64 at',.int .i64 4] W fun e w'=>e=.returned (.tuple #[.int .u64 (leAt zs at'.toNat 4),.bool true])∧W=w'):=Lib.hid (fun W hb=>load_in _ bc zs at' 4 W (HLB.out W hb) hlen hin (by decide))
 have hw4:=IntWalk.i64_in (at'+4) ⟨by omega,by omega⟩
 obtain ⟨P,hP⟩:∃ P,FBytesPost zs k at'=P:=⟨_,rfl⟩
 rw [hP]
 have HP:=Lib.hid hP.symm
 clear hP
 unfold FBytesPost bytesOk at HP
 rw [hin,Bool.true_and] at HP
 have hzn:=fun (zz:Int) (hzz:zz=leAt zs at'.toNat 4)=>hzz
 obtain ⟨n,hn⟩:∃ n:Nat,leAt zs at'.toNat 4=(n:Int):=Int.eq_ofNat_of_zero_le hld.1
 rw [hn] at HP HL hld
 rw [Int.toNat_natCast] at HP
 clear hzn hn
 have hcv:=IntWalk.i64_in (n:Int) ⟨by omega,by omega⟩
 by_cases hin2:inZ (lenZ zs) (at'+4) n=true
 case neg =>
  have HV:Hid (P=fun e w'=>(False∧∃ g o,e=.returned (.tuple #[.slice (some ⟨g,o,none⟩) n n,.bool true])∧Bytes w' (some ⟨g,o,none⟩) (partZ zs (at'.toNat+4) n))∨(True∧e=.returned (.tuple #[.slice none 0 0,.bool false]))):=Lib.hid (by
   rw [HP.out]
   funext e w'
   rw [Bool.not_eq_true _ |>.mp hin2]
   simp)
  have HPT:Hid (∀ W,Calls Tryd.prog 125 #[.slice (some ⟨g,off,none⟩) zs.length bc,.int .i64 (at'+4),.int .i64 n] W fun e w'=>e=.returned (.tuple #[.slice none 0 0,.bool false])∧W=w'):=Lib.hid (fun W=>part_no _ zs.length bc (at'+4) n W (by omega) (by have:=inZ_no hin2;rw [hz] at this;exact this))
  clear hin hin2 hzb hcap HP
  go_enter Tryd.func122,Tryd.ntmps122
  go_upto_region 1 with (fail)
  generalize w.alloc (.cells #[.int .u8 k,.int .i64 ref,.int .i64 lists] 58)=W0 at *
  obtain ⟨_,m0,m1,m2,_⟩:=blk3 HM.out.blk
  go_wp2_with fail
  refine (HL.out _ (Below.refl _ _)).mono ?_
  rintro e _ ⟨rfl,rfl⟩
  go_wp2_with fail
  refine (HPT.out _).mono ?_
  rintro e _ ⟨rfl,rfl⟩
  go_wp2
  go_ret2
  exact ⟨by rw [HV.out];exact .inr ⟨trivial,rfl⟩,HB.out⟩
 have h2:=inZ_iff.1 hin2
 rw [hz] at h2
 rw [hin2,Bool.true_and] at HP
 have hatn:(at'+4).toNat=at'.toNat+4:=by omega
 have HPT:Hid (∀ W,Calls Tryd.prog 125 #[.slice (some ⟨g,off,none⟩) zs.length bc,.int .i64 (at'+4),.int .i64 n] W fun e w'=>PartIs g off (at'.toNat+4) n e∧W=w'):=Lib.hid (fun W=>by
  have h:=part_yes g off zs.length bc (at'+4) n W (by omega) hcap h2.1 h2.2.1 (by omega) h2.2.2
  rw [hatn,Int.toNat_natCast] at h
  exact h)
 have HPB:=Lib.hid (show ∀ W o,Below (w.alloc (.cells #[.int .u8 k,.int .i64 ref,.int .i64 lists] 58)).heap.size (w.alloc (.cells #[.int .u8 k,.int .i64 ref,.int .i64 lists] 58)) W→(0<n→o=off+(at'.toNat+4))→Bytes W (some ⟨g,o,none⟩) (partZ zs (at'.toNat+4) n) from fun W o hb ho=>part_bytes (HLB.out W hb) ho (by omega))
 by_cases hk:k=11
 case neg =>
  have HV:Hid (P=fun e w'=>(True∧∃ g o,e=.returned (.tuple #[.slice (some ⟨g,o,none⟩) n n,.bool true])∧Bytes w' (some ⟨g,o,none⟩) (partZ zs (at'.toNat+4) n))∨(False∧e=.returned (.tuple #[.slice none 0 0,.bool false]))):=Lib.hid (by
   rw [HP.out]
   funext e w'
   rw [decide_eq_false hk]
   simp)
  have t11:((k:Int)==11)=false:=by simp;omega
  clear hin hin2 hzb hcap HP hk
  go_enter Tryd.func122,Tryd.ntmps122
  go_upto_region 1 with (fail)
  generalize w.alloc (.cells #[.int .u8 k,.int .i64 ref,.int .i64 lists] 58)=W0 at *
  obtain ⟨_,m0,m1,m2,_⟩:=blk3 HM.out.blk
  go_wp2_with fail
  refine (HL.out _ (Below.refl _ _)).mono ?_
  rintro e _ ⟨rfl,rfl⟩
  go_wp2_with fail
  refine (HPT.out _).mono ?_
  rintro e _ ⟨⟨o,rfl,ho⟩,rfl⟩
  have HPB2:=Lib.hid (HPB.out _ o (Below.refl _ _) ho)
  clear ho
  go_wp2
  go_ret2
  exact ⟨by rw [HV.out];exact .inl ⟨trivial,_,_,rfl,HPB2.out⟩,HB.out⟩
 subst hk
 have hw5:=IntWalk.i64_in (at'+4+n) ⟨by omega,by omega⟩
 have hatn2:(at'+4+n).toNat=at'.toNat+4+n:=by omega
 have HL2:Hid (∀ W,Below (w.alloc (.cells #[.int .u8 ((11:Nat):Int),.int .i64 ref,.int .i64 lists] 58)).heap.size (w.alloc (.cells #[.int .u8 ((11:Nat):Int),.int .i64 ref,.int .i64 lists] 58)) W→Calls Tryd.prog 111 #[.slice (some ⟨g,off,none⟩) zs.length bc,.int .i64 (at'+4+n),.int .i64 1] W fun e w'=>e=.returned (.tuple #[.int .u64 (ldO zs (at'+4+n) 1),.bool (inZ (lenZ zs) (at'+4+n) 1)])∧W=w'):=Lib.hid (fun W hb=>load_opt _ bc zs (at'+4+n) 1 W (HLB.out W hb) hlen (by decide))
 have hl1:inZ (lenZ zs) (at'+4+n) 1=true→ldO zs (at'+4+n) 1=zs.getD (at'.toNat+4+n) 0:=fun h=>by
  unfold ldO
  rw [show ((1:Nat):Int)=1 from rfl,if_pos h,hatn2,leAt_one]
 generalize ldO zs (at'+4+n) 1=z at *
 have HV:Hid (P=fun e w'=>((inZ (lenZ zs) (at'+4+n) 1&&decide (z=0))=true∧∃ g o,e=.returned (.tuple #[.slice (some ⟨g,o,none⟩) n n,.bool true])∧Bytes w' (some ⟨g,o,none⟩) (partZ zs (at'.toNat+4) n))∨((inZ (lenZ zs) (at'+4+n) 1&&decide (z=0))=false∧e=.returned (.tuple #[.slice none 0 0,.bool false]))):=Lib.hid (by
  rw [HP.out]
  funext e w'
  by_cases h:inZ (lenZ zs) (at'+4+n) 1=true
  · rw [hl1 h];simp
  · rw [Bool.not_eq_true _ |>.mp h];simp)
 have HBZ:Hid (∀ i,zs.getD i 0=zs.getD i 0):=Lib.hid (fun _=>rfl)
 clear hin hin2 hzb hcap HP hl1 HBZ
 generalize inZ (lenZ zs) (at'+4+n) 1=b at *
 cases b with
 | false =>
  go_enter Tryd.func122,Tryd.ntmps122
  go_upto_region 1 with (fail)
  generalize w.alloc (.cells #[.int .u8 ((11:Nat):Int),.int .i64 ref,.int .i64 lists] 58)=W0 at *
  obtain ⟨_,m0,m1,m2,_⟩:=blk3 HM.out.blk
  go_wp2_with fail
  refine (HL.out _ (Below.refl _ _)).mono ?_
  rintro e _ ⟨rfl,rfl⟩
  go_wp2_with fail
  refine (HPT.out _).mono ?_
  rintro e _ ⟨⟨o,rfl,ho⟩,rfl⟩
  clear ho
  go_wp2_with fail
  refine (HL2.out _ (Below.refl _ _)).mono ?_
  rintro e _ ⟨rfl,rfl⟩
  go_wp2
  go_ret2
  exact ⟨by rw [HV.out];exact .inr ⟨rfl,rfl⟩,HB.out⟩
 | true =>
  by_cases hz0:z=0
  · subst hz0
    go_enter Tryd.func122,Tryd.ntmps122
    go_upto_region 1 with (fail)
    generalize w.alloc (.cells #[.int .u8 ((11:Nat):Int),.int .i64 ref,.int .i64 lists] 58)=W0 at *
    obtain ⟨_,m0,m1,m2,_⟩:=blk3 HM.out.blk
    go_wp2_with fail
    refine (HL.out _ (Below.refl _ _)).mono ?_
    rintro e _ ⟨rfl,rfl⟩
    go_wp2_with fail
    refine (HPT.out _).mono ?_
    rintro e _ ⟨⟨o,rfl,ho⟩,rfl⟩
    have HPB2:=Lib.hid (HPB.out _ o (Below.refl _ _) ho)
    clear ho
    go_wp2_with fail
    refine (HL2.out _ (Below.refl _ _)).mono ?_
    rintro e _ ⟨rfl,rfl⟩
    go_wp2
    go_ret2
    exact ⟨by rw [HV.out];exact .inl ⟨rfl,_,_,rfl,HPB2.out⟩,HB.out⟩
  · have t0:(z==0)=false:=by simpa using hz0
    have HV2:Hid ((true&&decide (z=0))=false):=Lib.hid (by simp [hz0])
    clear hz0
    go_enter Tryd.func122,Tryd.ntmps122
    go_upto_region 1 with (fail)
    generalize w.alloc (.cells #[.int .u8 ((11:Nat):Int),.int .i64 ref,.int .i64 lists] 58)=W0 at *
    obtain ⟨_,m0,m1,m2,_⟩:=blk3 HM.out.blk
    go_wp2_with fail
    refine (HL.out _ (Below.refl _ _)).mono ?_
    rintro e _ ⟨rfl,rfl⟩
    go_wp2_with fail
    refine (HPT.out _).mono ?_
    rintro e _ ⟨⟨o,rfl,ho⟩,rfl⟩
    clear ho
    go_wp2_with fail
    refine (HL2.out _ (Below.refl _ _)).mono ?_
    rintro e _ ⟨rfl,rfl⟩
    go_wp2
    go_ret2
    exact ⟨by rw [HV.out];exact .inr ⟨HV2.out,rfl⟩,HB.out⟩
end Go.Proofs.YtachghaegokpdaaDoor
