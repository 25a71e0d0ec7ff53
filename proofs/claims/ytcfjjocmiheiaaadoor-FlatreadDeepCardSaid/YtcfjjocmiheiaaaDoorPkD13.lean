/-
  The document's own Inline. Conditions: those that each theorem names.
-/
import Derived.Test.YtcfjjocmiheiaaaDoorPkD2
import Derived.Test.YtcfjjocmiheiaaaDoorPkD6
import Derived.Test.YtcfjjocmiheiaaaDoorPkD7
import Derived.Test.YtcfjjocmiheiaaaDoorPkD8
import Derived.Test.YtcfjjocmiheiaaaDoorPkD10
import Derived.Test.YtcfjjocmiheiaaaDoorPkD11
namespace Go.Proofs.YtcfjjocmiheiaaaDoor
open Go.RowKit
theorem kind_sized {k:Nat}(h:0<kSize k):1≤k∧k≤10:=by
 have h1:=kSize_else (k:Int)
 rcases Nat.lt_or_ge k 1 with h2|h2
 · rw [h1 (.inl (by omega))] at h;exact absurd h (by decide)
 · rcases Nat.lt_or_ge 10 k with h3|h3
   · rw [h1 (.inr (by omega))] at h;exact absurd h (by decide)
   · exact ⟨h2,h3⟩
theorem sgn_range {M z:Int}(hM:M=128∨M=32768∨M=2147483648):0≤sgn M z∧sgn M z≤18446744073709551615:=by
 unfold sgn
 split<;>rcases hM with rfl|rfl|rfl<;>omega
theorem sgn_twice {M z:Int}(hM:M=128∨M=32768∨M=2147483648):sgn M (sgn M z)=sgn M z:=by
 unfold sgn
 split<;>rcases hM with rfl|rfl|rfl<;>(split<;>omega)
theorem numAt_bd {zs:List Int}{k:Nat}{at':Int}(hz:∀ i,0≤zs.getD i 0∧zs.getD i 0≤255)(hk:0<kSize k):0≤numAt zs k at'∧numAt zs k at'≤18446744073709551615:=by
 have hld:∀ n,n=1∨n=2∨n=4∨n=8→0≤ldO zs at' n∧ldO zs at' n≤18446744073709551615:=fun n hn=>by
  unfold ldO
  split
  · rcases hn with rfl|rfl|rfl|rfl
    · have:=leAt_1 zs at'.toNat hz;omega
    · have:=leAt_2 zs at'.toNat hz;omega
    · have:=leAt_4 zs at'.toNat hz;omega
    · have:=leAt_8 zs at'.toNat hz;omega
  · omega
 obtain ⟨s,hs,hs4⟩:=ksize_is hk
 have h1:=hld s hs4
 unfold numAt
 rw [hs]
 show 0≤(if _ then sgnOf (ldO zs at' s) s else ldO zs at' s)∧(if _ then sgnOf (ldO zs at' s) s else ldO zs at' s)≤_
 split
 · rcases hs4 with rfl|rfl|rfl|rfl
   · exact sgn_range (.inl rfl)
   · exact sgn_range (.inr (.inl rfl))
   · exact sgn_range (.inr (.inr rfl))
   · exact h1
 · exact h1
theorem ldO_lt {zs:List Int}{at':Int}{n:Nat}(hz:∀ i,0≤zs.getD i 0∧zs.getD i 0≤255):0≤ldO zs at' n∧ldO zs at' n<2 ^ (8 * n):=by
 unfold ldO
 split
 · exact leAt_bd zs at'.toNat n hz
 · exact ⟨by omega,Int.pow_pos (by decide)⟩
theorem sgnOf_M1 (z:Int):sgnOf z 1=sgn 128 z:=if_pos rfl
theorem sgnOf_M2 (z:Int):sgnOf z 2=sgn 32768 z:=by unfold sgnOf;rw [if_neg (by decide),if_pos rfl]
theorem sgnOf_M4 (z:Int):sgnOf z 4=sgn 2147483648 z:=by unfold sgnOf;rw [if_neg (by decide),if_neg (by decide),if_pos rfl]
theorem fits_other {es:List SCho}{zs:List Int}{k:Nat}{ref at':Int}(hz:∀ i,0≤zs.getD i 0∧zs.getD i 0≤255)(hk:0<kSize k)(h1:k≠1)(h10:k≠10):fitsT es k ref 0 (numAt zs k at').toNat=true:=by
 have hk2:=kind_sized hk
 have hn:=numAt_bd (at':=at') hz hk
 have hnt:numTB k 0=true:=by unfold numTB;rw [decide_eq_true hk];rfl
 unfold fitsT
 rw [hnt,if_neg (by decide),if_neg h1,if_neg h10]
 have hc:k=2∨k=3∨k=4∨k=5∨k=6∨k=7∨k=8∨k=9:=by omega
 have hu:∀ n,n=1∨n=2∨n=4∨n=8→(ldO zs at' n).toNat / 2 ^ (8 * n)=0:=fun n _=>by
  have h:=ldO_lt (at':=at') (n:=n) hz
  apply Nat.div_eq_of_lt
  have h2:(ldO zs at' n).toNat<2 ^ (8 * n) ↔ ldO zs at' n<((2 ^ (8 * n):Nat):Int):=by omega
  rw [h2]
  have h3:((2 ^ (8 * n):Nat):Int)=(2:Int) ^ (8 * n):=by simp
  rw [h3]
  exact h.2
 rcases hc with rfl|rfl|rfl|rfl|rfl|rfl|rfl|rfl
 · have e:numAt zs 2 at'=sgn 128 (ldO zs at' 1):=by unfold numAt;rw [if_pos (by decide)];exact sgnOf_M1 _
   rw [if_pos (by decide)]
   rw [e] at hn ⊢
   refine decide_eq_true ?_
   rw [show kSize ((2:Nat):Int)=1 from rfl,sgnOf_M1]
   rw [Int.toNat_of_nonneg hn.1]
   exact sgn_twice (.inl rfl)
 · have e:numAt zs 3 at'=sgn 32768 (ldO zs at' 2):=by unfold numAt;rw [if_pos (by decide)];exact sgnOf_M2 _
   rw [if_pos (by decide)]
   rw [e] at hn ⊢
   refine decide_eq_true ?_
   rw [show kSize ((3:Nat):Int)=2 from rfl,sgnOf_M2]
   rw [Int.toNat_of_nonneg hn.1]
   exact sgn_twice (.inr (.inl rfl))
 · have e:numAt zs 4 at'=sgn 2147483648 (ldO zs at' 4):=by unfold numAt;rw [if_pos (by decide)];exact sgnOf_M4 _
   rw [if_pos (by decide)]
   rw [e] at hn ⊢
   refine decide_eq_true ?_
   rw [show kSize ((4:Nat):Int)=4 from rfl,sgnOf_M4]
   rw [Int.toNat_of_nonneg hn.1]
   exact sgn_twice (.inr (.inr rfl))
 · rw [if_pos (by decide)]
   exact decide_eq_true rfl
 · rw [if_neg (by decide)]
   exact decide_eq_true (hu 1 (by decide))
 · rw [if_neg (by decide)]
   exact decide_eq_true (hu 2 (by decide))
 · rw [if_neg (by decide)]
   exact decide_eq_true (hu 4 (by decide))
 · rw [if_neg (by decide)]
   exact decide_eq_true (hu 8 (by decide))
theorem numZ_eq {es:List SCho}{zs:List Int}{k:Nat}{ref at' left:Int}(hk:0<kSize k)(hin:inZ (lenZ zs) at' (kSize k)=true):numZ es zs k ref at' left=if fitsT es k ref 0 (numAt zs k at').toNat=true then some (numV (numAt zs k at').toNat,left) else none:=by
 obtain ⟨s,hs,_⟩:=ksize_is hk
 have e:ldO zs at' (kSize k).toNat=leAt zs at'.toNat (kSize k).toNat:=by
  unfold ldO
  rw [hs,Int.toNat_natCast]
  rw [hs] at hin
  rw [if_pos hin]
 unfold numZ numAt
 rw [if_pos hin,e]
end Go.Proofs.YtcfjjocmiheiaaaDoor
namespace Go.Proofs.YtcfjjocmiheiaaaDoor
open Go.ChangeShapes Go.WideShapes Go.ChangeAt Go.RowKit Go.Shelf
theorem part_bytes {w:World}{g off o a n:Nat}{zs:List Int}(h:Bytes w (some ⟨g,off,none⟩) zs)(ho:0<n→o=off+a)(hn:a+n≤zs.length):Bytes w (some ⟨g,o,none⟩) (partZ zs a n):=by
 have hget:∀ i,(partZ zs a n).getD i 0=if i<n then zs.getD (a+i) 0 else 0:=fun i=>by
  unfold partZ
  rw [List.getD,List.getElem?_take]
  split
  · rw [List.getElem?_drop,List.getD]
  · rfl
 have hlen:(partZ zs a n).length=n:=by unfold partZ;rw [List.length_take,List.length_drop];omega
 refine ⟨fun i=>?_,fun hne=>?_⟩
 · rw [hget i]
   split
   · exact h.1 _
   · omega
 · have hn0:0<n:=by rw [←hlen];exact List.length_pos_iff.2 hne
   have hzne:zs≠[]:=fun e=>by subst e;simp at hn;omega
   obtain ⟨b,off',e,hlt,hc⟩:=h.2 hzne
   injection e with e
   injection e with e1 e2 _
   subst e1 e2
   refine ⟨g,o,rfl,hlt,fun i hi=>?_⟩
   rw [hlen] at hi
   have h1:=hc (a+i) (by omega)
   rw [ho hn0,Nat.add_assoc,h1,hget i,if_pos hi]
theorem partZ_length {zs:List Int}{a n:Nat}(h:a+n≤zs.length):(partZ zs a n).length=n:=by unfold partZ;rw [List.length_take,List.length_drop];omega
def bytesOk (zs:List Int)(k:Nat)(at':Int):Bool:=
 inZ (lenZ zs) at' 4&&(inZ (lenZ zs) (at'+4) (leAt zs at'.toNat 4)&&(!decide (k=11)||(inZ (lenZ zs) (at'+4+leAt zs at'.toNat 4) 1&&decide (zs.getD (at'.toNat+4+(leAt zs at'.toNat 4).toNat) 0=0))))
def FBytesPost (zs:List Int)(k:Nat)(at':Int)(e:Ending)(w':World):Prop:=
 (bytesOk zs k at'=true∧∃ g o,e=.returned (.tuple #[.slice (some ⟨g,o,none⟩) (leAt zs at'.toNat 4).toNat (leAt zs at'.toNat 4).toNat,.bool true])∧Bytes w' (some ⟨g,o,none⟩) (partZ zs (at'.toNat+4) (leAt zs at'.toNat 4).toNat))∨(bytesOk zs k at'=false∧e=.returned (.tuple #[.slice none 0 0,.bool false]))
set_option maxRecDepth 100000 in
set_option maxHeartbeats 8000000 in
theorem fbytes_any (w:World){base m:Nat}{bp:Option Addr}{bc:Nat}{sv ev:Value}{zs:List Int}{fs:List (List CFld × Value)}{ns:List Nat}(h:IsMsg base w m bp bc sv ev zs fs ns)(k:Nat)(ref lists at':Int) :
  Calls Tryd.prog 144 #[.pointer (some ⟨m,0,none⟩),.int .i64 at',.agg #[.int .u8 k,.int .i64 ref,.int .i64 lists]] w fun e w'=>FBytesPost zs k at' e w'∧Below w.heap.size w w':=by
 have hb:=(Below.refl w.heap.size w).alloc (Nat.le_refl _) (.cells #[.int .u8 k,.int .i64 ref,.int .i64 lists] 50)
 have HB:=Lib.hid hb
 have HM:=Lib.hid (h.below hb)
 obtain ⟨_,x0,x1,x2,_⟩:=blk3 (heap_alloc_new w (.cells #[.int .u8 k,.int .i64 ref,.int .i64 lists] 50))
 have hlen:=h.len
 have hcap:=h.cap
 have hzb:=h.bytes.1
 clear hb h
 by_cases hin:inZ (lenZ zs) at' 4=true
 case neg =>
  have HV:Hid (bytesOk zs k at'=false):=Lib.hid (by unfold bytesOk;rw [Bool.not_eq_true _ |>.mp hin];rfl)
  have HL:Hid (∀ W,Calls Tryd.prog 123 #[.slice bp zs.length bc,.int .i64 at',.int .i64 4] W fun e w'=>e=.returned (.tuple #[.int .u64 0,.bool false])∧W=w'):=Lib.hid (fun W=>load_out bp bc zs at' 4 W hlen hin)
  clear hin hzb hcap
  go_enter Tryd.func144,Tryd.ntmps144
  go_upto_region 1 with (fail)
  generalize w.alloc (.cells #[.int .u8 k,.int .i64 ref,.int .i64 lists] 50)=W0 at *
  obtain ⟨_,m0,m1,m2,_⟩:=blk3 HM.out.blk
  go_wp2_with fail
  refine (HL.out _).mono ?_
  rintro e _ ⟨rfl,rfl⟩
  go_wp2
  go_ret2
  exact ⟨.inr ⟨HV.out,rfl⟩,HB.out⟩
 have h1:=inZ_iff.1 hin
 have hz:lenZ zs=(zs.length:Int):=rfl
 rw [hz] at h1
 have hne:zs≠[]:=fun e=>by subst e;simp at h1;omega
 obtain ⟨g,off,rfl,_,_⟩:=HM.out.bytes.2 hne
 have hld:=leAt_4 zs at'.toNat hzb
 have HLB:=Lib.hid (show ∀ W,Below (w.alloc (.cells #[.int .u8 k,.int .i64 ref,.int .i64 lists] 50)).heap.size (w.alloc (.cells #[.int .u8 k,.int .i64 ref,.int .i64 lists] 50)) W→Bytes W (some ⟨g,off,none⟩) zs from fun W hb=>HM.out.bytes.below (Nat.le_refl _) hb)
 have HL:Hid (∀ W,Below (w.alloc (.cells #[.int .u8 k,.int .i64 ref,.int .i64 lists] 50)).heap.size (w.alloc (.cells #[.int .u8 k,.int .i64 ref,.int .i64 lists] 50)) W→Calls Tryd.prog 123 #[.slice (some ⟨g,off,none⟩) zs.length bc,.int .i64 at',.int .i64 4] W fun e w'=>e=.returned (.tuple #[.int .u64 (leAt zs at'.toNat 4),.bool true])∧W=w'):=Lib.hid (fun W hb=>load_in _ bc zs at' 4 W (HLB.out W hb) hlen hin (by decide))
 have hw4:=IntWalk.i64_in (at'+4) ⟨by omega,by omega⟩
 obtain ⟨P,hP⟩:∃ P,FBytesPost zs k at'=P:=⟨_,rfl⟩
 rw [hP]
 have HP:=Lib.hid hP.symm
 clear hP
 unfold FBytesPost bytesOk at HP
 rw [hin,Bool.true_and] at HP
 have hzn:=fun (zz:Int) (hzz:zz=leAt zs at'.toNat 4)=>hzz
 obtain ⟨n,hn⟩:∃ n:Nat,leAt zs at'.toNat 4=(n:Int):=Int.eq_ofNat_of_zero_le hld.1
 rw [hn] at HP HL hld
 rw [Int.toNat_natCast] at HP
 clear hzn hn
 have hcv:=IntWalk.i64_in (n:Int) ⟨by omega,by omega⟩
 by_cases hin2:inZ (lenZ zs) (at'+4) n=true
 case neg =>
  have HV:Hid (P=fun e w'=>(False∧∃ g o,e=.returned (.tuple #[.slice (some ⟨g,o,none⟩) n n,.bool true])∧Bytes w' (some ⟨g,o,none⟩) (partZ zs (at'.toNat+4) n))∨(True∧e=.returned (.tuple #[.slice none 0 0,.bool false]))):=Lib.hid (by
   rw [HP.out]
   funext e w'
   rw [Bool.not_eq_true _ |>.mp hin2]
   simp)
  have HPT:Hid (∀ W,Calls Tryd.prog 148 #[.slice (some ⟨g,off,none⟩) zs.length bc,.int .i64 (at'+4),.int .i64 n] W fun e w'=>e=.returned (.tuple #[.slice none 0 0,.bool false])∧W=w'):=Lib.hid (fun W=>part_no _ zs.length bc (at'+4) n W (by omega) (by have:=inZ_no hin2;rw [hz] at this;exact this))
  clear hin hin2 hzb hcap HP
  go_enter Tryd.func144,Tryd.ntmps144
  go_upto_region 1 with (fail)
  generalize w.alloc (.cells #[.int .u8 k,.int .i64 ref,.int .i64 lists] 50)=W0 at *
  obtain ⟨_,m0,m1,m2,_⟩:=blk3 HM.out.blk
  go_wp2_with fail
  refine (HL.out _ (Below.refl _ _)).mono ?_
  rintro e _ ⟨rfl,rfl⟩
  go_wp2_with fail
  refine (HPT.out _).mono ?_
  rintro e _ ⟨rfl,rfl⟩
  go_wp2
  go_ret2
  exact ⟨by rw [HV.out];exact .inr ⟨trivial,rfl⟩,HB.out⟩
 have h2:=inZ_iff.1 hin2
 rw [hz] at h2
 rw [hin2,Bool.true_and] at HP
 have hatn:(at'+4).toNat=at'.toNat+4:=by omega
 have HPT:Hid (∀ W,Calls Tryd.prog 148 #[.slice (some ⟨g,off,none⟩) zs.length bc,.int .i64 (at'+4),.int .i64 n] W fun e w'=>PartIs g off (at'.toNat+4) n e∧W=w'):=Lib.hid (fun W=>by
  have h:=part_yes g off zs.length bc (at'+4) n W (by omega) hcap h2.1 h2.2.1 (by omega) h2.2.2
  rw [hatn,Int.toNat_natCast] at h
  exact h)
 have HPB:=Lib.hid (show ∀ W o,Below (w.alloc (.cells #[.int .u8 k,.int .i64 ref,.int .i64 lists] 50)).heap.size (w.alloc (.cells #[.int .u8 k,.int .i64 ref,.int .i64 lists] 50)) W→(0<n→o=off+(at'.toNat+4))→Bytes W (some ⟨g,o,none⟩) (partZ zs (at'.toNat+4) n) from fun W o hb ho=>part_bytes (HLB.out W hb) ho (by omega))
 by_cases hk:k=11
 case neg =>
  have HV:Hid (P=fun e w'=>(True∧∃ g o,e=.returned (.tuple #[.slice (some ⟨g,o,none⟩) n n,.bool true])∧Bytes w' (some ⟨g,o,none⟩) (partZ zs (at'.toNat+4) n))∨(False∧e=.returned (.tuple #[.slice none 0 0,.bool false]))):=Lib.hid (by
   rw [HP.out]
   funext e w'
   rw [decide_eq_false hk]
   simp)
  have t11:((k:Int)==11)=false:=by simp;omega
  clear hin hin2 hzb hcap HP hk
  go_enter Tryd.func144,Tryd.ntmps144
  go_upto_region 1 with (fail)
  generalize w.alloc (.cells #[.int .u8 k,.int .i64 ref,.int .i64 lists] 50)=W0 at *
  obtain ⟨_,m0,m1,m2,_⟩:=blk3 HM.out.blk
  go_wp2_with fail
  refine (HL.out _ (Below.refl _ _)).mono ?_
  rintro e _ ⟨rfl,rfl⟩
  go_wp2_with fail
  refine (HPT.out _).mono ?_
  rintro e _ ⟨⟨o,rfl,ho⟩,rfl⟩
  have HPB2:=Lib.hid (HPB.out _ o (Below.refl _ _) ho)
  clear ho
  go_wp2
  go_ret2
  exact ⟨by rw [HV.out];exact .inl ⟨trivial,_,_,rfl,HPB2.out⟩,HB.out⟩
 subst hk
 have hw5:=IntWalk.i64_in (at'+4+n) ⟨by omega,by omega⟩
 have hatn2:(at'+4+n).toNat=at'.toNat+4+n:=by omega
 have HL2:Hid (∀ W,Below (w.alloc (.cells #[.int .u8 ((11:Nat):Int),.int .i64 ref,.int .i64 lists] 50)).heap.size (w.alloc (.cells #[.int .u8 ((11:Nat):Int),.int .i64 ref,.int .i64 lists] 50)) W→Calls Tryd.prog 123 #[.slice (some ⟨g,off,none⟩) zs.length bc,.int .i64 (at'+4+n),.int .i64 1] W fun e w'=>e=.returned (.tuple #[.int .u64 (ldO zs (at'+4+n) 1),.bool (inZ (lenZ zs) (at'+4+n) 1)])∧W=w'):=Lib.hid (fun W hb=>load_opt _ bc zs (at'+4+n) 1 W (HLB.out W hb) hlen (by decide))
 have hl1:inZ (lenZ zs) (at'+4+n) 1=true→ldO zs (at'+4+n) 1=zs.getD (at'.toNat+4+n) 0:=fun h=>by
  unfold ldO
  rw [show ((1:Nat):Int)=1 from rfl,if_pos h,hatn2,leAt_one]
 generalize ldO zs (at'+4+n) 1=z at *
 have HV:Hid (P=fun e w'=>((inZ (lenZ zs) (at'+4+n) 1&&decide (z=0))=true∧∃ g o,e=.returned (.tuple #[.slice (some ⟨g,o,none⟩) n n,.bool true])∧Bytes w' (some ⟨g,o,none⟩) (partZ zs (at'.toNat+4) n))∨((inZ (lenZ zs) (at'+4+n) 1&&decide (z=0))=false∧e=.returned (.tuple #[.slice none 0 0,.bool false]))):=Lib.hid (by
  rw [HP.out]
  funext e w'
  by_cases h:inZ (lenZ zs) (at'+4+n) 1=true
  · rw [hl1 h];simp
  · rw [Bool.not_eq_true _ |>.mp h];simp)
 have HBZ:Hid (∀ i,zs.getD i 0=zs.getD i 0):=Lib.hid (fun _=>rfl)
 clear hin hin2 hzb hcap HP hl1 HBZ
 generalize inZ (lenZ zs) (at'+4+n) 1=b at *
 cases b with
 | false =>
  go_enter Tryd.func144,Tryd.ntmps144
  go_upto_region 1 with (fail)
  generalize w.alloc (.cells #[.int .u8 ((11:Nat):Int),.int .i64 ref,.int .i64 lists] 50)=W0 at *
  obtain ⟨_,m0,m1,m2,_⟩:=blk3 HM.out.blk
  go_wp2_with fail
  refine (HL.out _ (Below.refl _ _)).mono ?_
  rintro e _ ⟨rfl,rfl⟩
  go_wp2_with fail
  refine (HPT.out _).mono ?_
  rintro e _ ⟨⟨o,rfl,ho⟩,rfl⟩
  clear ho
  go_wp2_with fail
  refine (HL2.out _ (Below.refl _ _)).mono ?_
  rintro e _ ⟨rfl,rfl⟩
  go_wp2
  go_ret2
  exact ⟨by rw [HV.out];exact .inr ⟨rfl,rfl⟩,HB.out⟩
 | true =>
  by_cases hz0:z=0
  · subst hz0
    go_enter Tryd.func144,Tryd.ntmps144
    go_upto_region 1 with (fail)
    generalize w.alloc (.cells #[.int .u8 ((11:Nat):Int),.int .i64 ref,.int .i64 lists] 50)=W0 at *
    obtain ⟨_,m0,m1,m2,_⟩:=blk3 HM.out.blk
    go_wp2_with fail
    refine (HL.out _ (Below.refl _ _)).mono ?_
    rintro e _ ⟨rfl,rfl⟩
    go_wp2_with fail
    refine (HPT.out _).mono ?_
    rintro e _ ⟨⟨o,rfl,ho⟩,rfl⟩
    have HPB2:=Lib.hid (HPB.out _ o (Below.refl _ _) ho)
    clear ho
    go_wp2_with fail
    refine (HL2.out _ (Below.refl _ _)).mono ?_
    rintro e _ ⟨rfl,rfl⟩
    go_wp2
    go_ret2
    exact ⟨by rw [HV.out];exact .inl ⟨rfl,_,_,rfl,HPB2.out⟩,HB.out⟩
  · have t0:(z==0)=false:=by simpa using hz0
    have HV2:Hid ((true&&decide (z=0))=false):=Lib.hid (by simp [hz0])
    clear hz0
    go_enter Tryd.func144,Tryd.ntmps144
    go_upto_region 1 with (fail)
    generalize w.alloc (.cells #[.int .u8 ((11:Nat):Int),.int .i64 ref,.int .i64 lists] 50)=W0 at *
    obtain ⟨_,m0,m1,m2,_⟩:=blk3 HM.out.blk
    go_wp2_with fail
    refine (HL.out _ (Below.refl _ _)).mono ?_
    rintro e _ ⟨rfl,rfl⟩
    go_wp2_with fail
    refine (HPT.out _).mono ?_
    rintro e _ ⟨⟨o,rfl,ho⟩,rfl⟩
    clear ho
    go_wp2_with fail
    refine (HL2.out _ (Below.refl _ _)).mono ?_
    rintro e _ ⟨rfl,rfl⟩
    go_wp2
    go_ret2
    exact ⟨by rw [HV.out];exact .inr ⟨HV2.out,rfl⟩,HB.out⟩
end Go.Proofs.YtcfjjocmiheiaaaDoor
namespace Go.Proofs.YtcfjjocmiheiaaaDoor
open Go.ChangeShapes Go.WideShapes Go.ChangeAt Go.RowKit Go.Shelf
theorem getD_set_at (pl:List Int)(k i:Nat)(p:Int)(hk:k<pl.length):(pl.set k p).getD i 0=if k=i then p else pl.getD i 0:=by
 simp only [List.getD,List.getElem?_set]
 by_cases h:k=i
 · subst h
   simp [hk]
 · simp [h]
structure Spans (pl:List Int)(W:Nat→Int)(S:Nat→Prop)(lo cur:Int)(al cv:Prop):Prop where
 inn:∀ i,S i→i<pl.length∧lo≤pl.getD i 0∧pl.getD i 0+W i≤cur
 apart:∀ i j,S i→S j→i≠j→pl.getD i 0+W i≤pl.getD j 0∨pl.getD j 0+W j≤pl.getD i 0
 mult:al→∀ i,S i→pl.getD i 0 % W i=0
 cover:cv→∀ c,lo≤c→c<cur→∃ i,S i∧pl.getD i 0≤c∧c<pl.getD i 0+W i
theorem Spans.put {pl:List Int}{W:Nat→Int}{S:Nat→Prop}{lo cur:Int}{al cv:Prop}(h:Spans pl W S lo cur al cv)(k:Nat)(p:Int)(hk:k<pl.length)(hS:¬S k)(hp:cur≤p)(hlo:lo≤p)(hw:0≤W k)(hm:al→p % W k=0)(hc:cv→p=cur) :
  Spans (pl.set k p) W (fun i=>S i∨i=k) lo (p+W k) al cv:=by
 have hne:∀ i,S i→¬k=i:=fun i hi e=>hS (e▸hi)
 refine ⟨?_,?_,?_,?_⟩
 · intro i hi
   rw [getD_set_at pl k i p hk,List.length_set]
   rcases hi with hi|rfl
   · rw [if_neg (hne i hi)]
     have:=h.inn i hi
     exact ⟨this.1,this.2.1,by omega⟩
   · rw [if_pos rfl]
     exact ⟨hk,hlo,Int.le_refl _⟩
 · intro i j hi hj hij
   rw [getD_set_at pl k i p hk,getD_set_at pl k j p hk]
   rcases hi with hi|rfl
   · rw [if_neg (hne i hi)]
     rcases hj with hj|rfl
     · rw [if_neg (hne j hj)]
       exact h.apart i j hi hj hij
     · rw [if_pos rfl]
       have:=(h.inn i hi).2.2
       exact .inl (by omega)
   · rw [if_pos rfl]
     rcases hj with hj|rfl
     · rw [if_neg (hne j hj)]
       have:=(h.inn j hj).2.2
       exact .inr (by omega)
     · exact absurd rfl hij
 · intro ha i hi
   rw [getD_set_at pl k i p hk]
   rcases hi with hi|rfl
   · rw [if_neg (hne i hi)]
     exact h.mult ha i hi
   · rw [if_pos rfl]
     exact hm ha
 · intro hv c h1 h2
   have hpc:=hc hv
   by_cases hcc:c<cur
   · obtain ⟨i,hi,h3,h4⟩:=h.cover hv c h1 hcc
     refine ⟨i,.inl hi,?_⟩
     rw [getD_set_at pl k i p hk,if_neg (hne i hi)]
     exact ⟨h3,h4⟩
   · refine ⟨k,.inr rfl,?_⟩
     rw [getD_set_at pl k k p hk,if_pos rfl]
     omega
theorem Spans.same {pl:List Int}{W:Nat→Int}{S S':Nat→Prop}{lo cur:Int}{al cv:Prop}(h:Spans pl W S lo cur al cv)(hS:∀ i,S' i ↔ S i):Spans pl W S' lo cur al cv:=by
 refine ⟨fun i hi=>h.inn i ((hS i).1 hi),fun i j hi hj=>h.apart i j ((hS i).1 hi) ((hS j).1 hj),fun ha i hi=>h.mult ha i ((hS i).1 hi),fun hv c h1 h2=>?_⟩
 obtain ⟨i,hi,h3⟩:=h.cover hv c h1 h2
 exact ⟨i,(hS i).2 hi,h3⟩
theorem spans_nil (pl:List Int)(W:Nat→Int)(S:Nat→Prop)(lo:Int)(al cv:Prop)(hS:∀ i,¬S i):Spans pl W S lo lo al cv:=
 ⟨fun i hi=>absurd hi (hS i),fun i _ hi=>absurd hi (hS i),fun _ i hi=>absurd hi (hS i),fun _ c h1 h2=>absurd h1 (by omega)⟩
/-! ### in words -/
def fldAt (fs:List SFld)(i:Nat):SFld:=fs.getD i noSF
/-! ### in a row -/
def ksAt (fs:List SFld)(i:Nat):Int:=inlP (fldAt fs i)
/-! ### in a table -/
def thAt (th:List Bool)(i:Nat):Prop:=th.getD i false=true
theorem mult_zero {n z:Int}(hz:z=8∨z=4∨z=2∨z=1):multI n z % z=0:=by
 unfold multI
 rcases hz with rfl|rfl|rfl|rfl<;>omega
theorem tabUp_spans {z:Int}(hz:z=8∨z=4∨z=2∨z=1)(fs:List SFld)(th:List Bool)(s:TabSt)(S:Nat→Prop)(hl:s.pl.length=fs.length)(h:Spans s.pl (ksAt fs) S 4 s.size True False)(h4:4≤s.size)(hS:∀ i,S i→ksAt fs i≠z) :
  ∀ k,k≤fs.length→Spans (tabUp z fs th s k).pl (ksAt fs) (fun i=>S i∨(i<k∧thAt th i∧ksAt fs i=z)) 4 (tabUp z fs th s k).size True False∧(tabUp z fs th s k).pl.length=fs.length∧4≤(tabUp z fs th s k).size
 | 0,_=>⟨h.same (fun i=>⟨fun hi=>by rcases hi with hi|hi;exact hi;exact absurd hi.1 (Nat.not_lt_zero _),fun hi=>.inl hi⟩),hl,h4⟩
 | k+1,hk=>by
  obtain ⟨ih,ihl,ih4⟩:=tabUp_spans hz fs th s S hl h h4 hS k (by omega)
  have hm:=mult_bd hz (show 0≤(tabUp z fs th s k).size by omega)
  unfold tabUp tabStep
  split
  · rename_i he
    have he':ksAt fs k=z:=he.2
    refine ⟨?_,by simp only [List.length_set];exact ihl,by simp only;omega⟩
    have hp:=ih.put k (multI (tabUp z fs th s k).size z) (by omega) (fun hc=>by rcases hc with hc|hc;exact hS k hc he';exact absurd hc.1 (Nat.lt_irrefl _)) hm.1 (by omega) (by omega) (fun _=>by rw [he'];exact mult_zero hz) (fun hf=>hf.elim)
    rw [he'] at hp
    refine hp.same (fun i=>⟨fun hi=>?_,fun hi=>?_⟩)
    · rcases hi with hi|⟨hi,h2⟩
      · exact .inl (.inl hi)
      · by_cases e:i=k
        · exact .inr e
        · exact .inl (.inr ⟨by omega,h2⟩)
    · rcases hi with (hi|⟨hi,h2⟩)|rfl
      · exact .inl hi
      · exact .inr ⟨by omega,h2⟩
      · exact .inr ⟨by omega,he.1,he'⟩
  · rename_i he
    refine ⟨ih.same (fun i=>⟨fun hi=>?_,fun hi=>?_⟩),ihl,ih4⟩
    · rcases hi with hi|⟨hi,h2⟩
      · exact .inl hi
      · by_cases e:i=k
        · subst e
          exact absurd h2 he
        · exact .inr ⟨by omega,h2⟩
    · rcases hi with hi|⟨hi,h2⟩
      · exact .inl hi
      · exact .inr ⟨by omega,h2⟩
theorem inlP_is (f:SFld):∃ y,y<4∧inlP f=inlinesL.getD y 0:=by
 unfold inlP
 split
 · rename_i h
   have hk:0<kSize f.kind:=by
    unfold isNumP at h
    simp only [Bool.and_eq_true,decide_eq_true_eq] at h
    exact h.2
   generalize (f.kind:Int)=k at *
   unfold kSize at *
   split
   · exact ⟨3,by omega,rfl⟩
   split
   · exact ⟨2,by omega,rfl⟩
   split
   · exact ⟨1,by omega,rfl⟩
   split
   · exact ⟨0,by omega,rfl⟩
   · rename_i q1 q2 q3 q4
     rw [if_neg q1,if_neg q2,if_neg q3,if_neg q4] at hk
     exact absurd hk (by decide)
 · exact ⟨1,by omega,rfl⟩
theorem inlines_at (z:Nat)(h:z<4):(z=0∧inlinesL.getD z 0=8)∨(z=1∧inlinesL.getD z 0=4)∨(z=2∧inlinesL.getD z 0=2)∨(z=3∧inlinesL.getD z 0=1):=by
 have:z=0∨z=1∨z=2∨z=3:=by omega
 rcases this with rfl|rfl|rfl|rfl<;>decide
theorem t_spans (fs:List SFld)(th:List Bool):∀ z,z≤4→Spans (tabAll fs th z).pl (ksAt fs) (fun i=>i<fs.length∧thAt th i∧∃ y,y<z∧ksAt fs i=inlinesL.getD y 0) 4 (tabAll fs th z).size True False∧(tabAll fs th z).pl.length=fs.length∧4≤(tabAll fs th z).size
 | 0,_=>⟨spans_nil _ _ _ _ _ _ (fun i hi=>by obtain ⟨_,_,y,hy,_⟩:=hi;omega),by simp [tabAll],Int.le_refl _⟩
 | z+1,hz=>by
  obtain ⟨ih,ihl,ih4⟩:=t_spans fs th z (by omega)
  obtain ⟨h1,h2,h3⟩:=tabUp_spans (inlines_is z (by omega)) fs th (tabAll fs th z) _ ihl ih ih4 (fun i hi e=>by
   obtain ⟨_,_,y,hy,hf⟩:=hi
   have hzz:=inlines_at z (by omega)
   have hyy:=inlines_at y (by omega)
   omega) fs.length (Nat.le_refl _)
  unfold tabAll
  refine ⟨h1.same (fun i=>⟨fun hi=>?_,fun hi=>?_⟩),h2,h3⟩
  · obtain ⟨hi,ht,y,hy,hf⟩:=hi
    by_cases e:y=z
    · exact .inr ⟨hi,ht,e▸hf⟩
    · exact .inl ⟨hi,ht,y,by omega,hf⟩
  · rcases hi with ⟨hi,ht,y,hy,hf⟩|⟨hi,ht,hf⟩
    · exact ⟨hi,ht,y,by omega,hf⟩
    · exact ⟨hi,ht,z,by omega,hf⟩
theorem tab_spans (fs:List SFld)(th:List Bool):Spans (tabAll fs th 4).pl (ksAt fs) (fun i=>i<fs.length∧thAt th i) 4 (tabAll fs th 4).size True False∧4≤(tabAll fs th 4).size:=by
 obtain ⟨h,_,h4⟩:=t_spans fs th 4 (Nat.le_refl _)
 exact ⟨h.same (fun i=>⟨fun hi=>⟨hi.1,hi.2,inlP_is _⟩,fun hi=>⟨hi.1,hi.2.1⟩⟩),h4⟩
/-! ### what is taken -/
end Go.Proofs.YtcfjjocmiheiaaaDoor
namespace Go.Proofs.YtcfjjocmiheiaaaDoor
open Go.ChangeShapes Go.WideShapes Go.ChangeAt Go.RowKit Go.Shelf
theorem rinline_any (fn:ByteArray)(fk fr fl fd:Nat)(w:World)(hk:fk≤255) :
  Calls Tryd.prog 93 #[.agg #[.string fn,.int .u8 fk,.int .i64 fr,.int .i64 fl,.int .u64 fd]] w fun e w'=>e=.returned (.int .i64 (inlP ⟨fn,fk,fr,fl,fd⟩))∧Below w.heap.size w w':=by
 have hq:=heap_alloc_new w (.cells #[.string fn,.int .u8 fk,.int .i64 fr,.int .i64 fl,.int .u64 fd] 52)
 have HB:=Lib.hid ((Below.refl w.heap.size w).alloc (Nat.le_refl _) (.cells #[.string fn,.int .u8 fk,.int .i64 fr,.int .i64 fl,.int .u64 fd] 52))
 have hw:=IntWalk.i64_in (fk:Int) (by omega)
 go_enter Tryd.func93,Tryd.ntmps93
 go_upto_region 1 with (fail)
 generalize w.alloc (.cells #[.string fn,.int .u8 fk,.int .i64 fr,.int .i64 fl,.int .u64 fd] 52)=W1 at *
 have hlt:=blk_lt hq
 have y1:=(blk_cell hq 1).trans rfl
 have y2:=(blk_cell hq 2).trans rfl
 have y3:=(blk_cell hq 3).trans rfl
 have HQ:=Lib.hid hq
 clear hq
 go_wp2_with fail
 refine (isnum_any fk fr fl W1 hk).mono ?_
 rintro e W2 ⟨rfl,hb2⟩
 have HB2:=Lib.hid (HB.out.trans (hb2.mono HB.out.size))
 have z1:=(blk_cell (blk_below HQ.out hb2 hlt) 1).trans rfl
 clear hb2 y1 y2 y3
 cases hnum:isNumP fk fl
 · have HE:=Lib.hid (inlP_no (fn:=fn) (fr:=fr) (fd:=fd) hnum)
   clear hnum
   go_wp2
   go_ret
   exact ⟨ret_int HE.out.symm,HB2.out⟩
 · have HE:=Lib.hid (inlP_num (fn:=fn) (fr:=fr) (fd:=fd) hnum)
   clear hnum
   go_wp2_with fail
   refine (rsize_any (fk:Int) W2).mono ?_
   rintro e W3 ⟨rfl,rfl⟩
   go_wp2
   go_ret
   exact ⟨ret_int HE.out.symm,HB2.out⟩
end Go.Proofs.YtcfjjocmiheiaaaDoor
