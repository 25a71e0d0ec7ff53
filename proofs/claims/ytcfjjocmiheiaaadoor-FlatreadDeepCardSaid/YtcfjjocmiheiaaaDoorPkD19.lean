/-
  The document's own reading of tables: a number's place. Conditions: those that each theorem names.
-/
import Derived.Test.YtcfjjocmiheiaaaDoorPkD52
import Derived.Test.YtcfjjocmiheiaaaDoorPkD2
import Derived.Test.YtcfjjocmiheiaaaDoorPkD3
import Derived.Test.YtcfjjocmiheiaaaDoorPkD4
import Derived.Test.YtcfjjocmiheiaaaDoorPkD6
import Derived.Test.YtcfjjocmiheiaaaDoorPkD7
import Derived.Test.YtcfjjocmiheiaaaDoorPkD8
import Derived.Test.YtcfjjocmiheiaaaDoorPkD13
import Derived.Test.YtcfjjocmiheiaaaDoorPkD16
import Derived.Laws.MakeOwn
import Derived.Deep.RegionHeld3
namespace Go.Proofs.YtcfjjocmiheiaaaDoor
open Go.ChangeShapes Go.WideShapes Go.ChangeAt Go.RowKit Go.Shelf
structure RdSt (w:World)(rk:Nat)(sv ev:Value)(root:Int)(bp:Option Addr)(bc:Nat)(zs:List Int)(rc:Int)(bad:Bool):Prop where
 blk:w.heap[rk]?=some (.cells #[sv,ev,.int .i64 root,.slice bp zs.length bc,.int .i64 rc,.bool bad] 171 (0,0))
 bytes:Bytes w bp zs
 len:zs.length≤16384
 cap:zs.length≤bc
theorem RdSt.below {w W:World}{rk:Nat}{sv ev:Value}{root:Int}{bp:Option Addr}{bc:Nat}{zs:List Int}{rc:Int}{bad:Bool}(h:RdSt w rk sv ev root bp bc zs rc bad)(hb:Below w.heap.size w W):RdSt W rk sv ev root bp bc zs rc bad:=
 ⟨blk_below h.blk hb (blk_lt h.blk),h.bytes.below (Nat.le_refl _) hb,h.len,h.cap⟩
theorem RdSt.apart {w:World}{rk:Nat}{sv ev:Value}{root:Int}{bp:Option Addr}{bc:Nat}{zs:List Int}{rc:Int}{bad:Bool}(h:RdSt w rk sv ev root bp bc zs rc bad){b off:Nat}(hp:bp=some ⟨b,off,none⟩)(hne:zs≠[])(hr:∀ c,c=sv∨c=ev→∀ x,c≠.int .u8 x):b≠rk:=by
 have hb:=h.bytes
 rw [hp] at hb
 obtain ⟨b',off',e,_,hc⟩:=hb.2 hne
 injection e with e
 injection e with e1 e2 _
 subst e1 e2
 have h0:=hc 0 (List.length_pos_iff.2 hne)
 rw [Nat.add_zero] at h0
 intro hbw
 subst hbw
 rw [blk_cell h.blk off] at h0
 have h4:off=0∨off=1∨off=2∨off=3∨off=4∨off=5∨6≤off:=by omega
 rcases h4 with rfl|rfl|rfl|rfl|rfl|rfl|h4
 · injection h0 with h0;exact hr _ (.inl rfl) _ h0
 · injection h0 with h0;exact hr _ (.inr rfl) _ h0
 · simp at h0
 · simp at h0
 · simp at h0
 · simp at h0
 · rw [Array.getElem?_eq_none (by simpa using h4)] at h0;cases h0
def RowV (c:Value):Prop:=∃ a n k,c=.slice a n k
theorem RdSt.keep {w W:World}{rk:Nat}{sv ev:Value}{root:Int}{bp:Option Addr}{bc:Nat}{zs:List Int}{rc:Int}{bad:Bool}(h:RdSt w rk sv ev root bp bc zs rc bad)(hv:RowV sv∧RowV ev)(hx:Exw rk rk w.heap.size w W){rc':Int}{bad':Bool}(hb:W.heap[rk]?=some (.cells #[sv,ev,.int .i64 root,.slice bp zs.length bc,.int .i64 rc',.bool bad'] 171 (0,0))):RdSt W rk sv ev root bp bc zs rc' bad':=
 ⟨hb,bytes_exw h.bytes hx (fun b off e hne=>by
  have h1:=h.apart e hne (fun c hc x hx=>by
   obtain ⟨⟨a,n,k,h2⟩,⟨a',n',k',h3⟩⟩:=hv
   rcases hc with rfl|rfl
   · rw [h2] at hx;cases hx
   · rw [h3] at hx;cases hx)
  exact ⟨h1,h1⟩),h.len,h.cap⟩
theorem rwithin_opt (l a n:Int)(w:World)(hl0:0≤l)(hl:l≤9223372036854775807):Calls Tryd.prog 131 #[.int .i64 l,.int .i64 a,.int .i64 n] w fun e w'=>e=.returned (.bool (inZ l a n))∧w=w':=by
 by_cases h:inZ l a n=true
 · have h1:=inZ_iff.1 h
   rw [h]
   exact rwithin_yes l a n w hl h1.1 h1.2.1 h1.2.2
 · rw [Bool.not_eq_true _ |>.mp h]
   exact rwithin_no l a n w hl0 hl (by have h1:=inZ_no h;exact h1)
set_option maxRecDepth 100000 in
set_option maxHeartbeats 8000000 in
theorem rdnum_any (w:World){rk:Nat}{sv ev:Value}{root:Int}{bp:Option Addr}{bc:Nat}{zs:List Int}{rc:Int}{bad:Bool}(h:RdSt w rk sv ev root bp bc zs rc bad)(hv:RowV sv∧RowV ev)(at':Int)(s:Nat)(hs:s=2∨s=4) :
  Calls Tryd.prog 104 #[.pointer (some ⟨rk,0,none⟩),.int .i64 at',.int .i64 s] w fun e w'=>e=.returned (.int .i64 (ldO zs at' s))∧RdSt w' rk sv ev root bp bc zs rc (bad || !inZ (lenZ zs) at' s)∧Exw rk rk w.heap.size w w':=by
 have hz:lenZ zs=(zs.length:Int):=rfl
 have hlen:=h.len
 have hcap:=h.cap
 have HW:=Lib.hid (fun W=>rwithin_opt (zs.length:Int) at' s W (by omega) (by omega))
 obtain ⟨_,c0,c1,c2,c3,c4,c5⟩:=blk6 h.blk
 have f5:=blk_frozen h.blk 5
 have HX:=Lib.hid ((Exw.refl rk rk w.heap.size w).setCell (p:=⟨rk,5,none⟩) (.inl rfl) (.bool true))
 have HS:=Lib.hid (h.keep hv HX.out ((blk_set h.blk 5 (.bool true)).trans rfl))
 have H0:=Lib.hid h
 by_cases hin:inZ (lenZ zs) at' s=true
 · have h1:=inZ_iff.1 hin
   rw [hz] at h1
   have hne:zs≠[]:=fun e=>by subst e;simp at h1;omega
   obtain ⟨b,off,rfl,_,hc⟩:=h.bytes.2 hne
   obtain ⟨a,rfl⟩:∃ a:Nat,at'=a:=⟨at'.toNat,by omega⟩
   have hzb:=h.bytes.1
   have HN:Hid (∀ W,W=w→∀ n cap,n=s→Calls Tryd.prog 132 #[.slice (some ⟨b,off+a,none⟩) n cap] W fun e w'=>e=.returned (.int .u64 (leAt zs a s))∧W=w'):=Lib.hid (fun W hW n cap hn=>by
    subst hW hn
    exact rnum_any b (off+a) n cap W (fun i=>zs.getD (a+i) 0) (by omega) (fun i hi=>by
     have h5:=hc (a+i) (by omega)
     rw [←Nat.add_assoc] at h5
     exact h5) (fun i _=>hzb _))
   have e0:ldO zs (a:Int) s=leAt zs a s:=by unfold ldO;rw [if_pos hin,Int.toNat_natCast]
   have hbd:=leAt_4 zs a hzb
   have hbd2:=leAt_2 zs a hzb
   have hbs:0≤leAt zs a s∧leAt zs a s<4294967296:=by rcases hs with rfl|rfl<;>omega
   have hor:(bad || !inZ (lenZ zs) (a:Int) s)=bad:=by rw [hin];simp
   rw [e0,hor]
   have hcv:=IntWalk.i64_in (leAt zs a s) ⟨by omega,by omega⟩
   have hw1:=IntWalk.i64_in ((a:Int)+s) ⟨by omega,by omega⟩
   rw [←hz,hin] at HW
   rw [hz] at HW
   have hs1:1≤s:=by omega
   have E1:((a:Int)+s).toNat-(a:Int).toNat=s:=by omega
   have E2:((a:Int)+s).toNat=a+s:=by omega
   have E3:a+s-a=s:=by omega
   generalize leAt zs a s=z at *
   clear hin e0 hor hbd hbd2 hc hzb h hs
   go_enter Tryd.func104,Tryd.ntmps104
   go_wp2_with fail
   refine (HW.out _).mono ?_
   rintro e _ ⟨rfl,rfl⟩
   go_wp2_with fail
   refine (HN.out _ rfl _ _ ?_).mono ?_
   · omega
   rintro e _ ⟨rfl,rfl⟩
   go_wp2
   go_ret
   exact ⟨rfl,H0.out,Exw.refl _ _ _ _⟩
 · have e0:ldO zs at' s=0:=if_neg hin
   have hor:(bad || !inZ (lenZ zs) at' s)=true:=by rw [Bool.not_eq_true _ |>.mp hin];simp
   rw [e0,hor]
   rw [←hz,Bool.not_eq_true _ |>.mp hin] at HW
   rw [hz] at HW
   clear hin e0 hor h hs
   go_enter Tryd.func104,Tryd.ntmps104
   go_wp2_with fail
   refine (HW.out _).mono ?_
   rintro e _ ⟨rfl,rfl⟩
   go_wp2
   go_ret
   exact ⟨rfl,HS.out,HX.out⟩
set_option maxRecDepth 100000 in
set_option maxHeartbeats 8000000 in
theorem rdjump_any (w:World){rk:Nat}{sv ev:Value}{root:Int}{bp:Option Addr}{bc:Nat}{zs:List Int}{rc:Int}{bad:Bool}(h:RdSt w rk sv ev root bp bc zs rc bad)(hv:RowV sv∧RowV ev)(at':Int)(ha : -1000000000000≤at'∧at'≤1000000000000) :
  Calls Tryd.prog 75 #[.pointer (some ⟨rk,0,none⟩),.int .i64 at'] w fun e w'=>e=.returned (.int .i64 (if at'+ldO zs at' 4≤lenZ zs then at'+ldO zs at' 4 else 0))∧RdSt w' rk sv ev root bp bc zs rc (bad||(!inZ (lenZ zs) at' 4 || !decide (at'+ldO zs at' 4≤lenZ zs)))∧Exw rk rk w.heap.size w w':=by
 have hz:lenZ zs=(zs.length:Int):=rfl
 have hlen:=h.len
 have HN:=Lib.hid (rdnum_any w h hv at' 4 (.inr rfl))
 have hbd:0≤ldO zs at' 4∧ldO zs at' 4<4294967296:=by
  unfold ldO
  split
  · exact leAt_4 zs _ h.bytes.1
  · omega
 have HV:=Lib.hid hv
 clear h hv
 generalize inZ (lenZ zs) at' (4:Nat)=ok at *
 generalize ldO zs at' 4=z at *
 have hw1:=IntWalk.i64_in (at'+z) ⟨by omega,by omega⟩
 obtain ⟨P,hP⟩:∃ P,(fun (e:Ending) (w':World)=>e=.returned (.int .i64 (if at'+z≤lenZ zs then at'+z else 0))∧RdSt w' rk sv ev root bp bc zs rc (bad||(!ok || !decide (at'+z≤lenZ zs)))∧Exw rk rk w.heap.size w w')=P:=⟨_,rfl⟩
 rw [hP]
 have HP:=Lib.hid hP.symm
 clear hP
 go_enter Tryd.func75,Tryd.ntmps75
 go_wp2_with fail
 refine HN.out.mono ?_
 rintro e W1 ⟨rfl,hs,hx⟩
 obtain ⟨_,c0,c1,c2,c3,c4,c5⟩:=blk6 hs.blk
 have f5:=blk_frozen hs.blk 5
 have HX1:=Lib.hid hx
 have HX2:=Lib.hid ((Exw.refl rk rk W1.heap.size W1).setCell (p:=⟨rk,5,none⟩) (.inl rfl) (.bool true))
 have HS2:=Lib.hid (hs.keep HV.out HX2.out ((blk_set hs.blk 5 (.bool true)).trans rfl))
 have HS1:=Lib.hid hs
 clear hs hx HN
 by_cases hle:at'+z≤(zs.length:Int)
 · have hgt:¬((zs.length:Int)<at'+z):=by omega
   have HLE:Hid (at'+z≤lenZ zs):=Lib.hid hle
   go_wp2
   rw [HP.out]
   exact ⟨show Ending.returned (.int .i64 (at'+z))=_ by rw [if_pos HLE.out],by rw [decide_eq_true HLE.out];simpa using HS1.out,HX1.out⟩
 · have hgt:(zs.length:Int)<at'+z:=by omega
   have HLE:Hid (lenZ zs<at'+z):=Lib.hid (Int.not_le.1 hle)
   go_wp2
   rw [HP.out]
   exact ⟨show Ending.returned (.int .i64 0)=_ by rw [if_neg (Int.not_le.2 HLE.out)],by rw [decide_eq_false (Int.not_le.2 HLE.out)];simpa using HS2.out,HX1.out.trans (HX2.out.mono HX1.out.size)⟩
set_option maxRecDepth 100000 in
set_option maxHeartbeats 8000000 in
theorem rdreach_any (w:World){rk:Nat}{sv ev:Value}{root:Int}{bp:Option Addr}{bc:Nat}{zs:List Int}{rc:Int}{bad:Bool}(h:RdSt w rk sv ev root bp bc zs rc bad)(hv:RowV sv∧RowV ev)(at' n:Int)(hr:0≤rc∧rc≤1000000000000) :
  Calls Tryd.prog 105 #[.pointer (some ⟨rk,0,none⟩),.int .i64 at',.int .i64 n] w fun e w'=>∃ bad' rc',e=.returned (.bool (!bad'))∧(if inZ (lenZ zs) at' n=true then rc'=rc+n∧bad'=(bad || !decide (rc+n≤lenZ zs)) else bad'=true∧rc'=rc∧e=.returned (.bool false))∧RdSt w' rk sv ev root bp bc zs rc' bad'∧Exw rk rk w.heap.size w w':=by
 have hz:lenZ zs=(zs.length:Int):=rfl
 have hlen:=h.len
 have HW:=Lib.hid (fun W=>rwithin_opt (zs.length:Int) at' n W (by omega) (by omega))
 obtain ⟨_,c0,c1,c2,c3,c4,c5⟩:=blk6 h.blk
 have f5:=blk_frozen h.blk 5
 have f4:=blk_frozen h.blk 4
 have H0:=Lib.hid h
 by_cases hin:inZ (lenZ zs) at' n=true
 · have h1:=inZ_iff.1 hin
   rw [hz] at h1
   have hw1:=IntWalk.i64_in (rc+n) ⟨by omega,by omega⟩
   have HX:=Lib.hid ((Exw.refl rk rk w.heap.size w).setCell (p:=⟨rk,4,none⟩) (.inl rfl) (.int .i64 (rc+n)))
   have HS:=Lib.hid (h.keep (bad':=bad) hv HX.out ((blk_set h.blk 4 (.int .i64 (rc+n))).trans rfl))
   have HV:=Lib.hid hv
   simp only [if_pos hin]
   rw [←hz,hin] at HW
   rw [hz] at HW
   obtain ⟨P,hP⟩:∃ P,(fun (e:Ending) (w':World)=>∃ bad' rc',e=.returned (.bool (!bad'))∧(rc'=rc+n∧bad'=(bad || !decide (rc+n≤lenZ zs)))∧RdSt w' rk sv ev root bp bc zs rc' bad'∧Exw rk rk w.heap.size w w')=P:=⟨_,rfl⟩
   rw [hP]
   have HP:=Lib.hid hP.symm
   obtain ⟨r2,hr2⟩:∃ r2,rc+n=r2:=⟨_,rfl⟩
   rw [hr2] at hw1 HX HS HP
   clear hP hin h hv
   go_enter Tryd.func105,Tryd.ntmps105
   go_wp2_with fail
   refine (HW.out _).mono ?_
   rintro e _ ⟨rfl,rfl⟩
   go_upto_region 5 with (fail)
   clear c0 c1 c2 c3 c4 c5 f4 f5
   generalize w.setCell ⟨rk,4,none⟩ (.int .i64 r2)=W1 at *
   obtain ⟨_,c0,c1,c2,c3,c4,c5⟩:=blk6 HS.out.blk
   have f5:=blk_frozen HS.out.blk 5
   obtain ⟨gt,hgt⟩:∃ gt,decide ((zs.length:Int)<r2)=gt:=⟨_,rfl⟩
   have HGT:=Lib.hid hgt
   have s0:=c4
   have s1:=c3
   clear c0 c1 c2 c3 c4 c5 f5
   refine wp_region_noPanic ?_
   refine wp_region_held_drew (S:=(fun w'=>w'.cell? ⟨rk,4,none⟩=some (.int .i64 r2)∧w'.cell? ⟨rk,3,none⟩=some (.slice bp zs.length bc))) (by kernel_rfl) ⟨s0,s1⟩ ?_
   intro hS
   refine tk 0 (.pointer (some ⟨rk,0,none⟩)) hS ?_ ?_
   · rintro w' ⟨s0,s1⟩
     go_simp
   simp only [td]
   refine tk 1 (.pointer (some ⟨rk,0,none⟩)) hS ?_ ?_
   · rintro w' ⟨s0,s1⟩
     go_simp
   simp only [td]
   refine tk 2 (.pointer (some ⟨rk,4,none⟩)) hS ?_ ?_
   · rintro w' ⟨s0,s1⟩
     go_simp
   simp only [td]
   refine tk 3 (.int .i64 r2) hS ?_ ?_
   · rintro w' ⟨s0,s1⟩
     go_simp
   simp only [td]
   refine tk 4 (.pointer (some ⟨rk,0,none⟩)) hS ?_ ?_
   · rintro w' ⟨s0,s1⟩
     go_simp
   simp only [td]
   refine tk 5 (.pointer (some ⟨rk,0,none⟩)) hS ?_ ?_
   · rintro w' ⟨s0,s1⟩
     go_simp
   simp only [td]
   refine tk 6 (.pointer (some ⟨rk,3,none⟩)) hS ?_ ?_
   · rintro w' ⟨s0,s1⟩
     go_simp
   simp only [td]
   refine tk 7 (.slice bp zs.length bc) hS ?_ ?_
   · rintro w' ⟨s0,s1⟩
     go_simp
   simp only [td]
   refine tk 8 (.int .i64 zs.length) hS ?_ ?_
   · rintro w' ⟨s0,s1⟩
     go_simp
   simp only [td]
   refine tk 9 (.bool gt) hS ?_ ?_
   · rintro w' ⟨s0,s1⟩
     go_simp
     try rw [hgt]
   simp only [td]
   refine wpAnyH_done (by kernel_rfl) ?_ _
   refine NoPanic.normal ?_
   try simp only [Exit.then]
   clear hS s0 s1
   have HSD:=Lib.hid (HS.out.below (Below.refl _ W1).drew)
   have HXD:=Lib.hid (HX.out.drew)
   generalize W1.drew=W2 at *
   obtain ⟨_,c0,c1,c2,c3,c4,c5⟩:=blk6 HSD.out.blk
   have f5:=blk_frozen HSD.out.blk 5
   have HX2:=Lib.hid ((Exw.refl rk rk W2.heap.size W2).setCell (p:=⟨rk,5,none⟩) (.inl rfl) (.bool true))
   have HS2:=Lib.hid (HSD.out.keep HV.out HX2.out ((blk_set HSD.out.blk 5 (.bool true)).trans rfl))
   clear hgt
   cases gt with
   | false =>
    have HLE:Hid (r2≤lenZ zs):=Lib.hid (by have h3:=of_decide_eq_false HGT.out;rw [hz];omega)
    cases bad with
    | false =>
     go_wp2
     rw [HP.out]
     exact ⟨false,r2,rfl,⟨rfl,by rw [decide_eq_true HLE.out];rfl⟩,HSD.out,HXD.out⟩
    | true =>
     go_wp2
     rw [HP.out]
     exact ⟨true,r2,rfl,⟨rfl,rfl⟩,HSD.out,HXD.out⟩
   | true =>
    have HLE:Hid (lenZ zs<r2):=Lib.hid (by have h3:=of_decide_eq_true HGT.out;rw [hz];omega)
    go_wp2
    rw [HP.out]
    exact ⟨true,r2,rfl,⟨rfl,by rw [decide_eq_false (Int.not_le.2 HLE.out)];cases bad<;>rfl⟩,HS2.out,HXD.out.trans (HX2.out.mono HXD.out.size)⟩
 · have HX:=Lib.hid ((Exw.refl rk rk w.heap.size w).setCell (p:=⟨rk,5,none⟩) (.inl rfl) (.bool true))
   have HS:=Lib.hid (h.keep hv HX.out ((blk_set h.blk 5 (.bool true)).trans rfl))
   simp only [if_neg hin]
   rw [←hz,Bool.not_eq_true _ |>.mp hin] at HW
   rw [hz] at HW
   clear hin h hv
   go_enter Tryd.func105,Tryd.ntmps105
   go_wp2_with fail
   refine (HW.out _).mono ?_
   rintro e _ ⟨rfl,rfl⟩
   go_wp2
   go_ret
   exact ⟨true,rc,rfl,⟨rfl,rfl,rfl⟩,HS.out,HX.out⟩
end Go.Proofs.YtcfjjocmiheiaaaDoor
namespace Go.Proofs.YtcfjjocmiheiaaaDoor
open Go.ChangeShapes Go.WideShapes Go.ChangeAt Go.RowKit Go.Shelf
def VForm (val:Value):Prop:=∃ (n:Int) (ba:Option Addr) (bl bc:Nat) (ka:Option Addr) (kl kc:Nat) (h:Bool),val=.agg #[.int .u64 n,.slice ba bl bc,.slice ka kl kc,.bool h]
theorem vform (n:Int)(ba:Option Addr)(bl bc:Nat)(ka:Option Addr)(kl kc:Nat)(h:Bool):VForm (.agg #[.int .u64 n,.slice ba bl bc,.slice ka kl kc,.bool h]):=⟨n,ba,bl,bc,ka,kl,kc,h,rfl⟩
def RdPost (res:Option (PV × Int))(w:World)(rk:Nat)(sv ev:Value)(root:Int)(bp:Option Addr)(bc:Nat)(zs:List Int)(e:Ending)(w':World):Prop:=
 Exw rk rk w.heap.size w w' ∧
 ((∃ v l' val,res=some (v,l')∧(0≤l'∧l'≤lenZ zs)∧e=.returned val∧VH (newS w.heap.size) w' v val∧RdSt w' rk sv ev root bp bc zs (lenZ zs-l') false) ∨
  (res=none∧(∃ val,e=.returned val∧VForm val)∧∃ rc,0≤rc∧rc≤1000000000000∧RdSt w' rk sv ev root bp bc zs rc true))
set_option maxRecDepth 100000 in
set_option maxHeartbeats 8000000 in
theorem rdval_out (w:World){rk:Nat}{sv ev:Value}{root:Int}{bp:Option Addr}{bc:Nat}{zs:List Int}{left:Int}(h:RdSt w rk sv ev root bp bc zs (lenZ zs-left) false)(hv:RowV sv∧RowV ev)(hl:0≤left∧left≤lenZ zs)(es:List SCho)(k r:Nat)(at' dp:Int)(hk:0<kSize k)(hk255:k≤10)(hout:inZ (lenZ zs) at' (kSize k)=false) :
  Calls Tryd.prog 106 #[.pointer (some ⟨rk,0,none⟩),.agg #[.int .u8 k,.int .i64 r,.int .i64 0],.int .i64 at',.int .i64 dp] w (RdPost (numZ es zs k r at' left) w rk sv ev root bp bc zs):=by
 obtain ⟨hb,hq1,hq2⟩:=two_start w #[.int .u8 k,.int .i64 r,.int .i64 0] #[.int .u64 0,.slice none 0 0,.slice none 0 0,.bool false] 50 36
 have HB:=Lib.hid hb
 have HQ1:=Lib.hid hq1
 have HQ2:=Lib.hid hq2
 have H0:=Lib.hid (h.below hb)
 have HV:=Lib.hid hv
 have HH0:=Lib.hid h
 have HLE:Hid (zs.length≤16384):=Lib.hid h.len
 have HRK:Hid (rk<w.heap.size):=Lib.hid (blk_lt h.blk)
 have HRES:Hid (numZ es zs k r at' left=none):=Lib.hid (by unfold numZ;rw [hout,if_neg (by decide)])
 have HNT:Hid (∀ W,Calls Tryd.prog 38 #[.agg #[.int .u8 k,.int .i64 r,.int .i64 0]] W fun e w'=>e=.returned (.bool true)∧Below W.heap.size W w'):=Lib.hid (fun W=>by
  have h5:=rnumI_any k (by omega) r 0 W
  rw [show numTB k 0=true from by unfold numTB;rw [decide_eq_true hk];rfl] at h5
  exact h5)
 have HWI:=Lib.hid (fun W=>(by have h5:=rwithin_opt (zs.length:Int) at' (kSize k) W (by omega) (by have:=h.len;omega);rw [show inZ (zs.length:Int) at' (kSize k)=false from hout] at h5;exact h5:Calls Tryd.prog 131 #[.int .i64 (zs.length:Int),.int .i64 at',.int .i64 (kSize k)] W fun e w'=>e=.returned (.bool false)∧W=w'))
 have HSZ:=Lib.hid (fun W=>rsize_any k W)
 have HLL:Hid (0≤lenZ zs-left∧lenZ zs-left≤1000000000000):=Lib.hid (by have:=h.len;unfold lenZ at *;omega)
 have hw8:=IntWalk.i64_in (k:Int) ⟨by omega,by omega⟩
 obtain ⟨P,hP⟩:∃ P,RdPost (numZ es zs k r at' left) w rk sv ev root bp bc zs=P:=⟨_,rfl⟩
 rw [hP]
 have HP:=Lib.hid hP.symm
 clear hb hq1 hq2 h hv hP hout hl
 generalize lenZ zs-left=rc at *
 generalize kSize k=sz at *
 go_enter Tryd.func106,Tryd.ntmps106
 go_upto_region 1 with (fail)
 generalize (w.alloc (.cells #[.int .u8 k,.int .i64 r,.int .i64 0] 50)).alloc (.cells #[.int .u64 0,.slice none 0 0,.slice none 0 0,.bool false] 36)=W0 at *
 obtain ⟨_,c0,c1,c2,c3,c4,c5⟩:=blk6 H0.out.blk
 obtain ⟨_,s0,s1,s2,_⟩:=blk3 HQ1.out
 go_wp2_with fail
 refine (HNT.out _).mono ?_
 rintro e W1 ⟨rfl,hb1⟩
 have HB1:=Lib.hid (HB.out.trans (hb1.mono HB.out.size))
 have H1:=Lib.hid (H0.out.below hb1)
 have P1:=Lib.hid (blk_below HQ1.out hb1 (blk_lt HQ1.out))
 have P2:=Lib.hid (blk_below HQ2.out hb1 (blk_lt HQ2.out))
 clear hb1 c0 c1 c2 c3 c4 c5 s0 s1 s2
 obtain ⟨_,c0,c1,c2,c3,c4,c5⟩:=blk6 H1.out.blk
 have f5:=blk_frozen H1.out.blk 5
 obtain ⟨_,s0,s1,s2,_⟩:=blk3 P1.out
 go_wp2_with fail
 refine (HSZ.out _).mono ?_
 rintro e _ ⟨rfl,rfl⟩
 go_wp2_with fail
 refine (HWI.out _).mono ?_
 rintro e _ ⟨rfl,rfl⟩
 have HX2:=Lib.hid ((Exw.refl rk rk W1.heap.size W1).setCell (p:=⟨rk,5,none⟩) (.inl rfl) (.bool true))
 have HS2:=Lib.hid (H1.out.keep HV.out HX2.out ((blk_set H1.out.blk 5 (.bool true)).trans rfl))
 have P22:=Lib.hid (blk_set_ne P2.out (p:=⟨rk,5,none⟩) (by have:=HRK.out;show rk≠_;omega) (.bool true))
 go_upto_region 7 with (fail)
 clear c0 c1 c2 c3 c4 c5 f5 s0 s1 s2
 generalize W1.setCell ⟨rk,5,none⟩ (.bool true)=W2 at *
 obtain ⟨_,u0,u1,u2,u3⟩:=blk4p P22.out
 have p0:=blk_frozen P22.out 0
 have p1:=blk_frozen P22.out 1
 have p2:=blk_frozen P22.out 2
 have p3:=blk_frozen P22.out 3
 go_wp2
 refine post_gen (fun Wf=>Wf.heap[w.heap.size+1]?=some (.cells #[.int .u64 0,.slice none 0 0,.slice none 0 0,.bool false] 36 (0,0))∧P (.returned (.agg #[.int .u64 0,.slice none 0 0,.slice none 0 0,.bool false])) Wf) ⟨?_,?_⟩ ?_
 · exact blk_set4 P22.out _ _ _ _
 · rw [HP.out,HRES.out]
   have hx:Exw rk rk w.heap.size w W2:=(Exw.of_below HB1.out).trans (HX2.out.mono HB1.out.size)
   have hx4:=(((hx.setCell (p:=⟨w.heap.size+1,0,none⟩) (.inr (.inr (Nat.le_succ _))) (.int .u64 0)).setCell (p:=⟨w.heap.size+1,1,none⟩) (.inr (.inr (Nat.le_succ _))) (.slice none 0 0)).setCell (p:=⟨w.heap.size+1,2,none⟩) (.inr (.inr (Nat.le_succ _))) (.slice none 0 0)).setCell (p:=⟨w.heap.size+1,3,none⟩) (.inr (.inr (Nat.le_succ _))) (.bool false)
   exact ⟨hx4,.inr ⟨rfl,⟨_,rfl,vform _ _ _ _ _ _ _ _⟩,rc,HLL.out.1,HLL.out.2,HH0.out.keep HV.out hx4 ((set4_blk W2 (by have:=HRK.out;omega) _ _ _ _).trans HS2.out.blk)⟩⟩
 · rintro Wf ⟨e1,e2⟩
   obtain ⟨_,d0,d1,d2,d3⟩:=blk4p e1
   exact bodyPost_ret (v:=.agg #[.int .u64 0,.slice none 0 0,.slice none 0 0,.bool false]) (by simp [results,Tryd.results106,go_sem,d0,d1,d2,d3]) rfl e2
end Go.Proofs.YtcfjjocmiheiaaaDoor
