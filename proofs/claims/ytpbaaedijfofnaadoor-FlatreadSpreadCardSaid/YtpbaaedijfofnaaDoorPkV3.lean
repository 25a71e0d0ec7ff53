/-
  'Exw R S B w w'': below block B the world w' is as w was, but for the blocks R and S; what keeps that. Conditions: those that each theorem names.
-/
import Derived.Test.YtpbaaedijfofnaaDoorPkV2
import Derived.Test.YtpbaaedijfofnaaDoorPkV1
import Derived.Test.YtpbaaedijfofnaaDoorRows
import Derived.Shelf.Spec.DecodeRune
import Derived.Lib.LaidU8T
import Derived.KernelRfl
import Derived.WalkKit
import Derived.ProofKit
import Derived.OpenShut
import Derived.ShutString
import Derived.ChangeOld
import Derived.Below
import Derived.WalkLawsBesides
import Derived.WalkSpells
import Derived.Lib.Hide
import Derived.Outline
import Derived.Handy
namespace Go.Proofs.YtpbaaedijfofnaaDoor
open Go.RowKit Go.Lib
def dec7_ren:Go.Shelf.Ren:=⟨fun|32=>121 | 49=>141 | n=>n,fun|30=>22 | 21=>21 | 3=>3 | 0=>0 | 5=>5 | 4=>4 | 33=>219 | 66=>247 | 25=>50 | 69=>250 | 68=>249 | n=>n,fun|2=>2 | 3=>3 | n=>n⟩
theorem dec7:Go.Proofs.Lays7.n32 Tryd.prog dec7_ren:={
 mixed:=by kernel_rfl
 f32:=Tryd.func121.trans (congrArg some (by kernel_rfl))
 f49:=Tryd.func141.trans (congrArg some (by kernel_rfl))
 t0:=Tryd.underlying0
 a0:=Tryd.isAgg0
 z0:=Tryd.sizeOf0
 v0:=Tryd.zeroValue0
 i0:=by kernel_rfl
 t3:=Tryd.underlying3
 a3:=Tryd.isAgg3
 z3:=Tryd.sizeOf3
 v3:=Tryd.zeroValue3
 i3:=by kernel_rfl
 t4:=Tryd.underlying4
 a4:=Tryd.isAgg4
 z4:=Tryd.sizeOf4
 v4:=Tryd.zeroValue4
 i4:=by kernel_rfl
 t5:=Tryd.underlying5
 a5:=Tryd.isAgg5
 z5:=Tryd.sizeOf5
 v5:=Tryd.zeroValue5
 i5:=by kernel_rfl
 t21:=Tryd.underlying21
 a21:=Tryd.isAgg21
 z21:=Tryd.sizeOf21
 v21:=Tryd.zeroValue21
 i21:=by kernel_rfl
 t25:=Tryd.underlying50
 a25:=Tryd.isAgg50
 z25:=Tryd.sizeOf50
 v25:=Tryd.zeroValue50
 i25:=by kernel_rfl
 t30:=Tryd.underlying22
 a30:=Tryd.isAgg22
 z30:=Tryd.sizeOf22
 v30:=Tryd.zeroValue22
 i30:=by kernel_rfl
 t33:=Tryd.underlying219
 a33:=Tryd.isAgg219
 z33:=Tryd.sizeOf219
 v33:=Tryd.zeroValue219
 i33:=by kernel_rfl
 t66:=Tryd.underlying247
 a66:=Tryd.isAgg247
 z66:=Tryd.sizeOf247
 t68:=Tryd.underlying249
 a68:=Tryd.isAgg249
 z68:=Tryd.sizeOf249
 v68:=Tryd.zeroValue249
 i68:=by kernel_rfl
 t69:=Tryd.underlying250
 a69:=Tryd.isAgg250
 z69:=Tryd.sizeOf250
 v69:=Tryd.zeroValue250
 i69:=by kernel_rfl
 g2:=by kernel_rfl
 g3:=by kernel_rfl }
def Tabs (w:World):Prop:=Lib.Utf8Tabs 2 3 w
def tabs_ren:Go.Shelf.Ren:=⟨fun n=>n,fun|5=>5 | 119=>247 | 138=>249 | 139=>250 | n=>n,fun|3=>2 | 4=>3 | n=>n⟩
theorem u8types:U8Types Tryd.prog tabs_ren:={ t5:=Tryd.underlying5,t119:=Tryd.underlying247,t138:=Tryd.underlying249,t139:=Tryd.underlying250 }
theorem u8extra:U8Extra Tryd.prog tabs_ren:={ n3:=by kernel_rfl,n4:=by kernel_rfl,y3:=by kernel_rfl,y4:=by kernel_rfl,c5:=by kernel_rfl,c119:=by kernel_rfl,c138:=by kernel_rfl }
theorem first_is:Rows.laid_unicode_utf8_first=Lib.firstData:=by kernel_rfl
theorem accept_is:Rows.laid_unicode_utf8_acceptRanges (H:=Unit)=Lib.acceptData:=by kernel_rfl
theorem tabs_of_laid {W:World}(h:laidMetH Tryd.prog [("unicode/utf8.acceptRanges",Rows.laid_unicode_utf8_acceptRanges),("unicode/utf8.first",Rows.laid_unicode_utf8_first)] W):Tabs W:=by
 have h':laidMet Tryd.prog [("unicode/utf8.acceptRanges",Rows.laid_unicode_utf8_acceptRanges),("unicode/utf8.first",Rows.laid_unicode_utf8_first)] W:=h
 refine utf8Tabs_of_readsT u8types u8extra ?_ ?_
 · rw [←first_is];exact laidMet.reads h' (by simp)
 · rw [←accept_is];exact laidMet.reads h' (by simp)
theorem Tabs.sizes {w:World}(h:Tabs w):2 < w.heap.size∧3 < w.heap.size:=by
 constructor
 · exact World.block_lt_of_cell? _ _ (h.1 0 (by decide))
 · exact World.block_lt_of_cell? _ _ (h.2 0 (by decide)).1
theorem Tabs.below {w w':World}{B:Nat}(h:Tabs w)(hB:w.heap.size≤B)(hb:Below B w w'):Tabs w':=by
 obtain ⟨s0,s1⟩:=h.sizes
 refine ⟨fun c hc=>?_,fun i hi=>⟨?_,?_⟩⟩
 · exact (hb.cell (p:=⟨_,c,none⟩) (Nat.lt_of_lt_of_le s0 hB)).trans (h.1 c hc)
 · exact (hb.cell (p:=⟨_,2 * i,none⟩) (Nat.lt_of_lt_of_le s1 hB)).trans (h.2 i hi).1
 · exact (hb.cell (p:=⟨_,2 * i+1,none⟩) (Nat.lt_of_lt_of_le s1 hB)).trans (h.2 i hi).2
/-! ### the bytes of a list of numbers -/
def bytesOf (zs:List Int):ByteArray:=⟨(zs.map fun z=>UInt8.ofNat z.toNat).toArray⟩
theorem bytesOf_size (zs:List Int):(bytesOf zs).size=zs.length:=by simp [bytesOf,ByteArray.size]
theorem bytesOf_get (zs:List Int)(hb:∀ i,0≤zs.getD i 0∧zs.getD i 0≤255)(j:Nat)(hj:j<zs.length):(((bytesOf zs).get! j).toNat:Int)=zs.getD j 0:=by
 have h:=hb j
 have e:zs.getD j 0=zs[j]:=by simp [List.getD,hj]
 rw [e] at h ⊢
 have:(bytesOf zs).get! j=UInt8.ofNat zs[j].toNat:=by
  simp [bytesOf,ByteArray.get!,hj]
 rw [this]
 simp only [UInt8.toNat_ofNat']
 omega
def dec (zs:List Int):Int × Int:=(((Lib.decodeGo (bytesOf zs)).1:Int),((Lib.decodeGo (bytesOf zs)).2:Int))
theorem dec_any (zs:List Int)(b off cap:Nat)(w:World)(hT:Tabs w)(hc:∀ i,i<zs.length→w.cell? ⟨b,off+i,none⟩=some (.int .u8 (zs.getD i 0)))(hb:∀ i,0≤zs.getD i 0∧zs.getD i 0≤255) :
  Calls Tryd.prog 121 #[.slice (some ⟨b,off,none⟩) zs.length cap] w fun e w'=>e=.returned (.tuple #[.int .i32 (dec zs).1,.int .i64 (dec zs).2])∧Below w.heap.size w w':=by
 have h:=Any7.utf8_DecodeRune dec7 (bytesOf zs) b off cap w hT (fun j hj=>by
  have hj':j<zs.length:=by rw [bytesOf_size] at hj;exact hj
  rw [hc j hj',bytesOf_get zs hb j hj'])
 rw [bytesOf_size] at h
 exact h
theorem decodeN_width (n b0 b1 b2 b3:Nat)(hn:0<n):1≤(Lib.decodeN n b0 b1 b2 b3).2∧(Lib.decodeN n b0 b1 b2 b3).2≤4∧(Lib.decodeN n b0 b1 b2 b3).2≤n:=by
 unfold Lib.decodeN
 repeat' split
 all_goals (simp only;omega)
theorem dec_width (zs:List Int)(h:0<zs.length):1≤(dec zs).2∧(dec zs).2≤4∧(dec zs).2≤zs.length:=by
 have e:Lib.decodeGo (bytesOf zs)=Utf8.decode (bytesOf zs) 0:=by
  unfold Lib.decodeGo
  rw [if_neg (by rw [bytesOf_size];omega)]
 unfold dec
 rw [e,Lib.decode_at,bytesOf_size]
 have:=decodeN_width (zs.length-0) ((bytesOf zs).get! 0).toNat ((bytesOf zs).get! (0+1)).toNat ((bytesOf zs).get! (0+2)).toNat ((bytesOf zs).get! (0+3)).toNat (by omega)
 simp only
 omega
end Go.Proofs.YtpbaaedijfofnaaDoor
namespace Go.Proofs.YtpbaaedijfofnaaDoor
open Go.ChangeShapes Go.WideShapes Go.ChangeAt Go.RowKit
def u8From (zs:List Int):Nat→Nat→Int
 | 0,_ => -1
 | fuel+1,i=>if i<zs.length then (if (dec (zs.drop i)).1=65533∧(dec (zs.drop i)).2=1 then (i:Int) else u8From zs fuel (i+(dec (zs.drop i)).2.toNat)) else -1
def u8At (zs:List Int)(i:Nat):Int:=u8From zs (zs.length+1) i
theorem u8From_fuel (zs:List Int):∀ (f g i:Nat),zs.length<f+i→zs.length<g+i→u8From zs f i=u8From zs g i
 | 0,0,_,_,_=>rfl
 | 0,g+1,i,hf,_=>by simp only [u8From];rw [if_neg (by omega)]
 | f+1,0,i,_,hg=>by simp only [u8From];rw [if_neg (by omega)]
 | f+1,g+1,i,hf,hg=>by
  simp only [u8From]
  by_cases h:i<zs.length
  · have hw:=dec_width (zs.drop i) (by simp;omega)
    rw [if_pos h,if_pos h,u8From_fuel zs f g (i+(dec (zs.drop i)).2.toNat) (by omega) (by omega)]
  · rw [if_neg h,if_neg h]
theorem u8At_end (zs:List Int)(i:Nat)(h:zs.length≤i):u8At zs i = -1:=by
 unfold u8At u8From
 rw [if_neg (by omega)]
theorem u8At_bad (zs:List Int)(i:Nat)(h:i<zs.length)(h1:(dec (zs.drop i)).1=65533)(h2:(dec (zs.drop i)).2=1):u8At zs i=i:=by
 unfold u8At u8From
 rw [if_pos h,if_pos ⟨h1,h2⟩]
theorem u8At_good (zs:List Int)(i:Nat)(h:i<zs.length)(h1:¬((dec (zs.drop i)).1=65533∧(dec (zs.drop i)).2=1)):u8At zs i=u8At zs (i+(dec (zs.drop i)).2.toNat):=by
 have hw:=dec_width (zs.drop i) (by simp;omega)
 conv=>lhs;unfold u8At u8From
 rw [if_pos h,if_neg h1]
 exact u8From_fuel zs _ _ _ (by omega) (by omega)
theorem dec_at (zs:List Int)(i:Nat)(b off cap:Nat)(w:World)(hT:Tabs w)(hc:∀ i,i<zs.length→w.cell? ⟨b,off+i,none⟩=some (.int .u8 (zs.getD i 0)))(hb:∀ i,0≤zs.getD i 0∧zs.getD i 0≤255) :
  Calls Tryd.prog 121 #[.slice (some ⟨b,off+i,none⟩) (zs.length-i) cap] w fun e w'=>e=.returned (.tuple #[.int .i32 (dec (zs.drop i)).1,.int .i64 (dec (zs.drop i)).2])∧Below w.heap.size w w':=by
 have h:=dec_any (zs.drop i) b (off+i) cap w hT (fun j hj=>by
  have:=hc (i+j) (by simp at hj;omega)
  rw [Nat.add_assoc,this]
  simp [List.getD]) (fun j=>by
  have:=hb (i+j)
  simpa [List.getD] using this)
 simp only [List.length_drop] at h
 exact h
theorem wutf8_some (b off cap:Nat)(zs:List Int)(w:World)(hT:Tabs w)(hb:∀ i,0≤zs.getD i 0∧zs.getD i 0≤255)(hlt:zs≠[]→b<w.heap.size)(hc:∀ i,i<zs.length→w.cell? ⟨b,off+i,none⟩=some (.int .u8 (zs.getD i 0)))
  (hl:(zs.length:Int)≤9223372036854775807) (hcap:zs.length≤cap) :
  Calls Tryd.prog 87 #[.slice (some ⟨b,off,none⟩) zs.length cap] w fun e w'=>e=.returned (.int .i64 (u8At zs 0))∧Below w.heap.size w w':=by
 obtain ⟨n,hn⟩:∃ n,n=zs.length:=⟨_,rfl⟩
 have HN:=Lib.hid hn
 have HP:=Lib.hid hc
 have HB:=Lib.hid hb
 have HL:=Lib.hid hlt
 have HT:=Lib.hid hT
 rw [←hn] at hl hcap ⊢
 clear hc hb hn hlt hT
 go_enter Tryd.func87,Tryd.ntmps87
 go_wp2
 go_loopw [3,9] (fun x i wr=>Below w.heap.size w wr∧∃ k j:Nat,k≤j∧j≤n∧i=.int .i64 k∧x=.int .i64 j∧u8At zs 0=u8At zs j) (fun _ i _=>n-(intOf i).toNat)
 case atStart=>exact ⟨Below.refl _ _,0,0,Nat.le_refl _,Nat.zero_le _,rfl,rfl,rfl⟩
 case round =>
  obtain ⟨hbel,k,j,hkj,hjn,rfl,rfl,hans⟩:=hrel
  have HA:=Lib.hid hans
  clear hans
  by_cases hlt:k<n
  · by_cases hkj':k<j
    · go_wp2
      go_roundw
      case rel=>exact ⟨hbel,k+1,j,by omega,hjn,by go_num,rfl,HA.out⟩
      case measure=>simp [intOf];omega
    · obtain rfl:k=j:=by omega
      have hk:k<zs.length:=by rw [←HN.out];exact hlt
      have hw:=dec_width (zs.drop k) (by simp;omega)
      have hbs:b<w.heap.size:=HL.out (by intro h;rw [h] at hk;simp at hk)
      have D:=dec_at zs k b off (cap-k) _ (HT.out.below (Nat.le_refl _) hbel) (fun i hi=>(hbel.cell (p:=⟨b,off+i,none⟩) hbs).trans (HP.out i hi)) HB.out
      rw [←HN.out] at D
      have hbad:=u8At_bad zs k hk
      have hgood:=u8At_good zs k hk
      have hw3:(dec (zs.drop k)).2≤n-k:=by have h2:=hw.2.2;have h3:=HN.out;simp at h2;omega
      clear hk hbs
      generalize (dec (zs.drop k)).1=R at D hbad hgood hw hw3
      generalize (dec (zs.drop k)).2=K at D hbad hgood hw hw3
      obtain ⟨hw1,hw2,_⟩:=hw
      by_cases hx:R=65533∧K=1
      · have E:=Lib.hid (hbad hx.1 hx.2)
        have t1:(R==65533)=true:=by simp [hx.1]
        have t2:(K==1)=true:=by simp [hx.2]
        have HD:=Lib.hid D
        clear hbad hgood hx D
        go_wp2_with (go_at_call 121;refine HD.out.mono ?_;rintro e w1 ⟨rfl,hb1⟩)
        go_ret
        exact ⟨ret_int (by rw [HA.out,E.out]),hbel.trans (hb1.mono hbel.size)⟩
      · have E:=Lib.hid (hgood hx)
        have HD:=Lib.hid D
        have HA2:Hid (u8At zs 0=u8At zs (k+K.toNat)):=HA.out.trans E.out
        clear hbad hgood D E HA
        by_cases hr:R=65533
        · have t1:(R==65533)=true:=by simp [hr]
          have t2:(K==1)=false:=by simp;exact fun h=>hx ⟨hr,h⟩
          clear hx hr
          go_wp2_with (go_at_call 121;refine HD.out.mono ?_;rintro e w1 ⟨rfl,hb1⟩)
          go_roundw
          case rel=>exact ⟨hbel.trans (hb1.mono hbel.size),k+1,k+K.toNat,by omega,by omega,by go_num,by rw [show ((k+K.toNat:Nat):Int)=k+K from by omega],HA2.out⟩
          case measure=>simp [intOf];omega
        · have t1:(R==65533)=false:=by simp [hr]
          clear hx hr
          go_wp2_with (go_at_call 121;refine HD.out.mono ?_;rintro e w1 ⟨rfl,hb1⟩)
          go_roundw
          case rel=>exact ⟨hbel.trans (hb1.mono hbel.size),k+1,k+K.toNat,by omega,by omega,by go_num,by rw [show ((k+K.toNat:Nat):Int)=k+K from by omega],HA2.out⟩
          case measure=>simp [intOf];omega
  · go_wp2
    go_ret
    have hj:j=n:=by omega
    exact ⟨ret_int (by rw [HA.out,u8At_end _ _ (by rw [hj,HN.out];exact Nat.le_refl _)]),hbel⟩
theorem wutf8_none (p:Option Addr)(cap:Nat)(w:World) :
  Calls Tryd.prog 87 #[.slice p 0 cap] w fun e w'=>e=.returned (.int .i64 (-1))∧w=w':=by
 go_enter Tryd.func87,Tryd.ntmps87
 go_wp2
 go_loop [9] (fun i=>i=.int .i64 0) (fun _=>0)
 case atStart=>rfl
 case round =>
  subst hrel
  go_wp2
  go_ret
  exact ⟨rfl,rfl⟩
theorem wutf8_anyM (p:Option Addr)(cap:Nat)(zs:List Int)(w:World)(hT:Tabs w)(hz:Bytes w p zs)(hl:(zs.length:Int)≤9223372036854775807)(hcap:zs.length≤cap) :
  Calls Tryd.prog 87 #[.slice p zs.length cap] w fun e w'=>e=.returned (.int .i64 (u8At zs 0))∧Below w.heap.size w w':=by
 by_cases hne:zs=[]
 · subst hne
   exact (wutf8_none p cap w).mono fun e w' h=>⟨h.1,by rw [←h.2];exact Below.refl _ _⟩
 · obtain ⟨b,off,rfl,hlt,hc⟩:=hz.2 hne
   exact wutf8_some b off cap zs w hT hz.1 (fun _=>hlt) hc hl hcap
theorem wutf8_gen (p:Option Addr)(cap n:Nat)(zs:List Int)(w:World)(hT:Tabs w)(hz:Bytes w p zs)(hn:zs.length=n)(hl:(n:Int)≤9223372036854775807)(hcap:n≤cap) :
  Calls Tryd.prog 87 #[.slice p n cap] w fun e w'=>e=.returned (.int .i64 (u8At zs 0))∧Below w.heap.size w w':=by
 subst hn
 exact wutf8_anyM _ cap zs w hT hz hl hcap
end Go.Proofs.YtpbaaedijfofnaaDoor
namespace Go.Proofs.YtpbaaedijfofnaaDoor
open Go.ChangeShapes Go.WideShapes Go.ChangeAt Go.RowKit
theorem wsize_any (n:Int)(w:World) :
  Calls Tryd.prog 57 #[.int .u8 n] w fun e w'=>e=.returned (.int .i64 (kSize n))∧w=w':=by
 by_cases h:n<1∨10<n
 · have H:=Lib.hid (kSize_else n h)
   have b1:(n==1)=false:=by simp;omega
   have b2:(n==2)=false:=by simp;omega
   have b3:(n==3)=false:=by simp;omega
   have b4:(n==4)=false:=by simp;omega
   have b5:(n==5)=false:=by simp;omega
   have b6:(n==6)=false:=by simp;omega
   have b7:(n==7)=false:=by simp;omega
   have b8:(n==8)=false:=by simp;omega
   have b9:(n==9)=false:=by simp;omega
   have b10:(n==10)=false:=by simp;omega
   clear h
   rw [H.out]
   go_enter Tryd.func57,Tryd.ntmps57
   go_wp2
   go_ret
   exact ⟨rfl,rfl⟩
 · have h':n=1∨n=2∨n=3∨n=4∨n=5∨n=6∨n=7∨n=8∨n=9∨n=10:=by omega
   clear h
   rcases h' with rfl|rfl|rfl|rfl|rfl|rfl|rfl|rfl|rfl|rfl
   all_goals
    go_enter Tryd.func57,Tryd.ntmps57
    go_wp2
    go_ret
    exact ⟨ret_int (by decide),rfl⟩
end Go.Proofs.YtpbaaedijfofnaaDoor
namespace Go.Proofs.YtpbaaedijfofnaaDoor
open Go.ChangeShapes Go.WideShapes Go.ChangeAt Go.RowKit
theorem wsign_any (n:Int)(w:World) :
  Calls Tryd.prog 119 #[.int .u8 n] w fun e w'=>e=.returned (.bool (kSign n))∧w=w':=by
 by_cases h1:2≤n
 · by_cases h2:n≤5
   · rw [show kSign n=true from decide_eq_true ⟨h1,h2⟩]
     go_enter Tryd.func119,Tryd.ntmps119
     go_wp2
     go_ret
     exact ⟨rfl,rfl⟩
   · rw [show kSign n=false from decide_eq_false (fun h=>h2 h.2)]
     go_enter Tryd.func119,Tryd.ntmps119
     go_wp2
     go_ret
     exact ⟨rfl,rfl⟩
 · rw [show kSign n=false from decide_eq_false (fun h=>h1 h.1)]
   go_enter Tryd.func119,Tryd.ntmps119
   go_wp2
   go_ret
   exact ⟨rfl,rfl⟩
end Go.Proofs.YtpbaaedijfofnaaDoor
namespace Go.Proofs.YtpbaaedijfofnaaDoor
open Go.ChangeShapes Go.WideShapes Go.ChangeAt Go.RowKit
theorem wsigned_any (n s:Int)(w:World) :
  Calls Tryd.prog 120 #[.int .u64 n,.int .i64 s] w fun e w'=>e=.returned (.int .u64 (sgnOf n s))∧w=w':=by
 by_cases e1:s=1
 · subst e1
   have E:IntKind.u64.wrap (IntKind.i8.wrap n)=sgnOf n 1:=by
    rw [sgnOf_1]
    split<;>(simp only [IntKind.wrap,IntKind.bits,IntKind.signed];simp;omega)
   have H:=Lib.hid E
   clear E
   go_enter Tryd.func120,Tryd.ntmps120
   go_wp2
   go_ret
   exact ⟨ret_int H.out,rfl⟩
 by_cases e2:s=2
 · subst e2
   have E:IntKind.u64.wrap (IntKind.i16.wrap n)=sgnOf n 2:=by
    rw [sgnOf_2]
    split<;>(simp only [IntKind.wrap,IntKind.bits,IntKind.signed];simp;omega)
   have H:=Lib.hid E
   clear E
   go_enter Tryd.func120,Tryd.ntmps120
   go_wp2
   go_ret
   exact ⟨ret_int H.out,rfl⟩
 by_cases e4:s=4
 · subst e4
   have E:IntKind.u64.wrap (wrap32 n)=sgnOf n 4:=by
    rw [sgnOf_4,←IntWalk.i32_left]
    split<;>(simp only [IntKind.wrap,IntKind.bits,IntKind.signed];simp;omega)
   have H:=Lib.hid E
   clear E
   go_enter Tryd.func120,Tryd.ntmps120
   go_wp2
   go_ret
   exact ⟨ret_int H.out,rfl⟩
 have H:=Lib.hid (sgnOf_else n s e1 e2 e4)
 have hs1:(s==1)=false:=by simp;omega
 have hs2:(s==2)=false:=by simp;omega
 have hs4:(s==4)=false:=by simp;omega
 clear e1 e2 e4
 rw [H.out]
 go_enter Tryd.func120,Tryd.ntmps120
 go_wp2
 go_ret
 exact ⟨rfl,rfl⟩
end Go.Proofs.YtpbaaedijfofnaaDoor
namespace Go.Proofs.YtpbaaedijfofnaaDoor
open Go.ChangeShapes Go.WideShapes Go.ChangeAt Go.RowKit
def PartIs (g off a n:Nat)(e:Ending):Prop:=∃ o,e=.returned (.tuple #[.slice (some ⟨g,o,none⟩) n n,.bool true])∧(0<n→o=off+a)
theorem ret_part {g o m m':Nat}(h:m=m'):Ending.returned (.tuple #[.slice (some ⟨g,o,none⟩) m m,.bool true])=.returned (.tuple #[.slice (some ⟨g,o,none⟩) m' m',.bool true]):=by rw [h]
theorem part_yes (g off len cap:Nat)(a n:Int)(w:World)(hl:(len:Int)≤9223372036854775807)(hcap:len≤cap)(h0:0≤a)(h1:0≤n)(h2:a≤len)(h3:n≤len-a) :
  Calls Tryd.prog 154 #[.slice (some ⟨g,off,none⟩) len cap,.int .i64 a,.int .i64 n] w fun e w'=>PartIs g off a.toNat n.toNat e∧w=w':=by
 have e1:(a+n).toNat-a.toNat=n.toNat:=by omega
 have E:=Lib.hid e1
 clear e1
 go_enter Tryd.func154,Tryd.ntmps154
 go_wp2_with (go_at_call 93;refine (next_yes a n len _ h0 h1 h2 h3 hl).mono ?_;rintro e w' ⟨rfl,rfl⟩)
 · go_ret2
   exact ⟨⟨_,ret_part (show 0=n.toNat by omega),fun hn=>by omega⟩,rfl⟩
 · go_ret2
   exact ⟨⟨_,ret_part E.out,fun _=>rfl⟩,rfl⟩
theorem part_no (p:Option Addr)(len cap:Nat)(a n:Int)(w:World)(hl:(len:Int)≤9223372036854775807)(h:a<0∨n<0∨(len:Int)<a∨len-a<n) :
  Calls Tryd.prog 154 #[.slice p len cap,.int .i64 a,.int .i64 n] w fun e w'=>e=.returned (.tuple #[.slice none 0 0,.bool false])∧w=w':=by
 go_enter Tryd.func154,Tryd.ntmps154
 go_wp2_with (go_at_call 93;refine (next_no a n len _ h hl).mono ?_;rintro e w' ⟨rfl,rfl⟩)
 go_ret2
 exact ⟨rfl,rfl⟩
end Go.Proofs.YtpbaaedijfofnaaDoor
namespace Go.Proofs.YtpbaaedijfofnaaDoor
open Go.ChangeShapes Go.WideShapes Go.ChangeAt Go.RowKit
structure Exw (R S B:Nat)(w w':World):Prop where
 os:w'.os=w.os
 tape:w'.tape=w.tape
 output:w'.output=w.output
 size:w.heap.size≤w'.heap.size
 block:∀ k,k<B→k≠R→k≠S→w'.heap[k]?=w.heap[k]?
theorem Exw.refl (R S B:Nat)(w:World):Exw R S B w w:=⟨rfl,rfl,rfl,Nat.le_refl _,fun _ _ _ _=>rfl⟩
theorem Exw.trans {R S B:Nat}{a b c:World}(h:Exw R S B a b)(k:Exw R S B b c):Exw R S B a c:=
 ⟨k.os.trans h.os,k.tape.trans h.tape,k.output.trans h.output,Nat.le_trans h.size k.size,fun i hi h1 h2=>(k.block i hi h1 h2).trans (h.block i hi h1 h2)⟩
theorem Exw.mono {R S B B':Nat}{w w':World}(h:Exw R S B w w')(hB:B'≤B):Exw R S B' w w':=⟨h.os,h.tape,h.output,h.size,fun k hk h1 h2=>h.block k (Nat.lt_of_lt_of_le hk hB) h1 h2⟩
theorem Exw.of_below {R S B:Nat}{w w':World}(h:Below B w w'):Exw R S B w w':=⟨h.os,h.tape,h.output,h.size,fun k hk _ _=>h.block k hk⟩
theorem Exw.then {R S:Nat}{a b c:World}(h:Exw R S a.heap.size a b)(k:Exw R S b.heap.size b c):Exw R S a.heap.size a c:=h.trans (k.mono h.size)
theorem Exw.bel {R S:Nat}{a b c:World}(h:Exw R S a.heap.size a b)(k:Below b.heap.size b c):Exw R S a.heap.size a c:=h.then (.of_below k)
theorem Exw.after {R S:Nat}{a b c:World}(h:Below a.heap.size a b)(k:Exw R S b.heap.size b c):Exw R S a.heap.size a c:=(Exw.of_below h).then k
theorem Exw.setCell {R S B:Nat}{a w:World}(h:Exw R S B a w){p:Addr}(hp:p.block=R∨p.block=S∨B≤p.block)(u:Value):Exw R S B a (w.setCell p u):=
 ⟨h.os,h.tape,h.output,by rw [show (w.setCell p u).heap.size=w.heap.size by simp [World.setCell]];exact h.size,fun k hk h1 h2=>(Below.heap_setCell _ _ _ _ (by omega)).trans (h.block k hk h1 h2)⟩
theorem Exw.drew {R S B:Nat}{a w:World}(h:Exw R S B a w):Exw R S B a w.drew:=⟨h.os,h.tape,h.output,h.size,h.block⟩
theorem Exw.drewN {R S B:Nat}{a w:World}(h:Exw R S B a w)(n:Nat):Exw R S B a (w.drewN n):=h.trans ⟨rfl,rfl,rfl,Nat.le_refl _,fun _ _ _ _=>rfl⟩
theorem Exw.cell {R S B:Nat}{w w':World}(h:Exw R S B w w'){p:Addr}(hp:p.block<B)(h1:p.block≠R)(h2:p.block≠S):w'.cell? p=w.cell? p:=World.cell?_of_block (w:=w) (h.block p.block hp h1 h2)
theorem Exw.below {R S B:Nat}{w w':World}(h:Exw R S B w w')(hR:B≤R)(hS:B≤S):Below B w w':=⟨h.os,h.tape,h.output,h.size,fun k hk=>h.block k hk (by omega) (by omega)⟩
theorem cell_exw {R S:Nat}{w W:World}(h:Exw R S w.heap.size w W){p:Addr}{v:Value}(hp:w.cell? p=some v)(h1:p.block≠R)(h2:p.block≠S):W.cell? p=some v:=(h.cell (World.block_lt_of_cell? _ _ hp) h1 h2).trans hp
theorem blk_exw {R S B g:Nat}{w W:World}{o:Obj}(h:w.heap[g]?=some o)(hb:Exw R S B w W)(hg:g<B)(h1:g≠R)(h2:g≠S):W.heap[g]?=some o:=(hb.block g hg h1 h2).trans h
theorem Exw.ownsRow {R S:Nat}{w w':World}(h:Exw R S w.heap.size w w'){base:Nat}{e:TypeId}{size:Nat}{v:Value}{n:Nat}{xs:List Value}(ho:w.ownsRow base e size v n xs)(hR:v.ownBlock≠some R)(hS:v.ownBlock≠some S):w'.ownsRow base e size v n xs:=by
 obtain ⟨hl,h'⟩:=ho
 refine ⟨hl,?_⟩
 rcases h' with h1|⟨g,cap,cur,hv,hb,hg,hrest⟩
 · exact .inl h1
 · subst hv
   exact .inr ⟨g,cap,cur,rfl,hb,blk_exw hg h (blk_lt hg) (fun e=>hR (by rw [e];rfl)) (fun e=>hS (by rw [e];rfl)),hrest⟩
end Go.Proofs.YtpbaaedijfofnaaDoor
