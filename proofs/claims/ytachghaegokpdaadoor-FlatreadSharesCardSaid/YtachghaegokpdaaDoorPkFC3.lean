/-
  The hand's source of bytes: next. Conditions: those that each theorem names.
-/
import Derived.Test.YtachghaegokpdaaDoorPkFC1
import Derived.Test.YtachghaegokpdaaDoorRows
import Derived.Shelf.Spec.DecodeRune
import Derived.Lib.LaidU8T
import Derived.KernelRfl
import Derived.WalkKit
import Derived.ProofKit
import Derived.OpenShut
import Derived.ShutString
import Derived.ChangeOld
import Derived.Below
import Derived.WalkLawsBesides
import Derived.WalkSpells
import Derived.Lib.Hide
import Derived.Outline
import Derived.Handy
import Derived.Deep.Cut
import Derived.Deep.AppendLies
import Derived.OwnWalk
import Derived.BigQuiet
namespace Go.Proofs.YtachghaegokpdaaDoor
open Go.RowKit Go.Lib
def dec7_ren:Go.Shelf.Ren:=⟨fun|32=>90 | 49=>108 | n=>n,fun|30=>22 | 21=>21 | 3=>3 | 0=>0 | 5=>5 | 4=>4 | 33=>178 | 66=>203 | 25=>70 | 69=>206 | 68=>205 | n=>n,fun|2=>1 | 3=>2 | n=>n⟩
theorem dec7:Go.Proofs.Lays7.n32 Tryd.prog dec7_ren:={
 mixed:=by kernel_rfl
 f32:=Tryd.func90.trans (congrArg some (by kernel_rfl))
 f49:=Tryd.func108.trans (congrArg some (by kernel_rfl))
 t0:=Tryd.underlying0
 a0:=Tryd.isAgg0
 z0:=Tryd.sizeOf0
 v0:=Tryd.zeroValue0
 i0:=by kernel_rfl
 t3:=Tryd.underlying3
 a3:=Tryd.isAgg3
 z3:=Tryd.sizeOf3
 v3:=Tryd.zeroValue3
 i3:=by kernel_rfl
 t4:=Tryd.underlying4
 a4:=Tryd.isAgg4
 z4:=Tryd.sizeOf4
 v4:=Tryd.zeroValue4
 i4:=by kernel_rfl
 t5:=Tryd.underlying5
 a5:=Tryd.isAgg5
 z5:=Tryd.sizeOf5
 v5:=Tryd.zeroValue5
 i5:=by kernel_rfl
 t21:=Tryd.underlying21
 a21:=Tryd.isAgg21
 z21:=Tryd.sizeOf21
 v21:=Tryd.zeroValue21
 i21:=by kernel_rfl
 t25:=Tryd.underlying70
 a25:=Tryd.isAgg70
 z25:=Tryd.sizeOf70
 v25:=Tryd.zeroValue70
 i25:=by kernel_rfl
 t30:=Tryd.underlying22
 a30:=Tryd.isAgg22
 z30:=Tryd.sizeOf22
 v30:=Tryd.zeroValue22
 i30:=by kernel_rfl
 t33:=Tryd.underlying178
 a33:=Tryd.isAgg178
 z33:=Tryd.sizeOf178
 v33:=Tryd.zeroValue178
 i33:=by kernel_rfl
 t66:=Tryd.underlying203
 a66:=Tryd.isAgg203
 z66:=Tryd.sizeOf203
 t68:=Tryd.underlying205
 a68:=Tryd.isAgg205
 z68:=Tryd.sizeOf205
 v68:=Tryd.zeroValue205
 i68:=by kernel_rfl
 t69:=Tryd.underlying206
 a69:=Tryd.isAgg206
 z69:=Tryd.sizeOf206
 v69:=Tryd.zeroValue206
 i69:=by kernel_rfl
 g2:=by kernel_rfl
 g3:=by kernel_rfl }
def Tabs (w:World):Prop:=Lib.Utf8Tabs 1 2 w
def tabs_ren:Go.Shelf.Ren:=⟨fun n=>n,fun|5=>5 | 119=>203 | 138=>205 | 139=>206 | n=>n,fun|3=>1 | 4=>2 | n=>n⟩
theorem u8types:U8Types Tryd.prog tabs_ren:={ t5:=Tryd.underlying5,t119:=Tryd.underlying203,t138:=Tryd.underlying205,t139:=Tryd.underlying206 }
theorem u8extra:U8Extra Tryd.prog tabs_ren:={ n3:=by kernel_rfl,n4:=by kernel_rfl,y3:=by kernel_rfl,y4:=by kernel_rfl,c5:=by kernel_rfl,c119:=by kernel_rfl,c138:=by kernel_rfl }
theorem first_is:Rows.laid_unicode_utf8_first=Lib.firstData:=by kernel_rfl
theorem accept_is:Rows.laid_unicode_utf8_acceptRanges (H:=Unit)=Lib.acceptData:=by kernel_rfl
theorem tabs_of_laid {W:World}(h:laidMetH Tryd.prog [("unicode/utf8.acceptRanges",Rows.laid_unicode_utf8_acceptRanges),("unicode/utf8.first",Rows.laid_unicode_utf8_first)] W):Tabs W:=by
 have h':laidMet Tryd.prog [("unicode/utf8.acceptRanges",Rows.laid_unicode_utf8_acceptRanges),("unicode/utf8.first",Rows.laid_unicode_utf8_first)] W:=h
 refine utf8Tabs_of_readsT u8types u8extra ?_ ?_
 · rw [←first_is];exact laidMet.reads h' (by simp)
 · rw [←accept_is];exact laidMet.reads h' (by simp)
theorem Tabs.sizes {w:World}(h:Tabs w):1 < w.heap.size∧2 < w.heap.size:=by
 constructor
 · exact World.block_lt_of_cell? _ _ (h.1 0 (by decide))
 · exact World.block_lt_of_cell? _ _ (h.2 0 (by decide)).1
theorem Tabs.below {w w':World}{B:Nat}(h:Tabs w)(hB:w.heap.size≤B)(hb:Below B w w'):Tabs w':=by
 obtain ⟨s0,s1⟩:=h.sizes
 refine ⟨fun c hc=>?_,fun i hi=>⟨?_,?_⟩⟩
 · exact (hb.cell (p:=⟨_,c,none⟩) (Nat.lt_of_lt_of_le s0 hB)).trans (h.1 c hc)
 · exact (hb.cell (p:=⟨_,2 * i,none⟩) (Nat.lt_of_lt_of_le s1 hB)).trans (h.2 i hi).1
 · exact (hb.cell (p:=⟨_,2 * i+1,none⟩) (Nat.lt_of_lt_of_le s1 hB)).trans (h.2 i hi).2
/-! ### the bytes of a list of numbers -/
def bytesOf (zs:List Int):ByteArray:=⟨(zs.map fun z=>UInt8.ofNat z.toNat).toArray⟩
theorem bytesOf_size (zs:List Int):(bytesOf zs).size=zs.length:=by simp [bytesOf,ByteArray.size]
theorem bytesOf_get (zs:List Int)(hb:∀ i,0≤zs.getD i 0∧zs.getD i 0≤255)(j:Nat)(hj:j<zs.length):(((bytesOf zs).get! j).toNat:Int)=zs.getD j 0:=by
 have h:=hb j
 have e:zs.getD j 0=zs[j]:=by simp [List.getD,hj]
 rw [e] at h ⊢
 have:(bytesOf zs).get! j=UInt8.ofNat zs[j].toNat:=by
  simp [bytesOf,ByteArray.get!,hj]
 rw [this]
 simp only [UInt8.toNat_ofNat']
 omega
def dec (zs:List Int):Int × Int:=(((Lib.decodeGo (bytesOf zs)).1:Int),((Lib.decodeGo (bytesOf zs)).2:Int))
theorem dec_any (zs:List Int)(b off cap:Nat)(w:World)(hT:Tabs w)(hc:∀ i,i<zs.length→w.cell? ⟨b,off+i,none⟩=some (.int .u8 (zs.getD i 0)))(hb:∀ i,0≤zs.getD i 0∧zs.getD i 0≤255) :
  Calls Tryd.prog 90 #[.slice (some ⟨b,off,none⟩) zs.length cap] w fun e w'=>e=.returned (.tuple #[.int .i32 (dec zs).1,.int .i64 (dec zs).2])∧Below w.heap.size w w':=by
 have h:=Any7.utf8_DecodeRune dec7 (bytesOf zs) b off cap w hT (fun j hj=>by
  have hj':j<zs.length:=by rw [bytesOf_size] at hj;exact hj
  rw [hc j hj',bytesOf_get zs hb j hj'])
 rw [bytesOf_size] at h
 exact h
theorem decodeN_width (n b0 b1 b2 b3:Nat)(hn:0<n):1≤(Lib.decodeN n b0 b1 b2 b3).2∧(Lib.decodeN n b0 b1 b2 b3).2≤4∧(Lib.decodeN n b0 b1 b2 b3).2≤n:=by
 unfold Lib.decodeN
 repeat' split
 all_goals (simp only;omega)
theorem dec_width (zs:List Int)(h:0<zs.length):1≤(dec zs).2∧(dec zs).2≤4∧(dec zs).2≤zs.length:=by
 have e:Lib.decodeGo (bytesOf zs)=Utf8.decode (bytesOf zs) 0:=by
  unfold Lib.decodeGo
  rw [if_neg (by rw [bytesOf_size];omega)]
 unfold dec
 rw [e,Lib.decode_at,bytesOf_size]
 have:=decodeN_width (zs.length-0) ((bytesOf zs).get! 0).toNat ((bytesOf zs).get! (0+1)).toNat ((bytesOf zs).get! (0+2)).toNat ((bytesOf zs).get! (0+3)).toNat (by omega)
 simp only
 omega
end Go.Proofs.YtachghaegokpdaaDoor
namespace Go.Proofs.YtachghaegokpdaaDoor
open Go.ChangeShapes Go.WideShapes Go.ChangeAt Go.RowKit
def u8From (zs:List Int):Nat→Nat→Int
 | 0,_ => -1
 | fuel+1,i=>if i<zs.length then (if (dec (zs.drop i)).1=65533∧(dec (zs.drop i)).2=1 then (i:Int) else u8From zs fuel (i+(dec (zs.drop i)).2.toNat)) else -1
def u8At (zs:List Int)(i:Nat):Int:=u8From zs (zs.length+1) i
theorem u8From_fuel (zs:List Int):∀ (f g i:Nat),zs.length<f+i→zs.length<g+i→u8From zs f i=u8From zs g i
 | 0,0,_,_,_=>rfl
 | 0,g+1,i,hf,_=>by simp only [u8From];rw [if_neg (by omega)]
 | f+1,0,i,_,hg=>by simp only [u8From];rw [if_neg (by omega)]
 | f+1,g+1,i,hf,hg=>by
  simp only [u8From]
  by_cases h:i<zs.length
  · have hw:=dec_width (zs.drop i) (by simp;omega)
    rw [if_pos h,if_pos h,u8From_fuel zs f g (i+(dec (zs.drop i)).2.toNat) (by omega) (by omega)]
  · rw [if_neg h,if_neg h]
theorem u8At_end (zs:List Int)(i:Nat)(h:zs.length≤i):u8At zs i = -1:=by
 unfold u8At u8From
 rw [if_neg (by omega)]
theorem u8At_bad (zs:List Int)(i:Nat)(h:i<zs.length)(h1:(dec (zs.drop i)).1=65533)(h2:(dec (zs.drop i)).2=1):u8At zs i=i:=by
 unfold u8At u8From
 rw [if_pos h,if_pos ⟨h1,h2⟩]
theorem u8At_good (zs:List Int)(i:Nat)(h:i<zs.length)(h1:¬((dec (zs.drop i)).1=65533∧(dec (zs.drop i)).2=1)):u8At zs i=u8At zs (i+(dec (zs.drop i)).2.toNat):=by
 have hw:=dec_width (zs.drop i) (by simp;omega)
 conv=>lhs;unfold u8At u8From
 rw [if_pos h,if_neg h1]
 exact u8From_fuel zs _ _ _ (by omega) (by omega)
theorem dec_at (zs:List Int)(i:Nat)(b off cap:Nat)(w:World)(hT:Tabs w)(hc:∀ i,i<zs.length→w.cell? ⟨b,off+i,none⟩=some (.int .u8 (zs.getD i 0)))(hb:∀ i,0≤zs.getD i 0∧zs.getD i 0≤255) :
  Calls Tryd.prog 90 #[.slice (some ⟨b,off+i,none⟩) (zs.length-i) cap] w fun e w'=>e=.returned (.tuple #[.int .i32 (dec (zs.drop i)).1,.int .i64 (dec (zs.drop i)).2])∧Below w.heap.size w w':=by
 have h:=dec_any (zs.drop i) b (off+i) cap w hT (fun j hj=>by
  have:=hc (i+j) (by simp at hj;omega)
  rw [Nat.add_assoc,this]
  simp [List.getD]) (fun j=>by
  have:=hb (i+j)
  simpa [List.getD] using this)
 simp only [List.length_drop] at h
 exact h
theorem wutf8_some (b off cap:Nat)(zs:List Int)(w:World)(hT:Tabs w)(hb:∀ i,0≤zs.getD i 0∧zs.getD i 0≤255)(hlt:zs≠[]→b<w.heap.size)(hc:∀ i,i<zs.length→w.cell? ⟨b,off+i,none⟩=some (.int .u8 (zs.getD i 0)))
  (hl:(zs.length:Int)≤9223372036854775807) (hcap:zs.length≤cap) :
  Calls Tryd.prog 66 #[.slice (some ⟨b,off,none⟩) zs.length cap] w fun e w'=>e=.returned (.int .i64 (u8At zs 0))∧Below w.heap.size w w':=by
 obtain ⟨n,hn⟩:∃ n,n=zs.length:=⟨_,rfl⟩
 have HN:=Lib.hid hn
 have HP:=Lib.hid hc
 have HB:=Lib.hid hb
 have HL:=Lib.hid hlt
 have HT:=Lib.hid hT
 rw [←hn] at hl hcap ⊢
 clear hc hb hn hlt hT
 go_enter Tryd.func66,Tryd.ntmps66
 go_wp2
 go_loopw [3,9] (fun x i wr=>Below w.heap.size w wr∧∃ k j:Nat,k≤j∧j≤n∧i=.int .i64 k∧x=.int .i64 j∧u8At zs 0=u8At zs j) (fun _ i _=>n-(intOf i).toNat)
 case atStart=>exact ⟨Below.refl _ _,0,0,Nat.le_refl _,Nat.zero_le _,rfl,rfl,rfl⟩
 case round =>
  obtain ⟨hbel,k,j,hkj,hjn,rfl,rfl,hans⟩:=hrel
  have HA:=Lib.hid hans
  clear hans
  by_cases hlt:k<n
  · by_cases hkj':k<j
    · go_wp2
      go_roundw
      case rel=>exact ⟨hbel,k+1,j,by omega,hjn,by go_num,rfl,HA.out⟩
      case measure=>simp [intOf];omega
    · obtain rfl:k=j:=by omega
      have hk:k<zs.length:=by rw [←HN.out];exact hlt
      have hw:=dec_width (zs.drop k) (by simp;omega)
      have hbs:b<w.heap.size:=HL.out (by intro h;rw [h] at hk;simp at hk)
      have D:=dec_at zs k b off (cap-k) _ (HT.out.below (Nat.le_refl _) hbel) (fun i hi=>(hbel.cell (p:=⟨b,off+i,none⟩) hbs).trans (HP.out i hi)) HB.out
      rw [←HN.out] at D
      have hbad:=u8At_bad zs k hk
      have hgood:=u8At_good zs k hk
      have hw3:(dec (zs.drop k)).2≤n-k:=by have h2:=hw.2.2;have h3:=HN.out;simp at h2;omega
      clear hk hbs
      generalize (dec (zs.drop k)).1=R at D hbad hgood hw hw3
      generalize (dec (zs.drop k)).2=K at D hbad hgood hw hw3
      obtain ⟨hw1,hw2,_⟩:=hw
      by_cases hx:R=65533∧K=1
      · have E:=Lib.hid (hbad hx.1 hx.2)
        have t1:(R==65533)=true:=by simp [hx.1]
        have t2:(K==1)=true:=by simp [hx.2]
        have HD:=Lib.hid D
        clear hbad hgood hx D
        go_wp2_with (go_at_call 90;refine HD.out.mono ?_;rintro e w1 ⟨rfl,hb1⟩)
        go_ret
        exact ⟨ret_int (by rw [HA.out,E.out]),hbel.trans (hb1.mono hbel.size)⟩
      · have E:=Lib.hid (hgood hx)
        have HD:=Lib.hid D
        have HA2:Hid (u8At zs 0=u8At zs (k+K.toNat)):=HA.out.trans E.out
        clear hbad hgood D E HA
        by_cases hr:R=65533
        · have t1:(R==65533)=true:=by simp [hr]
          have t2:(K==1)=false:=by simp;exact fun h=>hx ⟨hr,h⟩
          clear hx hr
          go_wp2_with (go_at_call 90;refine HD.out.mono ?_;rintro e w1 ⟨rfl,hb1⟩)
          go_roundw
          case rel=>exact ⟨hbel.trans (hb1.mono hbel.size),k+1,k+K.toNat,by omega,by omega,by go_num,by rw [show ((k+K.toNat:Nat):Int)=k+K from by omega],HA2.out⟩
          case measure=>simp [intOf];omega
        · have t1:(R==65533)=false:=by simp [hr]
          clear hx hr
          go_wp2_with (go_at_call 90;refine HD.out.mono ?_;rintro e w1 ⟨rfl,hb1⟩)
          go_roundw
          case rel=>exact ⟨hbel.trans (hb1.mono hbel.size),k+1,k+K.toNat,by omega,by omega,by go_num,by rw [show ((k+K.toNat:Nat):Int)=k+K from by omega],HA2.out⟩
          case measure=>simp [intOf];omega
  · go_wp2
    go_ret
    have hj:j=n:=by omega
    exact ⟨ret_int (by rw [HA.out,u8At_end _ _ (by rw [hj,HN.out];exact Nat.le_refl _)]),hbel⟩
theorem rutf8_some (b off cap:Nat)(zs:List Int)(w:World)(hT:Tabs w)(hb:∀ i,0≤zs.getD i 0∧zs.getD i 0≤255)(hlt:zs≠[]→b<w.heap.size)(hc:∀ i,i<zs.length→w.cell? ⟨b,off+i,none⟩=some (.int .u8 (zs.getD i 0)))
  (hl:(zs.length:Int)≤9223372036854775807) (hcap:zs.length≤cap) :
  Calls Tryd.prog 91 #[.slice (some ⟨b,off,none⟩) zs.length cap] w fun e w'=>e=.returned (.int .i64 (u8At zs 0))∧Below w.heap.size w w':=by
 obtain ⟨n,hn⟩:∃ n,n=zs.length:=⟨_,rfl⟩
 have HN:=Lib.hid hn
 have HP:=Lib.hid hc
 have HB:=Lib.hid hb
 have HL:=Lib.hid hlt
 have HT:=Lib.hid hT
 rw [←hn] at hl hcap ⊢
 clear hc hb hn hlt hT
 go_enter Tryd.func91,Tryd.ntmps91
 go_wp2
 go_loopw [3] (fun i wr=>Below w.heap.size w wr∧∃ k:Nat,k≤n∧i=.int .i64 k∧u8At zs 0=u8At zs k) (fun i _=>n-(intOf i).toNat)
 case atStart=>exact ⟨Below.refl _ _,0,Nat.zero_le _,rfl,rfl⟩
 case round =>
  obtain ⟨hbel,k,hkn,rfl,hans⟩:=hrel
  have HA:=Lib.hid hans
  clear hans
  by_cases hlt:k<n
  · have hk:k<zs.length:=by rw [←HN.out];exact hlt
    have hw:=dec_width (zs.drop k) (by simp;omega)
    have hbs:b<w.heap.size:=HL.out (by intro h;rw [h] at hk;simp at hk)
    have D:=dec_at zs k b off (cap-k) _ (HT.out.below (Nat.le_refl _) hbel) (fun i hi=>(hbel.cell (p:=⟨b,off+i,none⟩) hbs).trans (HP.out i hi)) HB.out
    rw [←HN.out] at D
    have hbad:=u8At_bad zs k hk
    have hgood:=u8At_good zs k hk
    have hw3:(dec (zs.drop k)).2≤n-k:=by have h2:=hw.2.2;have h3:=HN.out;simp at h2;omega
    clear hk hbs
    generalize (dec (zs.drop k)).1=R at D hbad hgood hw hw3
    generalize (dec (zs.drop k)).2=K at D hbad hgood hw hw3
    obtain ⟨hw1,hw2,_⟩:=hw
    by_cases hx:R=65533∧K=1
    · have E:=Lib.hid (hbad hx.1 hx.2)
      have t1:(R==65533)=true:=by simp [hx.1]
      have t2:K≤1:=by omega
      have HD:=Lib.hid D
      clear hbad hgood hx D
      go_wp2_with (go_at_call 90;refine HD.out.mono ?_;rintro e w1 ⟨rfl,hb1⟩)
      go_ret
      exact ⟨ret_int (by rw [HA.out,E.out]),hbel.trans (hb1.mono hbel.size)⟩
    · have E:=Lib.hid (hgood hx)
      have HD:=Lib.hid D
      have HA2:Hid (u8At zs 0=u8At zs (k+K.toNat)):=HA.out.trans E.out
      clear hbad hgood D E HA
      by_cases hr:R=65533
      · have t1:(R==65533)=true:=by simp [hr]
        have t2:¬K≤1:=fun h=>hx ⟨hr,by omega⟩
        clear hx hr
        go_wp2_with (go_at_call 90;refine HD.out.mono ?_;rintro e w1 ⟨rfl,hb1⟩)
        go_roundw
        case rel=>exact ⟨hbel.trans (hb1.mono hbel.size),k+K.toNat,by omega,by rw [show ((k+K.toNat:Nat):Int)=k+K from by omega],HA2.out⟩
        case measure=>simp [intOf];omega
      · have t1:(R==65533)=false:=by simp [hr]
        clear hx hr
        go_wp2_with (go_at_call 90;refine HD.out.mono ?_;rintro e w1 ⟨rfl,hb1⟩)
        go_roundw
        case rel=>exact ⟨hbel.trans (hb1.mono hbel.size),k+K.toNat,by omega,by rw [show ((k+K.toNat:Nat):Int)=k+K from by omega],HA2.out⟩
        case measure=>simp [intOf];omega
  · go_wp2
    go_ret
    have hj:k=n:=by omega
    exact ⟨ret_int (by rw [HA.out,u8At_end _ _ (by rw [hj,HN.out];exact Nat.le_refl _)]),hbel⟩
theorem wutf8_none (p:Option Addr)(cap:Nat)(w:World) :
  Calls Tryd.prog 66 #[.slice p 0 cap] w fun e w'=>e=.returned (.int .i64 (-1))∧w=w':=by
 go_enter Tryd.func66,Tryd.ntmps66
 go_wp2
 go_loop [9] (fun i=>i=.int .i64 0) (fun _=>0)
 case atStart=>rfl
 case round =>
  subst hrel
  go_wp2
  go_ret
  exact ⟨rfl,rfl⟩
theorem rutf8_none (p:Option Addr)(cap:Nat)(w:World) :
  Calls Tryd.prog 91 #[.slice p 0 cap] w fun e w'=>e=.returned (.int .i64 (-1))∧w=w':=by
 go_enter Tryd.func91,Tryd.ntmps91
 go_wp2
 go_loop [3] (fun i=>i=.int .i64 0) (fun _=>0)
 case atStart=>rfl
 case round =>
  subst hrel
  go_wp2
  go_ret
  exact ⟨rfl,rfl⟩
theorem wutf8_anyM (p:Option Addr)(cap:Nat)(zs:List Int)(w:World)(hT:Tabs w)(hz:Bytes w p zs)(hl:(zs.length:Int)≤9223372036854775807)(hcap:zs.length≤cap) :
  Calls Tryd.prog 66 #[.slice p zs.length cap] w fun e w'=>e=.returned (.int .i64 (u8At zs 0))∧Below w.heap.size w w':=by
 by_cases hne:zs=[]
 · subst hne
   exact (wutf8_none p cap w).mono fun e w' h=>⟨h.1,by rw [←h.2];exact Below.refl _ _⟩
 · obtain ⟨b,off,rfl,hlt,hc⟩:=hz.2 hne
   exact wutf8_some b off cap zs w hT hz.1 (fun _=>hlt) hc hl hcap
theorem rutf8_anyM (p:Option Addr)(cap:Nat)(zs:List Int)(w:World)(hT:Tabs w)(hz:Bytes w p zs)(hl:(zs.length:Int)≤9223372036854775807)(hcap:zs.length≤cap) :
  Calls Tryd.prog 91 #[.slice p zs.length cap] w fun e w'=>e=.returned (.int .i64 (u8At zs 0))∧Below w.heap.size w w':=by
 by_cases hne:zs=[]
 · subst hne
   exact (rutf8_none p cap w).mono fun e w' h=>⟨h.1,by rw [←h.2];exact Below.refl _ _⟩
 · obtain ⟨b,off,rfl,hlt,hc⟩:=hz.2 hne
   exact rutf8_some b off cap zs w hT hz.1 (fun _=>hlt) hc hl hcap
theorem wutf8_gen (p:Option Addr)(cap n:Nat)(zs:List Int)(w:World)(hT:Tabs w)(hz:Bytes w p zs)(hn:zs.length=n)(hl:(n:Int)≤9223372036854775807)(hcap:n≤cap) :
  Calls Tryd.prog 66 #[.slice p n cap] w fun e w'=>e=.returned (.int .i64 (u8At zs 0))∧Below w.heap.size w w':=by
 subst hn
 exact wutf8_anyM _ cap zs w hT hz hl hcap
theorem rutf8_gen (a:Option Addr)(cap n:Nat)(zs:List Int)(w:World)(hT:Tabs w)(hz:Bytes w a zs)(hn:zs.length=n)(hl:(n:Int)≤9223372036854775807)(hcap:n≤cap) :
  Calls Tryd.prog 91 #[.slice a n cap] w fun e w'=>e=.returned (.int .i64 (u8At zs 0))∧Below w.heap.size w w':=by
 subst hn
 exact rutf8_anyM _ cap zs w hT hz hl hcap
theorem u8From_range (zs:List Int):∀ (f i:Nat),-1≤u8From zs f i∧u8From zs f i≤zs.length
 | 0,i=>by simp [u8From]
 | f+1,i=>by
  simp only [u8From]
  split
  · split
    · omega
    · exact u8From_range zs f _
  · omega
theorem u8At_range (zs:List Int)(i:Nat) : -1≤u8At zs i∧u8At zs i≤zs.length:=u8From_range zs _ i
end Go.Proofs.YtachghaegokpdaaDoor
namespace Go.Proofs.YtachghaegokpdaaDoor
open Go.ChangeShapes Go.WideShapes Go.ChangeAt Go.RowKit Go.Shelf
structure SchAt (A:Nat)(W:World)(ss:List (SRec × Value))(es:List (SCho × Value))(sv ev:Value)(rt:Nat):Prop where
 blk:W.heap[A]?=some (.cells #[sv,ev,.int .i64 rt] 33 (0,0))
 rows:SchRows (A+1) W ss es sv ev
theorem SchAt.below {A rt:Nat}{W W':World}{ss:List (SRec × Value)}{es:List (SCho × Value)}{sv ev:Value}(h:SchAt A W ss es sv ev rt)(hb:Below W.heap.size W W'):SchAt A W' ss es sv ev rt:=
 ⟨blk_below h.blk hb (blk_lt h.blk),h.rows.below hb⟩
structure MKeeps (w:World)(b:Nat)(x0 x1:Value)(rt:Nat)(tree:Bool)(W:World):Prop where
 hb:b=w.heap.size
 box:W.heap[b]?=some (.cells #[x0,x1,.int .u8 rt,.bool tree] 25 (0,0))
 res:W.heap[b+1]?=some (.cells #[.slice none 0 0,.slice none 0 0,.int .i64 0] 33 (0,0))
 bel:Below b w W
theorem MKeeps.below {w W W':World}{x0 x1:Value}{b rt B:Nat}{tree:Bool}(h:MKeeps w b x0 x1 rt tree W)(hb:Below B W W')(hB:b+2≤B):MKeeps w b x0 x1 rt tree W':=
 ⟨h.hb,blk_below h.box hb (by omega),blk_below h.res hb (by omega),h.bel.trans (hb.mono (by omega))⟩
end Go.Proofs.YtachghaegokpdaaDoor
namespace Go.Proofs.YtachghaegokpdaaDoor
open Go.ChangeShapes Go.WideShapes Go.ChangeAt Go.RowKit
theorem rwithin_yes (l a n:Int)(w:World)(hl:l≤9223372036854775807)(h0:0≤a)(h1:0≤n)(h3:n≤l-a) :
  Calls Tryd.prog 109 #[.int .i64 l,.int .i64 a,.int .i64 n] w fun e w'=>e=.returned (.bool true)∧w=w':=by
 have t1:n≤l:=by omega
 have t2:a≤l-n:=by omega
 go_enter Tryd.func109,Tryd.ntmps109
 go_wp2
 go_ret
 exact ⟨rfl,rfl⟩
theorem rwithin_no (l a n:Int)(w:World)(hl0:0≤l)(hl:l≤9223372036854775807)(h:a<0∨n<0∨l<a∨l-a<n) :
  Calls Tryd.prog 109 #[.int .i64 l,.int .i64 a,.int .i64 n] w fun e w'=>e=.returned (.bool false)∧w=w':=by
 by_cases h0:a<0
 · clear h
   go_enter Tryd.func109,Tryd.ntmps109
   go_wp2
   go_ret
   exact ⟨rfl,rfl⟩
 by_cases h1:n<0
 · clear h
   go_enter Tryd.func109,Tryd.ntmps109
   go_wp2
   go_ret
   exact ⟨rfl,rfl⟩
 by_cases h2:l<n
 · clear h
   go_enter Tryd.func109,Tryd.ntmps109
   go_wp2
   go_ret
   exact ⟨rfl,rfl⟩
 have h3:decide (a≤l-n)=false:=by simp;omega
 clear h
 go_enter Tryd.func109,Tryd.ntmps109
 go_wp2
 go_ret
 exact ⟨rfl,rfl⟩
end Go.Proofs.YtachghaegokpdaaDoor
namespace Go.Proofs.YtachghaegokpdaaDoor
open Go.ChangeShapes Go.WideShapes Go.ChangeAt Go.RowKit Go.Shelf
structure Src (g:Nat)(a:Option Addr)(bs:List Int)(bc:Nat)(W:World)(i:Nat):Prop where
 blk:W.heap[g]?=some (.cells #[.slice a bs.length bc,.int .i64 i] 120 (0,0))
 le:i≤bs.length
 byt:Bytes W a bs
 low:bs≠[]→∀ b off,a=some ⟨b,off,none⟩→b≠g
 len:(bs.length:Int)≤9223372036854775807
 cap:bs.length≤bc
theorem Src.below {g:Nat}{a:Option Addr}{bs:List Int}{bc:Nat}{W W':World}{i:Nat}(h:Src g a bs bc W i)(hb:Below W.heap.size W W'):Src g a bs bc W' i:=
 ⟨blk_below h.blk hb (blk_lt h.blk),h.le,h.byt.below (Nat.le_refl _) hb,h.low,h.len,h.cap⟩
theorem Bytes.exc {w w':World}{R B:Nat}{a:Option Addr}{bs:List Int}(h:Bytes w a bs)(hb:Exc R B w w')(hB:w.heap.size≤B)(hR:bs≠[]→∀ b off,a=some ⟨b,off,none⟩→b≠R):Bytes w' a bs:=by
 refine ⟨h.1,fun hne=>?_⟩
 obtain ⟨b,off,rfl,hlt,hc⟩:=h.2 hne
 exact ⟨b,off,rfl,Nat.lt_of_lt_of_le hlt hb.size,fun i hi=>(hb.cell (p:=⟨b,off+i,none⟩) (Nat.lt_of_lt_of_le hlt hB) (hR hne b off rfl)).trans (hc i hi)⟩
theorem Src.put {g:Nat}{a:Option Addr}{bs:List Int}{bc:Nat}{W:World}{i:Nat}(h:Src g a bs bc W i)(hi:i<bs.length):Src g a bs bc (W.setCell ⟨g,1,none⟩ (.int .i64 ((i:Int)+1))) (i+1):=
 ⟨blk_set h.blk 1 _,hi,h.byt.exc (exc_set W g 1 _) (Nat.le_refl _) h.low,h.low,h.len,h.cap⟩
end Go.Proofs.YtachghaegokpdaaDoor
