/-
  The document's own reading of tables: a number's place. Conditions: those that each theorem names.
-/
import Derived.Test.YtpbaaedijfofnaaDoorPkV1
import Derived.Test.YtpbaaedijfofnaaDoorPkV2
import Derived.Test.YtpbaaedijfofnaaDoorPkV5
import Derived.Test.YtpbaaedijfofnaaDoorPkV9
import Derived.Test.YtpbaaedijfofnaaDoorPkV11
import Derived.Test.YtpbaaedijfofnaaDoorPkV12
import Derived.Test.YtpbaaedijfofnaaDoorPkV15
import Derived.Test.YtpbaaedijfofnaaDoorPkV28
namespace Go.Proofs.YtpbaaedijfofnaaDoor
open Go.ChangeShapes Go.WideShapes Go.ChangeAt Go.RowKit Go.Shelf
theorem WState.bytes {w:World}{wk m mt:Nat}{out mo:Bool}{left ml:Int}(h:WState w wk m mt out left ml mo){b off:Nat}{zs:List Int}(hb:Bytes w (some ⟨b,off,none⟩) zs)(hne:zs≠[]):b≠wk∧b≠mt:=by
 obtain ⟨b',off',e,_,hc⟩:=hb.2 hne
 injection e with e
 injection e with e1 e2 _
 subst e1 e2
 have h0:=hc 0 (List.length_pos_iff.2 hne)
 rw [Nat.add_zero] at h0
 constructor
 · intro hbw
   subst hbw
   rw [blk_cell h.walk off] at h0
   have h4:off=0∨off=1∨off=2∨off=3∨4≤off:=by omega
   rcases h4 with rfl|rfl|rfl|rfl|h4
   · cases h0
   · cases h0
   · cases h0
   · simp at h0
   · rw [Array.getElem?_eq_none (by simpa using h4)] at h0;cases h0
 · intro hbw
   subst hbw
   rw [blk_cell h.meter off] at h0
   have h4:off=0∨off=1∨2≤off:=by omega
   rcases h4 with rfl|rfl|h4
   · simp at h0
   · cases h0
   · rw [Array.getElem?_eq_none (by simpa using h4)] at h0;cases h0
theorem bytes_exw {w W:World}{R S:Nat}{p:Option Addr}{zs:List Int}(h:Bytes w p zs)(hx:Exw R S w.heap.size w W)(hp:∀ b off,p=some ⟨b,off,none⟩→zs≠[]→b≠R∧b≠S):Bytes W p zs:=by
 refine ⟨h.1,fun hne=>?_⟩
 obtain ⟨b,off,rfl,hlt,hc⟩:=h.2 hne
 obtain ⟨h1,h2⟩:=hp b off rfl hne
 exact ⟨b,off,rfl,Nat.lt_of_lt_of_le hlt hx.size,fun i hi=>cell_exw hx (hc i hi) h1 h2⟩
theorem row_notblk {W:World}{base P n sz:Nat}{e t:TypeId}{v:Value}{xs:List Value}{cs:Array Value}(h:W.ownsRow base e sz v n xs)(hP:W.heap[P]?=some (.cells cs t (0,0)))(hne:t≠e):v.ownBlock≠some P:=row_other h hP hne
theorem MsgOf.exw {base:Nat}{w W:World}{m:Nat}{bp:Option Addr}{bc:Nat}{sv ev:Value}{zs:List Int}{ss:List (SRec × Value)}{es:List SCho}{fs:List (List CFld × Value)}{ns:List Nat}(h:MsgOf base w m bp bc sv ev zs ss es fs ns){wk mt:Nat}{out mo:Bool}{left ml:Int}(hw:WState w wk m mt out left ml mo)(hx:Exw wk mt w.heap.size w W):MsgOf base W m bp bc sv ev zs ss es fs ns:=by
 have hm1:m≠wk:=fun e=>by
  have h1:=h.msg.blk
  rw [e,hw.walk] at h1
  injection h1 with h1
  injection h1 with h1 _ _
  have h3:=congrArg Array.size h1
  simp at h3
 have hm2:m≠mt:=fun e=>by
  have h1:=h.msg.blk
  rw [e,hw.meter] at h1
  injection h1 with h1
  injection h1 with h1 _ _
  have h3:=congrArg Array.size h1
  simp at h3
 refine ⟨⟨blk_exw h.msg.blk hx (blk_lt h.msg.blk) hm1 hm2,bytes_exw h.msg.bytes hx (fun b off e hne=>by have hb:=h.msg.bytes;rw [e] at hb;exact hw.bytes hb hne),h.msg.len,h.msg.cap,?_,fun q hq=>?_,?_⟩,h.structs,h.enums,h.few⟩
 · exact hx.ownsRow h.msg.structs (row_notblk h.msg.structs hw.walk (by decide)) (row_notblk h.msg.structs hw.meter (by decide))
 · exact hx.ownsRow (h.msg.fields q hq) (row_notblk (h.msg.fields q hq) hw.walk (by decide)) (row_notblk (h.msg.fields q hq) hw.meter (by decide))
 · exact hx.ownsRow h.msg.enums (row_notblk h.msg.enums hw.walk (by decide)) (row_notblk h.msg.enums hw.meter (by decide))
def Amb (B:Nat)(w:World):Prop:=∀ W,Below B w W→Tabs W
theorem Amb.below {B:Nat}{w W:World}(h:Amb B w)(hb:Below B w W):Amb B W:=fun V hV=>h V (hb.trans hV)
theorem Amb.exw {B wk mt:Nat}{w W:World}(h:Amb B w)(h0:B≤w.heap.size)(h1:B≤wk)(h2:B≤mt)(hx:Exw wk mt w.heap.size w W):Amb B W:=h.below ((hx.mono h0).below h1 h2)
theorem bytesAt_no {zs:List Int}{k:Nat}{to left:Int}(hz:∀ i,0≤zs.getD i 0∧zs.getD i 0≤255)(h:bytesOk zs k to=false):bytesAtZ zs k to left=none:=by
 unfold bytesAtZ
 by_cases h1:inZ (lenZ zs) to 4=true
 · rw [if_pos h1,if_neg ?_]
   rintro ⟨h2,h3,h4⟩
   have hi:=inZ_iff.1 h1
   have hn:=leAt_4 zs to.toNat hz
   have h2':=inZ_iff.1 h2
   unfold bytesOk at h
   rw [h1,Bool.true_and] at h
   by_cases hk:k=11
   · rw [if_pos hk] at h2'
     rw [inZ_iff.2 (show 0≤to+4∧0≤leAt zs to.toNat 4∧_ by omega),decide_eq_true hk,inZ_iff.2 (show 0≤to+4+leAt zs to.toNat 4∧(0:Int)≤1∧_ by omega),decide_eq_true (h4 hk).1] at h
     cases h
   · rw [if_neg hk] at h2'
     rw [inZ_iff.2 (show 0≤to+4∧0≤leAt zs to.toNat 4∧_ by omega),decide_eq_false hk] at h
     cases h
 · rw [if_neg h1]
theorem bytesAt_ok {zs:List Int}{k:Nat}{to left:Int}(hz:∀ i,0≤zs.getD i 0∧zs.getD i 0≤255)(h:bytesOk zs k to=true):bytesAtZ zs k to left=if 0≤left-(4+leAt zs to.toNat 4+(if k=11 then 1 else 0))∧(k=11→u8At (partZ zs (to.toNat+4) (leAt zs to.toNat 4).toNat) 0<0) then some (.mk 0 (partZ zs (to.toNat+4) (leAt zs to.toNat 4).toNat) [] false,left-(4+leAt zs to.toNat 4+(if k=11 then 1 else 0))) else none:=by
 unfold bytesOk at h
 rw [Bool.and_eq_true,Bool.and_eq_true] at h
 obtain ⟨h1,h2,h3⟩:=h
 have hi:=inZ_iff.1 h1
 have hn:=leAt_4 zs to.toNat hz
 have h2':=inZ_iff.1 h2
 unfold bytesAtZ
 rw [if_pos h1]
 by_cases hk:k=11
 · rw [decide_eq_true hk] at h3
   simp only [Bool.not_true,Bool.false_or,Bool.and_eq_true,decide_eq_true_eq] at h3
   have h3':=inZ_iff.1 h3.1
   rw [if_pos hk]
   have h4:inZ (lenZ zs) to (4+leAt zs to.toNat 4+1)=true:=inZ_iff.2 (by omega)
   by_cases hc:0≤left-(4+leAt zs to.toNat 4+1)∧(k=11→u8At (partZ zs (to.toNat+4) (leAt zs to.toNat 4).toNat) 0<0)
   · rw [if_pos hc,if_pos ⟨h4,hc.1,fun h=>⟨h3.2,hc.2 h⟩⟩]
   · rw [if_neg hc,if_neg (fun h=>hc ⟨h.2.1,fun h5=>(h.2.2 h5).2⟩)]
 · rw [if_neg hk]
   have h4:inZ (lenZ zs) to (4+leAt zs to.toNat 4+0)=true:=inZ_iff.2 (by omega)
   by_cases hc:0≤left-(4+leAt zs to.toNat 4+0)∧(k=11→u8At (partZ zs (to.toNat+4) (leAt zs to.toNat 4).toNat) 0<0)
   · rw [if_pos hc,if_pos ⟨h4,hc.1,fun h=>absurd h hk⟩]
   · rw [if_neg hc,if_neg (fun h=>hc ⟨h.2.1,fun h5=>absurd h5 hk⟩)]
theorem rpost_none {left ml l' ml':Int}{mo:Bool}{res:Option (PV × Int)}{w w':World}{wk m mt:Nat}(hs:WState w' wk m mt false l' ml' mo)(hx:Exw wk mt w.heap.size w w')(h:res=none):RPost res wk m mt left ml w (.returned (.bool false)) w':=
 ⟨hx,.inr ⟨rfl,false,l',ml',mo,hs,fun _=>h,(fun h=>by cases h)⟩⟩
theorem rpost_out {left ml l' ml':Int}{mo:Bool}{res:Option (PV × Int)}{w w':World}{wk m mt:Nat}(hs:WState w' wk m mt true l' ml' mo)(hx:Exw wk mt w.heap.size w w')(h:ml<3 * left):RPost res wk m mt left ml w (.returned (.bool false)) w':=
 ⟨hx,.inr ⟨rfl,true,l',ml',mo,hs,(fun h=>by cases h),fun _=>h⟩⟩
theorem rpost_some {v:PV}{left ml l' ml':Int}{res:Option (PV × Int)}{w w':World}{wk m mt:Nat}(hs:WState w' wk m mt false l' ml' false)(hx:Exw wk mt w.heap.size w w')(h:res=some (v,l'))(h0:0≤l')(h1:l'≤left)(h2:0≤ml')(h3:ml'≤ml)(h4:3 * left≤ml→3 * l'≤ml'):RPost res wk m mt left ml w (.returned (.bool true)) w':=
 ⟨hx,.inl ⟨v,l',ml',h,⟨h0,h1⟩,rfl,hs,⟨h2,h3⟩,h4⟩⟩
end Go.Proofs.YtpbaaedijfofnaaDoor
namespace Go.Proofs.YtpbaaedijfofnaaDoor
open Go.ChangeShapes Go.WideShapes Go.ChangeAt Go.RowKit Go.Shelf
structure RdSt (w:World)(rk:Nat)(sv ev:Value)(root:Int)(bp:Option Addr)(bc:Nat)(zs:List Int)(rc:Int)(bad:Bool):Prop where
 blk:w.heap[rk]?=some (.cells #[sv,ev,.int .i64 root,.slice bp zs.length bc,.int .i64 rc,.bool bad] 167 (0,0))
 bytes:Bytes w bp zs
 len:zs.length≤16384
 cap:zs.length≤bc
theorem RdSt.below {w W:World}{rk:Nat}{sv ev:Value}{root:Int}{bp:Option Addr}{bc:Nat}{zs:List Int}{rc:Int}{bad:Bool}(h:RdSt w rk sv ev root bp bc zs rc bad)(hb:Below w.heap.size w W):RdSt W rk sv ev root bp bc zs rc bad:=
 ⟨blk_below h.blk hb (blk_lt h.blk),h.bytes.below (Nat.le_refl _) hb,h.len,h.cap⟩
theorem RdSt.apart {w:World}{rk:Nat}{sv ev:Value}{root:Int}{bp:Option Addr}{bc:Nat}{zs:List Int}{rc:Int}{bad:Bool}(h:RdSt w rk sv ev root bp bc zs rc bad){b off:Nat}(hp:bp=some ⟨b,off,none⟩)(hne:zs≠[])(hr:∀ c,c=sv∨c=ev→∀ x,c≠.int .u8 x):b≠rk:=by
 have hb:=h.bytes
 rw [hp] at hb
 obtain ⟨b',off',e,_,hc⟩:=hb.2 hne
 injection e with e
 injection e with e1 e2 _
 subst e1 e2
 have h0:=hc 0 (List.length_pos_iff.2 hne)
 rw [Nat.add_zero] at h0
 intro hbw
 subst hbw
 rw [blk_cell h.blk off] at h0
 have h4:off=0∨off=1∨off=2∨off=3∨off=4∨off=5∨6≤off:=by omega
 rcases h4 with rfl|rfl|rfl|rfl|rfl|rfl|h4
 · injection h0 with h0;exact hr _ (.inl rfl) _ h0
 · injection h0 with h0;exact hr _ (.inr rfl) _ h0
 · simp at h0
 · simp at h0
 · simp at h0
 · simp at h0
 · rw [Array.getElem?_eq_none (by simpa using h4)] at h0;cases h0
end Go.Proofs.YtpbaaedijfofnaaDoor
namespace Go.Proofs.YtpbaaedijfofnaaDoor
open Go.ChangeShapes Go.WideShapes Go.ChangeAt Go.RowKit Go.Shelf
def VForm (val:Value):Prop:=∃ (n:Int) (ba:Option Addr) (bl bc:Nat) (ka:Option Addr) (kl kc:Nat) (h:Bool),val=.agg #[.int .u64 n,.slice ba bl bc,.slice ka kl kc,.bool h]
theorem vform (n:Int)(ba:Option Addr)(bl bc:Nat)(ka:Option Addr)(kl kc:Nat)(h:Bool):VForm (.agg #[.int .u64 n,.slice ba bl bc,.slice ka kl kc,.bool h]):=⟨n,ba,bl,bc,ka,kl,kc,h,rfl⟩
def RdPost (res:Option (PV × Int))(w:World)(rk:Nat)(sv ev:Value)(root:Int)(bp:Option Addr)(bc:Nat)(zs:List Int)(e:Ending)(w':World):Prop:=
 Exw rk rk w.heap.size w w' ∧
 ((∃ v l' val,res=some (v,l')∧(0≤l'∧l'≤lenZ zs)∧e=.returned val∧VH (newS w.heap.size) w' v val∧RdSt w' rk sv ev root bp bc zs (lenZ zs-l') false) ∨
  (res=none∧(∃ val,e=.returned val∧VForm val)∧∃ rc,0≤rc∧rc≤1000000000000∧RdSt w' rk sv ev root bp bc zs rc true))
end Go.Proofs.YtpbaaedijfofnaaDoor
