/-
  An append to a row without room behind it (a slice cut at its length): the answer is a new row. Conditions: those that each theorem names.
-/
import Derived.Test.YtcfjjocmiheiaaaDoorPkD2
import Derived.Deep.Cut
import Derived.Test.YtcfjjocmiheiaaaDoorRows
import Derived.Shelf.Spec.DecodeRune
import Derived.Lib.LaidU8T
import Derived.KernelRfl
import Derived.WalkKit
import Derived.ProofKit
import Derived.OpenShut
import Derived.ShutString
import Derived.ChangeOld
import Derived.Below
import Derived.WalkLawsBesides
import Derived.WalkSpells
import Derived.Lib.Hide
import Derived.Outline
import Derived.Handy
import Derived.IntWalk
import Derived.Deep.AppendLies
import Derived.OwnWalk
namespace Go.Proofs.YtcfjjocmiheiaaaDoor
open Go.ChangeShapes Go.WideShapes Go.ChangeAt Go.RowKit Go.Shelf
inductive PV where
 | mk (num:Nat) (bytes:List Int) (kids:List PV) (has:Bool)
def PV.num:PV→Nat|.mk n _ _ _=>n
def PV.bytes:PV→List Int|.mk _ b _ _=>b
def PV.kids:PV→List PV|.mk _ _ k _=>k
def PV.has:PV→Bool|.mk _ _ _ h=>h
inductive IsV (w:World):PV→Value→Prop
 | mk (n:Nat) (bs:List Int) (ks:List PV) (h:Bool) (ba ka:Option Addr) (bc kc kb ko:Nat) (c0 c1 c2 c3:Nat→Value) (hn:n≤18446744073709551615) (hb:Bytes w ba bs) (hbl:bs.length≤bc) (hbm:(bs.length:Int)≤9223372036854775807)
   (hkl:ks.length≤kc) (hkm:(ks.length:Int)≤9223372036854775807) (hka:ks.length≠0→ka=some ⟨kb,ko,none⟩)
   (hc:∀ i,i<ks.length→w.cell? ⟨kb,ko+i * 4,none⟩=some (c0 i)∧w.cell? ⟨kb,ko+i * 4+1,none⟩=some (c1 i)∧w.cell? ⟨kb,ko+i * 4+2,none⟩=some (c2 i)∧w.cell? ⟨kb,ko+i * 4+3,none⟩=some (c3 i))
   (hk:∀ i (hi:i<ks.length),IsV w (ks[i]'hi) (.agg #[c0 i,c1 i,c2 i,c3 i])) :
   IsV w (.mk n bs ks h) (.agg #[.int .u64 n,.slice ba bs.length bc,.slice ka ks.length kc,.bool h])
theorem cell_stays {w W:World}(h:Below w.heap.size w W){p:Addr}{v:Value}(hp:w.cell? p=some v):W.cell? p=some v:=(h.cell (World.block_lt_of_cell? _ _ hp)).trans hp
theorem IsV.later {w W:World}{v:PV}{val:Value}(h:IsV w v val)(hb:Below w.heap.size w W):IsV W v val:=by
 induction h with
 | mk n bs ks h ba ka bc kc kb ko c0 c1 c2 c3 hn hbb hbl hbm hkl hkm hka hc _ ih =>
  exact .mk n bs ks h ba ka bc kc kb ko c0 c1 c2 c3 hn (hbb.below (Nat.le_refl _) hb) hbl hbm hkl hkm hka (fun i hi=>by obtain ⟨h0,h1,h2,h3⟩:=hc i hi;exact ⟨cell_stays hb h0,cell_stays hb h1,cell_stays hb h2,cell_stays hb h3⟩) ih
theorem IsV.form {w:World}{v:PV}{val:Value}(h:IsV w v val):∃ (ba ka:Option Addr) (bc kc:Nat),val=.agg #[.int .u64 v.num,.slice ba v.bytes.length bc,.slice ka v.kids.length kc,.bool v.has]∧v.num≤18446744073709551615∧Bytes w ba v.bytes∧v.bytes.length≤bc∧(v.bytes.length:Int)≤9223372036854775807∧v.kids.length≤kc∧(v.kids.length:Int)≤9223372036854775807 ∧
  ∀ i (hi:i<v.kids.length),∃ (kb ko:Nat) (u0 u1 u2 u3:Value),ka=some ⟨kb,ko,none⟩∧w.cell? ⟨kb,ko+i * 4,none⟩=some u0∧w.cell? ⟨kb,ko+i * 4+1,none⟩=some u1∧w.cell? ⟨kb,ko+i * 4+2,none⟩=some u2∧w.cell? ⟨kb,ko+i * 4+3,none⟩=some u3∧IsV w (v.kids[i]'hi) (.agg #[u0,u1,u2,u3]):=by
 cases h with
 | mk n bs ks h ba ka bc kc kb ko c0 c1 c2 c3 hn hbb hbl hbm hkl hkm hka hc hk =>
  refine ⟨ba,ka,bc,kc,rfl,hn,hbb,hbl,hbm,hkl,hkm,fun i hi=>?_⟩
  obtain ⟨h0,h1,h2,h3⟩:=hc i hi
  exact ⟨kb,ko,_,_,_,_,hka (Nat.ne_of_gt (Nat.lt_of_le_of_lt (Nat.zero_le _) hi)),h0,h1,h2,h3,hk i hi⟩
def nilV:PV:=.mk 0 [] [] false
theorem bytes_nil (w:World):Bytes w none []:=⟨fun i=>by simp,fun h=>absurd rfl h⟩
theorem isV_nil (w:World):IsV w nilV (.agg #[.int .u64 0,.slice none 0 0,.slice none 0 0,.bool false]):=
 .mk 0 [] [] false none none 0 0 0 0 (fun _=>.bool false) (fun _=>.bool false) (fun _=>.bool false) (fun _=>.bool false) (by decide) (bytes_nil w) (Nat.le_refl _) (by decide) (Nat.le_refl _) (by decide) (fun h=>absurd rfl h) (fun i hi=>absurd hi (Nat.not_lt_zero i)) (fun i hi=>absurd hi (Nat.not_lt_zero i))
end Go.Proofs.YtcfjjocmiheiaaaDoor
namespace Go.Proofs.YtcfjjocmiheiaaaDoor
open Go.ChangeShapes Go.WideShapes Go.ChangeAt Go.RowKit Go.Shelf
theorem blk_set4 {w:World}{g:Nat}{x y z u:Value}{t:TypeId}(h:w.heap[g]?=some (.cells #[x,y,z,u] t (0,0)))(x' y' z' u':Value) :
  ((((w.setCell ⟨g,0,none⟩ x').setCell ⟨g,1,none⟩ y').setCell ⟨g,2,none⟩ z').setCell ⟨g,3,none⟩ u').heap[g]?=some (.cells #[x',y',z',u'] t (0,0)):=
 (blk_set (blk_set (blk_set (blk_set h 0 x') 1 y') 2 z') 3 u').trans rfl
theorem below_set4 {B:Nat}{a w:World}(h:Below B a w){g:Nat}(hg:B≤g)(x y z u:Value):Below B a ((((w.setCell ⟨g,0,none⟩ x).setCell ⟨g,1,none⟩ y).setCell ⟨g,2,none⟩ z).setCell ⟨g,3,none⟩ u):=
 (((h.setCell (p:=⟨g,0,none⟩) hg x).setCell (p:=⟨g,1,none⟩) hg y).setCell (p:=⟨g,2,none⟩) hg z).setCell (p:=⟨g,3,none⟩) hg u
end Go.Proofs.YtcfjjocmiheiaaaDoor
namespace Go.Proofs.YtcfjjocmiheiaaaDoor
open Go.ChangeShapes Go.WideShapes Go.ChangeAt Go.RowKit Go.Shelf
def hideW (S:Nat→Bool)(w:World):World:={ w with heap:=w.heap.mapIdx fun i o=>if S i=true then .cells #[] 36 (0,0) else o }
theorem hide_size (S:Nat→Bool)(w:World):(hideW S w).heap.size=w.heap.size:=by simp [hideW]
theorem hide_block (S:Nat→Bool)(w:World)(k:Nat)(h:S k=false):(hideW S w).heap[k]?=w.heap[k]?:=by
 simp [hideW,Array.getElem?_mapIdx,h]
theorem hide_cell (S:Nat→Bool)(w:World)(p:Addr)(h:S p.block=false):(hideW S w).cell? p=w.cell? p:=World.cell?_of_block (hide_block S w _ h)
theorem hide_none (S:Nat→Bool)(w:World)(p:Addr)(h:S p.block=true):(hideW S w).cell? p=none:=by
 unfold World.cell? hideW
 simp only [Array.getElem?_mapIdx]
 cases w.heap[p.block]? with
 | none=>rfl
 | some o=>simp [h]
theorem hide_some {S:Nat→Bool}{w:World}{p:Addr}{x:Value}(h:(hideW S w).cell? p=some x):S p.block=false∧w.cell? p=some x:=by
 cases hs:S p.block with
 | false=>exact ⟨rfl,(hide_cell S w p hs)▸h⟩
 | true=>rw [hide_none S w p hs] at h;cases h
theorem Bytes.mono {w W:World}{p:Option Addr}{zs:List Int}(hs:w.heap.size≤W.heap.size)(hc:∀ p x,w.cell? p=some x→W.cell? p=some x)(h:Bytes w p zs):Bytes W p zs:=by
 refine ⟨h.1,fun hne=>?_⟩
 obtain ⟨b,off,rfl,hlt,hcell⟩:=h.2 hne
 exact ⟨b,off,rfl,Nat.lt_of_lt_of_le hlt hs,fun i hi=>hc _ _ (hcell i hi)⟩
theorem IsV.mono {w W:World}{v:PV}{val:Value}(h:IsV w v val)(hs:w.heap.size≤W.heap.size)(hc:∀ p x,w.cell? p=some x→W.cell? p=some x):IsV W v val:=by
 induction h with
 | mk n bs ks h ba ka bc kc kb ko c0 c1 c2 c3 hn hbb hbl hbm hkl hkm hka hcc _ ih =>
  exact .mk n bs ks h ba ka bc kc kb ko c0 c1 c2 c3 hn (hbb.mono hs hc) hbl hbm hkl hkm hka (fun i hi=>by obtain ⟨h0,h1,h2,h3⟩:=hcc i hi;exact ⟨hc _ _ h0,hc _ _ h1,hc _ _ h2,hc _ _ h3⟩) ih
def VH (S:Nat→Bool)(w:World)(v:PV)(val:Value):Prop:=IsV (hideW S w) v val
theorem VH.out {S:Nat→Bool}{w:World}{v:PV}{val:Value}(h:VH S w v val):IsV w v val:=
 IsV.mono h (by rw [hide_size];exact Nat.le_refl _) (fun _ _ h=>(hide_some h).2)
theorem VH.step {S S':Nat→Bool}{w W:World}{v:PV}{val:Value}(h:VH S w v val)(hs:w.heap.size≤W.heap.size)(hb:∀ k,k<w.heap.size→S k=false→S' k=false∧W.heap[k]?=w.heap[k]?):VH S' W v val:=
 IsV.mono h (by rw [hide_size,hide_size];exact hs) (fun p x hx=>by
  obtain ⟨h1,h2⟩:=hide_some hx
  obtain ⟨h3,h4⟩:=hb p.block (World.block_lt_of_cell? _ _ h2) h1
  rw [hide_cell S' W p h3,World.cell?_of_block h4]
  exact h2)
theorem VH.alloc {S:Nat→Bool}{w:World}{v:PV}{val:Value}(h:VH S w v val)(o:Obj):VH S (w.alloc o) v val:=
 h.step (by simp) (fun k hk hs=>⟨hs,by rw [World.alloc];simp [Array.getElem?_push,Nat.ne_of_lt hk]⟩)
theorem VH.below {S:Nat→Bool}{w W:World}{v:PV}{val:Value}(h:VH S w v val)(hb:Below w.heap.size w W):VH S W v val:=h.step hb.size (fun k hk hs=>⟨hs,hb.block k hk⟩)
theorem VH.exc {S:Nat→Bool}{w W:World}{v:PV}{val:Value}{R:Nat}(h:VH S w v val)(hb:Exc R w.heap.size w W)(hR:S R=true):VH S W v val:=
 h.step hb.size (fun k hk hs=>⟨hs,hb.block k hk (fun e=>by subst e;rw [hR] at hs;cases hs)⟩)
theorem vh_nil (S:Nat→Bool)(w:World):VH S w nilV (.agg #[.int .u64 0,.slice none 0 0,.slice none 0 0,.bool false]):=isV_nil _
theorem vh_box {S:Nat→Bool}{w:World}{v:PV}{a b c d:Value}{M:Nat}{t:TypeId}(h:VH S w v (.agg #[a,b,c,d]))(hM:w.heap[M]?=some (.cells #[a,b,c,d] t (0,0)))(hS:S M=false)(has:Bool) :
  VH S w (.mk 0 [] [v] has) (.agg #[.int .u64 0,.slice none 0 0,.slice (some ⟨M,0,none⟩) 1 1,.bool has]):=by
 obtain ⟨_,h0,h1,h2,h3⟩:=blk4p hM
 refine .mk 0 [] [v] has none (some ⟨M,0,none⟩) 0 1 M 0 (fun _=>a) (fun _=>b) (fun _=>c) (fun _=>d) (by decide) (bytes_nil _) (Nat.le_refl _) (by decide) (Nat.le_refl _) (by simp) (fun _=>rfl) (fun i hi=>?_) (fun i hi=>?_)
 · obtain rfl:i=0:=Nat.lt_one_iff.1 hi
   exact ⟨(hide_cell S w _ hS).trans h0,(hide_cell S w _ hS).trans h1,(hide_cell S w _ hS).trans h2,(hide_cell S w _ hS).trans h3⟩
 · obtain rfl:i=0:=Nat.lt_one_iff.1 hi
   exact h
end Go.Proofs.YtcfjjocmiheiaaaDoor
namespace Go.Proofs.YtcfjjocmiheiaaaDoor
open Go.RowKit Go.Lib
def dec7_ren:Go.Shelf.Ren:=⟨fun|32=>113 | 49=>135 | n=>n,fun|30=>22 | 21=>21 | 3=>3 | 0=>0 | 5=>5 | 4=>4 | 33=>212 | 66=>242 | 25=>175 | 69=>245 | 68=>244 | n=>n,fun|2=>2 | 3=>3 | n=>n⟩
theorem dec7:Go.Proofs.Lays7.n32 Tryd.prog dec7_ren:={
 mixed:=by kernel_rfl
 f32:=Tryd.func113.trans (congrArg some (by kernel_rfl))
 f49:=Tryd.func135.trans (congrArg some (by kernel_rfl))
 t0:=Tryd.underlying0
 a0:=Tryd.isAgg0
 z0:=Tryd.sizeOf0
 v0:=Tryd.zeroValue0
 i0:=by kernel_rfl
 t3:=Tryd.underlying3
 a3:=Tryd.isAgg3
 z3:=Tryd.sizeOf3
 v3:=Tryd.zeroValue3
 i3:=by kernel_rfl
 t4:=Tryd.underlying4
 a4:=Tryd.isAgg4
 z4:=Tryd.sizeOf4
 v4:=Tryd.zeroValue4
 i4:=by kernel_rfl
 t5:=Tryd.underlying5
 a5:=Tryd.isAgg5
 z5:=Tryd.sizeOf5
 v5:=Tryd.zeroValue5
 i5:=by kernel_rfl
 t21:=Tryd.underlying21
 a21:=Tryd.isAgg21
 z21:=Tryd.sizeOf21
 v21:=Tryd.zeroValue21
 i21:=by kernel_rfl
 t25:=Tryd.underlying175
 a25:=Tryd.isAgg175
 z25:=Tryd.sizeOf175
 v25:=Tryd.zeroValue175
 i25:=by kernel_rfl
 t30:=Tryd.underlying22
 a30:=Tryd.isAgg22
 z30:=Tryd.sizeOf22
 v30:=Tryd.zeroValue22
 i30:=by kernel_rfl
 t33:=Tryd.underlying212
 a33:=Tryd.isAgg212
 z33:=Tryd.sizeOf212
 v33:=Tryd.zeroValue212
 i33:=by kernel_rfl
 t66:=Tryd.underlying242
 a66:=Tryd.isAgg242
 z66:=Tryd.sizeOf242
 t68:=Tryd.underlying244
 a68:=Tryd.isAgg244
 z68:=Tryd.sizeOf244
 v68:=Tryd.zeroValue244
 i68:=by kernel_rfl
 t69:=Tryd.underlying245
 a69:=Tryd.isAgg245
 z69:=Tryd.sizeOf245
 v69:=Tryd.zeroValue245
 i69:=by kernel_rfl
 g2:=by kernel_rfl
 g3:=by kernel_rfl }
def Tabs (w:World):Prop:=Lib.Utf8Tabs 2 3 w
def tabs_ren:Go.Shelf.Ren:=⟨fun n=>n,fun|5=>5 | 119=>242 | 138=>244 | 139=>245 | n=>n,fun|3=>2 | 4=>3 | n=>n⟩
theorem u8types:U8Types Tryd.prog tabs_ren:={ t5:=Tryd.underlying5,t119:=Tryd.underlying242,t138:=Tryd.underlying244,t139:=Tryd.underlying245 }
theorem u8extra:U8Extra Tryd.prog tabs_ren:={ n3:=by kernel_rfl,n4:=by kernel_rfl,y3:=by kernel_rfl,y4:=by kernel_rfl,c5:=by kernel_rfl,c119:=by kernel_rfl,c138:=by kernel_rfl }
theorem first_is:Rows.laid_unicode_utf8_first=Lib.firstData:=by kernel_rfl
theorem accept_is:Rows.laid_unicode_utf8_acceptRanges (H:=Unit)=Lib.acceptData:=by kernel_rfl
theorem tabs_of_laid {W:World}(h:laidMetH Tryd.prog [("unicode/utf8.acceptRanges",Rows.laid_unicode_utf8_acceptRanges),("unicode/utf8.first",Rows.laid_unicode_utf8_first)] W):Tabs W:=by
 have h':laidMet Tryd.prog [("unicode/utf8.acceptRanges",Rows.laid_unicode_utf8_acceptRanges),("unicode/utf8.first",Rows.laid_unicode_utf8_first)] W:=h
 refine utf8Tabs_of_readsT u8types u8extra ?_ ?_
 · rw [←first_is];exact laidMet.reads h' (by simp)
 · rw [←accept_is];exact laidMet.reads h' (by simp)
theorem Tabs.sizes {w:World}(h:Tabs w):2 < w.heap.size∧3 < w.heap.size:=by
 constructor
 · exact World.block_lt_of_cell? _ _ (h.1 0 (by decide))
 · exact World.block_lt_of_cell? _ _ (h.2 0 (by decide)).1
theorem Tabs.below {w w':World}{B:Nat}(h:Tabs w)(hB:w.heap.size≤B)(hb:Below B w w'):Tabs w':=by
 obtain ⟨s0,s1⟩:=h.sizes
 refine ⟨fun c hc=>?_,fun i hi=>⟨?_,?_⟩⟩
 · exact (hb.cell (p:=⟨_,c,none⟩) (Nat.lt_of_lt_of_le s0 hB)).trans (h.1 c hc)
 · exact (hb.cell (p:=⟨_,2 * i,none⟩) (Nat.lt_of_lt_of_le s1 hB)).trans (h.2 i hi).1
 · exact (hb.cell (p:=⟨_,2 * i+1,none⟩) (Nat.lt_of_lt_of_le s1 hB)).trans (h.2 i hi).2
/-! ### the bytes of a list of numbers -/
def bytesOf (zs:List Int):ByteArray:=⟨(zs.map fun z=>UInt8.ofNat z.toNat).toArray⟩
theorem bytesOf_size (zs:List Int):(bytesOf zs).size=zs.length:=by simp [bytesOf,ByteArray.size]
theorem bytesOf_get (zs:List Int)(hb:∀ i,0≤zs.getD i 0∧zs.getD i 0≤255)(j:Nat)(hj:j<zs.length):(((bytesOf zs).get! j).toNat:Int)=zs.getD j 0:=by
 have h:=hb j
 have e:zs.getD j 0=zs[j]:=by simp [List.getD,hj]
 rw [e] at h ⊢
 have:(bytesOf zs).get! j=UInt8.ofNat zs[j].toNat:=by
  simp [bytesOf,ByteArray.get!,hj]
 rw [this]
 simp only [UInt8.toNat_ofNat']
 omega
def dec (zs:List Int):Int × Int:=(((Lib.decodeGo (bytesOf zs)).1:Int),((Lib.decodeGo (bytesOf zs)).2:Int))
theorem dec_any (zs:List Int)(b off cap:Nat)(w:World)(hT:Tabs w)(hc:∀ i,i<zs.length→w.cell? ⟨b,off+i,none⟩=some (.int .u8 (zs.getD i 0)))(hb:∀ i,0≤zs.getD i 0∧zs.getD i 0≤255) :
  Calls Tryd.prog 113 #[.slice (some ⟨b,off,none⟩) zs.length cap] w fun e w'=>e=.returned (.tuple #[.int .i32 (dec zs).1,.int .i64 (dec zs).2])∧Below w.heap.size w w':=by
 have h:=Any7.utf8_DecodeRune dec7 (bytesOf zs) b off cap w hT (fun j hj=>by
  have hj':j<zs.length:=by rw [bytesOf_size] at hj;exact hj
  rw [hc j hj',bytesOf_get zs hb j hj'])
 rw [bytesOf_size] at h
 exact h
theorem decodeN_width (n b0 b1 b2 b3:Nat)(hn:0<n):1≤(Lib.decodeN n b0 b1 b2 b3).2∧(Lib.decodeN n b0 b1 b2 b3).2≤4∧(Lib.decodeN n b0 b1 b2 b3).2≤n:=by
 unfold Lib.decodeN
 repeat' split
 all_goals (simp only;omega)
theorem dec_width (zs:List Int)(h:0<zs.length):1≤(dec zs).2∧(dec zs).2≤4∧(dec zs).2≤zs.length:=by
 have e:Lib.decodeGo (bytesOf zs)=Utf8.decode (bytesOf zs) 0:=by
  unfold Lib.decodeGo
  rw [if_neg (by rw [bytesOf_size];omega)]
 unfold dec
 rw [e,Lib.decode_at,bytesOf_size]
 have:=decodeN_width (zs.length-0) ((bytesOf zs).get! 0).toNat ((bytesOf zs).get! (0+1)).toNat ((bytesOf zs).get! (0+2)).toNat ((bytesOf zs).get! (0+3)).toNat (by omega)
 simp only
 omega
end Go.Proofs.YtcfjjocmiheiaaaDoor
namespace Go.Proofs.YtcfjjocmiheiaaaDoor
open Go.ChangeShapes Go.WideShapes Go.ChangeAt Go.RowKit
def u8From (zs:List Int):Nat→Nat→Int
 | 0,_ => -1
 | fuel+1,i=>if i<zs.length then (if (dec (zs.drop i)).1=65533∧(dec (zs.drop i)).2=1 then (i:Int) else u8From zs fuel (i+(dec (zs.drop i)).2.toNat)) else -1
def u8At (zs:List Int)(i:Nat):Int:=u8From zs (zs.length+1) i
theorem u8From_fuel (zs:List Int):∀ (f g i:Nat),zs.length<f+i→zs.length<g+i→u8From zs f i=u8From zs g i
 | 0,0,_,_,_=>rfl
 | 0,g+1,i,hf,_=>by simp only [u8From];rw [if_neg (by omega)]
 | f+1,0,i,_,hg=>by simp only [u8From];rw [if_neg (by omega)]
 | f+1,g+1,i,hf,hg=>by
  simp only [u8From]
  by_cases h:i<zs.length
  · have hw:=dec_width (zs.drop i) (by simp;omega)
    rw [if_pos h,if_pos h,u8From_fuel zs f g (i+(dec (zs.drop i)).2.toNat) (by omega) (by omega)]
  · rw [if_neg h,if_neg h]
theorem u8At_end (zs:List Int)(i:Nat)(h:zs.length≤i):u8At zs i = -1:=by
 unfold u8At u8From
 rw [if_neg (by omega)]
theorem u8At_bad (zs:List Int)(i:Nat)(h:i<zs.length)(h1:(dec (zs.drop i)).1=65533)(h2:(dec (zs.drop i)).2=1):u8At zs i=i:=by
 unfold u8At u8From
 rw [if_pos h,if_pos ⟨h1,h2⟩]
theorem u8At_good (zs:List Int)(i:Nat)(h:i<zs.length)(h1:¬((dec (zs.drop i)).1=65533∧(dec (zs.drop i)).2=1)):u8At zs i=u8At zs (i+(dec (zs.drop i)).2.toNat):=by
 have hw:=dec_width (zs.drop i) (by simp;omega)
 conv=>lhs;unfold u8At u8From
 rw [if_pos h,if_neg h1]
 exact u8From_fuel zs _ _ _ (by omega) (by omega)
theorem dec_at (zs:List Int)(i:Nat)(b off cap:Nat)(w:World)(hT:Tabs w)(hc:∀ i,i<zs.length→w.cell? ⟨b,off+i,none⟩=some (.int .u8 (zs.getD i 0)))(hb:∀ i,0≤zs.getD i 0∧zs.getD i 0≤255) :
  Calls Tryd.prog 113 #[.slice (some ⟨b,off+i,none⟩) (zs.length-i) cap] w fun e w'=>e=.returned (.tuple #[.int .i32 (dec (zs.drop i)).1,.int .i64 (dec (zs.drop i)).2])∧Below w.heap.size w w':=by
 have h:=dec_any (zs.drop i) b (off+i) cap w hT (fun j hj=>by
  have:=hc (i+j) (by simp at hj;omega)
  rw [Nat.add_assoc,this]
  simp [List.getD]) (fun j=>by
  have:=hb (i+j)
  simpa [List.getD] using this)
 simp only [List.length_drop] at h
 exact h
theorem wutf8_some (b off cap:Nat)(zs:List Int)(w:World)(hT:Tabs w)(hb:∀ i,0≤zs.getD i 0∧zs.getD i 0≤255)(hlt:zs≠[]→b<w.heap.size)(hc:∀ i,i<zs.length→w.cell? ⟨b,off+i,none⟩=some (.int .u8 (zs.getD i 0)))
  (hl:(zs.length:Int)≤9223372036854775807) (hcap:zs.length≤cap) :
  Calls Tryd.prog 79 #[.slice (some ⟨b,off,none⟩) zs.length cap] w fun e w'=>e=.returned (.int .i64 (u8At zs 0))∧Below w.heap.size w w':=by
 obtain ⟨n,hn⟩:∃ n,n=zs.length:=⟨_,rfl⟩
 have HN:=Lib.hid hn
 have HP:=Lib.hid hc
 have HB:=Lib.hid hb
 have HL:=Lib.hid hlt
 have HT:=Lib.hid hT
 rw [←hn] at hl hcap ⊢
 clear hc hb hn hlt hT
 go_enter Tryd.func79,Tryd.ntmps79
 go_wp2
 go_loopw [3,9] (fun x i wr=>Below w.heap.size w wr∧∃ k j:Nat,k≤j∧j≤n∧i=.int .i64 k∧x=.int .i64 j∧u8At zs 0=u8At zs j) (fun _ i _=>n-(intOf i).toNat)
 case atStart=>exact ⟨Below.refl _ _,0,0,Nat.le_refl _,Nat.zero_le _,rfl,rfl,rfl⟩
 case round =>
  obtain ⟨hbel,k,j,hkj,hjn,rfl,rfl,hans⟩:=hrel
  have HA:=Lib.hid hans
  clear hans
  by_cases hlt:k<n
  · by_cases hkj':k<j
    · go_wp2
      go_roundw
      case rel=>exact ⟨hbel,k+1,j,by omega,hjn,by go_num,rfl,HA.out⟩
      case measure=>simp [intOf];omega
    · obtain rfl:k=j:=by omega
      have hk:k<zs.length:=by rw [←HN.out];exact hlt
      have hw:=dec_width (zs.drop k) (by simp;omega)
      have hbs:b<w.heap.size:=HL.out (by intro h;rw [h] at hk;simp at hk)
      have D:=dec_at zs k b off (cap-k) _ (HT.out.below (Nat.le_refl _) hbel) (fun i hi=>(hbel.cell (p:=⟨b,off+i,none⟩) hbs).trans (HP.out i hi)) HB.out
      rw [←HN.out] at D
      have hbad:=u8At_bad zs k hk
      have hgood:=u8At_good zs k hk
      have hw3:(dec (zs.drop k)).2≤n-k:=by have h2:=hw.2.2;have h3:=HN.out;simp at h2;omega
      clear hk hbs
      generalize (dec (zs.drop k)).1=R at D hbad hgood hw hw3
      generalize (dec (zs.drop k)).2=K at D hbad hgood hw hw3
      obtain ⟨hw1,hw2,_⟩:=hw
      by_cases hx:R=65533∧K=1
      · have E:=Lib.hid (hbad hx.1 hx.2)
        have t1:(R==65533)=true:=by simp [hx.1]
        have t2:(K==1)=true:=by simp [hx.2]
        have HD:=Lib.hid D
        clear hbad hgood hx D
        go_wp2_with (go_at_call 113;refine HD.out.mono ?_;rintro e w1 ⟨rfl,hb1⟩)
        go_ret
        exact ⟨ret_int (by rw [HA.out,E.out]),hbel.trans (hb1.mono hbel.size)⟩
      · have E:=Lib.hid (hgood hx)
        have HD:=Lib.hid D
        have HA2:Hid (u8At zs 0=u8At zs (k+K.toNat)):=HA.out.trans E.out
        clear hbad hgood D E HA
        by_cases hr:R=65533
        · have t1:(R==65533)=true:=by simp [hr]
          have t2:(K==1)=false:=by simp;exact fun h=>hx ⟨hr,h⟩
          clear hx hr
          go_wp2_with (go_at_call 113;refine HD.out.mono ?_;rintro e w1 ⟨rfl,hb1⟩)
          go_roundw
          case rel=>exact ⟨hbel.trans (hb1.mono hbel.size),k+1,k+K.toNat,by omega,by omega,by go_num,by rw [show ((k+K.toNat:Nat):Int)=k+K from by omega],HA2.out⟩
          case measure=>simp [intOf];omega
        · have t1:(R==65533)=false:=by simp [hr]
          clear hx hr
          go_wp2_with (go_at_call 113;refine HD.out.mono ?_;rintro e w1 ⟨rfl,hb1⟩)
          go_roundw
          case rel=>exact ⟨hbel.trans (hb1.mono hbel.size),k+1,k+K.toNat,by omega,by omega,by go_num,by rw [show ((k+K.toNat:Nat):Int)=k+K from by omega],HA2.out⟩
          case measure=>simp [intOf];omega
  · go_wp2
    go_ret
    have hj:j=n:=by omega
    exact ⟨ret_int (by rw [HA.out,u8At_end _ _ (by rw [hj,HN.out];exact Nat.le_refl _)]),hbel⟩
theorem rutf8_some (b off cap:Nat)(zs:List Int)(w:World)(hT:Tabs w)(hb:∀ i,0≤zs.getD i 0∧zs.getD i 0≤255)(hlt:zs≠[]→b<w.heap.size)(hc:∀ i,i<zs.length→w.cell? ⟨b,off+i,none⟩=some (.int .u8 (zs.getD i 0)))
  (hl:(zs.length:Int)≤9223372036854775807) (hcap:zs.length≤cap) :
  Calls Tryd.prog 114 #[.slice (some ⟨b,off,none⟩) zs.length cap] w fun e w'=>e=.returned (.int .i64 (u8At zs 0))∧Below w.heap.size w w':=by
 obtain ⟨n,hn⟩:∃ n,n=zs.length:=⟨_,rfl⟩
 have HN:=Lib.hid hn
 have HP:=Lib.hid hc
 have HB:=Lib.hid hb
 have HL:=Lib.hid hlt
 have HT:=Lib.hid hT
 rw [←hn] at hl hcap ⊢
 clear hc hb hn hlt hT
 go_enter Tryd.func114,Tryd.ntmps114
 go_wp2
 go_loopw [3] (fun i wr=>Below w.heap.size w wr∧∃ k:Nat,k≤n∧i=.int .i64 k∧u8At zs 0=u8At zs k) (fun i _=>n-(intOf i).toNat)
 case atStart=>exact ⟨Below.refl _ _,0,Nat.zero_le _,rfl,rfl⟩
 case round =>
  obtain ⟨hbel,k,hkn,rfl,hans⟩:=hrel
  have HA:=Lib.hid hans
  clear hans
  by_cases hlt:k<n
  · have hk:k<zs.length:=by rw [←HN.out];exact hlt
    have hw:=dec_width (zs.drop k) (by simp;omega)
    have hbs:b<w.heap.size:=HL.out (by intro h;rw [h] at hk;simp at hk)
    have D:=dec_at zs k b off (cap-k) _ (HT.out.below (Nat.le_refl _) hbel) (fun i hi=>(hbel.cell (p:=⟨b,off+i,none⟩) hbs).trans (HP.out i hi)) HB.out
    rw [←HN.out] at D
    have hbad:=u8At_bad zs k hk
    have hgood:=u8At_good zs k hk
    have hw3:(dec (zs.drop k)).2≤n-k:=by have h2:=hw.2.2;have h3:=HN.out;simp at h2;omega
    clear hk hbs
    generalize (dec (zs.drop k)).1=R at D hbad hgood hw hw3
    generalize (dec (zs.drop k)).2=K at D hbad hgood hw hw3
    obtain ⟨hw1,hw2,_⟩:=hw
    by_cases hx:R=65533∧K=1
    · have E:=Lib.hid (hbad hx.1 hx.2)
      have t1:(R==65533)=true:=by simp [hx.1]
      have t2:K≤1:=by omega
      have HD:=Lib.hid D
      clear hbad hgood hx D
      go_wp2_with (go_at_call 113;refine HD.out.mono ?_;rintro e w1 ⟨rfl,hb1⟩)
      go_ret
      exact ⟨ret_int (by rw [HA.out,E.out]),hbel.trans (hb1.mono hbel.size)⟩
    · have E:=Lib.hid (hgood hx)
      have HD:=Lib.hid D
      have HA2:Hid (u8At zs 0=u8At zs (k+K.toNat)):=HA.out.trans E.out
      clear hbad hgood D E HA
      by_cases hr:R=65533
      · have t1:(R==65533)=true:=by simp [hr]
        have t2:¬K≤1:=fun h=>hx ⟨hr,by omega⟩
        clear hx hr
        go_wp2_with (go_at_call 113;refine HD.out.mono ?_;rintro e w1 ⟨rfl,hb1⟩)
        go_roundw
        case rel=>exact ⟨hbel.trans (hb1.mono hbel.size),k+K.toNat,by omega,by rw [show ((k+K.toNat:Nat):Int)=k+K from by omega],HA2.out⟩
        case measure=>simp [intOf];omega
      · have t1:(R==65533)=false:=by simp [hr]
        clear hx hr
        go_wp2_with (go_at_call 113;refine HD.out.mono ?_;rintro e w1 ⟨rfl,hb1⟩)
        go_roundw
        case rel=>exact ⟨hbel.trans (hb1.mono hbel.size),k+K.toNat,by omega,by rw [show ((k+K.toNat:Nat):Int)=k+K from by omega],HA2.out⟩
        case measure=>simp [intOf];omega
  · go_wp2
    go_ret
    have hj:k=n:=by omega
    exact ⟨ret_int (by rw [HA.out,u8At_end _ _ (by rw [hj,HN.out];exact Nat.le_refl _)]),hbel⟩
theorem wutf8_none (p:Option Addr)(cap:Nat)(w:World) :
  Calls Tryd.prog 79 #[.slice p 0 cap] w fun e w'=>e=.returned (.int .i64 (-1))∧w=w':=by
 go_enter Tryd.func79,Tryd.ntmps79
 go_wp2
 go_loop [9] (fun i=>i=.int .i64 0) (fun _=>0)
 case atStart=>rfl
 case round =>
  subst hrel
  go_wp2
  go_ret
  exact ⟨rfl,rfl⟩
theorem rutf8_none (p:Option Addr)(cap:Nat)(w:World) :
  Calls Tryd.prog 114 #[.slice p 0 cap] w fun e w'=>e=.returned (.int .i64 (-1))∧w=w':=by
 go_enter Tryd.func114,Tryd.ntmps114
 go_wp2
 go_loop [3] (fun i=>i=.int .i64 0) (fun _=>0)
 case atStart=>rfl
 case round =>
  subst hrel
  go_wp2
  go_ret
  exact ⟨rfl,rfl⟩
theorem wutf8_anyM (p:Option Addr)(cap:Nat)(zs:List Int)(w:World)(hT:Tabs w)(hz:Bytes w p zs)(hl:(zs.length:Int)≤9223372036854775807)(hcap:zs.length≤cap) :
  Calls Tryd.prog 79 #[.slice p zs.length cap] w fun e w'=>e=.returned (.int .i64 (u8At zs 0))∧Below w.heap.size w w':=by
 by_cases hne:zs=[]
 · subst hne
   exact (wutf8_none p cap w).mono fun e w' h=>⟨h.1,by rw [←h.2];exact Below.refl _ _⟩
 · obtain ⟨b,off,rfl,hlt,hc⟩:=hz.2 hne
   exact wutf8_some b off cap zs w hT hz.1 (fun _=>hlt) hc hl hcap
theorem rutf8_anyM (p:Option Addr)(cap:Nat)(zs:List Int)(w:World)(hT:Tabs w)(hz:Bytes w p zs)(hl:(zs.length:Int)≤9223372036854775807)(hcap:zs.length≤cap) :
  Calls Tryd.prog 114 #[.slice p zs.length cap] w fun e w'=>e=.returned (.int .i64 (u8At zs 0))∧Below w.heap.size w w':=by
 by_cases hne:zs=[]
 · subst hne
   exact (rutf8_none p cap w).mono fun e w' h=>⟨h.1,by rw [←h.2];exact Below.refl _ _⟩
 · obtain ⟨b,off,rfl,hlt,hc⟩:=hz.2 hne
   exact rutf8_some b off cap zs w hT hz.1 (fun _=>hlt) hc hl hcap
theorem wutf8_gen (p:Option Addr)(cap n:Nat)(zs:List Int)(w:World)(hT:Tabs w)(hz:Bytes w p zs)(hn:zs.length=n)(hl:(n:Int)≤9223372036854775807)(hcap:n≤cap) :
  Calls Tryd.prog 79 #[.slice p n cap] w fun e w'=>e=.returned (.int .i64 (u8At zs 0))∧Below w.heap.size w w':=by
 subst hn
 exact wutf8_anyM _ cap zs w hT hz hl hcap
theorem rutf8_gen (a:Option Addr)(cap n:Nat)(zs:List Int)(w:World)(hT:Tabs w)(hz:Bytes w a zs)(hn:zs.length=n)(hl:(n:Int)≤9223372036854775807)(hcap:n≤cap) :
  Calls Tryd.prog 114 #[.slice a n cap] w fun e w'=>e=.returned (.int .i64 (u8At zs 0))∧Below w.heap.size w w':=by
 subst hn
 exact rutf8_anyM _ cap zs w hT hz hl hcap
theorem u8From_range (zs:List Int):∀ (f i:Nat),-1≤u8From zs f i∧u8From zs f i≤zs.length
 | 0,i=>by simp [u8From]
 | f+1,i=>by
  simp only [u8From]
  split
  · split
    · omega
    · exact u8From_range zs f _
  · omega
theorem u8At_range (zs:List Int)(i:Nat) : -1≤u8At zs i∧u8At zs i≤zs.length:=u8From_range zs _ i
end Go.Proofs.YtcfjjocmiheiaaaDoor
namespace Go.Proofs.YtcfjjocmiheiaaaDoor
open Go.ChangeShapes Go.WideShapes Go.ChangeAt Go.RowKit Go.Shelf
def sortP (k:Nat)(lists:Int):Nat:=if 0<lists then 3 else if lists<0 then 0 else if 0<kSize k then 1 else if k=11∨k=12 then 2 else if k=13 then 4 else 0
def bareP (o:Nat)(v:PV):Bool:=
 (decide (o=1)||decide (v.num=0))&&((decide (o=2)||decide (v.bytes.length=0))&&(((decide (o=3)||v.has)||decide (v.kids.length=0))&&(decide (o=4) || !v.has)))
def fieldsP (f:Nat→Int→Int→PV→Bool):List CFld→List PV→Bool
 | [],_=>true
 | _::_,[]=>false
 | x::xs,v::vs=>f x.kind x.ref x.lists v&&fieldsP f xs vs
def fitsV1 (ss:List CRec)(es:List SCho)(next:Option (Nat→Int→Int→PV→Bool))(k:Nat)(ref lists:Int)(v:PV):Bool:=
 bareP (sortP k lists) v &&
  (if sortP k lists=1 then fitsT es k ref lists v.num
   else if sortP k lists=2 then decide (k=12)||decide (u8At v.bytes 0<0)
   else if sortP k lists=3 then (match next with
    | none=>decide (v.kids.length=0)
    | some f=>v.kids.all fun q => !(decide (sortP k (lists-1)=4) && !q.has)&&f k ref (lists-1) q)
   else if sortP k lists=4 then !v.has||(match next with
    | none=>false
    | some f=>decide (0≤ref∧ref<ss.length)&&(decide (v.kids.length=(ss.getD ref.toNat ⟨⟨#[]⟩,[]⟩).fields.length)&&fieldsP f (ss.getD ref.toNat ⟨⟨#[]⟩,[]⟩).fields v.kids))
   else false)
def fitsP (ss:List CRec)(es:List SCho):Nat→Nat→Int→Int→PV→Bool
 | 0=>fitsV1 ss es none
 | r+1=>fitsV1 ss es (some (fitsP ss es r))
end Go.Proofs.YtcfjjocmiheiaaaDoor
namespace Go.Proofs.YtcfjjocmiheiaaaDoor
open Go.ChangeShapes Go.WideShapes Go.ChangeAt Go.RowKit Go.Shelf
theorem sorts_any (k:Nat)(ref lists:Int)(w:World) :
  Calls Tryd.prog 56 #[.agg #[.int .u8 k,.int .i64 ref,.int .i64 lists]] w fun e w'=>e=.returned (.int .i64 (sortP k lists:Nat))∧Below w.heap.size w w':=by
 have h0:=heap_alloc_new w (.cells #[.int .u8 k,.int .i64 ref,.int .i64 lists] 50)
 have HB:=Lib.hid ((Below.refl w.heap.size w).alloc (Nat.le_refl _) (.cells #[.int .u8 k,.int .i64 ref,.int .i64 lists] 50))
 obtain ⟨_,x0,x1,x2,_⟩:=blk3 h0
 obtain ⟨o,ho⟩:∃ o,sortP k lists=o:=⟨_,rfl⟩
 have HO:=Lib.hid ho
 rw [ho]
 clear h0 ho
 by_cases h1:0<lists
 · have HE:Hid (o=3):=Lib.hid (by rw [←HO.out];unfold sortP;rw [if_pos h1])
   obtain rfl:=HE.out
   go_enter Tryd.func56,Tryd.ntmps56
   go_wp2
   go_ret
   exact ⟨rfl,HB.out⟩
 by_cases h2:lists<0
 · have HE:Hid (o=0):=Lib.hid (by rw [←HO.out];unfold sortP;rw [if_neg h1,if_pos h2])
   obtain rfl:=HE.out
   go_enter Tryd.func56,Tryd.ntmps56
   go_wp2
   go_ret
   exact ⟨rfl,HB.out⟩
 have hz:Hid (sortP k lists=if 0<kSize k then 1 else if k=11∨k=12 then 2 else if k=13 then 4 else 0):=Lib.hid (by unfold sortP;rw [if_neg h1,if_neg h2])
 go_enter Tryd.func56,Tryd.ntmps56
 go_wp2_with fail
 refine (wsize_any (k:Int) _).mono ?_
 rintro e W1 ⟨rfl,rfl⟩
 by_cases h3:0<kSize (k:Int)
 · have HE:Hid (o=1):=Lib.hid (by rw [←HO.out,hz.out,if_pos h3])
   obtain rfl:=HE.out
   generalize kSize (k:Int)=z at *
   go_wp2
   go_ret
   exact ⟨rfl,HB.out⟩
 have hz2:Hid (o=if k=11∨k=12 then 2 else if k=13 then 4 else 0):=Lib.hid (by rw [←HO.out,hz.out,if_neg h3])
 generalize kSize (k:Int)=z at *
 by_cases h11:k=11
 · have HE:Hid (o=2):=Lib.hid (by rw [hz2.out,if_pos (.inl h11)])
   obtain rfl:=HE.out
   subst h11
   go_wp2
   go_ret
   exact ⟨rfl,HB.out⟩
 have t11:((k:Int)==11)=false:=by simp;omega
 by_cases h12:k=12
 · have HE:Hid (o=2):=Lib.hid (by rw [hz2.out,if_pos (.inr h12)])
   obtain rfl:=HE.out
   subst h12
   go_wp2
   go_ret
   exact ⟨rfl,HB.out⟩
 have t12:((k:Int)==12)=false:=by simp;omega
 by_cases h13:k=13
 · have HE:Hid (o=4):=Lib.hid (by rw [hz2.out,if_neg (by omega),if_pos h13])
   obtain rfl:=HE.out
   subst h13
   go_wp2
   go_ret
   exact ⟨rfl,HB.out⟩
 have t13:((k:Int)==13)=false:=by simp;omega
 have HE:Hid (o=0):=Lib.hid (by rw [hz2.out,if_neg (by omega),if_neg h13])
 obtain rfl:=HE.out
 clear h11 h12 h13
 go_wp2
 go_ret
 exact ⟨rfl,HB.out⟩
theorem element_any (k:Nat)(ref lists:Int)(hl : -9223372036854775807≤lists∧lists≤9223372036854775807)(w:World) :
  Calls Tryd.prog 81 #[.agg #[.int .u8 k,.int .i64 ref,.int .i64 lists]] w fun e w'=>e=.returned (.agg #[.int .u8 k,.int .i64 ref,.int .i64 (lists-1)])∧Below w.heap.size w w':=by
 obtain ⟨hb,hq1,hq2⟩:=two_start w #[.int .u8 k,.int .i64 ref,.int .i64 lists] #[.int .u8 0,.int .i64 0,.int .i64 0] 50 50
 have HB:=Lib.hid hb
 have HQ1:=Lib.hid hq1
 have HQ2:=Lib.hid hq2
 have hw:=IntWalk.i64_in (lists-1) (by omega)
 clear hb hq1 hq2
 go_enter Tryd.func81,Tryd.ntmps81
 go_upto_region 1 with (fail)
 generalize (w.alloc (.cells #[.int .u8 k,.int .i64 ref,.int .i64 lists] 50)).alloc (.cells #[.int .u8 0,.int .i64 0,.int .i64 0] 50)=W1 at *
 have hAB:w.heap.size≠w.heap.size+1:=by omega
 have HAB:=Lib.hid hAB
 generalize hBe:w.heap.size+1=B at *
 have hBl:w.heap.size≤B:=by omega
 have HBL:=Lib.hid hBl
 clear hBe hBl
 obtain ⟨_,a0,a1,a2,f0,f1,f2⟩:=blk3 HQ1.out
 have HQ3:=Lib.hid ((blk_set HQ1.out 2 (.int .i64 (lists-1))).trans rfl)
 have HQ4:=Lib.hid (blk_set_ne HQ2.out (p:=⟨w.heap.size,2,none⟩) HAB.out (.int .i64 (lists-1)))
 have HB3:=Lib.hid (HB.out.setCell (p:=⟨w.heap.size,2,none⟩) (Nat.le_refl _) (.int .i64 (lists-1)))
 go_upto_region 2 with (fail)
 generalize W1.setCell ⟨w.heap.size,2,none⟩ (.int .i64 (lists-1))=W2 at *
 clear a0 a1 a2 f0 f1 f2 hAB
 obtain ⟨_,a0,a1,a2,_⟩:=blk3 HQ3.out
 obtain ⟨_,b0,b1,b2,f0,f1,f2⟩:=blk3 HQ4.out
 go_wp2
 refine post_gen (fun Wf=>Wf.heap[B]?=some (.cells #[.int .u8 k,.int .i64 ref,.int .i64 (lists-1)] 50 (0,0))∧Below w.heap.size w Wf) ⟨blk_set3 HQ4.out _ _ _,((HB3.out.setCell (p:=⟨B,0,none⟩) HBL.out _).setCell (p:=⟨B,1,none⟩) HBL.out _).setCell (p:=⟨B,2,none⟩) HBL.out _⟩ ?_
 rintro Wf ⟨e1,e2⟩
 obtain ⟨_,c0,c1,c2,_⟩:=blk3 e1
 exact bodyPost_ret (v:=.agg #[.int .u8 k,.int .i64 ref,.int .i64 (lists-1)]) (by simp [results,Tryd.results81,go_sem,c0,c1,c2]) rfl ⟨rfl,e2⟩
end Go.Proofs.YtcfjjocmiheiaaaDoor
namespace Go.Proofs.YtcfjjocmiheiaaaDoor
open Go.ChangeShapes Go.WideShapes Go.ChangeAt Go.RowKit Go.Shelf
structure SchAt (A:Nat)(W:World)(ss:List (SRec × Value))(es:List (SCho × Value))(sv ev:Value)(rt:Nat):Prop where
 blk:W.heap[A]?=some (.cells #[sv,ev,.int .i64 rt] 30 (0,0))
 rows:SchRows (A+1) W ss es sv ev
theorem SchAt.below {A rt:Nat}{W W':World}{ss:List (SRec × Value)}{es:List (SCho × Value)}{sv ev:Value}(h:SchAt A W ss es sv ev rt)(hb:Below W.heap.size W W'):SchAt A W' ss es sv ev rt:=
 ⟨blk_below h.blk hb (blk_lt h.blk),h.rows.below hb⟩
structure MKeeps (w:World)(b:Nat)(x0 x1:Value)(rt:Nat)(tree:Bool)(W:World):Prop where
 hb:b=w.heap.size
 box:W.heap[b]?=some (.cells #[x0,x1,.int .u8 rt,.bool tree] 25 (0,0))
 res:W.heap[b+1]?=some (.cells #[.slice none 0 0,.slice none 0 0,.int .i64 0] 30 (0,0))
 bel:Below b w W
theorem MKeeps.below {w W W':World}{x0 x1:Value}{b rt B:Nat}{tree:Bool}(h:MKeeps w b x0 x1 rt tree W)(hb:Below B W W')(hB:b+2≤B):MKeeps w b x0 x1 rt tree W':=
 ⟨h.hb,blk_below h.box hb (by omega),blk_below h.res hb (by omega),h.bel.trans (hb.mono (by omega))⟩
end Go.Proofs.YtcfjjocmiheiaaaDoor
namespace Go.Proofs.YtcfjjocmiheiaaaDoor
open Go.ChangeShapes Go.WideShapes Go.ChangeAt Go.RowKit Go.Shelf
theorem kSize_bd (k:Int):0≤kSize k∧kSize k≤8:=by
 unfold kSize
 split
 · omega
 · split
   · omega
   · split
     · omega
     · split<;>omega
theorem lnumber_any (kind ref lists:Nat)(w:World) :
  Calls Tryd.prog 52 #[.agg #[.int .u8 kind,.int .i64 ref,.int .i64 lists]] w fun e w'=>e=.returned (.bool (isNumP kind lists))∧Below w.heap.size w w':=by
 have h0:=heap_alloc_new w (.cells #[.int .u8 kind,.int .i64 ref,.int .i64 lists] 50)
 have HB:=Lib.hid ((Below.refl w.heap.size w).alloc (Nat.le_refl _) (.cells #[.int .u8 kind,.int .i64 ref,.int .i64 lists] 50))
 obtain ⟨_,x0,x1,x2,_⟩:=blk3 h0
 clear h0
 by_cases hl:lists=0
 · have HS:Hid (isNumP kind lists=decide (0<kSize kind)):=Lib.hid (by unfold isNumP;rw [decide_eq_true hl,Bool.true_and])
   subst hl
   go_enter Tryd.func52,Tryd.ntmps52
   go_wp2_with fail
   refine (wsize_any _ _).mono ?_
   rintro e W1 ⟨rfl,rfl⟩
   generalize kSize (kind:Int)=z at *
   go_wp2
   go_ret
   exact ⟨ret_bool HS.out.symm,HB.out⟩
 · have HS:Hid (isNumP kind lists=false):=Lib.hid (by unfold isNumP;rw [decide_eq_false hl,Bool.false_and])
   have hl1:((lists:Int)==0)=false:=by simp;omega
   clear hl
   go_enter Tryd.func52,Tryd.ntmps52
   go_wp2
   go_ret
   exact ⟨ret_bool HS.out.symm,HB.out⟩
def multI (n m:Int):Int:=(n+m-1) / m * m
end Go.Proofs.YtcfjjocmiheiaaaDoor
namespace Go.Proofs.YtcfjjocmiheiaaaDoor
open Go.ChangeShapes Go.WideShapes Go.ChangeAt Go.RowKit Go.Shelf
section
variable {P:Program} (w:World)
theorem wp_append_run {o:Oper}{a:Act}{K:Act→World→Prop}{Q:Exit→Act→World→Prop}(s x:Operand)(t:TypeId)
  (ho:o.op=.call { callee:=.builtin .append,args:=#[s,x],argTypes:=#[t,t] }) (v y v':Value) (w':World) (hs:a.eval s=v) (hx:a.eval x=y) (hr:(Builtin.append_ #[t,t] o.type #[v,y]).run P w=.ok v' w') (h:K (a.put o.dst v') w'):o.wp P a w K Q:=by
 unfold Oper.wp execOp
 simp only [ho,resolve,invoke,builtin,Sem.run_bind,Sem.run_pure,Result.andThen_ok,List.map_toArray,List.map_cons,List.map_nil,hs,hx,hr]
 exact h
end
end Go.Proofs.YtcfjjocmiheiaaaDoor
