/-
  Package flatread: Read. Conditions: those that each theorem names.
-/
import Derived.Test.YtcfjjocmiheiaaaDoorPkD38
import Derived.Test.YtcfjjocmiheiaaaDoorPkD41
import Derived.Test.YtcfjjocmiheiaaaDoorPkD44
namespace Go.Proofs.YtcfjjocmiheiaaaDoor
open Go.ChangeShapes Go.WideShapes Go.ChangeAt Go.RowKit Go.Shelf
def ReadPost (zs:List Int)(ss:List CRec)(es:List SCho)(root mt:Nat)(ml:Int)(w:World)(e:Ending)(w':World):Prop:=
 Exc mt w.heap.size w w'∧∃ ml' mo,w'.heap[mt]?=some (.cells #[.int .i64 ml',.bool mo] 106 (0,0)) ∧
 ((∃ v l' x,zs.length≤16384∧flatZ ss es zs 12 13 root 0 0 zs.length=some (v,l')∧e=.returned (.tuple #[x,.int .i64 0])∧Shown ss 12 w' x 13 root 0 v∧mo=false∧ml'≤ml) ∨
  (e=.returned (.tuple #[.nilIface,.int .i64 20])∧(16384<zs.length∨flatZ ss es zs 12 13 root 0 0 zs.length=none)) ∨
  (e=.returned (.tuple #[.nilIface,.int .i64 3])∧zs.length≤16384∧ml<3 * (zs.length:Int)))
theorem flat_struct {ss:List CRec}{es:List SCho}{zs:List Int}{room r:Nat}{at' left:Int}{q:PV × Int}{to:Int}{t:TabZ}(h:flatZ ss es zs room 13 r 0 at' left=some q)(hj:jumpZ zs at'=some to)(ht:tabZ zs to=some t):structT ss zs (nextZ ss es zs room) r to t left=some q:=by
 rw [flatZ_eq] at h
 unfold valZ at h
 rw [if_neg (by decide),if_neg (by decide),if_neg (by decide),if_pos (by decide)] at h
 obtain ⟨to',hj',hg⟩:=point_some h
 rw [hj] at hj'
 injection hj' with hj'
 subst hj'
 rw [structAt_some ht] at hg
 exact hg
set_option maxRecDepth 100000 in
set_option maxHeartbeats 16000000 in
theorem fread_any (w:World){base B:Nat}{ss:List (SRec × Value)}{es:List (SCho × Value)}{sv ev:Value}(root:Nat){bp:Option Addr}{bc mt:Nat}{zs:List Int}{ml:Int}(h:SchRows base w ss es sv ev)(hS:SchM ss (es.map Prod.fst))(hD:∀ q ∈ ss,DfltsOk (es.map Prod.fst) (cR q.1).fields)(hE:es.length≤1000000∧∀ q ∈ es,q.1.names.length≤1000000)(hr:root<ss.length)
  (hz:Bytes w bp zs) (hl:zs.length≤1000000) (hc:zs.length≤bc) (hm:w.heap[mt]?=some (.cells #[.int .i64 ml,.bool false] 106 (0,0))) (hml:0≤ml∧ml≤9223372036854775807) (hB:B≤mt) (hA:Amb B w) :
  Calls Tryd.prog 17 #[.agg #[sv,ev,.int .i64 root],.slice bp zs.length bc,.pointer (some ⟨mt,0,none⟩)] w (ReadPost zs (sRecs ss) (es.map Prod.fst) root mt ml w):=by
 have hb:=(Below.refl w.heap.size w).alloc (Nat.le_refl _) (.cells #[sv,ev,.int .i64 root] 30)
 have HB:=Lib.hid hb
 have HQ:=Lib.hid (heap_alloc_new w (.cells #[sv,ev,.int .i64 root] 30))
 have HM:=Lib.hid hm
 have HML:=Lib.hid hml
 have HR:=Lib.hid hr
 have HMW:Hid (mt<w.heap.size):=Lib.hid (blk_lt hm)
 have HBA:=Lib.hid (And.intro hB hA)
 have HSD:=Lib.hid (And.intro hS hD)
 by_cases hlong:16384<zs.length
 · have hli:(16384:Int)<zs.length:=by omega
   have HLO:=Lib.hid hlong
   clear hb h hS hD hE hz hc hm hml hB hA hr hlong
   obtain ⟨P,hP⟩:∃ P,ReadPost zs (sRecs ss) (es.map Prod.fst) root mt ml w=P:=⟨_,rfl⟩
   rw [hP]
   have HP:=Lib.hid hP.symm
   clear hP
   go_enter Tryd.func17,Tryd.ntmps17
   go_wp2
   rw [HP.out]
   exact ⟨Exc.of_below HB.out,ml,false,blk_below HM.out HB.out HMW.out,.inr (.inl ⟨rfl,.inl HLO.out⟩)⟩
 have hl2:zs.length≤16384:=by omega
 have HNEW:Hid (∀ W,Below w.heap.size w W→Calls Tryd.prog 45 #[.agg #[sv,ev,.int .i64 root],.slice bp zs.length bc] W fun e w'=>(∃ m sv' ev' fs ns,e=.returned (.pointer (some ⟨m,0,none⟩))∧W.heap.size≤m∧MsgOf W.heap.size w' m bp bc sv' ev' zs ss (es.map Prod.fst) fs ns)∧Below W.heap.size W w'):=Lib.hid (fun W hW=>fnew_any W root (h.below hW) hS hE (hz.below (Nat.le_refl _) hW) hl2 hc)
 have hli:¬(16384:Int)<zs.length:=by omega
 have HL2:=Lib.hid hl2
 obtain ⟨P,hP⟩:∃ P,ReadPost zs (sRecs ss) (es.map Prod.fst) root mt ml w=P:=⟨_,rfl⟩
 rw [hP]
 have HP:=Lib.hid hP.symm
 clear hb h hS hD hE hz hc hm hml hB hA hr hlong hP
 go_enter Tryd.func17,Tryd.ntmps17
 go_upto_region 3 with (fail)
 generalize w.alloc (.cells #[sv,ev,.int .i64 root] 30)=W1 at *
 obtain ⟨_,s0,s1,s2,_⟩:=blk3 HQ.out
 go_wp2_with fail
 refine (HNEW.out W1 HB.out).mono ?_
 rintro e W2 ⟨⟨m,sv',ev',fs,ns,rfl,hm,hmsg⟩,hb2⟩
 have HB2:=Lib.hid (HB.out.trans (hb2.mono HB.out.size))
 have HQ2:=Lib.hid (blk_below HQ.out hb2 (blk_lt HQ.out))
 have HMS:=Lib.hid hmsg
 clear hmsg hb2 s0 s1 s2
 go_upto_region 4 with (fail)
 have hba:Below W2.heap.size W2 (W2.alloc (.cells #[.pointer (some ⟨m,0,none⟩),.pointer (some ⟨mt,0,none⟩),.bool false,.int .i64 zs.length] 116)):=(Below.refl _ _).alloc (Nat.le_refl _) _
 have HWN:=Lib.hid (heap_alloc_new W2 (.cells #[.pointer (some ⟨m,0,none⟩),.pointer (some ⟨mt,0,none⟩),.bool false,.int .i64 zs.length] 116))
 have HB3:=Lib.hid (HB2.out.trans (hba.mono HB2.out.size))
 have HQ3:=Lib.hid (blk_below HQ2.out hba (blk_lt HQ2.out))
 have HMS3:=Lib.hid (HMS.out.below hba)
 have HKL:Hid (w.heap.size≤W2.heap.size):=Lib.hid HB2.out.size
 clear hba
 generalize W2.alloc (.cells #[.pointer (some ⟨m,0,none⟩),.pointer (some ⟨mt,0,none⟩),.bool false,.int .i64 zs.length] 116)=W3 at *
 generalize W2.heap.size=wk at *
 have HST3:Hid (WState W3 wk m mt false zs.length ml false):=Lib.hid ⟨HWN.out,blk_below HM.out HB3.out HMW.out⟩
 have HCT:=Lib.hid (show RCtx W1.heap.size W3 m bp bc sv' ev' zs ss (es.map Prod.fst) fs ns wk mt B zs.length ml from ⟨HMS3.out,HST3.out,by have:=HL2.out;omega,HML.out,⟨by have:=HBA.out.1;have:=HMW.out;have:=HB3.out.size;omega,by have:=HBA.out.1;have:=HMW.out;have:=HKL.out;omega,HBA.out.1⟩,HBA.out.2.below (HB3.out.mono (by have:=HBA.out.1;have:=HMW.out;omega)),HSD.out.1⟩)
 obtain ⟨_,s0,s1,s2,_⟩:=blk3 HQ3.out
 go_wp2_with fail
 refine (fwhole HCT.out root HR.out).mono ?_
 rintro e W4 ⟨hx,hpost⟩
 have HX:=Lib.hid hx
 have HEX:Hid (Exc mt w.heap.size w W4):=Lib.hid ((Exc.of_below HB3.out).trans ⟨hx.os,hx.tape,hx.output,hx.size,fun k hk hr=>hx.block k (Nat.lt_of_lt_of_le hk HB3.out.size) (by have:=HKL.out;omega) hr⟩)
 clear hx s0 s1 s2
 rcases hpost with ⟨v,l',ml',to,t,hres,hj,ht,rfl,hst,hle⟩|⟨⟨_,rr,a,b,c,d,⟨pp,rfl⟩,rfl⟩,o,l',ml',mo,hst,ho1,ho2⟩
 · have hjb:=jump_bd HMS.out.msg.bytes.1 hj
   have hgt:=flat_struct hres hj ht
   have HSH:=Lib.hid (fun W (hW:Below W4.heap.size W4 W)=>(fshow_all 12).struct ((HMS3.out.exw HST3.out HX.out).below hW) HSD.out.1 HSD.out.2 root t to _ _ _ HR.out ht (by have:=HL2.out;unfold lenZ at hjb;omega) hgt)
   have HS4:=Lib.hid hst
   have HRES:=Lib.hid hres
   have HLE:=Lib.hid hle
   unfold strV at *
   clear hjb hgt hres hj ht hst hle
   go_upto_region 5 with (fail)
   have hba:Below W4.heap.size W4 (W4.alloc (.cells #[.pointer (some ⟨m,0,none⟩),.int .i64 root,.int .i64 to,.int .i64 t.own,.int .i64 t.la,.int .i64 t.size] 120)):=(Below.refl _ _).alloc (Nat.le_refl _) _
   have HSN:=Lib.hid (heap_alloc_new W4 (.cells #[.pointer (some ⟨m,0,none⟩),.int .i64 root,.int .i64 to,.int .i64 t.own,.int .i64 t.la,.int .i64 t.size] 120))
   have HB5:=Lib.hid hba
   have HS5:=Lib.hid (HS4.out.below hba)
   clear hba
   generalize W4.alloc (.cells #[.pointer (some ⟨m,0,none⟩),.int .i64 root,.int .i64 to,.int .i64 t.own,.int .i64 t.la,.int .i64 t.size] 120)=W5 at *
   obtain ⟨_,c0,c1,c2,c3⟩:=blk4w HS5.out.walk
   obtain ⟨_,y0,y1,y2,y3,y4,y5⟩:=blk6 HSN.out
   go_wp2
   rw [HP.out]
   exact ⟨HEX.out.trans (Exc.of_below (HB5.out.mono HEX.out.size)),ml',false,HS5.out.meter,.inl ⟨v,l',_,HL2.out,HRES.out,rfl,HSH.out W5 HB5.out,rfl,HLE.out⟩⟩
 · have HS4:=Lib.hid hst
   have HO1:=Lib.hid ho1
   have HO2:=Lib.hid ho2
   clear hst ho1 ho2
   go_upto_region 5 with (fail)
   have hba:Below W4.heap.size W4 (W4.alloc (.cells #[.pointer pp,.int .i64 rr,.int .i64 a,.int .i64 b,.int .i64 c,.int .i64 d] 120)):=(Below.refl _ _).alloc (Nat.le_refl _) _
   have HB5:=Lib.hid hba
   have HS5:=Lib.hid (HS4.out.below hba)
   clear hba
   generalize W4.alloc (.cells #[.pointer pp,.int .i64 rr,.int .i64 a,.int .i64 b,.int .i64 c,.int .i64 d] 120)=W5 at *
   obtain ⟨_,c0,c1,c2,c3⟩:=blk4w HS5.out.walk
   cases o with
   | true =>
    go_wp2
    rw [HP.out]
    exact ⟨HEX.out.trans (Exc.of_below (HB5.out.mono HEX.out.size)),ml',mo,HS5.out.meter,.inr (.inr ⟨rfl,HL2.out,HO2.out trivial⟩)⟩
   | false =>
    go_wp2
    rw [HP.out]
    exact ⟨HEX.out.trans (Exc.of_below (HB5.out.mono HEX.out.size)),ml',mo,HS5.out.meter,.inr (.inl ⟨rfl,.inr (HO1.out trivial)⟩)⟩
end Go.Proofs.YtcfjjocmiheiaaaDoor
