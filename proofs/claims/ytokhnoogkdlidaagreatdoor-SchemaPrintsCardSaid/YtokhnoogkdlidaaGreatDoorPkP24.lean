/-
  The document's own Number: the number that a text says. Conditions: those that each theorem names.
-/
import Derived.Test.YtokhnoogkdlidaaGreatDoorPkP1
import Derived.Test.YtokhnoogkdlidaaGreatDoorPkP4
import Derived.Test.YtokhnoogkdlidaaGreatDoorPkP10
import Derived.Test.YtokhnoogkdlidaaGreatDoorPkP18
import Derived.Test.YtokhnoogkdlidaaGreatDoorPkP20
import Derived.Lib.ConvBytes
import Derived.Lib.AtoiErrMem
namespace Go.Proofs.YtokhnoogkdlidaaGreatDoor
open Go.ChangeShapes Go.WideShapes Go.ChangeAt Go.RowKit Go.Shelf
def ErrV (w:World):Prop:=∃ t v,w.cell? ⟨4,0,none⟩=some (.iface t v)
theorem ErrV.later {w w':World}(h:ErrV w)(hb:Below w.heap.size w w'):ErrV w':=by
 obtain ⟨t,v,h⟩:=h
 exact ⟨t,v,(hb.cell (p:=⟨4,0,none⟩) (World.block_lt_of_cell? _ _ h)).trans h⟩
def numR:Option Nat→Value
 | none=>.tuple #[.int .u64 0,.bool false]
 | some n=>.tuple #[.int .u64 (n:Nat),.bool true]
theorem minus_prefix (s:ByteArray):Lib.hasPrefix s.data.toList (ByteArray.mk #[45]).data.toList=stA (bts s) (isC 45) 0:=by
 unfold Lib.hasPrefix bts stA
 cases s.data.toList with
 | nil=>simp [List.isPrefixOf]
 | cons a r =>
  simp only [List.map_cons,List.length_cons,List.getD_cons_zero,isC]
  rw [decide_eq_true (by omega),Bool.true_and]
  simp only [List.isPrefixOf,Bool.and_true]
  rw [Bool.eq_iff_iff,beq_iff_eq,decide_eq_true_iff,←UInt8.toNat_inj]
  constructor
  · intro h;rw [←h];rfl
  · intro h
    have:a.toNat=45:=by omega
    rw [this];rfl
theorem minus_trim (s:ByteArray):(Lib.trimPrefix s.data.toList (ByteArray.mk #[45]).data.toList).map (fun b=>(b.toNat:Int))=digs (bts s):=by
 unfold Lib.trimPrefix digs
 rw [minus_prefix]
 split
 · simp [bts]
 · rfl
theorem trim_size (s p:List UInt8):(Lib.trimPrefix s p).length≤s.length:=by
 unfold Lib.trimPrefix
 split<;>simp
theorem parse_digs (s:ByteArray)(h:goodN (bts s)=true) :
  Lib.parseUintB 64 (Lib.trimPrefix s.data.toList (ByteArray.mk #[45]).data.toList)=if decF 0 (digs (bts s))≤maxU then .ok (decF 0 (digs (bts s))) else .range:=by
 obtain ⟨h1,h2⟩:=good_digs h
 rw [←minus_trim] at h1 h2 ⊢
 refine parseUintB_dec _ (fun he=>h1 (by rw [he];rfl)) (fun b hb=>?_)
 have:=h2 _ (List.mem_map_of_mem hb)
 omega
theorem sized_iff (size:Int):sizedB size=true ↔ (size=1∨size=2∨size=4∨size=8):=by unfold sizedB;rw [decide_eq_true_iff]
theorem numV_bad1 {zs:List Int}{size:Int}{sign:Bool}(h:numBad zs 0=true):numV zs size sign=none:=by
 unfold numV goodN
 rw [if_neg (by rw [h];rintro ⟨h,_⟩;cases h)]
theorem numV_bad2 {zs:List Int}{size:Int}{sign:Bool}(h:numEnd zs 0≠zs.length):numV zs size sign=none:=by
 unfold numV goodN
 rw [if_neg (by rw [decide_eq_false h,Bool.and_false];rintro ⟨h,_⟩;cases h)]
theorem numV_bad3 {zs:List Int}{size:Int}{sign:Bool}(h:¬(size=1∨size=2∨size=4∨size=8)):numV zs size sign=none:=by
 unfold numV
 rw [if_neg (fun hh=>h ((sized_iff size).1 hh.2.1))]
theorem numV_bad4 {zs:List Int}{size:Int}{sign:Bool}(h:¬decF 0 (digs zs)≤maxU):numV zs size sign=none:=by
 unfold numV
 rw [if_neg (fun hh=>h hh.2.2.1)]
theorem numV_bad5 {zs:List Int}{size:Int}{sign:Bool}(h:fitsB (decF 0 (digs zs)) (stA zs (isC 45) 0) size sign=false):numV zs size sign=none:=by
 unfold numV
 rw [if_neg (fun hh=>by have:=hh.2.2.2;rw [h] at this;cases this)]
theorem numV_yes {zs:List Int}{size:Int}{sign:Bool}(h1:numBad zs 0=false)(h2:numEnd zs 0=zs.length)(h3:size=1∨size=2∨size=4∨size=8)(h4:decF 0 (digs zs)≤maxU)(h5:fitsB (decF 0 (digs zs)) (stA zs (isC 45) 0) size sign=true) :
  numV zs size sign=some (if stA zs (isC 45) 0=true then (18446744073709551616-decF 0 (digs zs)) % 18446744073709551616 else decF 0 (digs zs)):=by
 unfold numV
 rw [if_pos ⟨by unfold goodN;rw [h1,decide_eq_true h2];rfl,(sized_iff size).2 h3,h4,h5⟩]
theorem below_bytes {B:Nat}{w W:World}(h:Below B w W)(hB:B≤W.heap.size)(e:TypeId)(s:ByteArray):Below B w (Lib.bytesWorld W e s):=h.trans ((Lib.bytesWorld_below W e s).mono hB)
theorem bytes_new (w:World)(s:ByteArray):Bytes (Lib.bytesWorld w 5 s) (some ⟨w.heap.size,0,none⟩) (bts s):=by
 refine ⟨bts_bd s,fun _=>⟨w.heap.size,0,rfl,by rw [Lib.bytesWorld_size];omega,fun i hi=>?_⟩⟩
 rw [bts_length] at hi
 rw [Nat.zero_add,Lib.bytesWorld_cell w _ s i hi]
 simp [bts,List.getD,hi]
theorem lexNumber_bad (s:ByteArray)(size:Int)(sign:Bool)(w:World)(hs:s.size≤281474976710656)(h:numBad (bts s) 0=true∨(numBad (bts s) 0=false∧(numEnd (bts s) 0≠s.size∨(numEnd (bts s) 0=s.size∧¬(size=1∨size=2∨size=4∨size=8))))) :
  Calls Tryz.prog 133 #[.string s,.int .i64 size,.bool sign] w fun e w'=>e=.returned (.tuple #[.int .u64 0,.bool false])∧Below w.heap.size w w':=by
 have kc:=fun W=>Lib.run_convert_string_bytes (P:=Tryz.prog) W 9 22 5 s Tryz.underlying9 Tryz.underlying22 Tryz.underlying5
 have H:=Lib.hid h
 clear h
 go_enter Tryz.func133,Tryz.ntmps133
 go_wp2_with fail
 refine (number_any _ s.size _ 0 _ (bts s) _ rfl (bytes_new w s) (bts_length s) hs (Nat.zero_le _)).mono ?_
 rintro e W1 ⟨rfl,hb1⟩
 have HB1:=Lib.hid ((below_bytes (Below.refl _ _) (Nat.le_refl _) 5 s).trans (hb1.mono (by rw [Lib.bytesWorld_size];omega)))
 clear hb1
 rcases H.out with h|⟨h,h2⟩
 · rw [show numVal (bts s) 0=_ from if_pos h]
   clear h
   go_wp2
   go_ret2
   exact ⟨rfl,HB1.out⟩
 · rw [show numVal (bts s) 0=_ from if_neg (by rw [h];decide)]
   generalize numEnd (bts s) 0=E at h2
   rcases h2 with h2|⟨h2,h3⟩
   · have t:((E:Int) != (s.size:Int))=true:=by simp;omega
     clear h h2
     go_wp2
     go_ret2
     exact ⟨rfl,HB1.out⟩
   · have t:((E:Int) != (s.size:Int))=false:=by simp;omega
     have H3:=Lib.hid h3
     clear h h2 h3
     go_wp2_with fail
     refine (sized_no size _ H3.out).mono ?_
     rintro e W2 ⟨rfl,rfl⟩
     go_wp2
     go_ret2
     exact ⟨rfl,HB1.out⟩
theorem digs_str (s:ByteArray)(h:goodN (bts s)=true):∃ d:ByteArray,(⟨(Lib.trimPrefix s.data.toList (ByteArray.mk #[45]).data.toList).toArray⟩:ByteArray)=d∧d.size≤s.size∧Lib.parseUintB 64 d.data.toList=if decF 0 (digs (bts s))≤maxU then .ok (decF 0 (digs (bts s))) else .range:=by
 refine ⟨_,rfl,?_,?_⟩
 · have:=trim_size s.data.toList (ByteArray.mk #[45]).data.toList
   have e1:s.data.toList.length=s.size:=by simp
   simp only [ByteArray.size,List.size_toArray]
   simp only [ByteArray.size] at e1
   omega
 · exact parse_digs s h
theorem neg_wrap (V:Nat)(h:(V:Int)≤18446744073709551615):IntKind.u64.wrap (-(V:Int))=(((18446744073709551616-V) % 18446744073709551616:Nat):Int):=by
 rw [IntKind.wrap_u64]
 omega
set_option maxHeartbeats 800000 in
theorem lexNumber_good (s:ByteArray)(size:Int)(sign:Bool)(w:World)(hE:ErrV w)(hs:s.size≤281474976710656)(h1:numBad (bts s) 0=false)(h2:numEnd (bts s) 0=s.size)(h3:size=1∨size=2∨size=4∨size=8) :
  Calls Tryz.prog 133 #[.string s,.int .i64 size,.bool sign] w fun e w'=>e=.returned (numR (numV (bts s) size sign))∧Below w.heap.size w w':=by
 have kc:=fun W=>Lib.run_convert_string_bytes (P:=Tryz.prog) W 9 22 5 s Tryz.underlying9 Tryz.underlying22 Tryz.underlying5
 obtain ⟨d,hd,hds,hp⟩:=digs_str s (by unfold goodN;rw [h1,decide_eq_true (by rw [h2,bts_length])];rfl)
 have HY:=Lib.hid (fun h4 h5=>numV_yes (sign:=sign) h1 (by rw [h2,bts_length]) h3 h4 h5)
 have HB4:=Lib.hid (fun h=>numV_bad4 (zs:=bts s) (size:=size) (sign:=sign) h)
 have HB5:=Lib.hid (fun h=>numV_bad5 (zs:=bts s) (size:=size) (sign:=sign) h)
 have HC:=Lib.hid (Tryz.strings_CutPrefix s (ByteArray.mk #[45]))
 have HM:=Lib.hid (minus_prefix s)
 have HNV:Hid (numVal (bts s) 0=.tuple #[.int .i64 (numEnd (bts s) 0:Nat),.bool true]):=if_neg (by rw [h1];decide)
 rw [h2] at HNV
 have H3:=Lib.hid h3
 have HD:=Lib.hid hd
 have HP:=Lib.hid hp
 have HEV:=Lib.hid hE
 generalize numV (bts s) size sign=r at HY HB4 HB5 ⊢
 clear h1 h2 h3 hd hp hE
 go_enter Tryz.func133,Tryz.ntmps133
 go_wp2_with fail
 refine (number_any _ s.size _ 0 _ (bts s) _ rfl (bytes_new w s) (bts_length s) hs (Nat.zero_le _)).mono ?_
 rintro e W1 ⟨rfl,hb1⟩
 have HB1:=Lib.hid ((below_bytes (Below.refl _ _) (Nat.le_refl _) 5 s).trans (hb1.mono (by rw [Lib.bytesWorld_size];omega)))
 clear hb1
 rw [HNV.out]
 have t:((s.size:Int) != (s.size:Int))=false:=by simp
 go_wp2_with fail
 refine (sized_yes size _ H3.out).mono ?_
 rintro e W2 ⟨rfl,rfl⟩
 go_wp2_with fail
 refine (HC.out W1).mono ?_
 rintro e W3 ⟨rfl,rfl⟩
 rw [HM.out,HD.out]
 generalize stA (bts s) (isC 45) 0=b at HY HB5 ⊢
 generalize decF 0 (digs (bts s))=V at HY HB4 HB5 HP
 by_cases hV:V≤maxU
 · have hP:=HP.out
   rw [if_pos hV] at hP
   have HP':=Lib.hid hP
   have HV:=Lib.hid hV
   have hv1:(V:Int)≤18446744073709551615:=Int.ofNat_le.2 hV
   clear hV hP
   go_wp2_with fail
   refine (Tryz.strconv_ParseUint_10_at64_ok d (by omega) V HP'.out W3).mono ?_
   rintro e W4 ⟨rfl,hw⟩
   have HB4':Hid (Below w.heap.size w W4):=by
    rcases hw with rfl|rfl
    · exact HB1.out
    · exact below_bytes HB1.out HB1.out.size _ _
   clear hw
   go_wp2_with fail
   refine (fits_any V b size sign _ (by omega) H3.out).mono ?_
   rintro e W5 ⟨rfl,rfl⟩
   cases hf:fitsB (V:Int) b size sign
   · have HR:=Lib.hid (HB5.out hf)
     clear hf
     go_wp2
     go_ret2
     exact ⟨by rw [HR.out];rfl,HB4'.out⟩
   · have HR:=Lib.hid (HY.out HV.out hf)
     clear hf
     cases b
     · rw [if_neg (by decide)] at HR
       go_wp2
       go_ret2
       exact ⟨by rw [HR.out];rfl,HB4'.out⟩
     · rw [if_pos rfl] at HR
       go_wp2
       go_ret2
       exact ⟨(ret_int_bool (neg_wrap V hv1)).trans (by rw [HR.out];rfl),HB4'.out⟩
 · have hP:=HP.out
   rw [if_neg hV] at hP
   have HP':=Lib.hid hP
   have HR:=Lib.hid (HB4.out hV)
   obtain ⟨te,ev,hev⟩:=HEV.out.later HB1.out
   have HX:=Lib.hid hev
   clear hV hP hev
   go_wp2_with fail
   refine (Tryz.strconv_ParseUint_10_at64_range d (by omega) HP'.out _ W3 HX.out (.inr ⟨te,ev,rfl⟩)).mono ?_
   rintro e W4 ⟨N,rfl,hN,hN2,hb⟩
   clear hN hN2
   go_wp2
   go_ret2
   exact ⟨by rw [HR.out];rfl,HB1.out.trans (hb.mono HB1.out.size)⟩
theorem lexNumber_any (s:ByteArray)(size:Int)(sign:Bool)(w:World)(hE:ErrV w)(hs:s.size≤281474976710656) :
  Calls Tryz.prog 133 #[.string s,.int .i64 size,.bool sign] w fun e w'=>e=.returned (numR (numV (bts s) size sign))∧Below w.heap.size w w':=by
 cases h1:numBad (bts s) 0
 · by_cases h2:numEnd (bts s) 0=s.size
   · by_cases h3:size=1∨size=2∨size=4∨size=8
     · exact lexNumber_good s size sign w hE hs h1 h2 h3
     · rw [numV_bad3 h3]
       exact lexNumber_bad s size sign w hs (.inr ⟨h1,.inr ⟨h2,h3⟩⟩)
   · rw [numV_bad2 (by rw [bts_length];exact h2)]
     exact lexNumber_bad s size sign w hs (.inr ⟨h1,.inl h2⟩)
 · rw [numV_bad1 h1]
   exact lexNumber_bad s size sign w hs (.inl h1)
end Go.Proofs.YtokhnoogkdlidaaGreatDoor
namespace Go.Proofs.YtokhnoogkdlidaaGreatDoor
open Go.ChangeShapes Go.WideShapes Go.ChangeAt Go.RowKit Go.Shelf
theorem rnumber_bad (s:ByteArray)(size:Int)(sign:Bool)(w:World)(hs:s.size≤281474976710656)(h:goodN (bts s)=false∨(goodN (bts s)=true∧¬(size=1∨size=2∨size=4∨size=8))) :
  Calls Tryz.prog 64 #[.string s,.int .i64 size,.bool sign] w fun e w'=>e=.returned (.tuple #[.int .u64 0,.bool false])∧w=w':=by
 rcases h with h|⟨h,h2⟩
 · have H:=Lib.hid h
   clear h
   go_enter Tryz.func64,Tryz.ntmps64
   go_wp2_with fail
   refine (rgood_any s _ hs).mono ?_
   rintro e w1 ⟨rfl,rfl⟩
   rw [H.out]
   go_wp2
   go_ret2
   exact ⟨rfl,rfl⟩
 · have H:=Lib.hid h
   have H2:=Lib.hid h2
   clear h h2
   go_enter Tryz.func64,Tryz.ntmps64
   go_wp2_with fail
   refine (rgood_any s _ hs).mono ?_
   rintro e w1 ⟨rfl,rfl⟩
   rw [H.out]
   go_wp2_with fail
   refine (rsized_no size _ H2.out).mono ?_
   rintro e w2 ⟨rfl,rfl⟩
   go_wp2
   go_ret2
   exact ⟨rfl,rfl⟩
def RNum (r:Option Nat)(w:World)(e:Ending)(w':World):Prop:=∃ x:Int,e=.returned (.tuple #[.int .u64 x,.bool r.isSome])∧(∀ n,r=some n→x=n)∧w=w'
theorem rnum_none {w:World}{r:Option Nat}(x:Int)(h:r=none):RNum r w (.returned (.tuple #[.int .u64 x,.bool false])) w:=by
 subst h
 exact ⟨x,rfl,(fun n h=>by cases h),rfl⟩
theorem rnum_some {w:World}{r:Option Nat}{x:Int}{n:Nat}(h:r=some n)(hx:x=n):RNum r w (.returned (.tuple #[.int .u64 x,.bool true])) w:=by
 subst h
 exact ⟨x,rfl,(fun m h=>by cases h;exact hx),rfl⟩
theorem numV_of {zs:List Int}{size:Int}{sign:Bool}(h1:goodN zs=true)(h3:size=1∨size=2∨size=4∨size=8)(h4:decF 0 (digs zs)≤maxU) :
  numV zs size sign=if fitsB (decF 0 (digs zs)) (stA zs (isC 45) 0) size sign=true then some (if stA zs (isC 45) 0=true then (18446744073709551616-decF 0 (digs zs)) % 18446744073709551616 else decF 0 (digs zs)) else none:=by
 unfold numV
 cases h5:fitsB (decF 0 (digs zs)) (stA zs (isC 45) 0) size sign
 · rw [if_neg (fun hh=>by have:=hh.2.2.2;cases this),if_neg (by decide)]
 · rw [if_pos ⟨h1,(sized_iff size).2 h3,h4,rfl⟩,if_pos rfl]
theorem numV_no {zs:List Int}{size:Int}{sign:Bool}(h:goodN zs=false):numV zs size sign=none:=by
 unfold numV
 rw [if_neg (fun hh=>by have:=hh.1;rw [h] at this;cases this)]
theorem decF_take (ds:List Int)(k:Nat)(h:k<ds.length):decF 0 (ds.take (k+1))=decF 0 (ds.take k) * 10+((ds.getD k 0).toNat-48):=by
 rw [List.take_succ_eq_append_getElem h,decF_append,decF_cons,decF_nil]
 unfold dstep
 simp [List.getD,h]
theorem decF_take_le (ds:List Int)(k:Nat):decF 0 (ds.take k)≤decF 0 ds:=by
 conv=>rhs;rw [←List.take_append_drop k ds,decF_append]
 exact decF_ge _ _
theorem fits_uns (v:Int)(size m:Int)(h:span size=m):decide (v<m)=fitsB v false size false:=by
 unfold fitsB
 rw [h,if_neg (by decide),Bool.not_false,Bool.true_and]
set_option maxRecDepth 100000 in
set_option maxHeartbeats 1600000 in
theorem rnumber_minus (s:ByteArray)(size:Int)(sign:Bool)(w:World)(hs:s.size≤281474976710656)(h:goodN (bts s)=true)(h2:size=1∨size=2∨size=4∨size=8)(h3:stA (bts s) (isC 45) 0=true) :
  Calls Tryz.prog 64 #[.string s,.int .i64 size,.bool sign] w (RNum (numV (bts s) size sign) w):=by
 have h1:0<s.size:=by
  have:=((goodN_iff _).1 h).1
  rw [digs_length,bts_length] at this
  omega
 have H:=Lib.hid h
 have H2:=Lib.hid h2
 have HV:=Lib.hid (fun h4=>numV_of (sign:=sign) h h2 h4)
 have HB4:=Lib.hid (fun h=>numV_bad4 (zs:=bts s) (size:=size) (sign:=sign) h)
 have HDG:=Lib.hid (good_digs h).2
 have HDX:=Lib.hid (show digs (bts s)=bts (s.extract 1 s.size) from by unfold digs;rw [if_pos h3,bts_extract])
 have t0:((s[0].toNat:Int)==45)=true:=by rw [←bts_get h1];exact stA_p h3
 rw [h3] at HV
 generalize numV (bts s) size sign=r at HV HB4 ⊢
 clear h h2 h3
 go_enter Tryz.func64,Tryz.ntmps64
 go_wp2_with fail
 refine (rgood_any s _ hs).mono ?_
 rintro e w1 ⟨rfl,rfl⟩
 rw [H.out]
 go_wp2_with fail
 refine (rsized_yes size _ H2.out).mono ?_
 rintro e w2 ⟨rfl,rfl⟩
 go_wp2
 obtain ⟨d,hd⟩:∃ d,d=s.extract 1 s.size:=⟨_,rfl⟩
 rw [←hd]
 have HD:=Lib.hid (show digs (bts s)=bts d from by rw [hd];exact HDX.out)
 have hdl:d.size≤281474976710656:=by rw [hd,extract_size];omega
 clear hd HDX
 go_loop [10,11] (fun n i=>∃ k:Nat,k≤d.size∧i=.int .i64 k∧n=.int .u64 (decF 0 ((bts d).take k):Nat)∧((decF 0 ((bts d).take k):Nat):Int)≤18446744073709551615) (fun _ i=>d.size-(intOf i).toNat)
 case atStart=>exact ⟨0,Nat.zero_le _,rfl,rfl,by rw [List.take_zero,decF_nil];decide⟩
 case round =>
  obtain ⟨k,hk,rfl,rfl,hle⟩:=hrel
  by_cases hlt:k<d.size
  · have HT:=Lib.hid (decF_take (bts d) k (by rw [bts_length];exact hlt))
    have hTle:=decF_take_le (bts d) (k+1)
    have hc:=HDG.out ((bts d).getD k 0) (by rw [HD.out];rw [List.getD,List.getElem?_eq_getElem (by rw [bts_length];exact hlt)];exact List.getElem_mem _)
    rw [bts_get hlt] at HT hc
    have HT2:=HT.out
    rw [show ((d[k].toNat:Int)).toNat=d[k].toNat from Int.toNat_natCast _] at HT2
    have HT':=Lib.hid HT2
    have HBB:=Lib.hid (fun h=>HB4.out (by rw [HD.out];exact h))
    generalize decF 0 ((bts d).take k)=n at hle HT' ⊢
    have HN1:Hid (n * 10+(d[k].toNat-48)≤decF 0 (bts d)):=by
     have e:=HT'.out
     rw [e] at hTle
     exact hTle
    have HMX:=Lib.hid (show maxU=18446744073709551615 from rfl)
    clear HT2 HT hTle
    by_cases c1:(1844674407370955161:Int)<n
    · have t1:decide ((1844674407370955161:Int)<n)=true:=by simpa using c1
      have HR:=Lib.hid (HBB.out (by have h1:=HN1.out;have h2:=HMX.out;omega))
      go_wp2
      go_ret2
      exact rnum_none _ HR.out
    · have t1:decide ((1844674407370955161:Int)<n)=false:=by simpa using c1
      by_cases c2:(18446744073709551615:Int)-((d[k].toNat:Int)-48)<n * 10
      · have HR:=Lib.hid (HBB.out (by have h1:=HN1.out;have h2:=HMX.out;omega))
        go_wp2
        go_ret2
        exact rnum_none _ HR.out
      · go_wp2
        go_round
        case rel=>exact ⟨k+1,by omega,by go_num,by rw [HT'.out];exact congrArg (Value.int .u64) (by omega),by rw [HT'.out];omega⟩
        case measure=>simp [intOf];omega
  · have hke:k=d.size:=by omega
    have HV':=Lib.hid HV.out
    rw [HD.out,show bts d=(bts d).take k from (List.take_of_length_le (by rw [bts_length];omega)).symm] at HV'
    have HMX:=Lib.hid (show maxU=18446744073709551615 from rfl)
    generalize decF 0 ((bts d).take k)=n at hle HV' ⊢
    have HW:=Lib.hid (HV'.out (by have h2:=HMX.out;omega))
    clear hke
    obtain rfl|rfl|rfl|rfl:=H2.out
    · cases sign
      · have HR:=Lib.hid (HW.out.trans (if_neg (by rw [show fitsB (n:Int) true 1 false=false from (fits_below _ _).symm];decide)))
        go_wp2
        go_ret2
        exact rnum_none _ HR.out
      · by_cases hl:(128:Int)<n
        · have HR:=Lib.hid (HW.out.trans (if_neg (by rw [←fits_sb (n:Int) 1 128 half_1];rw [decide_eq_false (by omega)];simp;omega)))
          go_wp2
          go_ret2
          exact rnum_none _ HR.out
        · have HR:=Lib.hid (HW.out.trans (if_pos (by rw [←fits_sb (n:Int) 1 128 half_1];simp;omega)))
          go_wp2
          go_ret2
          exact rnum_some HR.out (xor_max n hle)
    · cases sign
      · have HR:=Lib.hid (HW.out.trans (if_neg (by rw [show fitsB (n:Int) true 2 false=false from (fits_below _ _).symm];decide)))
        go_wp2
        go_ret2
        exact rnum_none _ HR.out
      · by_cases hl:(32768:Int)<n
        · have HR:=Lib.hid (HW.out.trans (if_neg (by rw [←fits_sb (n:Int) 2 32768 half_2];rw [decide_eq_false (by omega)];simp;omega)))
          go_wp2
          go_ret2
          exact rnum_none _ HR.out
        · have HR:=Lib.hid (HW.out.trans (if_pos (by rw [←fits_sb (n:Int) 2 32768 half_2];simp;omega)))
          go_wp2
          go_ret2
          exact rnum_some HR.out (xor_max n hle)
    · cases sign
      · have HR:=Lib.hid (HW.out.trans (if_neg (by rw [show fitsB (n:Int) true 4 false=false from (fits_below _ _).symm];decide)))
        go_wp2
        go_ret2
        exact rnum_none _ HR.out
      · by_cases hl:(2147483648:Int)<n
        · have HR:=Lib.hid (HW.out.trans (if_neg (by rw [←fits_sb (n:Int) 4 2147483648 half_4];rw [decide_eq_false (by omega)];simp;omega)))
          go_wp2
          go_ret2
          exact rnum_none _ HR.out
        · have HR:=Lib.hid (HW.out.trans (if_pos (by rw [←fits_sb (n:Int) 4 2147483648 half_4];simp;omega)))
          go_wp2
          go_ret2
          exact rnum_some HR.out (xor_max n hle)
    · cases sign
      · have HR:=Lib.hid (HW.out.trans (if_neg (by rw [show fitsB (n:Int) true 8 false=false from (fits_below _ _).symm];decide)))
        go_wp2
        go_ret2
        exact rnum_none _ HR.out
      · by_cases hl:(9223372036854775808:Int)<n
        · have HR:=Lib.hid (HW.out.trans (if_neg (by rw [←fits_sb (n:Int) 8 9223372036854775808 half_8];rw [decide_eq_false (by omega)];simp;omega)))
          go_wp2
          go_ret2
          exact rnum_none _ HR.out
        · have HR:=Lib.hid (HW.out.trans (if_pos (by rw [←fits_sb (n:Int) 8 9223372036854775808 half_8];simp;omega)))
          go_wp2
          go_ret2
          exact rnum_some HR.out (xor_max n hle)
set_option maxRecDepth 100000 in
set_option maxHeartbeats 1600000 in
theorem rnumber_plain (s:ByteArray)(size:Int)(sign:Bool)(w:World)(hs:s.size≤281474976710656)(h:goodN (bts s)=true)(h2:size=1∨size=2∨size=4∨size=8)(h3:stA (bts s) (isC 45) 0=false) :
  Calls Tryz.prog 64 #[.string s,.int .i64 size,.bool sign] w (RNum (numV (bts s) size sign) w):=by
 have h1:0<s.size:=by
  have:=((goodN_iff _).1 h).1
  rw [digs_length,bts_length] at this
  omega
 have H:=Lib.hid h
 have H2:=Lib.hid h2
 have HV:=Lib.hid (fun h4=>numV_of (sign:=sign) h h2 h4)
 have HB4:=Lib.hid (fun h=>numV_bad4 (zs:=bts s) (size:=size) (sign:=sign) h)
 have HDG:=Lib.hid (good_digs h).2
 have HDX:=Lib.hid (show digs (bts s)=bts s from by unfold digs;rw [if_neg (by rw [h3];decide)])
 have t0:((s[0].toNat:Int)==45)=false:=by
  rw [stA_of (by rw [bts_length];exact h1)] at h3
  rw [←bts_get h1]
  exact h3
 rw [h3] at HV
 generalize numV (bts s) size sign=r at HV HB4 ⊢
 clear h h2 h3
 go_enter Tryz.func64,Tryz.ntmps64
 go_wp2_with fail
 refine (rgood_any s _ hs).mono ?_
 rintro e w1 ⟨rfl,rfl⟩
 rw [H.out]
 go_wp2_with fail
 refine (rsized_yes size _ H2.out).mono ?_
 rintro e w2 ⟨rfl,rfl⟩
 go_wp2
 obtain ⟨d,hd⟩:∃ d,d=s:=⟨_,rfl⟩
 have HD:=Lib.hid (show digs (bts s)=bts d from by rw [hd];exact HDX.out)
 subst hd
 have hdl:=hs
 clear HDX
 go_loop [10,11] (fun n i=>∃ k:Nat,k≤d.size∧i=.int .i64 k∧n=.int .u64 (decF 0 ((bts d).take k):Nat)∧((decF 0 ((bts d).take k):Nat):Int)≤18446744073709551615) (fun _ i=>d.size-(intOf i).toNat)
 case atStart=>exact ⟨0,Nat.zero_le _,rfl,rfl,by rw [List.take_zero,decF_nil];decide⟩
 case round =>
  obtain ⟨k,hk,rfl,rfl,hle⟩:=hrel
  by_cases hlt:k<d.size
  · have HT:=Lib.hid (decF_take (bts d) k (by rw [bts_length];exact hlt))
    have hTle:=decF_take_le (bts d) (k+1)
    have hc:=HDG.out ((bts d).getD k 0) (by rw [HD.out];rw [List.getD,List.getElem?_eq_getElem (by rw [bts_length];exact hlt)];exact List.getElem_mem _)
    rw [bts_get hlt] at HT hc
    have HT2:=HT.out
    rw [show ((d[k].toNat:Int)).toNat=d[k].toNat from Int.toNat_natCast _] at HT2
    have HT':=Lib.hid HT2
    have HBB:=Lib.hid (fun h=>HB4.out (by rw [HD.out];exact h))
    generalize decF 0 ((bts d).take k)=n at hle HT' ⊢
    have HN1:Hid (n * 10+(d[k].toNat-48)≤decF 0 (bts d)):=by
     have e:=HT'.out
     rw [e] at hTle
     exact hTle
    have HMX:=Lib.hid (show maxU=18446744073709551615 from rfl)
    clear HT2 HT hTle
    by_cases c1:(1844674407370955161:Int)<n
    · have t1:decide ((1844674407370955161:Int)<n)=true:=by simpa using c1
      have HR:=Lib.hid (HBB.out (by have h1:=HN1.out;have h2:=HMX.out;omega))
      go_wp2
      go_ret2
      exact rnum_none _ HR.out
    · have t1:decide ((1844674407370955161:Int)<n)=false:=by simpa using c1
      by_cases c2:(18446744073709551615:Int)-((d[k].toNat:Int)-48)<n * 10
      · have HR:=Lib.hid (HBB.out (by have h1:=HN1.out;have h2:=HMX.out;omega))
        go_wp2
        go_ret2
        exact rnum_none _ HR.out
      · go_wp2
        go_round
        case rel=>exact ⟨k+1,by omega,by go_num,by rw [HT'.out];exact congrArg (Value.int .u64) (by omega),by rw [HT'.out];omega⟩
        case measure=>simp [intOf];omega
  · have hke:k=d.size:=by omega
    have HV':=Lib.hid HV.out
    rw [HD.out,show bts d=(bts d).take k from (List.take_of_length_le (by rw [bts_length];omega)).symm] at HV'
    have HMX:=Lib.hid (show maxU=18446744073709551615 from rfl)
    generalize decF 0 ((bts d).take k)=n at hle HV' ⊢
    have HW:=Lib.hid (HV'.out (by have h2:=HMX.out;omega))
    clear hke
    obtain rfl|rfl|rfl|rfl:=H2.out
    · cases sign
      · by_cases hl:(n:Int)<256
        · have HR:=Lib.hid (HW.out.trans (if_pos (by rw [←fits_uns (n:Int) 1 256 span_1];exact decide_eq_true hl)))
          have tl:decide ((n:Int)≤255)=true:=by simp;omega
          go_wp2
          go_ret2
          exact rnum_some HR.out rfl
        · have HR:=Lib.hid (HW.out.trans (if_neg (by rw [←fits_uns (n:Int) 1 256 span_1,decide_eq_false hl];decide)))
          have tl:decide ((n:Int)≤255)=false:=by simp;omega
          go_wp2
          go_ret2
          exact rnum_none _ HR.out
      · by_cases hl:(n:Int)<128
        · have HR:=Lib.hid (HW.out.trans (if_pos (by rw [←fits_sg (n:Int) 1 128 half_1];exact decide_eq_true hl)))
          have tl:decide ((n:Int)≤127)=true:=by simp;omega
          go_wp2
          go_ret2
          exact rnum_some HR.out rfl
        · have HR:=Lib.hid (HW.out.trans (if_neg (by rw [←fits_sg (n:Int) 1 128 half_1,decide_eq_false hl];decide)))
          have tl:decide ((n:Int)≤127)=false:=by simp;omega
          go_wp2
          go_ret2
          exact rnum_none _ HR.out
    · cases sign
      · by_cases hl:(n:Int)<65536
        · have HR:=Lib.hid (HW.out.trans (if_pos (by rw [←fits_uns (n:Int) 2 65536 span_2];exact decide_eq_true hl)))
          have tl:decide ((n:Int)≤65535)=true:=by simp;omega
          go_wp2
          go_ret2
          exact rnum_some HR.out rfl
        · have HR:=Lib.hid (HW.out.trans (if_neg (by rw [←fits_uns (n:Int) 2 65536 span_2,decide_eq_false hl];decide)))
          have tl:decide ((n:Int)≤65535)=false:=by simp;omega
          go_wp2
          go_ret2
          exact rnum_none _ HR.out
      · by_cases hl:(n:Int)<32768
        · have HR:=Lib.hid (HW.out.trans (if_pos (by rw [←fits_sg (n:Int) 2 32768 half_2];exact decide_eq_true hl)))
          have tl:decide ((n:Int)≤32767)=true:=by simp;omega
          go_wp2
          go_ret2
          exact rnum_some HR.out rfl
        · have HR:=Lib.hid (HW.out.trans (if_neg (by rw [←fits_sg (n:Int) 2 32768 half_2,decide_eq_false hl];decide)))
          have tl:decide ((n:Int)≤32767)=false:=by simp;omega
          go_wp2
          go_ret2
          exact rnum_none _ HR.out
    · cases sign
      · by_cases hl:(n:Int)<4294967296
        · have HR:=Lib.hid (HW.out.trans (if_pos (by rw [←fits_uns (n:Int) 4 4294967296 span_4];exact decide_eq_true hl)))
          have tl:decide ((n:Int)≤4294967295)=true:=by simp;omega
          go_wp2
          go_ret2
          exact rnum_some HR.out rfl
        · have HR:=Lib.hid (HW.out.trans (if_neg (by rw [←fits_uns (n:Int) 4 4294967296 span_4,decide_eq_false hl];decide)))
          have tl:decide ((n:Int)≤4294967295)=false:=by simp;omega
          go_wp2
          go_ret2
          exact rnum_none _ HR.out
      · by_cases hl:(n:Int)<2147483648
        · have HR:=Lib.hid (HW.out.trans (if_pos (by rw [←fits_sg (n:Int) 4 2147483648 half_4];exact decide_eq_true hl)))
          have tl:decide ((n:Int)≤2147483647)=true:=by simp;omega
          go_wp2
          go_ret2
          exact rnum_some HR.out rfl
        · have HR:=Lib.hid (HW.out.trans (if_neg (by rw [←fits_sg (n:Int) 4 2147483648 half_4,decide_eq_false hl];decide)))
          have tl:decide ((n:Int)≤2147483647)=false:=by simp;omega
          go_wp2
          go_ret2
          exact rnum_none _ HR.out
    · cases sign
      · have hl:(n:Int)<18446744073709551616:=by omega
        have HR:=Lib.hid (HW.out.trans (if_pos (by rw [←fits_uns (n:Int) 8 18446744073709551616 span_8];exact decide_eq_true hl)))
        have tl:decide ((n:Int)≤18446744073709551615)=true:=by simp;omega
        go_wp2
        go_ret2
        exact rnum_some HR.out rfl
      · by_cases hl:(n:Int)<9223372036854775808
        · have HR:=Lib.hid (HW.out.trans (if_pos (by rw [←fits_sg (n:Int) 8 9223372036854775808 half_8];exact decide_eq_true hl)))
          have tl:decide ((n:Int)≤9223372036854775807)=true:=by simp;omega
          go_wp2
          go_ret2
          exact rnum_some HR.out rfl
        · have HR:=Lib.hid (HW.out.trans (if_neg (by rw [←fits_sg (n:Int) 8 9223372036854775808 half_8,decide_eq_false hl];decide)))
          have tl:decide ((n:Int)≤9223372036854775807)=false:=by simp;omega
          go_wp2
          go_ret2
          exact rnum_none _ HR.out
theorem rnumber_any (s:ByteArray)(size:Int)(sign:Bool)(w:World)(hs:s.size≤281474976710656) :
  Calls Tryz.prog 64 #[.string s,.int .i64 size,.bool sign] w (RNum (numV (bts s) size sign) w):=by
 have h0:∀ e w',(e=.returned (.tuple #[.int .u64 0,.bool false])∧w=w')→numV (bts s) size sign=none→RNum (numV (bts s) size sign) w e w':=by
  rintro e w' ⟨rfl,rfl⟩ h
  exact rnum_none 0 h
 cases hg:goodN (bts s)
 · exact (rnumber_bad s size sign w hs (.inl hg)).mono fun e w' h=>h0 e w' h (numV_no hg)
 · by_cases h2:size=1∨size=2∨size=4∨size=8
   · cases h3:stA (bts s) (isC 45) 0
     · exact rnumber_plain s size sign w hs hg h2 h3
     · exact rnumber_minus s size sign w hs hg h2 h3
   · exact (rnumber_bad s size sign w hs (.inr ⟨hg,h2⟩)).mono fun e w' h=>h0 e w' h (numV_bad3 h2)
end Go.Proofs.YtokhnoogkdlidaaGreatDoor
