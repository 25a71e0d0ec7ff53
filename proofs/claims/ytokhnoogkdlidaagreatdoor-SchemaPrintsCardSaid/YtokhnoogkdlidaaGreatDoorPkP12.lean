/-
  The place behind blanks and remarks: the package lex's gap. Conditions: those that each theorem names.
-/
import Derived.Test.YtokhnoogkdlidaaGreatDoorPkP1
import Derived.Test.YtokhnoogkdlidaaGreatDoorPkP2
import Derived.Test.YtokhnoogkdlidaaGreatDoorPkP3
import Derived.Test.YtokhnoogkdlidaaGreatDoorPkP5
import Derived.Test.YtokhnoogkdlidaaGreatDoorPkP9
import Derived.Deep.QuietTactic
import Derived.BigQuiet
import Derived.Deep.RegionWith
import Derived.Lib.SlBytesConst
namespace Go.Proofs.YtokhnoogkdlidaaGreatDoor
open Go.ChangeShapes Go.WideShapes Go.ChangeAt Go.RowKit Go.Shelf
def tyNames:List ByteArray:=[⟨#[]⟩,⟨#[98,111,111,108]⟩,⟨#[105,56]⟩,⟨#[105,49,54]⟩,⟨#[105,51,50]⟩,⟨#[105,54,52]⟩,⟨#[117,56]⟩,⟨#[117,49,54]⟩,⟨#[117,51,50]⟩,⟨#[117,54,52]⟩,⟨#[]⟩,⟨#[116,101,120,116]⟩,⟨#[100,97,116,97]⟩]
def tyName (k:Nat):ByteArray:=tyNames.getD k ⟨#[]⟩
def TyBase (ss:List SRec)(es:List SCho)(kind ref:Nat)(B:ByteArray):Prop:=
 (kind=10∧∃ h:ref<es.length,es[ref].name=B)∨(kind=13∧∃ h:ref<ss.length,ss[ref].name=B)∨(kind≠10∧kind≤12∧B=tyName kind)
def wordS (B:ByteArray):Nat→ByteArray
 | 0=>B
 | n+1=>⟨#[108,105,115,116,60]⟩++wordS B n++⟨#[62]⟩
theorem wordS_size (B:ByteArray):∀ n,(wordS B n).size=B.size+6 * n
 | 0=>rfl
 | n+1=>by
  show (_++wordS B n++_).size=_
  rw [ByteArray.size_append,ByteArray.size_append,wordS_size B n]
  show 5+_+1=_
  omega
theorem tyName_size {k:Nat}(h:k≤12):(tyName k).size≤4:=by
 have:k=0∨k=1∨k=2∨k=3∨k=4∨k=5∨k=6∨k=7∨k=8∨k=9∨k=10∨k=11∨k=12:=by omega
 rcases this with rfl|rfl|rfl|rfl|rfl|rfl|rfl|rfl|rfl|rfl|rfl|rfl|rfl<;>decide
def tyArr:Array Value:=#[.string ⟨#[]⟩,.string ⟨#[98,111,111,108]⟩,.string ⟨#[105,56]⟩,.string ⟨#[105,49,54]⟩,.string ⟨#[105,51,50]⟩,.string ⟨#[105,54,52]⟩,.string ⟨#[117,56]⟩,.string ⟨#[117,49,54]⟩,.string ⟨#[117,51,50]⟩,.string ⟨#[117,54,52]⟩,.string ⟨#[]⟩,.string ⟨#[116,101,120,116]⟩,.string ⟨#[100,97,116,97]⟩]
theorem tyArr_at {k:Nat}(h:k≤12):tyArr[k]?=some (.string (tyName k)):=by
 have:k=0∨k=1∨k=2∨k=3∨k=4∨k=5∨k=6∨k=7∨k=8∨k=9∨k=10∨k=11∨k=12:=by omega
 rcases this with rfl|rfl|rfl|rfl|rfl|rfl|rfl|rfl|rfl|rfl|rfl|rfl|rfl<;>rfl
def WordPost (B:ByteArray)(lists:Nat)(w:World)(e:Ending)(w':World):Prop:=e=.returned (.string (wordS B lists))∧Below w.heap.size w w'
set_option maxRecDepth 100000 in
set_option maxHeartbeats 4000000 in
theorem hword_any (kind ref lists:Nat){b:Nat}{ss:List (SRec × Value)}{es:List (SCho × Value)}{sv ev:Value}(root:Int)(w:World)(h:SchRows b w ss es sv ev)(B:ByteArray)(hB:TyBase (ss.map Prod.fst) (es.map Prod.fst) kind ref B)(hl:lists≤3)(hs:B.size≤1000) :
  Calls Tryz.prog 14 #[.agg #[sv,ev,.int .i64 root],.agg #[.int .u8 kind,.int .i64 ref,.int .i64 lists]] w (WordPost B lists w):=by
 obtain ⟨hb,hz1,hz2⟩:=two_start w #[sv,ev,.int .i64 root] #[.int .u8 kind,.int .i64 ref,.int .i64 lists] 30 46
 have hb2:Below w.heap.size w (((w.alloc (.cells #[sv,ev,.int .i64 root] 30)).alloc (.cells #[.int .u8 kind,.int .i64 ref,.int .i64 lists] 46)).alloc (.cells tyArr 9)):=hb.alloc hb.size _
 have hz3:=blk_alloc hz1 (.cells tyArr 9)
 have hz4:=blk_alloc hz2 (.cells tyArr 9)
 have hz5:=heap_alloc_new ((w.alloc (.cells #[sv,ev,.int .i64 root] 30)).alloc (.cells #[.int .u8 kind,.int .i64 ref,.int .i64 lists] 46)) (.cells tyArr 9)
 have hsz:((w.alloc (.cells #[sv,ev,.int .i64 root] 30)).alloc (.cells #[.int .u8 kind,.int .i64 ref,.int .i64 lists] 46)).heap.size=w.heap.size+2:=by simp
 rw [hsz] at hz5
 have HB:=Lib.hid hb2
 have HH:=Lib.hid (h.below hb2)
 have HZ5:=Lib.hid hz5
 have HZ4:=Lib.hid hz4
 have HZ3:=Lib.hid hz3
 have hlt:w.heap.size+2<_:=blk_lt hz5
 have hf1:=row_few h.enums
 have hf2:=row_few h.structs
 have HL:=Lib.hid hl
 have HWS:=Lib.hid hs
 clear hb hz1 hz2 hb2 hz3 hz4 hz5 hsz h hl hs
 unfold tyArr at *
 go_enter Tryz.func14,Tryz.ntmps14
 go_upto_region 2 with (fail)
 generalize ((w.alloc (.cells #[sv,ev,.int .i64 root] 30)).alloc (.cells #[.int .u8 kind,.int .i64 ref,.int .i64 lists] 46)).alloc (.cells #[.string ⟨#[]⟩,.string ⟨#[98,111,111,108]⟩,.string ⟨#[105,56]⟩,.string ⟨#[105,49,54]⟩,.string ⟨#[105,51,50]⟩,.string ⟨#[105,54,52]⟩,.string ⟨#[117,56]⟩,.string ⟨#[117,49,54]⟩,.string ⟨#[117,51,50]⟩,.string ⟨#[117,54,52]⟩,.string ⟨#[]⟩,.string ⟨#[116,101,120,116]⟩,.string ⟨#[100,97,116,97]⟩] 9)=W0 at *
 obtain ⟨_,z0,z1,z2,_⟩:=blk3 HZ3.out
 obtain ⟨_,y0,y1,y2,_⟩:=blk3 HZ4.out
 rcases hB with ⟨rfl,hr,he⟩|⟨rfl,hr,he⟩|⟨h10,h12,he⟩
 · rw [List.length_map] at hr
   rw [List.getElem_map] at he
   obtain ⟨g,c,a,m,rfl,hc1,hg,x0,x1,_⟩:=HH.out.enum ref hr
   rw [he] at x0
   clear x1 he z0 z2
   go_wp2
   clear x0
   go_loopw [6,7] (fun s i wr=>wr=W0∧∃ j:Nat,j≤lists∧i=.int .i64 j∧s=.string (wordS B j)) (fun _ i _=>lists-(intOf i).toNat)
   case atStart=>exact ⟨rfl,0,Nat.zero_le _,rfl,rfl⟩
   case round =>
    obtain ⟨rfl,j,hj,rfl,rfl⟩:=hrel
    have hll:=HL.out
    by_cases hjl:j<lists
    · have q1:¬9223372036854775807<5+(wordS B j).size:=by have:=HWS.out;rw [wordS_size];omega
      have q2:¬9223372036854775807<5+(wordS B j).size+1:=by have:=HWS.out;rw [wordS_size];omega
      go_wp2
      go_roundw
      case rel=>exact ⟨trivial,j+1,hjl,by go_num,rfl⟩
      case measure=>simp [intOf];omega
    · obtain rfl:j=lists:=by omega
      clear hjl
      go_wp2
      go_ret
      exact ⟨rfl,HB.out⟩
 · rw [List.length_map] at hr
   rw [List.getElem_map] at he
   obtain ⟨g,c,a,m,rfl,hc1,hg,x0,x1,_⟩:=HH.out.strct ref hr
   rw [he] at x0
   clear x1 he z1 z2
   go_wp2
   clear x0
   go_loopw [6,7] (fun s i wr=>wr=W0∧∃ j:Nat,j≤lists∧i=.int .i64 j∧s=.string (wordS B j)) (fun _ i _=>lists-(intOf i).toNat)
   case atStart=>exact ⟨rfl,0,Nat.zero_le _,rfl,rfl⟩
   case round =>
    obtain ⟨rfl,j,hj,rfl,rfl⟩:=hrel
    have hll:=HL.out
    by_cases hjl:j<lists
    · have q1:¬9223372036854775807<5+(wordS B j).size:=by have:=HWS.out;rw [wordS_size];omega
      have q2:¬9223372036854775807<5+(wordS B j).size+1:=by have:=HWS.out;rw [wordS_size];omega
      go_wp2
      go_roundw
      case rel=>exact ⟨trivial,j+1,hjl,by go_num,rfl⟩
      case measure=>simp [intOf];omega
    · obtain rfl:j=lists:=by omega
      clear hjl
      go_wp2
      go_ret
      exact ⟨rfl,HB.out⟩
 · have x0:=(blk_cell HZ5.out kind).trans (tyArr_at h12)
   have k0:((kind:Int)==10)=false:=by simp;omega
   have k1:((kind:Int)==13)=false:=by simp;omega
   have k2:(kind:Int)<13:=by omega
   subst he
   clear z0 z1 z2 y1 h10
   go_wp2
   clear x0
   go_loopw [6,7] (fun s i wr=>wr=W0∧∃ j:Nat,j≤lists∧i=.int .i64 j∧s=.string (wordS (tyName kind) j)) (fun _ i _=>lists-(intOf i).toNat)
   case atStart=>exact ⟨rfl,0,Nat.zero_le _,rfl,rfl⟩
   case round =>
    obtain ⟨rfl,j,hj,rfl,rfl⟩:=hrel
    have hll:=HL.out
    by_cases hjl:j<lists
    · have q1:¬9223372036854775807<5+(wordS (tyName kind) j).size:=by have:=HWS.out;rw [wordS_size];omega
      have q2:¬9223372036854775807<5+(wordS (tyName kind) j).size+1:=by have:=HWS.out;rw [wordS_size];omega
      go_wp2
      go_roundw
      case rel=>exact ⟨trivial,j+1,hjl,by go_num,rfl⟩
      case measure=>simp [intOf];omega
    · obtain rfl:j=lists:=by omega
      clear hjl
      go_wp2
      go_ret
      exact ⟨rfl,HB.out⟩
end Go.Proofs.YtokhnoogkdlidaaGreatDoor
namespace Go.Proofs.YtokhnoogkdlidaaGreatDoor
open Go.ChangeShapes Go.WideShapes Go.ChangeAt Go.RowKit Go.Shelf
def DecIs (m:Bool)(n:Nat)(S:ByteArray):Prop:=bts S=if m=true∧9223372036854775808≤n then 45::decDigs (18446744073709551616-n) else decDigs n
def DefIs (es:List SCho)(kind ref n:Nat)(S:ByteArray):Prop:=
 (kind=1∧S=⟨#[116,114,117,101]⟩)∨(kind=10∧∃ h:ref<es.length,∃ h2:n<es[ref].names.length,S=es[ref].names[n]) ∨
  (kind≠1∧kind≠10∧DecIs (kSign kind) n S)
def DefOk (es:List SCho)(kind ref n:Nat):Prop:=kind=10→∃ h:ref<es.length,n<es[ref].names.length
theorem hdecimal_any (n:Nat)(m:Bool)(w:World)(hn:(n:Int)≤18446744073709551615) :
  Calls Tryz.prog 34 #[.int .u64 n,.bool m] w (StrIs (DecIs m n) w):=by
 have HC:Hid (Calls Tryz.prog 59 #[.int .u64 n,.bool m] w (StrIs (DecIs m n) w)):=by
  refine Lib.hid ?_
  cases m
  · exact (decimal_plain n w hn).mono fun e w' ⟨S,he,hS,hb⟩=>⟨S,he,by unfold DecIs;rw [if_neg (by simp)];exact hS,hb⟩
  · by_cases h:9223372036854775808≤n
    · exact (decimal_neg n w (by omega) hn).mono fun e w' ⟨S,he,hS,hb⟩=>⟨S,he,by unfold DecIs;rw [if_pos ⟨rfl,h⟩];exact hS,hb⟩
    · exact (decimal_pos n w (by omega)).mono fun e w' ⟨S,he,hS,hb⟩=>⟨S,he,by unfold DecIs;rw [if_neg (fun hh=>h hh.2)];exact hS,hb⟩
 clear hn
 go_enter Tryz.func34,Tryz.ntmps34
 go_wp2_with fail
 refine HC.out.mono ?_
 rintro e W1 ⟨S,rfl,hS,hb⟩
 have HS:=Lib.hid hS
 have HB:=Lib.hid hb
 clear hS hb
 go_wp2
 go_ret
 exact ⟨S,rfl,HS.out,HB.out⟩
set_option maxRecDepth 100000 in
set_option maxHeartbeats 4000000 in
theorem def_any (name:ByteArray)(kind ref lists n:Nat){b:Nat}{ss:List (SRec × Value)}{es:List (SCho × Value)}{sv ev:Value}(root:Int)(w:World)(h:SchRows b w ss es sv ev)(hk:kind≤255)(hd:DefOk (es.map Prod.fst) kind ref n)(hn:(n:Int)≤18446744073709551615) :
  Calls Tryz.prog 15 #[.agg #[sv,ev,.int .i64 root],.agg #[.string name,.int .u8 kind,.int .i64 ref,.int .i64 lists,.int .u64 n]] w (StrIs (DefIs (es.map Prod.fst) kind ref n) w):=by
 obtain ⟨hb,hz1,hz2⟩:=two_start w #[sv,ev,.int .i64 root] #[.string name,.int .u8 kind,.int .i64 ref,.int .i64 lists,.int .u64 n] 30 49
 have HB:=Lib.hid hb
 have HH:=Lib.hid (h.below hb)
 have HZ1:=Lib.hid hz1
 have HZ2:=Lib.hid hz2
 have HN:=Lib.hid hn
 have hlt:w.heap.size+1<_:=blk_lt hz2
 have hf1:=row_few h.enums
 have y1:=(blk_cell hz2 1).trans rfl
 have y2:=(blk_cell hz2 2).trans rfl
 have y4:=(blk_cell hz2 4).trans rfl
 obtain ⟨_,z0,z1,z2,_⟩:=blk3 hz1
 clear hb hz1 hz2 h hn z0 z2
 have hkk:(kind:Int)≤255:=by omega
 by_cases h1:kind=1
 · subst h1
   clear hd
   go_enter Tryz.func15,Tryz.ntmps15
   go_wp2
   go_ret
   exact ⟨_,rfl,.inl ⟨rfl,rfl⟩,HB.out⟩
 by_cases h10:kind=10
 · subst h10
   obtain ⟨hr,hd2⟩:=hd rfl
   have HDI:=Lib.hid (show DefIs (es.map Prod.fst) 10 ref n (es.map Prod.fst)[ref].names[n] from .inr (.inl ⟨rfl,hr,hd2,rfl⟩))
   have e:(es.map Prod.fst)[ref].names[n]=(es[ref]'(by simpa using hr)).1.names[n]'(by simpa using hd2):=by simp
   rw [e] at HDI
   rw [List.length_map] at hr
   rw [List.getElem_map] at hd2
   obtain ⟨g,c,a,m,rfl,hc1,hg,x0,x1,he⟩:=HH.out.enum ref hr
   obtain ⟨g2,c2,he2,hc2,hg2,x2⟩:=HH.out.name ref hr n hd2
   rw [he] at he2
   obtain ⟨rfl,rfl⟩:=slice_inj he2
   clear he he2 e hd
   have hll:=row_few (HH.out.names _ (List.getElem_mem hr))
   generalize es[ref].1.names[n]=S at *
   generalize es[ref].1.names.length=cnt at *
   clear x0 h1
   go_enter Tryz.func15,Tryz.ntmps15
   go_upto_region 5 with (fail)
   generalize (w.alloc (.cells #[sv,.slice (some ⟨g,0,none⟩) es.length c,.int .i64 root] 30)).alloc (.cells #[.string name,.int .u8 (10:Nat),.int .i64 ref,.int .i64 lists,.int .u64 n] 49)=W0 at *
   go_quiet (fail)
   go_wp2
   go_ret
   exact ⟨_,rfl,HDI.out,bel_drewN HB.out nq⟩
 · have k1:((kind:Int)==1)=false:=by simp;omega
   have k10:((kind:Int)==10)=false:=by simp;omega
   have HK:=Lib.hid (show kind≠1∧kind≠10 from ⟨h1,h10⟩)
   clear hd h1 h10
   go_enter Tryz.func15,Tryz.ntmps15
   go_upto_region 6 with (fail)
   have hw:IntKind.i64.wrap (kind:Int)=kind:=IntWalk.i64_in _ (by omega)
   generalize (w.alloc (.cells #[sv,ev,.int .i64 root] 30)).alloc (.cells #[.string name,.int .u8 kind,.int .i64 ref,.int .i64 lists,.int .u64 n] 49)=W0 at *
   go_region_with (first|(go_at_call 32;refine (rsign_any _ _).mono ?_;rintro e W1 ⟨rfl,rfl⟩)|(go_at_call 34;refine (hdecimal_any n _ _ HN.out).mono ?_;rintro e W1 ⟨S,rfl,hS,hbS⟩))
   all_goals
    have HS:=Lib.hid hS
    have HBS:=Lib.hid hbS
    clear hS hbS
    go_wp2
    go_ret
    refine ⟨S,rfl,.inr (.inr ⟨HK.out.1,HK.out.2,HS.out⟩),?_⟩
    first
     | exact HB.out.trans (((Below.refl _ _).drew.trans HBS.out).mono HB.out.size)
     | exact (HB.out.trans (HBS.out.mono HB.out.size)).drew
     | exact HB.out.trans (HBS.out.mono HB.out.size)
end Go.Proofs.YtokhnoogkdlidaaGreatDoor
namespace Go.Proofs.YtokhnoogkdlidaaGreatDoor
open Go.ChangeShapes Go.WideShapes Go.ChangeAt Go.RowKit Go.Shelf
theorem strOf_bts (s:ByteArray):strOfNums (bts s)=s:=by
 apply ByteArray.ext
 apply Array.ext'
 rw [strOfNums_data]
 unfold bts
 rw [List.map_map]
 conv=>rhs;rw [←List.map_id s.data.toList]
 refine List.map_congr_left fun z _=>?_
 show UInt8.ofNat ((z.toNat:Int)).toNat=z
 rw [Int.toNat_natCast]
 exact UInt8.ofNat_toNat
def noCho:SCho:=⟨⟨#[]⟩,[]⟩
def noRec:SRec:=⟨⟨#[]⟩,[]⟩
def decS (m:Bool)(n:Nat):ByteArray:=strOfNums (if m=true∧9223372036854775808≤n then 45::decDigs (18446744073709551616-n) else decDigs n)
def defS (es:List SCho)(kind ref n:Nat):ByteArray:=
 if kind=1 then ⟨#[116,114,117,101]⟩ else if kind=10 then (es.getD ref noCho).names.getD n ⟨#[]⟩ else decS (kSign kind) n
def tyBaseS (ss:List SRec)(es:List SCho)(kind ref:Nat):ByteArray:=
 if kind=10 then (es.getD ref noCho).name else if kind=13 then (ss.getD ref noRec).name else tyName kind
def textVals (t:ByteArray)(l:List ByteArray):ByteArray:=l.foldl (fun t n=>t++n++⟨#[44]⟩) t
def textEnum (t:ByteArray)(c:SCho):ByteArray:=textVals (t++⟨#[101,110,117,109,32]⟩++c.name++⟨#[32,123]⟩) c.names++⟨#[125,10]⟩
def textEnums (t:ByteArray)(l:List SCho):ByteArray:=l.foldl textEnum t
def textField (S:Sch)(t:ByteArray)(f:SFld):ByteArray:=
 (if f.dflt≠0 then (t++⟨#[34]⟩++f.name++⟨#[34,58,32]⟩++wordS (tyBaseS S.structs S.enums f.kind f.ref) f.lists)++⟨#[32,61,32]⟩++defS S.enums f.kind f.ref f.dflt
  else t++⟨#[34]⟩++f.name++⟨#[34,58,32]⟩++wordS (tyBaseS S.structs S.enums f.kind f.ref) f.lists)++⟨#[59,10]⟩
def textFields (S:Sch)(t:ByteArray)(l:List SFld):ByteArray:=l.foldl (textField S) t
def textRec (S:Sch)(t:ByteArray)(r:SRec):ByteArray:=textFields S (t++⟨#[115,116,114,117,99,116,32]⟩++r.name++⟨#[32,123,10]⟩) r.fields++⟨#[125,10]⟩
def textRecs (S:Sch)(t:ByteArray)(l:List SRec):ByteArray:=l.foldl (textRec S) t
def textS (S:Sch):ByteArray:=textRecs S (textEnums ⟨#[]⟩ S.enums) S.structs++⟨#[114,111,111,116,32]⟩++(S.structs.getD S.root noRec).name++⟨#[59,10]⟩
structure Few (S:Sch):Prop where
 ne:S.enums.length≤100
 ns:S.structs.length≤100
 en:∀ c ∈ S.enums,c.name.size≤100∧c.names.length≤100∧∀ n ∈ c.names,n.size≤100
 sn:∀ r ∈ S.structs,r.name.size≤100∧r.fields.length≤100
 fl:∀ r ∈ S.structs,∀ f ∈ r.fields,f.name.size≤100∧f.lists≤3∧1≤f.kind∧f.kind≤13∧(f.dflt:Int)≤18446744073709551615∧(f.kind=10→∃ h:f.ref<S.enums.length,f.dflt≠0→f.dflt<S.enums[f.ref].names.length)∧(f.kind=13→f.ref<S.structs.length)
 rt:S.root<S.structs.length
theorem foldl_size {α:Type}(f:ByteArray→α→ByteArray)(k:Nat):∀ (l:List α) (t:ByteArray),(∀ a ∈ l,∀ t,(f t a).size≤t.size+k)→(l.foldl f t).size≤t.size+k * l.length
 | [],t,_=>by simp
 | a::r,t,h=>by
  have h1:=foldl_size f k r (f t a) (fun b hb=>h b (List.mem_cons_of_mem _ hb))
  have h2:=h a List.mem_cons_self t
  rw [List.foldl_cons,List.length_cons,Nat.mul_succ]
  omega
theorem textVals_size (t:ByteArray)(l:List ByteArray)(h:∀ n ∈ l,n.size≤100):(textVals t l).size≤t.size+101 * l.length:=by
 refine foldl_size _ 101 l t fun n hn t=>?_
 have:=h n hn
 rw [ByteArray.size_append,ByteArray.size_append]
 show _+_+1≤_
 omega
theorem textEnum_size (t:ByteArray)(c:SCho)(h1:c.name.size≤100)(h2:c.names.length≤100)(h3:∀ n ∈ c.names,n.size≤100):(textEnum t c).size≤t.size+11000:=by
 unfold textEnum
 have:=textVals_size (t++⟨#[101,110,117,109,32]⟩++c.name++⟨#[32,123]⟩) c.names h3
 rw [ByteArray.size_append,ByteArray.size_append,ByteArray.size_append] at this
 rw [ByteArray.size_append]
 have e1:(⟨#[101,110,117,109,32]⟩:ByteArray).size=5:=rfl
 have e2:(⟨#[32,123]⟩:ByteArray).size=2:=rfl
 have e3:(⟨#[125,10]⟩:ByteArray).size=2:=rfl
 omega
theorem textEnums_size {S:Sch}(h:Few S)(t:ByteArray)(l:List SCho)(hl:∀ c ∈ l,c ∈ S.enums):(textEnums t l).size≤t.size+11000 * l.length:=
 foldl_size _ 11000 l t fun c hc t=>textEnum_size t c (h.en c (hl c hc)).1 (h.en c (hl c hc)).2.1 (h.en c (hl c hc)).2.2
theorem decS_size (m:Bool)(n:Nat)(hn:n≤maxU):(decS m n).size≤21:=by
 unfold decS
 rw [strOfNums_size]
 split
 · have:=(decDigs_length (n:=18446744073709551616-n) (by unfold maxU at *;omega)).2
   simp
   omega
 · have:=(decDigs_length hn).2
   omega
theorem getD_mem {α:Type}{l:List α}{k:Nat}(d:α)(h:k<l.length):l.getD k d ∈ l:=by
 rw [List.getD,List.getElem?_eq_getElem h]
 exact List.getElem_mem h
theorem defS_size {S:Sch}(h:Few S){r:SRec}(hr:r ∈ S.structs){f:SFld}(hf:f ∈ r.fields):(defS S.enums f.kind f.ref f.dflt).size≤100:=by
 obtain ⟨h1,h2,h3,h4,h5,h6,h7⟩:=h.fl r hr f hf
 unfold defS
 split
 · decide
 · split
   · next h10 =>
     obtain ⟨hlt,hd⟩:=h6 h10
     by_cases hk:f.dflt<(S.enums.getD f.ref noCho).names.length
     · exact (h.en _ (getD_mem noCho hlt)).2.2 _ (getD_mem _ hk)
     · rw [List.getD,List.getElem?_eq_none (by omega)]
       decide
   · exact Nat.le_trans (decS_size _ _ (by unfold maxU;omega)) (by decide)
theorem tyBaseS_size {S:Sch}(h:Few S){r:SRec}(hr:r ∈ S.structs){f:SFld}(hf:f ∈ r.fields):(tyBaseS S.structs S.enums f.kind f.ref).size≤100:=by
 obtain ⟨h1,h2,h3,h4,h5,h6,h7⟩:=h.fl r hr f hf
 unfold tyBaseS
 split
 · next h10=>exact (h.en _ (getD_mem noCho (h6 h10).choose)).1
 · split
   · next h13=>exact (h.sn _ (getD_mem noRec (h7 h13))).1
   · exact Nat.le_trans (tyName_size (by omega)) (by decide)
theorem textField_size {S:Sch}(h:Few S){r:SRec}(hr:r ∈ S.structs){f:SFld}(hf:f ∈ r.fields)(t:ByteArray):(textField S t f).size≤t.size+400:=by
 have h1:=h.fl r hr f hf
 have h2:=defS_size h hr hf
 have h3:=tyBaseS_size h hr hf
 have h4:=wordS_size (tyBaseS S.structs S.enums f.kind f.ref) f.lists
 have e1:(⟨#[34]⟩:ByteArray).size=1:=rfl
 have e2:(⟨#[34,58,32]⟩:ByteArray).size=3:=rfl
 have e3:(⟨#[32,61,32]⟩:ByteArray).size=3:=rfl
 have e4:(⟨#[59,10]⟩:ByteArray).size=2:=rfl
 unfold textField
 split<;>(simp only [ByteArray.size_append,e1,e2,e3,e4];omega)
theorem textRec_size {S:Sch}(h:Few S){r:SRec}(hr:r ∈ S.structs)(t:ByteArray):(textRec S t r).size≤t.size+41000:=by
 have h1:=h.sn r hr
 have h2:(textFields S (t++⟨#[115,116,114,117,99,116,32]⟩++r.name++⟨#[32,123,10]⟩) r.fields).size≤_:=foldl_size (textField S) 400 r.fields _ fun f hf t=>textField_size h hr hf t
 rw [ByteArray.size_append,ByteArray.size_append,ByteArray.size_append] at h2
 have e1:(⟨#[115,116,114,117,99,116,32]⟩:ByteArray).size=7:=rfl
 have e2:(⟨#[32,123,10]⟩:ByteArray).size=3:=rfl
 have e3:(⟨#[125,10]⟩:ByteArray).size=2:=rfl
 unfold textRec
 rw [ByteArray.size_append]
 omega
theorem textFields_size {S:Sch}(h:Few S){r:SRec}(hr:r ∈ S.structs)(t:ByteArray)(l:List SFld)(hl:∀ f ∈ l,f ∈ r.fields):(textFields S t l).size≤t.size+400 * l.length:=
 foldl_size (textField S) 400 l t fun f hf t=>textField_size h hr (hl f hf) t
theorem textRecs_size {S:Sch}(h:Few S)(t:ByteArray)(l:List SRec)(hl:∀ r ∈ l,r ∈ S.structs):(textRecs S t l).size≤t.size+41000 * l.length:=
 foldl_size (textRec S) 41000 l t fun r hr t=>textRec_size h (hl r hr) t
theorem textS_size {S:Sch}(h:Few S):1≤(textS S).size∧(textS S).size≤10000000:=by
 have h1:=textEnums_size h ⟨#[]⟩ S.enums (fun _ h=>h)
 have h2:=textRecs_size h (textEnums ⟨#[]⟩ S.enums) S.structs (fun _ h=>h)
 have h3:=(h.sn _ (getD_mem noRec h.rt)).1
 have h4:=h.ne
 have h5:=h.ns
 have e0:(⟨#[]⟩:ByteArray).size=0:=rfl
 have e1:(⟨#[114,111,111,116,32]⟩:ByteArray).size=5:=rfl
 have e2:(⟨#[59,10]⟩:ByteArray).size=2:=rfl
 unfold textS
 rw [ByteArray.size_append,ByteArray.size_append,ByteArray.size_append]
 omega
end Go.Proofs.YtokhnoogkdlidaaGreatDoor
namespace Go.Proofs.YtokhnoogkdlidaaGreatDoor
open Go.ChangeShapes Go.WideShapes Go.ChangeAt Go.RowKit Go.Shelf
theorem stands_any (p:Option Addr)(n cap i:Nat)(x:Int)(zs:List Int)(v:Value)(k:Int→Bool)(w:World)(hx:x=i)(hz:Bytes w p zs)(hn:zs.length=n)(hk:KindV w v k)(_hl:n≤281474976710656) :
  Calls Tryz.prog 93 #[.slice p n cap,.int .i64 x,v] w fun e w'=>e=.returned (.bool (stA zs k i))∧Below w.heap.size w w':=by
 subst hx
 by_cases hi:i<n
 · obtain ⟨g,lb,rfl,hk⟩:=hk
   obtain ⟨hbd,hp⟩:=hz
   obtain ⟨b,off,rfl,hlt,hc⟩:=hp (by rintro rfl;simp at hn;omega)
   have hci:=hc i (by omega)
   have hb:=hbd i
   have e1:=hk.enters
   have H:=Lib.hid (hk.gives w (zs.getD i 0) hb.1 hb.2 (Below.refl _ _))
   rw [stA_of (by omega)]
   have hd:decide ((i:Int)<(n:Int))=true:=by simp;exact hi
   generalize zs.getD i 0=z at hci H
   generalize k z=r at H ⊢
   clear hbd hp hb hk hc hn
   go_enter Tryz.func93,Tryz.ntmps93
   go_wp2_with fail
   refine H.out.mono ?_
   rintro e W1 ⟨rfl,hb⟩
   go_wp2
   go_ret
   exact ⟨rfl,hb⟩
 · have hd:decide ((i:Int)<(n:Int))=false:=by simp;omega
   rw [stA_ge (by omega)]
   clear hz hk hn
   go_enter Tryz.func93,Tryz.ntmps93
   go_wp2
   go_ret
   exact ⟨rfl,Below.refl _ _⟩
theorem run_any (p:Option Addr)(n cap i:Nat)(x:Int)(zs:List Int)(v:Value)(k:Int→Bool)(w:World)(hx:x=i)(hz:Bytes w p zs)(hn:zs.length=n)(hk:KindV w v k)(hl:n≤281474976710656)(hi:i≤n) :
  Calls Tryz.prog 89 #[.slice p n cap,.int .i64 x,v] w fun e w'=>e=.returned (.int .i64 (runTo zs k i:Nat))∧Below w.heap.size w w':=by
 subst hx
 have HS:=Lib.hid (fun j W hb=>stands_any p n cap j j zs v k W rfl (Bytes.below hz (Nat.le_refl _) hb) hn (hk.later hb) hl)
 have HN:=Lib.hid hn
 obtain ⟨g,lb,rfl,_⟩:=hk
 clear hz hn
 go_enter Tryz.func89,Tryz.ntmps89
 go_wp2
 go_loopw [1] (fun i' wr=>Below w.heap.size w wr∧∃ j:Nat,j≤n∧i'=.int .i64 j∧runTo zs k i=runTo zs k j) (fun i' _=>n-(intOf i').toNat)
 case atStart=>exact ⟨Below.refl _ _,i,hi,rfl,rfl⟩
 case round =>
  obtain ⟨hb,j,hj,rfl,hr⟩:=hrel
  have HB:=Lib.hid hb
  have HR:=Lib.hid hr
  clear hb hr
  cases hs:stA zs k j
  · have S:=HS.out j _ HB.out
    rw [hs] at S
    have HS1:=Lib.hid S
    have HE:=Lib.hid (runTo_stop hs)
    clear S hs
    go_wp2_with fail
    refine HS1.out.mono ?_
    rintro e W1 ⟨rfl,hb1⟩
    go_wp2
    go_ret
    exact ⟨ret_int (by rw [HR.out,HE.out]),HB.out.trans (hb1.mono HB.out.size)⟩
  · have S:=HS.out j _ HB.out
    rw [hs] at S
    have HS1:=Lib.hid S
    have HE:=Lib.hid (runTo_step hs)
    have hlt:=stA_lt hs
    rw [HN.out] at hlt
    clear S hs
    go_wp2_with fail
    refine HS1.out.mono ?_
    rintro e W1 ⟨rfl,hb1⟩
    go_wp2
    go_roundw
    case rel=>exact ⟨HB.out.trans (hb1.mono HB.out.size),j+1,by omega,by go_num,by rw [HR.out,HE.out]⟩
    case measure=>simp [intOf];omega
end Go.Proofs.YtokhnoogkdlidaaGreatDoor
namespace Go.Proofs.YtokhnoogkdlidaaGreatDoor
open Go.ChangeShapes Go.WideShapes Go.ChangeAt Go.RowKit Go.Shelf
theorem slash2_prefix (zs:List Int)(hb:∀ i,0≤zs.getD i 0∧zs.getD i 0≤255)(j:Nat):Lib.hasPrefix (Lib.bytesOf (zs.drop j)) (Lib.bytesOf [47,47])=slash2 zs j:=by
 have key:∀ x:Int,0≤x∧x≤255→((47:UInt8)==UInt8.ofNat x.toNat)=isC 47 x:=by
  intro x hx
  unfold isC
  rw [Bool.eq_iff_iff,beq_iff_eq,decide_eq_true_iff,←UInt8.toNat_inj]
  rw [UInt8.toNat_ofNat']
  simp
  omega
 unfold Lib.hasPrefix Lib.bytesOf
 by_cases h1:j+1<zs.length
 · rw [drop_cons (show j<zs.length by omega),drop_cons h1]
   unfold slash2
   rw [stA_of (by omega),stA_of h1,←key _ (hb j),←key _ (hb (j+1))]
   simp [List.isPrefixOf]
 · have e:slash2 zs j=false:=by
    unfold slash2
    rw [stA_ge (i:=j+1) (by omega),Bool.and_false]
   rw [e]
   by_cases h2:j<zs.length
   · rw [drop_cons h2,List.drop_eq_nil_of_le (by omega)]
     simp [List.isPrefixOf]
   · rw [List.drop_eq_nil_of_le (by omega)]
     rfl
theorem bytesIn_drop {w:World}{p:Option Addr}{zs:List Int}{n j:Nat}(hz:Bytes w p zs)(hn:zs.length=n)(_hj:j≤n):Lib.BytesIn w (p.map (fun x=>x.add j)) (n-j) (zs.drop j):=by
 intro h
 obtain ⟨b,off,rfl,_,hc⟩:=hz.2 (by rintro rfl;simp at hn;omega)
 refine ⟨b,off+j,?_,fun i hi=>?_⟩
 · simp [add_plain]
 · rw [Nat.add_assoc,hc (j+i) (by omega)]
   simp [List.getD]
theorem two_cells (W:World)(G:Nat)(C:Array Value)(h:W.heap[G]?=some (.cells C 5 (2,3)))(hC:C=#[.int .u8 47,.int .u8 47]):Lib.BytesIn W (some ⟨G,0,none⟩) 2 [47,47]:=by
 intro _
 refine ⟨G,0,rfl,fun i hi=>?_⟩
 subst hC
 rw [cell_of_row W G (0+i) _ 5 (2,3) h]
 match i,hi with
 | 0,_=>rfl
 | 1,_=>rfl
set_option maxRecDepth 100000 in
theorem gap_any (p:Option Addr)(n cap i:Nat)(x:Int)(zs:List Int)(w:World)(hx:x=i)(hz:Bytes w p zs)(hn:zs.length=n)(hcap:n≤cap)(hl:n≤281474976710656)(hi:i≤n) :
  Calls Tryz.prog 65 #[.slice p n cap,.int .i64 x] w fun e w'=>e=.returned (.int .i64 (gap zs i:Nat))∧Below w.heap.size w w':=by
 subst hx
 have HR:=Lib.hid (fun j v k W hb hk hj=>run_any p n cap j j zs v k W rfl (Bytes.below hz (Nat.le_refl _) hb) hn hk hl hj)
 have HN:=Lib.hid hn
 have HZ:=Lib.hid hz
 clear hz hn
 go_enter Tryz.func65,Tryz.ntmps65
 go_wp2_with fail
 refine (blank_any _).mono ?_
 rintro e W1 ⟨v1,rfl,hb1,hk1⟩
 have HK1:=Lib.hid hk1
 have HB1:=Lib.hid hb1
 clear hk1 hb1
 go_wp2_with fail
 refine (HR.out i v1 isBlank W1 HB1.out HK1.out hi).mono ?_
 rintro e W2 ⟨rfl,hb2⟩
 have HB2:=Lib.hid (HB1.out.trans (hb2.mono HB1.out.size))
 clear hb2 HB1 HK1
 have h0:=runTo_le zs isBlank i (by rw [HN.out];exact hi)
 rw [HN.out] at h0
 have HG:Hid (gap zs i=gapF zs zs.length (runTo zs isBlank i)):=rfl
 generalize runTo zs isBlank i=j0 at h0 HG ⊢
 go_wp2
 go_loopw [1] (fun i' wr=>Below w.heap.size w wr∧∃ j:Nat,j≤n∧i'=.int .i64 j∧gap zs i=gapF zs zs.length j) (fun i' _=>n-(intOf i').toNat)
 case atStart=>exact ⟨HB2.out,j0,h0,rfl,HG.out⟩
 case round =>
  clear HG HB2
  obtain ⟨hb,j,hj,rfl,hr⟩:=hrel
  have HB:=Lib.hid hb
  have HJ:=Lib.hid hr
  clear hb hr
  have kc:=fun (w:World) (C:Array Value) (n c:Nat)=>Lib.run_convert_bytes_const (P:=Tryz.prog) w 22 5 C n c Tryz.underlying22 Tryz.underlying5
  have HX:=Lib.hid (slash2_prefix zs HZ.out.1 j)
  have hnb:=HN.out
  by_cases hc:cap=j
  · have ht:slash2 zs j=false:=by
     unfold slash2
     rw [stA_ge (i:=j) (by omega),Bool.false_and]
    have hjn:n≤j:=by omega
    have HS:=Lib.hid (gapF_stop zs.length ht)
    rw [ht] at HX
    clear ht hnb
    go_wp2_with fail
    refine (Tryz.bytes_HasPrefix_all p (some ⟨wr.heap.size,0,none⟩) 0 0 2 2 (zs.drop j) [47,47] _ (by have:=HN.out;simp;omega) rfl (by omega) (Lib.BytesIn.nil _ p _) (two_cells _ _ _ (heap_alloc_new wr _) rfl)).mono ?_
    rintro e W3 ⟨rfl,rfl⟩
    rw [HX.out]
    go_wp2
    go_ret
    exact ⟨ret_int (by rw [HJ.out,HS.out]),HB.out.alloc HB.out.size _⟩
  · cases ht:slash2 zs j
    · have HS:=Lib.hid (gapF_stop zs.length ht)
      rw [ht] at HX
      clear ht hnb
      go_wp2_with fail
      refine (Tryz.bytes_HasPrefix_all _ (some ⟨wr.heap.size,0,none⟩) (n-j) (cap-j) 2 2 (zs.drop j) [47,47] _ (by have:=HN.out;simp;omega) rfl (by omega) (bytesIn_drop (HZ.out.below (Nat.le_refl _) (HB.out.alloc HB.out.size _)) HN.out hj) (two_cells _ _ _ (heap_alloc_new wr _) rfl)).mono ?_
      rintro e W3 ⟨rfl,rfl⟩
      rw [HX.out]
      go_wp2
      go_ret
      exact ⟨ret_int (by rw [HJ.out,HS.out]),HB.out.alloc HB.out.size _⟩
    · have hlt:=slash2_lt ht
      have hgr:=remark_grows ht
      have hr1:=runTo_le zs notLf j (by omega)
      have hr2:=runTo_le zs isBlank (runTo zs notLf j) hr1
      have HS:=Lib.hid (gapF_step ht)
      rw [hnb] at hr1 hr2
      rw [ht] at HX
      clear ht hnb hlt
      go_wp2_with fail
      refine (Tryz.bytes_HasPrefix_all _ (some ⟨wr.heap.size,0,none⟩) (n-j) (cap-j) 2 2 (zs.drop j) [47,47] _ (by have:=HN.out;simp;omega) rfl (by omega) (bytesIn_drop (HZ.out.below (Nat.le_refl _) (HB.out.alloc HB.out.size _)) HN.out hj) (two_cells _ _ _ (heap_alloc_new wr _) rfl)).mono ?_
      rintro e W3 ⟨rfl,hw⟩
      have HB3:Hid (Below w.heap.size w W3):=by rw [hw];exact HB.out.alloc HB.out.size _
      clear hw
      rw [HX.out]
      go_wp2_with fail
      refine (among_any ⟨#[10]⟩ _).mono ?_
      rintro e W4 ⟨v4,rfl,hb4,hk4⟩
      have HK4:=Lib.hid hk4
      have HB4:=Lib.hid (HB3.out.trans (hb4.mono HB3.out.size))
      clear hk4 hb4
      go_wp2_with fail
      refine (but_any v4 _ _ HK4.out).mono ?_
      rintro e W5 ⟨v5,rfl,hb5,hk5⟩
      have HK5:Hid (KindV W5 v5 notLf):=hk5.congr fun c _ _=>by simp [amg,bts,notLf]
      have HB5:=Lib.hid (HB4.out.trans (hb5.mono HB4.out.size))
      clear hk5 hb5
      go_wp2_with fail
      refine (HR.out j v5 notLf W5 HB5.out HK5.out hj).mono ?_
      rintro e W6 ⟨rfl,hb6⟩
      have HB6:=Lib.hid (HB5.out.trans (hb6.mono HB5.out.size))
      clear hb6
      generalize runTo zs notLf j=j2 at hr1 hr2 hgr HS ⊢
      go_wp2_with fail
      refine (blank_any _).mono ?_
      rintro e W7 ⟨v7,rfl,hb7,hk7⟩
      have HK7:=Lib.hid hk7
      have HB7:=Lib.hid (HB6.out.trans (hb7.mono HB6.out.size))
      clear hk7 hb7
      go_wp2_with fail
      refine (HR.out j2 v7 isBlank W7 HB7.out HK7.out hr1).mono ?_
      rintro e W8 ⟨rfl,hb8⟩
      have HB8:=Lib.hid (HB7.out.trans (hb8.mono HB7.out.size))
      clear hb8
      generalize runTo zs isBlank j2=j3 at hr2 hgr HS ⊢
      go_wp2
      go_roundw
      case rel=>exact ⟨HB8.out,j3,hr2,rfl,by rw [HJ.out,HS.out]⟩
      case measure=>simp [intOf];omega
end Go.Proofs.YtokhnoogkdlidaaGreatDoor
