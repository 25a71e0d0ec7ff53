/-
  The package schema's maker: value, the number that a token says as a type's default. Conditions: those that each theorem names.
-/
import Derived.Test.YtokhnoogkdlidaaGreatDoorPkP1
import Derived.Test.YtokhnoogkdlidaaGreatDoorPkP5
import Derived.Test.YtokhnoogkdlidaaGreatDoorPkP9
import Derived.Test.YtokhnoogkdlidaaGreatDoorPkP16
import Derived.Test.YtokhnoogkdlidaaGreatDoorPkP18
import Derived.Test.YtokhnoogkdlidaaGreatDoorPkP22
import Derived.Test.YtokhnoogkdlidaaGreatDoorPkP24
import Derived.IntWalk
import Derived.Deep.QuietTactic
import Derived.BigQuiet
import Derived.Deep.Cut
import Derived.Deep.RegionHeld3
namespace Go.Proofs.YtokhnoogkdlidaaGreatDoor
open Go.ChangeShapes Go.WideShapes Go.ChangeAt Go.RowKit Go.Shelf
def basicL:List ByteArray:=
 [⟨#[98,111,111,108]⟩,⟨#[105,56]⟩,⟨#[105,49,54]⟩,⟨#[105,51,50]⟩,⟨#[105,54,52]⟩,⟨#[117,56]⟩,⟨#[117,49,54]⟩,⟨#[117,51,50]⟩,⟨#[117,54,52]⟩,⟨#[]⟩,⟨#[116,101,120,116]⟩,⟨#[100,97,116,97]⟩]
theorem basicK_at (s:ByteArray)(k:Nat)(hk:k<12)(h:basicL[k]'hk=s)(hne:s≠⟨#[]⟩):basicK s=k+1:=by
 subst h
 have:∀ k:Fin 12,basicL[k.val]'k.isLt≠⟨#[]⟩→basicK (basicL[k.val]'k.isLt)=k.val+1:=by decide
 exact this ⟨k,hk⟩ hne
theorem basicK_no (s:ByteArray)(h:s=⟨#[]⟩∨hasS basicL s=false):basicK s=0:=by
 rcases h with rfl|h
 · decide
 · have hb:∀ q,lookN basicN s=some q→q.1=0:=by
    intro q hq
    by_cases h0:q.1=0
    · exact h0
    · exfalso
      obtain ⟨p,hp,h1,_⟩:=lookN_memS _ _ _ hq
      have:∀ p ∈ basicN,p.kind≠0→hasS basicL p.name=true:=by decide
      have h2:=this p hp (by omega)
      simp_all
   unfold basicK
   cases hl:lookN basicN s with
   | none=>rfl
   | some q=>exact hb q hl
theorem taken_eq (used:List ByteArray)(s:ByteArray):takenB used s=(decide (basicK s≠0)||decide (s=⟨#[108,105,115,116]⟩)||hasS used s):=by
 unfold takenB
 congr 1
 rw [basicS,←lookN_has,basicK]
 cases hl:lookN basicN s with
 | none =>
  have:s≠⟨#[108,105,115,116]⟩:=by
   rintro rfl
   revert hl
   decide
  simp [this]
 | some q =>
  by_cases h0:q.1=0
  · have:s=⟨#[108,105,115,116]⟩:=by
     obtain ⟨p,hp,h1,rfl⟩:=lookN_memS _ _ _ hl
     have:∀ p ∈ basicN,p.kind=0→p.name=⟨#[108,105,115,116]⟩:=by decide
     exact this p hp (by omega)
    simp [this]
  · simp [h0]
theorem strL_beq (a b:ByteArray):(a.toList==b.toList)=decide (a=b):=by
 rw [ByteArray.toList_eq,ByteArray.toList_eq,Bool.eq_iff_iff,beq_iff_eq,decide_eq_true_iff]
 refine ⟨fun h=>?_,fun h=>by rw [h]⟩
 obtain ⟨⟨a⟩⟩:=a
 obtain ⟨⟨b⟩⟩:=b
 simp only at h
 rw [h]
theorem ba_yes {a b:ByteArray}(h:a=b):(a.toList==b.toList)=true:=by rw [strL_beq];exact decide_eq_true h
theorem ba_no {a b:ByteArray}(h:a≠b):(a.toList==b.toList)=false:=by rw [strL_beq];exact decide_eq_false h
theorem list_lit:(⟨#[108,105,115,116]⟩:ByteArray).toList=[108,105,115,116]:=by rw [ByteArray.toList_eq]
theorem ba_nil {a:ByteArray}(h:a=⟨#[]⟩):a.toList.isEmpty=true:=by
 subst h
 rw [ByteArray.toList_eq]
 rfl
theorem ba_some {a:ByteArray}(h:a≠⟨#[]⟩):a.toList.isEmpty=false:=by
 rw [ByteArray.toList_eq]
 cases hl:a.data.toList with
 | cons x r=>rfl
 | nil =>
  exfalso
  obtain ⟨⟨l⟩⟩:=a
  simp only at hl
  subst hl
  exact h rfl
set_option maxRecDepth 100000 in
set_option maxHeartbeats 2000000 in
theorem rbasic_any (s:ByteArray)(w:World):Calls Tryz.prog 63 #[.string s] w fun e w'=>e=.returned (.int .u8 (basicK s:Nat))∧Below w.heap.size w w':=by
 have HB:=Lib.hid ((Below.refl w.heap.size w).alloc (Nat.le_refl _) (.cells #[Value.string ⟨#[98,111,111,108]⟩,Value.string ⟨#[105,56]⟩,Value.string ⟨#[105,49,54]⟩,Value.string ⟨#[105,51,50]⟩,Value.string ⟨#[105,54,52]⟩,Value.string ⟨#[117,56]⟩,Value.string ⟨#[117,49,54]⟩,Value.string ⟨#[117,51,50]⟩,Value.string ⟨#[117,54,52]⟩,Value.string ⟨#[]⟩,Value.string ⟨#[116,101,120,116]⟩,Value.string ⟨#[100,97,116,97]⟩] 9))
 have HN:=Lib.hid (heap_alloc_new w (.cells #[Value.string ⟨#[98,111,111,108]⟩,Value.string ⟨#[105,56]⟩,Value.string ⟨#[105,49,54]⟩,Value.string ⟨#[105,51,50]⟩,Value.string ⟨#[105,54,52]⟩,Value.string ⟨#[117,56]⟩,Value.string ⟨#[117,49,54]⟩,Value.string ⟨#[117,51,50]⟩,Value.string ⟨#[117,54,52]⟩,Value.string ⟨#[]⟩,Value.string ⟨#[116,101,120,116]⟩,Value.string ⟨#[100,97,116,97]⟩] 9))
 have HK:=Lib.hid (basicK_at s)
 have HO:=Lib.hid (basicK_no s)
 have HC:=Lib.hid (show ∀ k (hk:k<12),(#[Value.string ⟨#[98,111,111,108]⟩,Value.string ⟨#[105,56]⟩,Value.string ⟨#[105,49,54]⟩,Value.string ⟨#[105,51,50]⟩,Value.string ⟨#[105,54,52]⟩,Value.string ⟨#[117,56]⟩,Value.string ⟨#[117,49,54]⟩,Value.string ⟨#[117,51,50]⟩,Value.string ⟨#[117,54,52]⟩,Value.string ⟨#[]⟩,Value.string ⟨#[116,101,120,116]⟩,Value.string ⟨#[100,97,116,97]⟩]:Array Value)[k]?=some (.string (basicL[k]'hk)) from fun k hk=>by
  show (basicL.map Value.string).toArray[k]?=_
  rw [List.getElem?_toArray,List.getElem?_map,List.getElem?_eq_getElem (show k<basicL.length from hk)]
  rfl)
 obtain ⟨kk,hkk⟩:∃ kk,basicK s=kk:=⟨_,rfl⟩
 rw [hkk] at HK HO ⊢
 clear hkk
 go_enter Tryz.func63,Tryz.ntmps63
 go_wp2
 generalize w.alloc (.cells #[Value.string ⟨#[98,111,111,108]⟩,Value.string ⟨#[105,56]⟩,Value.string ⟨#[105,49,54]⟩,Value.string ⟨#[105,51,50]⟩,Value.string ⟨#[105,54,52]⟩,Value.string ⟨#[117,56]⟩,Value.string ⟨#[117,49,54]⟩,Value.string ⟨#[117,51,50]⟩,Value.string ⟨#[117,54,52]⟩,Value.string ⟨#[]⟩,Value.string ⟨#[116,101,120,116]⟩,Value.string ⟨#[100,97,116,97]⟩] 9)=W at *
 go_loop [4] (fun i=>∃ k:Nat,k≤12∧i=.int .i64 k∧(s=⟨#[]⟩∨hasS (basicL.take k) s=false)) (fun i=>12-(intOf i).toNat)
 case atStart=>exact ⟨0,Nat.zero_le _,rfl,.inr rfl⟩
 case round =>
  obtain ⟨k,hk,rfl,hi⟩:=hrel
  have hlt:=blk_lt HN.out
  by_cases hkl:k<12
  · have x0:W.cell? ⟨w.heap.size,k,none⟩=some (.string (basicL[k]'hkl)):=(blk_cell HN.out k).trans (HC.out k hkl)
    have hst:=has_take_succ basicL s k hkl
    have HD:=Lib.hid (HK.out k hkl)
    generalize basicL[k]'hkl=q at *
    by_cases hs:s=⟨#[]⟩
    · have t1:s.toList.isEmpty=true:=ba_nil hs
      have t2:(!s.toList.isEmpty)=false:=by rw [t1];rfl
      have HS:=Lib.hid hs
      clear hs hi hst
      by_cases hq:q=s
      · have t3:(q.toList==s.toList)=true:=ba_yes hq
        clear hq
        go_wp2
        go_round
        case rel=>exact ⟨k+1,by omega,by go_num,.inl HS.out⟩
        case measure=>simp [intOf];omega
      · have t3:(q.toList==s.toList)=false:=ba_no hq
        clear hq
        go_wp2
        go_round
        case rel=>exact ⟨k+1,by omega,by go_num,.inl HS.out⟩
        case measure=>simp [intOf];omega
    · have t1:s.toList.isEmpty=false:=ba_some hs
      have t2:(!s.toList.isEmpty)=true:=by rw [t1];rfl
      by_cases hq:q=s
      · have HE:=Lib.hid (HD.out hq hs)
        have t3:(q.toList==s.toList)=true:=ba_yes hq
        have hw:IntKind.u8.wrap ((k:Int)+1)=((k+1:Nat):Int):=IntWalk.u8_in _ ⟨by omega,by omega⟩
        clear hq hs hi hst
        go_wp2
        go_ret
        exact ⟨ret_int (show ((k:Int)+1)=((kk:Nat):Int) by rw [HE.out];omega),HB.out⟩
      · have HI:=Lib.hid (show hasS (basicL.take (k+1)) s=false by rw [hst,(hi.resolve_left hs)];rw [Bool.false_or];exact decide_eq_false fun e=>hq e.symm)
        have t3:(q.toList==s.toList)=false:=ba_no hq
        clear hq hs hi hst
        go_wp2
        go_round
        case rel=>exact ⟨k+1,by omega,by go_num,.inr HI.out⟩
        case measure=>simp [intOf];omega
  · obtain rfl:k=12:=by omega
    have HE:=Lib.hid (HO.out hi)
    clear hi
    go_wp2
    go_ret
    exact ⟨by rw [HE.out];rfl,HB.out⟩
theorem rtaken_any (used:List ByteArray)(v:Value)(base:Nat)(w:World)(h:w.ownsRow base 9 1 v used.length (strsCells used))(s:ByteArray) :
  Calls Tryz.prog 43 #[v,.string s] w fun e w'=>e=.returned (.bool (takenB used s))∧Below w.heap.size w w':=by
 obtain ⟨a,c,rfl⟩:=ownsRow_form h
 have hfew:=row_few h
 have HR:=Lib.hid h
 have HT:=Lib.hid (taken_eq used s)
 obtain ⟨r,hr⟩:∃ r,takenB used s=r:=⟨_,rfl⟩
 rw [hr] at HT ⊢
 clear h hr
 go_enter Tryz.func43,Tryz.ntmps43
 go_wp2_with fail
 refine (rbasic_any s w).mono ?_
 rintro e W1 ⟨rfl,hb⟩
 have HB:=Lib.hid hb
 have HR1:=Lib.hid (row_keep hb HR.out)
 clear hb HR
 by_cases hk:basicK s=0
 · have HT2:=Lib.hid (show r=(decide (s=⟨#[108,105,115,116]⟩)||hasS used s) by rw [HT.out,hk];rfl)
   rw [hk]
   clear hk HT
   by_cases hl:s=⟨#[108,105,115,116]⟩
   · have t1:(s.toList==[108,105,115,116])=true:=by rw [←list_lit];exact ba_yes hl
     have HT3:=Lib.hid (show r=true by rw [HT2.out,decide_eq_true hl];rfl)
     clear hl HT2
     go_wp2
     go_ret
     exact ⟨ret_bool HT3.out.symm,HB.out⟩
   · have t1:(s.toList==[108,105,115,116])=false:=by rw [←list_lit];exact ba_no hl
     have HT3:=Lib.hid (show r=hasS used s by rw [HT2.out,decide_eq_false hl];rfl)
     clear hl HT2
     go_wp2
     go_loop [5] (fun i=>∃ k:Nat,k≤used.length∧i=.int .i64 k∧hasS (used.take k) s=false) (fun i=>used.length-(intOf i).toNat)
     case atStart=>exact ⟨0,Nat.zero_le _,rfl,rfl⟩
     case round =>
      obtain ⟨k,hk,rfl,hi⟩:=hrel
      by_cases hkl:k<used.length
      · obtain ⟨g,cc,hv,hcc,hg,hcell⟩:=row_el strCells 1 (fun _=>rfl) HR1.out k hkl
        obtain ⟨rfl,rfl⟩:=slice_inj hv
        have x0:W1.cell? ⟨g,k,none⟩=some (.string used[k]):=by have:=hcell 0 (by omega);rw [Nat.mul_one,Nat.add_zero] at this;exact this
        have hst:=has_take_succ used s k hkl
        have HD:=Lib.hid (has_take_true used s k hkl)
        generalize used[k]=q at *
        by_cases hq:q=s
        · have HE:=Lib.hid (HT3.out.trans (HD.out hq))
          have t3:(q.toList==s.toList)=true:=ba_yes hq
          clear hq hi hst hcell hv
          go_wp2
          go_ret
          exact ⟨ret_bool HE.out.symm,HB.out⟩
        · have HI:=Lib.hid (show hasS (used.take (k+1)) s=false by rw [hst,hi,Bool.false_or];exact decide_eq_false fun e=>hq e.symm)
          have t3:(q.toList==s.toList)=false:=ba_no hq
          clear hq hi hst hcell hv
          go_wp2
          go_round
          case rel=>exact ⟨k+1,by omega,by go_num,HI.out⟩
          case measure=>simp [intOf];omega
      · obtain rfl:k=used.length:=by omega
        have HE:=Lib.hid (show r=false from HT3.out.trans (by rw [List.take_length] at hi;exact hi))
        clear hi
        go_wp2
        go_ret
        exact ⟨ret_bool HE.out.symm,HB.out⟩
 · have HT2:=Lib.hid (show r=true by rw [HT.out,decide_eq_true hk];rfl)
   have t1:((basicK s:Int)==0)=false:=by simp;omega
   have t2:((basicK s:Int) != 0)=true:=by simp;omega
   generalize basicK s=kk at *
   clear hk HT
   go_wp2
   go_ret
   exact ⟨ret_bool HT2.out.symm,HB.out⟩
end Go.Proofs.YtokhnoogkdlidaaGreatDoor
namespace Go.Proofs.YtokhnoogkdlidaaGreatDoor
open Go.ChangeShapes Go.WideShapes Go.ChangeAt Go.RowKit Go.Shelf
def choNms (re:List (RCho × Value)):List ByteArray:=(re.map Prod.fst).map choNm
def recNms (rs:List (RRec × Value)):List ByteArray:=(rs.map Prod.fst).map recNm
theorem choNms_len (re:List (RCho × Value)):(choNms re).length=re.length:=by simp [choNms]
theorem recNms_len (rs:List (RRec × Value)):(recNms rs).length=rs.length:=by simp [recNms]
theorem choNms_at (re:List (RCho × Value))(k:Nat)(hk:k<re.length):(choNms re)[k]'(by rw [choNms_len];exact hk)=strOfNums re[k].1.name:=by simp [choNms,choNm]
theorem recNms_at (rs:List (RRec × Value))(k:Nat)(hk:k<rs.length):(recNms rs)[k]'(by rw [recNms_len];exact hk)=strOfNums rs[k].1.name:=by simp [recNms,recNm]
theorem tri_blk (w:World)(a b c:Array Value)(s t u:TypeId):Below w.heap.size w (((w.alloc (.cells a s)).alloc (.cells b t)).alloc (.cells c u))∧(((w.alloc (.cells a s)).alloc (.cells b t)).alloc (.cells c u)).heap[w.heap.size]?=some (.cells a s (0,0)) ∧
  (((w.alloc (.cells a s)).alloc (.cells b t)).alloc (.cells c u)).heap[w.heap.size+1]?=some (.cells b t (0,0))∧(((w.alloc (.cells a s)).alloc (.cells b t)).alloc (.cells c u)).heap[w.heap.size+2]?=some (.cells c u (0,0)):=by
 have h2:((w.alloc (.cells a s)).alloc (.cells b t)).heap[w.heap.size+1]?=some (.cells b t (0,0)):=by
  have:=heap_alloc_new (w.alloc (.cells a s)) (.cells b t)
  rwa [World.size_alloc] at this
 have h3:=heap_alloc_new ((w.alloc (.cells a s)).alloc (.cells b t)) (.cells c u)
 have hb:Below w.heap.size w ((w.alloc (.cells a s)).alloc (.cells b t)):=((Below.refl _ _).alloc (Nat.le_refl _) _).alloc (by simp) _
 refine ⟨hb.alloc hb.size _,blk_alloc (blk_alloc (heap_alloc_new w _) _) _,blk_alloc h2 _,by simpa using h3⟩
def kindRes:Option (Nat × Nat)→Nat→Value
 | some q,ls=>.tuple #[.agg #[.int .u8 (q.1:Nat),.int .i64 (q.2:Nat),.int .i64 (ls:Nat)],.bool true]
 | none,_=>.tuple #[.agg #[.int .u8 0,.int .i64 0,.int .i64 0],.bool false]
theorem kindD_basic {es ss:List ByteArray}{s:ByteArray}(h:basicK s≠0):kindD es ss s=some (basicK s,0):=by rw [kindD,if_pos h]
theorem kindD_enum {es ss:List ByteArray}{s:ByteArray}{k:Nat}(h:basicK s=0)(hi:idx es s=some k):kindD es ss s=some (10,k):=by rw [kindD,if_neg (fun e=>e h),hi]
theorem kindD_rec {es ss:List ByteArray}{s:ByteArray}{k:Nat}(h:basicK s=0)(hi:idx es s=none)(hj:idx ss s=some k):kindD es ss s=some (13,k):=by rw [kindD,if_neg (fun e=>e h),hi,hj]
theorem kindD_none {es ss:List ByteArray}{s:ByteArray}(h:basicK s=0)(hi:idx es s=none)(hj:idx ss s=none):kindD es ss s=none:=by rw [kindD,if_neg (fun e=>e h),hi,hj]
theorem kd_end {w W:World}{g:Nat}{a b c:Value}{t:TypeId}(h:W.heap[g]?=some (.cells #[a,b,c] t (0,0)))(hb:Below w.heap.size w W)(hg:w.heap.size≤g)(x y z:Value) :
  (((W.setCell ⟨g,0,none⟩ x).setCell ⟨g,1,none⟩ y).setCell ⟨g,2,none⟩ z).heap[g]?=some (.cells #[x,y,z] t (0,0))∧Below w.heap.size w (((W.setCell ⟨g,0,none⟩ x).setCell ⟨g,1,none⟩ y).setCell ⟨g,2,none⟩ z):=
 ⟨blk_set3 h _ _ _,((hb.setCell (p:=⟨g,0,none⟩) hg x).setCell (p:=⟨g,1,none⟩) hg y).setCell (p:=⟨g,2,none⟩) hg z⟩
set_option maxRecDepth 100000 in
set_option maxHeartbeats 4000000 in
theorem rkind_any (w:World){rb:Nat}{rs:List (RRec × Value)}{re:List (RCho × Value)}{rt:List Tok}{sv ev rv:Value}(h:RawRows rb w rs re rt sv ev rv)(y:RTy) :
  Calls Tryz.prog 44 #[.agg #[sv,ev,rv],.agg #[.string (strOfNums y.name),.int .i64 y.lists,.int .i64 y.place]] w fun e w'=>e=.returned (kindRes (kindD (choNms re) (recNms rs) (strOfNums y.name)) y.lists)∧Below w.heap.size w w':=by
 obtain ⟨hb,hq0,hq1,hq2⟩:=tri_blk w #[sv,ev,rv] #[.string (strOfNums y.name),.int .i64 y.lists,.int .i64 y.place] #[.int .u8 0,.int .i64 0,.int .i64 0] 68 112 46
 have hf1:=row_few h.structs
 have hf2:=row_few h.enums
 obtain ⟨r,hr⟩:∃ r,kindD (choNms re) (recNms rs) (strOfNums y.name)=r:=⟨_,rfl⟩
 rw [hr]
 generalize hs:strOfNums y.name=s at *
 have HR:=Lib.hid hr
 have HRAW:=Lib.hid (h.below hb)
 have HB:=Lib.hid hb
 have HQ0:=Lib.hid hq0
 have HQ1:=Lib.hid hq1
 have HQ2:=Lib.hid hq2
 obtain ⟨sa,sc,ea,ec,ra,rc,rfl,rfl,rfl⟩:=h.forms
 clear h hb hq0 hq1 hq2 hr hs
 go_enter Tryz.func44,Tryz.ntmps44
 go_upto_region 1 with (fail)
 generalize (((w.alloc (.cells #[.slice sa rs.length sc,.slice ea re.length ec,.slice ra rt.length rc] 68)).alloc (.cells #[.string s,.int .i64 y.lists,.int .i64 y.place] 112)).alloc (.cells #[.int .u8 0,.int .i64 0,.int .i64 0] 46))=W0 at *
 obtain ⟨_,y0,_⟩:=blk3 HQ1.out
 go_wp2_with fail
 refine (rbasic_any s W0).mono ?_
 rintro e W1 ⟨rfl,hb1⟩
 have HB1:=Lib.hid (HB.out.trans (hb1.mono HB.out.size))
 have HRAW1:=Lib.hid (HRAW.out.below hb1)
 have HP0:=Lib.hid (blk_below HQ0.out hb1 (blk_lt HQ0.out))
 have HP1:=Lib.hid (blk_below HQ1.out hb1 (blk_lt HQ1.out))
 have HP2:=Lib.hid (blk_below HQ2.out hb1 (blk_lt HQ2.out))
 clear hb1 y0 HRAW HQ0 HQ1 HQ2 HB
 by_cases hk:basicK s=0
 · rw [hk]
   have HK:=Lib.hid hk
   clear hk
   go_wp2
   go_loopw [7] (fun i wr=>Below W1.heap.size W1 wr∧∃ k:Nat,k≤re.length∧i=.int .i64 k∧hasS ((choNms re).take k) s=false) (fun i _=>re.length-(intOf i).toNat)
   case atStart=>exact ⟨Below.refl _ _,0,Nat.zero_le _,rfl,rfl⟩
   case round =>
    obtain ⟨hb,k,hkl,rfl,hi⟩:=hrel
    have HB2:=Lib.hid (HB1.out.trans (hb.mono HB1.out.size))
    have HBW:=Lib.hid hb
    obtain ⟨_,p0,p1,_⟩:=blk3 (blk_below HP0.out hb (blk_lt HP0.out))
    obtain ⟨_,q0,q1,_⟩:=blk3 (blk_below HP1.out hb (blk_lt HP1.out))
    have HP2':=Lib.hid (blk_below HP2.out hb (blk_lt HP2.out))
    obtain ⟨hTl,_,_,_,f0,f1,f2⟩:=blk3 HP2'.out
    clear hb
    by_cases hlt:k<re.length
    · obtain ⟨g,c,hv,hc,hg,hcell⟩:=row_el choCells 3 (fun _=>rfl) (HRAW1.out.below HBW.out).enums k hlt
      obtain ⟨rfl,rfl⟩:=slice_inj hv
      have x0:wr.cell? ⟨g,k * 3,none⟩=some (.string (strOfNums re[k].1.name)):=hcell 0 (by omega)
      have hst:=has_take_succ (choNms re) s k (by rw [choNms_len];exact hlt)
      have HD:=Lib.hid (idx_at (choNms re) s k (by rw [choNms_len];exact hlt) hi)
      rw [choNms_at re k hlt] at hst HD
      generalize strOfNums re[k].1.name=q at *
      have hki:(k:Int)<re.length:=by omega
      by_cases hq:q=s
      · have HE:=Lib.hid (HR.out.symm.trans (kindD_enum HK.out (HD.out hq)))
        have t3:(q.toList==s.toList)=true:=ba_yes hq
        clear hq hi hst hcell hv
        go_wp2_with fail
        go_quiet (fail)
        go_wp2_with fail
        refine post_gen (fun Wf=>Wf.heap[w.heap.size+2]?=some (.cells #[.int .u8 10,.int .i64 k,.int .i64 y.lists] 46 (0,0))∧Below w.heap.size w Wf) (kd_end (blk_below HP2'.out (bel_drewN (Below.refl _ _) nq) (blk_lt HP2'.out)) (bel_drewN HB2.out nq) (Nat.le_add_right _ _) _ _ _) ?_
        rintro Wf ⟨e1,e2⟩
        obtain ⟨_,c0,c1,c2,_⟩:=blk3 e1
        exact bodyPost_ret (v:=.tuple #[.agg #[.int .u8 10,.int .i64 k,.int .i64 y.lists],.bool true]) (by simp [results,Tryz.results44,go_sem,c0,c1,c2]) rfl ⟨by rw [HE.out];rfl,e2⟩
      · have HI:=Lib.hid (show hasS ((choNms re).take (k+1)) s=false by rw [hst,hi,Bool.false_or];exact decide_eq_false fun e=>hq e.symm)
        have t3:(q.toList==s.toList)=false:=ba_no hq
        clear hq hi hst hcell hv
        go_wp2_with fail
        go_quiet (fail)
        go_wp2_with fail
        go_roundw
        case rel=>exact ⟨bel_drewN HBW.out _,k+1,by omega,by go_num,HI.out⟩
        case measure=>simp [intOf];omega
    · obtain rfl:k=re.length:=by omega
      have HN10:=Lib.hid (idx_no (choNms re) s (by rw [←hi,←choNms_len,List.take_length]))
      clear hi
      have HBX:=HBW
      clear HB2 HBW HP2'
      go_wp2
      clear p0 p1 q0 q1 f0 f1 f2 hTl
      go_loopw [8] (fun i wr=>Below W1.heap.size W1 wr∧∃ k:Nat,k≤rs.length∧i=.int .i64 k∧hasS ((recNms rs).take k) s=false) (fun i _=>rs.length-(intOf i).toNat)
      case atStart=>exact ⟨HBX.out,0,Nat.zero_le _,rfl,rfl⟩
      case round =>
       obtain ⟨hb,k,hkl,rfl,hi⟩:=hrel
       have HB2:=Lib.hid (HB1.out.trans (hb.mono HB1.out.size))
       have HBW:=Lib.hid hb
       obtain ⟨_,p0,p1,_⟩:=blk3 (blk_below HP0.out hb (blk_lt HP0.out))
       obtain ⟨_,q0,q1,_⟩:=blk3 (blk_below HP1.out hb (blk_lt HP1.out))
       have HP2':=Lib.hid (blk_below HP2.out hb (blk_lt HP2.out))
       obtain ⟨hTl,_,_,_,f0,f1,f2⟩:=blk3 HP2'.out
       clear hb
       by_cases hlt:k<rs.length
       · obtain ⟨g,c,hv,hc,hg,hcell⟩:=row_el recCells 3 (fun _=>rfl) (HRAW1.out.below HBW.out).structs k hlt
         obtain ⟨rfl,rfl⟩:=slice_inj hv
         have x0:wr.cell? ⟨g,k * 3,none⟩=some (.string (strOfNums rs[k].1.name)):=hcell 0 (by omega)
         have hst:=has_take_succ (recNms rs) s k (by rw [recNms_len];exact hlt)
         have HD:=Lib.hid (idx_at (recNms rs) s k (by rw [recNms_len];exact hlt) hi)
         rw [recNms_at rs k hlt] at hst HD
         generalize strOfNums rs[k].1.name=q at *
         have hki:(k:Int)<rs.length:=by omega
         by_cases hq:q=s
         · have HE:=Lib.hid (HR.out.symm.trans (kindD_rec HK.out HN10.out (HD.out hq)))
           have t3:(q.toList==s.toList)=true:=ba_yes hq
           clear hq hi hst hcell hv
           go_wp2_with fail
           go_quiet (fail)
           go_wp2_with fail
           refine post_gen (fun Wf=>Wf.heap[w.heap.size+2]?=some (.cells #[.int .u8 13,.int .i64 k,.int .i64 y.lists] 46 (0,0))∧Below w.heap.size w Wf) (kd_end (blk_below HP2'.out (bel_drewN (Below.refl _ _) nq) (blk_lt HP2'.out)) (bel_drewN HB2.out nq) (Nat.le_add_right _ _) _ _ _) ?_
           rintro Wf ⟨e1,e2⟩
           obtain ⟨_,c0,c1,c2,_⟩:=blk3 e1
           exact bodyPost_ret (v:=.tuple #[.agg #[.int .u8 13,.int .i64 k,.int .i64 y.lists],.bool true]) (by simp [results,Tryz.results44,go_sem,c0,c1,c2]) rfl ⟨by rw [HE.out];rfl,e2⟩
         · have HI:=Lib.hid (show hasS ((recNms rs).take (k+1)) s=false by rw [hst,hi,Bool.false_or];exact decide_eq_false fun e=>hq e.symm)
           have t3:(q.toList==s.toList)=false:=ba_no hq
           clear hq hi hst hcell hv
           go_wp2_with fail
           go_quiet (fail)
           go_wp2_with fail
           go_roundw
           case rel=>exact ⟨bel_drewN HBW.out _,k+1,by omega,by go_num,HI.out⟩
           case measure=>simp [intOf];omega
       · obtain rfl:k=rs.length:=by omega
         have HN13:=Lib.hid (idx_no (recNms rs) s (by rw [←hi,←recNms_len,List.take_length]))
         clear hi
         have HE:=Lib.hid (HR.out.symm.trans (kindD_none HK.out HN10.out HN13.out))
         go_wp2
         refine post_gen (fun Wf=>Wf.heap[w.heap.size+2]?=some (.cells #[.int .u8 0,.int .i64 0,.int .i64 0] 46 (0,0))∧Below w.heap.size w Wf) (kd_end HP2'.out HB2.out (Nat.le_add_right _ _) _ _ _) ?_
         rintro Wf ⟨e1,e2⟩
         obtain ⟨_,c0,c1,c2,_⟩:=blk3 e1
         exact bodyPost_ret (v:=.tuple #[.agg #[.int .u8 0,.int .i64 0,.int .i64 0],.bool false]) (by simp [results,Tryz.results44,go_sem,c0,c1,c2]) rfl ⟨by rw [HE.out];rfl,e2⟩
 · have HE:=Lib.hid (HR.out.symm.trans (kindD_basic hk))
   have t1:((basicK s:Int)==0)=false:=by simp;omega
   have t2:((basicK s:Int) != 0)=true:=by simp;omega
   obtain ⟨_,q0,q1,_⟩:=blk3 HP1.out
   obtain ⟨hTl,_,_,_,f0,f1,f2⟩:=blk3 HP2.out
   generalize basicK s=kk at *
   clear hk
   go_wp2_with fail
   refine post_gen (fun Wf=>Wf.heap[w.heap.size+2]?=some (.cells #[.int .u8 (kk:Nat),.int .i64 0,.int .i64 y.lists] 46 (0,0))∧Below w.heap.size w Wf) (kd_end HP2.out HB1.out (Nat.le_add_right _ _) _ _ _) ?_
   rintro Wf ⟨e1,e2⟩
   obtain ⟨_,c0,c1,c2,_⟩:=blk3 e1
   exact bodyPost_ret (v:=.tuple #[.agg #[.int .u8 (kk:Nat),.int .i64 0,.int .i64 y.lists],.bool true]) (by simp [results,Tryz.results44,go_sem,c0,c1,c2]) rfl ⟨by rw [HE.out];rfl,e2⟩
end Go.Proofs.YtokhnoogkdlidaaGreatDoor
namespace Go.Proofs.YtokhnoogkdlidaaGreatDoor
open Go.ChangeShapes Go.WideShapes Go.ChangeAt Go.RowKit Go.Shelf
theorem numR_opt (x:Option Nat):numR x=optV x:=by cases x<;>rfl
theorem optV_form (x:Option Nat):∃ (d:Int) (o:Bool),optV x=.tuple #[.int .u64 d,.bool o]:=by cases x<;>exact ⟨_,_,rfl⟩
theorem two_strs (W:World)(x y:ByteArray):(W.alloc (.cells #[.string x,.string y] 9)).ownsRow W.heap.size 9 1 (.slice (some ⟨W.heap.size,0,none⟩) 2 2) 2 (strsCells [x,y]):=by
 refine ⟨rfl,.inr ⟨W.heap.size,2,#[.string x,.string y],rfl,Nat.le_refl _,heap_alloc_new W _,Nat.le_refl _,by unfold maxLen;omega,rfl,rfl⟩⟩
set_option maxRecDepth 100000 in
set_option maxHeartbeats 4000000 in
theorem mvalue_any (W:World){M b root base:Nat}{sv ev rv ssv esv:Value}{m:List NEnt}{es:List (SCho × Value)}{xs:List RCho}(hM:MAt W M b sv ev rv m ssv esv root)(hR:ChoRows base W es esv)(hes:es.map Prod.fst=xs.map choOut)(k r ls:Nat)(t:Tok)
  (hr:k=10→r<xs.length) (hE:ErrV W) (hsz:(tokT t).size≤281474976710656) :
  Calls Tryz.prog 111 #[.pointer (some ⟨M,0,none⟩),.agg #[.int .u8 (k:Nat),.int .i64 (r:Nat),.int .i64 (ls:Nat)],.agg #[.int .i64 t.kind,.string (tokT t),.int .i64 t.place]] W fun e w'=>e=.returned (optV (valueM xs k r ls t))∧Below W.heap.size W w':=by
 obtain ⟨hb,hq1,hq2⟩:=two_blk W #[.int .u8 (k:Nat),.int .i64 (r:Nat),.int .i64 (ls:Nat)] #[.int .i64 t.kind,.string (tokT t),.int .i64 t.place] 46 97
 have HM:=Lib.hid (hM.fell hb)
 have HR:=Lib.hid (hR.below hb)
 have HE:=Lib.hid hE
 have HB:=Lib.hid hb
 have HQ1:=Lib.hid hq1
 have HQ2:=Lib.hid hq2
 have HES:=Lib.hid hes
 have HV:Hid (valueM xs k r ls t=if t.kind=0 then some 0 else if ls≠0 then none else if k=1 then chooseM t falseTrue else if k=10 then chooseM t (chosenM xs r) else if t.kind=2 then numV (bts (tokT t)) (kSize k) (kSign k) else none):=Lib.hid rfl
 generalize valueM xs k r ls t=V at *
 clear hM hR hE hb hq1 hq2 hes
 go_enter Tryz.func111,Tryz.ntmps111
 go_upto_region 1 with (fail)
 generalize ((W.alloc (.cells #[.int .u8 (k:Nat),.int .i64 (r:Nat),.int .i64 (ls:Nat)] 46)).alloc (.cells #[.int .i64 t.kind,.string (tokT t),.int .i64 t.place] 97))=W0 at *
 obtain ⟨_,y0,y1,y2,_⟩:=blk3 HQ1.out
 obtain ⟨_,t0,t1,t2,_⟩:=blk3 HQ2.out
 by_cases h0:t.kind=0
 · have HX:=Lib.hid (HV.out.trans (if_pos h0))
   generalize t.kind=tk at *
   subst h0
   go_wp2
   go_ret2
   exact ⟨by rw [HX.out];rfl,HB.out⟩
 have HV1:=Lib.hid (HV.out.trans (if_neg h0))
 have hb0:(t.kind==0)=false:=by simpa using h0
 by_cases h1:ls≠0
 · have HX:=Lib.hid (HV1.out.trans (if_pos h1))
   have hb1:¬(ls:Int)=0:=by omega
   have hb2:((ls:Int) != 0)=true:=by simpa using h1
   clear h1
   go_wp2
   go_ret2
   exact ⟨by rw [HX.out];rfl,HB.out⟩
 have HV2:=Lib.hid (HV1.out.trans (if_neg h1))
 obtain rfl:ls=0:=by omega
 clear h1
 by_cases hk1:k=1
 · have HX:=Lib.hid (HV2.out.trans (if_pos hk1))
   subst hk1
   have hrow:=two_strs W0 ⟨#[102,97,108,115,101]⟩ ⟨#[116,114,117,101]⟩
   have hba:Below W0.heap.size W0 (W0.alloc (.cells #[.string ⟨#[102,97,108,115,101]⟩,.string ⟨#[116,114,117,101]⟩] 9)):=(Below.refl _ _).alloc (Nat.le_refl _) _
   have HCH:=Lib.hid (choose_any t falseTrue _ _ _ hrow)
   have HBA:=Lib.hid (HB.out.trans (hba.mono HB.out.size))
   clear hrow hba
   go_wp2_with fail
   refine HCH.out.mono ?_
   rintro e w' ⟨rfl,hb'⟩
   have HBF:=Lib.hid (HBA.out.trans (hb'.mono HBA.out.size))
   clear hb'
   rw [←HX.out]
   cases V with
   | none =>
    simp only [optV]
    go_wp2
    go_ret2
    exact ⟨rfl,HBF.out⟩
   | some n =>
    simp only [optV]
    go_wp2
    go_ret2
    exact ⟨rfl,HBF.out⟩
 have HV3:=Lib.hid (HV2.out.trans (if_neg hk1))
 have hk1b:((k:Int)==1)=false:=by simp;omega
 have hk1n:¬(k:Int)=1:=by omega
 by_cases hk10:k=10
 · have HX:=Lib.hid (HV3.out.trans (if_pos hk10))
   have hrl:=hr hk10
   subst hk10
   have hel:es.length=xs.length:=by have:=congrArg List.length HES.out;simpa using this
   have hre:r<es.length:=by omega
   obtain ⟨g,c,hv,hc,hg,hcell⟩:=row_el schoCells 2 (fun _=>rfl) HR.out.enums r hre
   have hnm:=HR.out.names _ (List.getElem_mem hre)
   have heq:es[r].1=choOut xs[r]:=by
    have h1:(es.map Prod.fst)[r]?=(xs.map choOut)[r]?:=by rw [HES.out]
    rw [List.getElem?_map,List.getElem?_map,List.getElem?_eq_getElem hre,List.getElem?_eq_getElem hrl] at h1
    exact Option.some.inj h1
   have hch:chosenM xs r=es[r].1.names:=by
    rw [heq]
    unfold chosenM
    rw [List.getD,List.getElem?_eq_getElem hrl]
    rfl
   obtain ⟨na,nc,hnv⟩:=ownsRow_form hnm
   have x1:W0.cell? ⟨g,r * 2+1,none⟩=some (.slice na es[r].1.names.length nc):=by rw [←hnv];exact hcell 1 (by omega)
   have x0:W0.cell? ⟨g,r * 2,none⟩=some (.string es[r].1.name):=hcell 0 (by omega)
   rw [hnv] at hnm
   rw [hch] at HX
   generalize es[r].1.names=nm at *
   generalize es[r].1.name=nn at *
   subst hv
   obtain ⟨hMl,z0,z1,z2,z3,z4,z5,z6,_⟩:=HM.out.cells
   have HCH:=Lib.hid (choose_any t nm (.slice na nm.length nc) base W0.drew hnm)
   have hri:(r:Int)<es.length:=by omega
   clear hnm hcell hnv hch heq hel hr hrl HV HV1 HV2 HV3
   go_upto_region 8 with (fail)
   have hl1:W.heap.size+1<W0.heap.size:=blk_lt HQ2.out
   have HCC:=Lib.hid (show ∀ w',Below W0.heap.size W0 w'→w'.cell? ⟨W.heap.size+1,0,none⟩=some (.int .i64 t.kind)∧w'.cell? ⟨W.heap.size+1,1,none⟩=some (.string (tokT t))∧w'.cell? ⟨W.heap.size+1,2,none⟩=some (.int .i64 t.place)∧w'.cell? ⟨W.heap.size,1,none⟩=some (.int .i64 r)∧w'.cell? ⟨M,5,none⟩=some (.slice (some ⟨g,0,none⟩) es.length c)∧w'.cell? ⟨g,r * 2+1,none⟩=some (.slice na nm.length nc) from fun w' h=>⟨(h.cell (p:=⟨W.heap.size+1,0,none⟩) hl1).trans t0,(h.cell (p:=⟨W.heap.size+1,1,none⟩) hl1).trans t1,(h.cell (p:=⟨W.heap.size+1,2,none⟩) hl1).trans t2,(h.cell (p:=⟨W.heap.size,1,none⟩) (by show W.heap.size<_;omega)).trans y1,(h.cell (p:=⟨M,5,none⟩) hMl).trans z5,(h.cell (p:=⟨g,r * 2+1,none⟩) hg).trans x1⟩)
   go_region_held3 (fun w'=>w'.cell? ⟨W.heap.size+1,0,none⟩=some (.int .i64 t.kind)∧w'.cell? ⟨W.heap.size+1,1,none⟩=some (.string (tokT t))∧w'.cell? ⟨W.heap.size+1,2,none⟩=some (.int .i64 t.place)∧w'.cell? ⟨W.heap.size,1,none⟩=some (.int .i64 r)∧w'.cell? ⟨M,5,none⟩=some (.slice (some ⟨g,0,none⟩) es.length c)∧w'.cell? ⟨g,r * 2+1,none⟩=some (.slice na nm.length nc)) (first|assumption|go_keep) (first|(go_at_call 132;(with_reducible refine HCH.out.mono ?_);rintro e w' ⟨rfl,hb'⟩;have hbw:=drew_below hb';obtain ⟨k0,k1,k2,k3,k4,k5⟩:=HCC.out w' hbw;have HBF:=Lib.hid (HB.out.trans (hbw.mono HB.out.size));clear hb' hbw;rw [←HX.out];obtain ⟨d,o,hdo⟩:=optV_form V;have HDO:=Lib.hid hdo;rw [hdo];clear hdo))
   all_goals
    simp only [Exit.then]
    apply_assumption
    go_wp2
    go_ret2
    exact ⟨by rw [HDO.out];rfl,HBF.out⟩
 have HV4:=Lib.hid (HV3.out.trans (if_neg hk10))
 have hk2b:((k:Int)==10)=false:=by simp;omega
 have hk2n:¬(k:Int)=10:=by omega
 by_cases h2:t.kind=2
 · have HX:=Lib.hid (HV4.out.trans (if_pos h2))
   have HLN:=Lib.hid (lexNumber_any (tokT t) (kSize k) (kSign k) W0.drew (HE.out.later (HB.out.drew)) hsz)
   rw [numR_opt,←HX.out] at HLN
   generalize t.kind=tk at *
   subst h2
   go_upto_region 10 with (fail)
   have hl1:W.heap.size+1<W0.heap.size:=blk_lt HQ2.out
   have HCC:=Lib.hid (show ∀ w',Below W0.heap.size W0 w'→w'.cell? ⟨W.heap.size+1,1,none⟩=some (.string (tokT t))∧w'.cell? ⟨W.heap.size,0,none⟩=some (.int .u8 k) from fun w' h=>⟨(h.cell (p:=⟨W.heap.size+1,1,none⟩) hl1).trans t1,(h.cell (p:=⟨W.heap.size,0,none⟩) (by show W.heap.size<_;omega)).trans y0⟩)
   go_region_held3 (fun w'=>w'.cell? ⟨W.heap.size+1,1,none⟩=some (.string (tokT t))∧w'.cell? ⟨W.heap.size,0,none⟩=some (.int .u8 k)) (first|assumption|go_keep) (first|(go_at_call 112;refine (wsize_any _ _).mono ?_;rintro e w' ⟨rfl,rfl⟩)|(go_at_call 113;refine (wsign_any _ _).mono ?_;rintro e w' ⟨rfl,rfl⟩)|(go_at_call 133;(with_reducible refine HLN.out.mono ?_);rintro e w' ⟨rfl,hb'⟩;have hbw:=drew_below hb';obtain ⟨k0,k1⟩:=HCC.out w' hbw;have HBF:=Lib.hid (HB.out.trans (hbw.mono HB.out.size));clear hb' hbw;obtain ⟨d,o,hdo⟩:=optV_form V;have HDO:=Lib.hid hdo;rw [hdo];clear hdo))
   all_goals
    simp only [Exit.then]
    apply_assumption
    go_wp2
    go_ret2
    exact ⟨by rw [HDO.out];rfl,HBF.out⟩
 · have HX:=Lib.hid (HV4.out.trans (if_neg h2))
   have hb2:(t.kind==2)=false:=by simpa using h2
   go_wp2
   go_ret2
   exact ⟨by rw [HX.out];rfl,HB.out⟩
end Go.Proofs.YtokhnoogkdlidaaGreatDoor
