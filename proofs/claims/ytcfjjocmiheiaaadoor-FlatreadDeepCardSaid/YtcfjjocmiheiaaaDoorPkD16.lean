/-
  Package flatread: what a walk changes is its own: the message stays. Conditions: those that each theorem names.
-/
import Derived.Test.YtcfjjocmiheiaaaDoorPkD52
import Derived.Test.YtcfjjocmiheiaaaDoorPkD7
import Derived.Test.YtcfjjocmiheiaaaDoorPkD9
import Derived.Test.YtcfjjocmiheiaaaDoorPkD13
import Derived.Test.YtcfjjocmiheiaaaDoorPkD15
namespace Go.Proofs.YtcfjjocmiheiaaaDoor
open Go.ChangeShapes Go.WideShapes Go.ChangeAt Go.RowKit Go.Shelf
structure MsgOf (base:Nat)(W:World)(m:Nat)(bp:Option Addr)(bc:Nat)(sv ev:Value)(zs:List Int)(ss:List (SRec × Value))(es:List SCho)(fs:List (List CFld × Value))(ns:List Nat):Prop where
 msg:IsMsg base W m bp bc sv ev zs fs ns
 structs:fs.map Prod.fst=(ss.map fun q=>(cR q.1).fields)
 enums:ns=es.map fun c=>c.names.length
 few:∀ n ∈ ns,n≤1000000
theorem MsgOf.below {base:Nat}{W W':World}{m:Nat}{bp:Option Addr}{bc:Nat}{sv ev:Value}{zs:List Int}{ss:List (SRec × Value)}{es:List SCho}{fs:List (List CFld × Value)}{ns:List Nat}(h:MsgOf base W m bp bc sv ev zs ss es fs ns)(hb:Below W.heap.size W W'):MsgOf base W' m bp bc sv ev zs ss es fs ns:=
 ⟨h.msg.below hb,h.structs,h.enums,h.few⟩
theorem rpost_yes {v:PV}{left ml:Int}{res:Option (PV × Int)}{w w':World}{wk m mt:Nat}(hs:WState w wk m mt false left ml false)(hb:Below w.heap.size w w')(h:res=some (v,left))(h0:0≤left)(h1:0≤ml):RPost res wk m mt left ml w (.returned (.bool true)) w':=
 ⟨Exw.of_below hb,.inl ⟨v,left,ml,h,⟨h0,Int.le_refl _⟩,rfl,hs.below hb,⟨h1,Int.le_refl _⟩,fun h=>h⟩⟩
theorem rpost_no {left ml:Int}{res:Option (PV × Int)}{w w':World}{wk m mt:Nat}(hs:WState w wk m mt false left ml false)(hb:Below w.heap.size w w')(h:res=none):RPost res wk m mt left ml w (.returned (.bool false)) w':=
 ⟨Exw.of_below hb,.inr ⟨rfl,false,left,ml,false,hs.below hb,fun _=>h,fun h=>by cases h⟩⟩
set_option maxRecDepth 100000 in
set_option maxHeartbeats 8000000 in
theorem fnumRight (w:World){base m:Nat}{bp:Option Addr}{bc:Nat}{sv ev:Value}{zs:List Int}{ss:List (SRec × Value)}{es:List SCho}{fs:List (List CFld × Value)}{ns:List Nat}(h:MsgOf base w m bp bc sv ev zs ss es fs ns){wk mt:Nat}{left ml:Int}(hw:WState w wk m mt false left ml false)(hl0:0≤left)(hml:0≤ml)
  (k r d:Nat) (at':Int) (hk:0<kSize k) (hen:k=10→r<es.length) (hin:inZ (lenZ zs) at' (kSize k)=true) :
  Calls Tryd.prog 128 #[.pointer (some ⟨wk,0,none⟩),kidV k r 0 at' d true] w (RPost (numZ es zs k r at' left) wk m mt left ml w):=by
 have hb:=(Below.refl w.heap.size w).alloc (Nat.le_refl _) (.cells #[.int .u8 k,.int .i64 r,.int .i64 0,.int .i64 at',.int .u64 d,.bool true] 166)
 have HB:=Lib.hid hb
 have HM:=Lib.hid (h.below hb)
 have HW:=Lib.hid (hw.below hb)
 have HW0:=Lib.hid hw
 have HX:=Lib.hid (heap_alloc_new w (.cells #[.int .u8 k,.int .i64 r,.int .i64 0,.int .i64 at',.int .u64 d,.bool true] 166))
 have hnb:=numAt_bd (at':=at') h.msg.bytes.1 hk
 have hnz:=numZ_eq (es:=es) (ref:=(r:Int)) (left:=left) hk hin
 have HNUM:Hid (∀ W,Below (w.alloc (.cells #[.int .u8 k,.int .i64 r,.int .i64 0,.int .i64 at',.int .u64 d,.bool true] 166)).heap.size (w.alloc (.cells #[.int .u8 k,.int .i64 r,.int .i64 0,.int .i64 at',.int .u64 d,.bool true] 166)) W→Calls Tryd.prog 143 #[.pointer (some ⟨m,0,none⟩),.agg #[.int .u8 k,.int .i64 r,.int .i64 0,.int .i64 at',.int .u64 d,.bool true]] W fun e w'=>e=.returned (.int .u64 (numAt zs k at'))∧Below W.heap.size W w'):=Lib.hid (fun W hW=>fnumber_any W ((h.below hb).below hW).msg k r 0 at' d true hk)
 have hfo:k≠1→k≠10→fitsT es k (r:Int) 0 (numAt zs k at').toNat=true:=fun h1 h2=>fits_other h.msg.bytes.1 hk h1 h2
 have hf1:k=1→fitsT es k (r:Int) 0 (numAt zs k at').toNat=decide (numAt zs k at'≤1):=fun h1=>by
  subst h1
  show decide ((numAt zs 1 at').toNat≤1)=_
  exact decide_eq_decide.2 (by omega)
 have hf10:k=10→∃ hr:r<ns.length,fitsT es k (r:Int) 0 (numAt zs k at').toNat=decide (numAt zs k at'<((ns[r]'hr:Nat):Int)):=fun h1=>by
  have hr:=hen h1
  have hl:ns.length=es.length:=by rw [h.enums,List.length_map]
  refine ⟨by omega,?_⟩
  have he:ns[r]'(by omega)=(es.getD r ⟨⟨#[]⟩,[]⟩).names.length:=by
   simp only [h.enums,List.getElem_map,List.getD,List.getElem?_eq_getElem hr,Option.getD_some]
  subst h1
  show (decide (0≤(r:Int)∧(r:Int)<es.length)&&decide ((numAt zs 10 at').toNat<(es.getD (r:Int).toNat ⟨⟨#[]⟩,[]⟩).names.length))=_
  rw [decide_eq_true ⟨by omega,by omega⟩,Bool.true_and,Int.toNat_natCast,he]
  exact decide_eq_decide.2 (by omega)
 obtain ⟨ea,ec,rfl⟩:=ownsRow_form h.msg.enums
 have hcell:∀ hr:r<ns.length,∃ E,(Value.slice ea ns.length ec=.slice (some ⟨E,0,none⟩) ns.length ec)∧(w.alloc (.cells #[.int .u8 k,.int .i64 r,.int .i64 0,.int .i64 at',.int .u64 d,.bool true] 166)).cell? ⟨E,r,none⟩=some (.int .i64 (ns[r]'hr)):=fun hr=>by
  obtain ⟨g,cc,hv,_,_,hc⟩:=row_el (l:=ns) cntCell 1 (fun _=>rfl) (h.below hb).msg.enums r hr
  have h2:=hc 0 (by omega)
  rw [Nat.mul_one] at h2
  injection hv with h3 h4 h5
  subst h3
  exact ⟨g,rfl,h2⟩
 have hnsm:∀ hr:r<ns.length,(ns[r]'hr)≤1000000:=fun hr=>h.few _ (List.getElem_mem hr)
 obtain ⟨P,hP⟩:∃ P,RPost (numZ es zs k r at' left) wk m mt left ml w=P:=⟨_,rfl⟩
 rw [hP]
 have HYES:Hid (∀ W,fitsT es k (r:Int) 0 (numAt zs k at').toNat=true→Below w.heap.size w W→P (.returned (.bool true)) W):=Lib.hid (fun W hf hB=>by
  rw [←hP]
  exact rpost_yes HW0.out hB (by rw [hnz,if_pos hf]) hl0 hml)
 have HNO:Hid (∀ W,fitsT es k (r:Int) 0 (numAt zs k at').toNat=false→Below w.heap.size w W→P (.returned (.bool false)) W):=Lib.hid (fun W hf hB=>by
  rw [←hP]
  exact rpost_no HW0.out hB (by rw [hnz,if_neg (by rw [hf];decide)]))
 clear hP hnz hb h hw hin
 generalize fitsT es k (r:Int) 0 (numAt zs k at').toNat=ft at *
 generalize numAt zs k at'=z at *
 unfold kidV
 by_cases h1:k=1
 · have hf:=hf1 h1
   subst h1
   clear hf1 hf10 hfo hcell hnsm
   by_cases hz:z≤1
   case' pos=>have HEND:Hid (∀ W,Below w.heap.size w W→P (.returned (.bool true)) W):=Lib.hid (fun W hB=>HYES.out W (by rw [hf];exact decide_eq_true hz) hB)
   case' neg=>have HEND:Hid (∀ W,Below w.heap.size w W→P (.returned (.bool false)) W):=Lib.hid (fun W hB=>HNO.out W (by rw [hf];exact decide_eq_false hz) hB)
   case' pos=>obtain ⟨bz,hbz⟩:∃ b,b=true:=⟨_,rfl⟩
   case' neg=>obtain ⟨bz,hbz⟩:∃ b,b=false:=⟨_,rfl⟩
   case' pos=>have hdz:decide (z≤1)=bz:=by rw [hbz];exact decide_eq_true hz
   case' neg=>have hdz:decide (z≤1)=bz:=by rw [hbz];exact decide_eq_false hz
   all_goals
    rw [←hbz] at HEND
    clear hf hz hbz HYES HNO
    go_enter Tryd.func128,Tryd.ntmps128
    go_upto_region 1 with (fail)
    generalize w.alloc (.cells #[.int .u8 ((1:Nat):Int),.int .i64 r,.int .i64 0,.int .i64 at',.int .u64 d,.bool true] 166)=W0 at *
    obtain ⟨_,s1,s2,s3,s4,s5,s6⟩:=blk6 HX.out
    obtain ⟨_,s0,_,_,_⟩:=blk4w HW.out.walk
    go_upto_region 3 with (fail)
    refine wp_region_noPanic ?_
    refine wp_region_held_drew (S:=(fun w'=>w'.cell? ⟨wk,0,none⟩=some (.pointer (some ⟨m,0,none⟩))∧w'.cell? ⟨w.heap.size,0,none⟩=some (.int .u8 ((1:Nat):Int))∧w'.cell? ⟨w.heap.size,1,none⟩=some (.int .i64 r)∧w'.cell? ⟨w.heap.size,2,none⟩=some (.int .i64 0)∧w'.cell? ⟨w.heap.size,3,none⟩=some (.int .i64 at')∧w'.cell? ⟨w.heap.size,4,none⟩=some (.int .u64 d)∧w'.cell? ⟨w.heap.size,5,none⟩=some (.bool true))) (by kernel_rfl) ⟨s0,s1,s2,s3,s4,s5,s6⟩ ?_
    intro hS
    refine tk 0 (.pointer (some ⟨wk,0,none⟩)) hS ?_ ?_
    · rintro w' ⟨s0,s1,s2,s3,s4,s5,s6⟩
      go_simp
    simp only [td]
    refine tk 1 (.pointer (some ⟨wk,0,none⟩)) hS ?_ ?_
    · rintro w' ⟨s0,s1,s2,s3,s4,s5,s6⟩
      go_simp
    simp only [td]
    refine tk 2 (.pointer (some ⟨wk,0,none⟩)) hS ?_ ?_
    · rintro w' ⟨s0,s1,s2,s3,s4,s5,s6⟩
      go_simp
    simp only [td]
    refine tk 3 (.pointer (some ⟨m,0,none⟩)) hS ?_ ?_
    · rintro w' ⟨s0,s1,s2,s3,s4,s5,s6⟩
      go_simp
    simp only [td]
    refine tk 4 (.agg #[.int .u8 ((1:Nat):Int),.int .i64 r,.int .i64 0,.int .i64 at',.int .u64 d,.bool true]) hS ?_ ?_
    · rintro w' ⟨s0,s1,s2,s3,s4,s5,s6⟩
      go_simp
    simp only [td]
    refine wpAnyH_ready (rs:=[5]) (by kernel_rfl) (by decide) (AllReadyH.cons rfl (fun K hK=>?_) AllReadyH.nil)
    rw [if_pos (by kernel_rfl)]
    go_simp
    refine (HNUM.out W0.drew ((Below.refl _ W0).drew)).mono ?_
    rintro e Wh1 ⟨rfl,hb1⟩
    have hx1:Below W0.heap.size W0 Wh1:=(Below.refl _ W0).drew.trans hb1
    have ns0:=cell_stays hx1 s0
    have ns1:=cell_stays hx1 s1
    have ns2:=cell_stays hx1 s2
    have ns3:=cell_stays hx1 s3
    have ns4:=cell_stays hx1 s4
    have ns5:=cell_stays hx1 s5
    have ns6:=cell_stays hx1 s6
    refine hK.out _ _ ⟨ns0,ns1,ns2,ns3,ns4,ns5,ns6⟩ (fun hS=>?_)
    clear ns0 ns1 ns2 ns3 ns4 ns5 ns6
    refine tk 6 (.bool bz) hS ?_ ?_
    · rintro w' ⟨s0,s1,s2,s3,s4,s5,s6⟩
      go_simp
    simp only [td]
    refine tk 7 (.bool bz) hS ?_ ?_
    · rintro w' ⟨s0,s1,s2,s3,s4,s5,s6⟩
      go_simp
    simp only [td]
    refine wpAnyH_done (by kernel_rfl) ?_ _
    refine NoPanic.normal ?_
    try simp only [Exit.then]
    have HBE:=Lib.hid (HB.out.trans (hx1.mono HB.out.size))
    clear hS s0 s1 s2 s3 s4 s5 s6 hx1 hb1
    go_wp2
    exact HEND.out _ HBE.out
 by_cases h10:k=10
 · obtain ⟨hr,hf⟩:=hf10 h10
   obtain ⟨E,hEE,hEc⟩:=hcell hr
   have hns:=hnsm hr
   subst h10
   rw [hEE] at HM
   obtain ⟨_,_,_,s8,_⟩:=blk3 HM.out.msg.blk
   have hrl:(r:Int)<(ns.length:Int):=by omega
   have hr0:(0:Int)≤(r:Int):=by omega
   clear hf1 hf10 hfo hcell hnsm h1 hEE
   generalize ns[r]=nr at *
   have hcv:=IntWalk.u64_in (nr:Int) ⟨by omega,by omega⟩
   by_cases hz:z<(nr:Int)
   case' pos=>have HEND:Hid (∀ W,Below w.heap.size w W→P (.returned (.bool true)) W):=Lib.hid (fun W hB=>HYES.out W (by rw [hf];exact decide_eq_true hz) hB)
   case' neg=>have HEND:Hid (∀ W,Below w.heap.size w W→P (.returned (.bool false)) W):=Lib.hid (fun W hB=>HNO.out W (by rw [hf];exact decide_eq_false hz) hB)
   case' pos=>obtain ⟨bz,hbz⟩:∃ b,b=true:=⟨_,rfl⟩
   case' neg=>obtain ⟨bz,hbz⟩:∃ b,b=false:=⟨_,rfl⟩
   case' pos=>have hdz:decide (z<(nr:Int))=bz:=by rw [hbz];exact decide_eq_true hz
   case' neg=>have hdz:decide (z<(nr:Int))=bz:=by rw [hbz];exact decide_eq_false hz
   all_goals
    rw [←hbz] at HEND
    clear hf hz hbz HYES HNO
    go_enter Tryd.func128,Tryd.ntmps128
    go_upto_region 1 with (fail)
    generalize w.alloc (.cells #[.int .u8 ((10:Nat):Int),.int .i64 r,.int .i64 0,.int .i64 at',.int .u64 d,.bool true] 166)=W0 at *
    obtain ⟨_,s1,s2,s3,s4,s5,s6⟩:=blk6 HX.out
    obtain ⟨_,s0,_,_,_⟩:=blk4w HW.out.walk
    have s7:=hEc
    go_upto_region 5 with (fail)
    refine wp_region_noPanic ?_
    refine wp_region_held_drew (S:=(fun w'=>w'.cell? ⟨wk,0,none⟩=some (.pointer (some ⟨m,0,none⟩))∧w'.cell? ⟨w.heap.size,0,none⟩=some (.int .u8 ((10:Nat):Int))∧w'.cell? ⟨w.heap.size,1,none⟩=some (.int .i64 r)∧w'.cell? ⟨w.heap.size,2,none⟩=some (.int .i64 0)∧w'.cell? ⟨w.heap.size,3,none⟩=some (.int .i64 at')∧w'.cell? ⟨w.heap.size,4,none⟩=some (.int .u64 d)∧w'.cell? ⟨w.heap.size,5,none⟩=some (.bool true)∧w'.cell? ⟨E,r,none⟩=some (.int .i64 nr)∧w'.cell? ⟨m,2,none⟩=some (.slice (some ⟨E,0,none⟩) ns.length ec))) (by kernel_rfl) ⟨s0,s1,s2,s3,s4,s5,s6,s7,s8⟩ ?_
    intro hS
    refine tk 0 (.pointer (some ⟨w.heap.size,0,none⟩)) hS ?_ ?_
    · rintro w' ⟨s0,s1,s2,s3,s4,s5,s6,s7,s8⟩
      go_simp
    simp only [td]
    refine tk 1 (.pointer (some ⟨w.heap.size,1,none⟩)) hS ?_ ?_
    · rintro w' ⟨s0,s1,s2,s3,s4,s5,s6,s7,s8⟩
      go_simp
    simp only [td]
    refine tk 2 (.int .i64 r) hS ?_ ?_
    · rintro w' ⟨s0,s1,s2,s3,s4,s5,s6,s7,s8⟩
      go_simp
    simp only [td]
    refine tk 3 (.bool true) hS ?_ ?_
    · rintro w' ⟨s0,s1,s2,s3,s4,s5,s6,s7,s8⟩
      go_simp
    simp only [td]
    refine tk 4 (.bool true) hS ?_ ?_
    · rintro w' ⟨s0,s1,s2,s3,s4,s5,s6,s7,s8⟩
      go_simp
    simp only [td]
    refine tk 5 (.pointer (some ⟨w.heap.size,0,none⟩)) hS ?_ ?_
    · rintro w' ⟨s0,s1,s2,s3,s4,s5,s6,s7,s8⟩
      go_simp
    simp only [td]
    refine tk 6 (.pointer (some ⟨w.heap.size,1,none⟩)) hS ?_ ?_
    · rintro w' ⟨s0,s1,s2,s3,s4,s5,s6,s7,s8⟩
      go_simp
    simp only [td]
    refine tk 7 (.int .i64 r) hS ?_ ?_
    · rintro w' ⟨s0,s1,s2,s3,s4,s5,s6,s7,s8⟩
      go_simp
    simp only [td]
    refine tk 8 (.pointer (some ⟨wk,0,none⟩)) hS ?_ ?_
    · rintro w' ⟨s0,s1,s2,s3,s4,s5,s6,s7,s8⟩
      go_simp
    simp only [td]
    refine tk 9 (.pointer (some ⟨wk,0,none⟩)) hS ?_ ?_
    · rintro w' ⟨s0,s1,s2,s3,s4,s5,s6,s7,s8⟩
      go_simp
    simp only [td]
    refine tk 10 (.pointer (some ⟨wk,0,none⟩)) hS ?_ ?_
    · rintro w' ⟨s0,s1,s2,s3,s4,s5,s6,s7,s8⟩
      go_simp
    simp only [td]
    refine tk 11 (.pointer (some ⟨m,0,none⟩)) hS ?_ ?_
    · rintro w' ⟨s0,s1,s2,s3,s4,s5,s6,s7,s8⟩
      go_simp
    simp only [td]
    refine tk 12 (.pointer (some ⟨m,0,none⟩)) hS ?_ ?_
    · rintro w' ⟨s0,s1,s2,s3,s4,s5,s6,s7,s8⟩
      go_simp
    simp only [td]
    refine tk 13 (.pointer (some ⟨m,2,none⟩)) hS ?_ ?_
    · rintro w' ⟨s0,s1,s2,s3,s4,s5,s6,s7,s8⟩
      go_simp
    simp only [td]
    refine tk 14 (.slice (some ⟨E,0,none⟩) ns.length ec) hS ?_ ?_
    · rintro w' ⟨s0,s1,s2,s3,s4,s5,s6,s7,s8⟩
      go_simp
    simp only [td]
    refine tk 15 (.int .i64 ns.length) hS ?_ ?_
    · rintro w' ⟨s0,s1,s2,s3,s4,s5,s6,s7,s8⟩
      go_simp
    simp only [td]
    refine tk 16 (.bool true) hS ?_ ?_
    · rintro w' ⟨s0,s1,s2,s3,s4,s5,s6,s7,s8⟩
      go_simp
    simp only [td]
    refine tk 17 (.bool true) hS ?_ ?_
    · rintro w' ⟨s0,s1,s2,s3,s4,s5,s6,s7,s8⟩
      go_simp
    simp only [td]
    refine tk 18 (.bool true) hS ?_ ?_
    · rintro w' ⟨s0,s1,s2,s3,s4,s5,s6,s7,s8⟩
      go_simp
    simp only [td]
    refine tk 19 (.pointer (some ⟨wk,0,none⟩)) hS ?_ ?_
    · rintro w' ⟨s0,s1,s2,s3,s4,s5,s6,s7,s8⟩
      go_simp
    simp only [td]
    refine tk 20 (.pointer (some ⟨wk,0,none⟩)) hS ?_ ?_
    · rintro w' ⟨s0,s1,s2,s3,s4,s5,s6,s7,s8⟩
      go_simp
    simp only [td]
    refine tk 21 (.pointer (some ⟨wk,0,none⟩)) hS ?_ ?_
    · rintro w' ⟨s0,s1,s2,s3,s4,s5,s6,s7,s8⟩
      go_simp
    simp only [td]
    refine tk 22 (.pointer (some ⟨m,0,none⟩)) hS ?_ ?_
    · rintro w' ⟨s0,s1,s2,s3,s4,s5,s6,s7,s8⟩
      go_simp
    simp only [td]
    refine tk 23 (.agg #[.int .u8 ((10:Nat):Int),.int .i64 r,.int .i64 0,.int .i64 at',.int .u64 d,.bool true]) hS ?_ ?_
    · rintro w' ⟨s0,s1,s2,s3,s4,s5,s6,s7,s8⟩
      go_simp
    simp only [td]
    refine tk 25 (.pointer (some ⟨wk,0,none⟩)) hS ?_ ?_
    · rintro w' ⟨s0,s1,s2,s3,s4,s5,s6,s7,s8⟩
      go_simp
    simp only [td]
    refine tk 26 (.pointer (some ⟨wk,0,none⟩)) hS ?_ ?_
    · rintro w' ⟨s0,s1,s2,s3,s4,s5,s6,s7,s8⟩
      go_simp
    simp only [td]
    refine tk 27 (.pointer (some ⟨wk,0,none⟩)) hS ?_ ?_
    · rintro w' ⟨s0,s1,s2,s3,s4,s5,s6,s7,s8⟩
      go_simp
    simp only [td]
    refine tk 28 (.pointer (some ⟨m,0,none⟩)) hS ?_ ?_
    · rintro w' ⟨s0,s1,s2,s3,s4,s5,s6,s7,s8⟩
      go_simp
    simp only [td]
    refine tk 29 (.pointer (some ⟨m,0,none⟩)) hS ?_ ?_
    · rintro w' ⟨s0,s1,s2,s3,s4,s5,s6,s7,s8⟩
      go_simp
    simp only [td]
    refine tk 30 (.pointer (some ⟨m,2,none⟩)) hS ?_ ?_
    · rintro w' ⟨s0,s1,s2,s3,s4,s5,s6,s7,s8⟩
      go_simp
    simp only [td]
    refine tk 31 (.slice (some ⟨E,0,none⟩) ns.length ec) hS ?_ ?_
    · rintro w' ⟨s0,s1,s2,s3,s4,s5,s6,s7,s8⟩
      go_simp
    simp only [td]
    refine tk 32 (.pointer (some ⟨w.heap.size,0,none⟩)) hS ?_ ?_
    · rintro w' ⟨s0,s1,s2,s3,s4,s5,s6,s7,s8⟩
      go_simp
    simp only [td]
    refine tk 33 (.pointer (some ⟨w.heap.size,1,none⟩)) hS ?_ ?_
    · rintro w' ⟨s0,s1,s2,s3,s4,s5,s6,s7,s8⟩
      go_simp
    simp only [td]
    refine tk 34 (.int .i64 r) hS ?_ ?_
    · rintro w' ⟨s0,s1,s2,s3,s4,s5,s6,s7,s8⟩
      go_simp
    simp only [td]
    refine tk 35 (.pointer (some ⟨E,r,none⟩)) hS ?_ ?_
    · rintro w' ⟨s0,s1,s2,s3,s4,s5,s6,s7,s8⟩
      go_simp
    simp only [td]
    refine tk 36 (.int .i64 nr) hS ?_ ?_
    · rintro w' ⟨s0,s1,s2,s3,s4,s5,s6,s7,s8⟩
      go_simp
    simp only [td]
    refine tk 37 (.int .u64 nr) hS ?_ ?_
    · rintro w' ⟨s0,s1,s2,s3,s4,s5,s6,s7,s8⟩
      go_simp
    simp only [td]
    refine wpAnyH_ready (rs:=[24]) (by kernel_rfl) (by decide) (AllReadyH.cons rfl (fun K hK=>?_) AllReadyH.nil)
    rw [if_pos (by kernel_rfl)]
    go_simp
    refine (HNUM.out W0.drew ((Below.refl _ W0).drew)).mono ?_
    rintro e Wh1 ⟨rfl,hb1⟩
    have hx1:Below W0.heap.size W0 Wh1:=(Below.refl _ W0).drew.trans hb1
    have ns0:=cell_stays hx1 s0
    have ns1:=cell_stays hx1 s1
    have ns2:=cell_stays hx1 s2
    have ns3:=cell_stays hx1 s3
    have ns4:=cell_stays hx1 s4
    have ns5:=cell_stays hx1 s5
    have ns6:=cell_stays hx1 s6
    have ns7:=cell_stays hx1 s7
    have ns8:=cell_stays hx1 s8
    refine hK.out _ _ ⟨ns0,ns1,ns2,ns3,ns4,ns5,ns6,ns7,ns8⟩ (fun hS=>?_)
    clear ns0 ns1 ns2 ns3 ns4 ns5 ns6 ns7 ns8
    refine tk 38 (.bool bz) hS ?_ ?_
    · rintro w' ⟨s0,s1,s2,s3,s4,s5,s6,s7,s8⟩
      go_simp
    simp only [td]
    refine tk 39 (.bool bz) hS ?_ ?_
    · rintro w' ⟨s0,s1,s2,s3,s4,s5,s6,s7,s8⟩
      go_simp
    simp only [td]
    refine tk 40 (.bool bz) hS ?_ ?_
    · rintro w' ⟨s0,s1,s2,s3,s4,s5,s6,s7,s8⟩
      go_simp
    simp only [td]
    refine wpAnyH_done (by kernel_rfl) ?_ _
    refine NoPanic.normal ?_
    try simp only [Exit.then]
    have HBE:=Lib.hid (HB.out.trans (hx1.mono HB.out.size))
    clear hS s0 s1 s2 s3 s4 s5 s6 s7 s8 hx1 hb1
    go_wp2
    exact HEND.out _ HBE.out
 · have hf:=hfo h1 h10
   have HEND:Hid (∀ W,Below w.heap.size w W→P (.returned (.bool true)) W):=Lib.hid (fun W hB=>HYES.out W hf hB)
   have t1:((k:Int)==1)=false:=by simp;omega
   have t10:((k:Int)==10)=false:=by simp;omega
   clear hf1 hf10 hfo hcell hnsm HYES HNO hf
   go_enter Tryd.func128,Tryd.ntmps128
   go_upto_region 1 with (fail)
   generalize w.alloc (.cells #[.int .u8 k,.int .i64 r,.int .i64 0,.int .i64 at',.int .u64 d,.bool true] 166)=W0 at *
   obtain ⟨_,s1,s2,s3,s4,s5,s6⟩:=blk6 HX.out
   go_wp2
   exact HEND.out _ HB.out
end Go.Proofs.YtcfjjocmiheiaaaDoor
namespace Go.Proofs.YtcfjjocmiheiaaaDoor
open Go.ChangeShapes Go.WideShapes Go.ChangeAt Go.RowKit Go.Shelf
theorem WState.bytes {w:World}{wk m mt:Nat}{out mo:Bool}{left ml:Int}(h:WState w wk m mt out left ml mo){b off:Nat}{zs:List Int}(hb:Bytes w (some ⟨b,off,none⟩) zs)(hne:zs≠[]):b≠wk∧b≠mt:=by
 obtain ⟨b',off',e,_,hc⟩:=hb.2 hne
 injection e with e
 injection e with e1 e2 _
 subst e1 e2
 have h0:=hc 0 (List.length_pos_iff.2 hne)
 rw [Nat.add_zero] at h0
 constructor
 · intro hbw
   subst hbw
   rw [blk_cell h.walk off] at h0
   have h4:off=0∨off=1∨off=2∨off=3∨4≤off:=by omega
   rcases h4 with rfl|rfl|rfl|rfl|h4
   · cases h0
   · cases h0
   · cases h0
   · simp at h0
   · rw [Array.getElem?_eq_none (by simpa using h4)] at h0;cases h0
 · intro hbw
   subst hbw
   rw [blk_cell h.meter off] at h0
   have h4:off=0∨off=1∨2≤off:=by omega
   rcases h4 with rfl|rfl|h4
   · simp at h0
   · cases h0
   · rw [Array.getElem?_eq_none (by simpa using h4)] at h0;cases h0
theorem bytes_exw {w W:World}{R S:Nat}{p:Option Addr}{zs:List Int}(h:Bytes w p zs)(hx:Exw R S w.heap.size w W)(hp:∀ b off,p=some ⟨b,off,none⟩→zs≠[]→b≠R∧b≠S):Bytes W p zs:=by
 refine ⟨h.1,fun hne=>?_⟩
 obtain ⟨b,off,rfl,hlt,hc⟩:=h.2 hne
 obtain ⟨h1,h2⟩:=hp b off rfl hne
 exact ⟨b,off,rfl,Nat.lt_of_lt_of_le hlt hx.size,fun i hi=>cell_exw hx (hc i hi) h1 h2⟩
theorem row_notblk {W:World}{base P n sz:Nat}{e t:TypeId}{v:Value}{xs:List Value}{cs:Array Value}(h:W.ownsRow base e sz v n xs)(hP:W.heap[P]?=some (.cells cs t (0,0)))(hne:t≠e):v.ownBlock≠some P:=row_other h hP hne
theorem MsgOf.exw {base:Nat}{w W:World}{m:Nat}{bp:Option Addr}{bc:Nat}{sv ev:Value}{zs:List Int}{ss:List (SRec × Value)}{es:List SCho}{fs:List (List CFld × Value)}{ns:List Nat}(h:MsgOf base w m bp bc sv ev zs ss es fs ns){wk mt:Nat}{out mo:Bool}{left ml:Int}(hw:WState w wk m mt out left ml mo)(hx:Exw wk mt w.heap.size w W):MsgOf base W m bp bc sv ev zs ss es fs ns:=by
 have hm1:m≠wk:=fun e=>by
  have h1:=h.msg.blk
  rw [e,hw.walk] at h1
  injection h1 with h1
  injection h1 with h1 _ _
  have h3:=congrArg Array.size h1
  simp at h3
 have hm2:m≠mt:=fun e=>by
  have h1:=h.msg.blk
  rw [e,hw.meter] at h1
  injection h1 with h1
  injection h1 with h1 _ _
  have h3:=congrArg Array.size h1
  simp at h3
 refine ⟨⟨blk_exw h.msg.blk hx (blk_lt h.msg.blk) hm1 hm2,bytes_exw h.msg.bytes hx (fun b off e hne=>by have hb:=h.msg.bytes;rw [e] at hb;exact hw.bytes hb hne),h.msg.len,h.msg.cap,?_,fun q hq=>?_,?_⟩,h.structs,h.enums,h.few⟩
 · exact hx.ownsRow h.msg.structs (row_notblk h.msg.structs hw.walk (by decide)) (row_notblk h.msg.structs hw.meter (by decide))
 · exact hx.ownsRow (h.msg.fields q hq) (row_notblk (h.msg.fields q hq) hw.walk (by decide)) (row_notblk (h.msg.fields q hq) hw.meter (by decide))
 · exact hx.ownsRow h.msg.enums (row_notblk h.msg.enums hw.walk (by decide)) (row_notblk h.msg.enums hw.meter (by decide))
def Amb (B:Nat)(w:World):Prop:=∀ W,Below B w W→Tabs W
theorem Amb.below {B:Nat}{w W:World}(h:Amb B w)(hb:Below B w W):Amb B W:=fun V hV=>h V (hb.trans hV)
theorem Amb.exw {B wk mt:Nat}{w W:World}(h:Amb B w)(h0:B≤w.heap.size)(h1:B≤wk)(h2:B≤mt)(hx:Exw wk mt w.heap.size w W):Amb B W:=h.below ((hx.mono h0).below h1 h2)
theorem bytesAt_no {zs:List Int}{k:Nat}{to left:Int}(hz:∀ i,0≤zs.getD i 0∧zs.getD i 0≤255)(h:bytesOk zs k to=false):bytesAtZ zs k to left=none:=by
 unfold bytesAtZ
 by_cases h1:inZ (lenZ zs) to 4=true
 · rw [if_pos h1,if_neg ?_]
   rintro ⟨h2,h3,h4⟩
   have hi:=inZ_iff.1 h1
   have hn:=leAt_4 zs to.toNat hz
   have h2':=inZ_iff.1 h2
   unfold bytesOk at h
   rw [h1,Bool.true_and] at h
   by_cases hk:k=11
   · rw [if_pos hk] at h2'
     rw [inZ_iff.2 (show 0≤to+4∧0≤leAt zs to.toNat 4∧_ by omega),decide_eq_true hk,inZ_iff.2 (show 0≤to+4+leAt zs to.toNat 4∧(0:Int)≤1∧_ by omega),decide_eq_true (h4 hk).1] at h
     cases h
   · rw [if_neg hk] at h2'
     rw [inZ_iff.2 (show 0≤to+4∧0≤leAt zs to.toNat 4∧_ by omega),decide_eq_false hk] at h
     cases h
 · rw [if_neg h1]
theorem bytesAt_ok {zs:List Int}{k:Nat}{to left:Int}(hz:∀ i,0≤zs.getD i 0∧zs.getD i 0≤255)(h:bytesOk zs k to=true):bytesAtZ zs k to left=if 0≤left-(4+leAt zs to.toNat 4+(if k=11 then 1 else 0))∧(k=11→u8At (partZ zs (to.toNat+4) (leAt zs to.toNat 4).toNat) 0<0) then some (.mk 0 (partZ zs (to.toNat+4) (leAt zs to.toNat 4).toNat) [] false,left-(4+leAt zs to.toNat 4+(if k=11 then 1 else 0))) else none:=by
 unfold bytesOk at h
 rw [Bool.and_eq_true,Bool.and_eq_true] at h
 obtain ⟨h1,h2,h3⟩:=h
 have hi:=inZ_iff.1 h1
 have hn:=leAt_4 zs to.toNat hz
 have h2':=inZ_iff.1 h2
 unfold bytesAtZ
 rw [if_pos h1]
 by_cases hk:k=11
 · rw [decide_eq_true hk] at h3
   simp only [Bool.not_true,Bool.false_or,Bool.and_eq_true,decide_eq_true_eq] at h3
   have h3':=inZ_iff.1 h3.1
   rw [if_pos hk]
   have h4:inZ (lenZ zs) to (4+leAt zs to.toNat 4+1)=true:=inZ_iff.2 (by omega)
   by_cases hc:0≤left-(4+leAt zs to.toNat 4+1)∧(k=11→u8At (partZ zs (to.toNat+4) (leAt zs to.toNat 4).toNat) 0<0)
   · rw [if_pos hc,if_pos ⟨h4,hc.1,fun h=>⟨h3.2,hc.2 h⟩⟩]
   · rw [if_neg hc,if_neg (fun h=>hc ⟨h.2.1,fun h5=>(h.2.2 h5).2⟩)]
 · rw [if_neg hk]
   have h4:inZ (lenZ zs) to (4+leAt zs to.toNat 4+0)=true:=inZ_iff.2 (by omega)
   by_cases hc:0≤left-(4+leAt zs to.toNat 4+0)∧(k=11→u8At (partZ zs (to.toNat+4) (leAt zs to.toNat 4).toNat) 0<0)
   · rw [if_pos hc,if_pos ⟨h4,hc.1,fun h=>absurd h hk⟩]
   · rw [if_neg hc,if_neg (fun h=>hc ⟨h.2.1,fun h5=>absurd h5 hk⟩)]
theorem rpost_none {left ml l' ml':Int}{mo:Bool}{res:Option (PV × Int)}{w w':World}{wk m mt:Nat}(hs:WState w' wk m mt false l' ml' mo)(hx:Exw wk mt w.heap.size w w')(h:res=none):RPost res wk m mt left ml w (.returned (.bool false)) w':=
 ⟨hx,.inr ⟨rfl,false,l',ml',mo,hs,fun _=>h,(fun h=>by cases h)⟩⟩
theorem rpost_out {left ml l' ml':Int}{mo:Bool}{res:Option (PV × Int)}{w w':World}{wk m mt:Nat}(hs:WState w' wk m mt true l' ml' mo)(hx:Exw wk mt w.heap.size w w')(h:ml<3 * left):RPost res wk m mt left ml w (.returned (.bool false)) w':=
 ⟨hx,.inr ⟨rfl,true,l',ml',mo,hs,(fun h=>by cases h),fun _=>h⟩⟩
theorem rpost_some {v:PV}{left ml l' ml':Int}{res:Option (PV × Int)}{w w':World}{wk m mt:Nat}(hs:WState w' wk m mt false l' ml' false)(hx:Exw wk mt w.heap.size w w')(h:res=some (v,l'))(h0:0≤l')(h1:l'≤left)(h2:0≤ml')(h3:ml'≤ml)(h4:3 * left≤ml→3 * l'≤ml'):RPost res wk m mt left ml w (.returned (.bool true)) w':=
 ⟨hx,.inl ⟨v,l',ml',h,⟨h0,h1⟩,rfl,hs,⟨h2,h3⟩,h4⟩⟩
end Go.Proofs.YtcfjjocmiheiaaaDoor
