/-
  The law FlatreadDeep: of every number and in both ways it returns true, and nothing that was there is written. Conditions: those that each theorem names; the library's tables hold what the row lists.
-/
import Derived.Test.YtcfjjocmiheiaaaDoorPkD52
import Derived.Test.YtcfjjocmiheiaaaDoorPkD6
import Derived.Test.YtcfjjocmiheiaaaDoorPkD44
import Derived.Test.YtcfjjocmiheiaaaDoorPkD48
import Derived.Test.YtcfjjocmiheiaaaDoorPkD49
import Derived.Deep.RegionHeld3
namespace Go.Proofs.YtcfjjocmiheiaaaDoor
open Go.ChangeShapes Go.WideShapes Go.ChangeAt Go.RowKit Go.Shelf
def deepS (l:Nat):SRec:=⟨⟨#[83]⟩,[⟨⟨#[120]⟩,13,0,l,0⟩]⟩
def deepZ (lists:Bool)(l n:Nat):List Int:=encZ [deepS l] 30 0 (deepV lists n)
def deepR (lists:Bool)(l n:Nat):Bool:=(flatZ [cR (deepS l)] [] (deepZ lists l n) 12 13 0 0 0 (deepZ lists l n).length).isSome
theorem deep_room0:∀ n,n<14→fitsP [cR (deepS 0)] [] 30 13 0 0 (deepV false n)=true:=by decide +kernel
theorem deep_room1:∀ n,n<14→fitsP [cR (deepS 1)] [] 30 13 0 0 (deepV true n)=true:=by decide +kernel
theorem deep_len0:∀ n,n<14→(deepZ false 0 n).length≤16384:=by decide +kernel
theorem deep_len1:∀ n,n<14→(deepZ true 1 n).length≤16384:=by decide +kernel
theorem deep_red0:∀ n,n<14→deepR false 0 n=decide (n+1≤12):=by decide +kernel
theorem deep_red1:∀ n,n<14→deepR true 1 n=decide (n+1≤6):=by decide +kernel
theorem deep_has (lists:Bool)(n:Nat):(deepV lists n).has=true:=by
 cases n with
 | zero=>rfl
 | succ n=>cases lists<;>rfl
theorem deep_srows {W:World}{K l:Nat}(h1:W.heap[K]?=some (.cells (cfldsCells (deepF l)).toArray 52 (0,0)))(h2:W.heap[K+1]?=some (.cells #[.string ⟨#[83]⟩,.slice (some ⟨K,0,none⟩) 1 1] 55 (0,0))) :
  SchRows K W [(deepS l,.slice (some ⟨K,0,none⟩) 1 1)] [] (.slice (some ⟨K+1,0,none⟩) 1 1) (.slice none 0 0) where
 structs:=own_blk (base:=K) (n:=1) (size:=2) h2 (Nat.le_succ _) (by decide) rfl
 enums:=World.ownsRow_nil _ _ _ _
 fields:=fun q hq=>by rw [List.mem_singleton] at hq;subst hq;exact own_blk (base:=K) (n:=1) (size:=5) h1 (Nat.le_refl _) (by decide) rfl
 names:=fun q hq=>by cases hq
theorem deep_fld {l:Nat}{f:SFld}(hf:f ∈ (deepS l).fields):f=⟨⟨#[120]⟩,13,0,l,0⟩:=by simpa [deepS] using hf
theorem deep_schM {l:Nat}(hl:l≤1)(v:Value):SchM [(deepS l,v)] []:=by
 refine ⟨(show 1≤16 by decide),fun q hq=>?_⟩
 rw [List.mem_singleton] at hq
 subst hq
 refine ⟨(show 1≤16 by decide),fun f hf=>?_⟩
 have h:=deep_fld hf
 subst h
 obtain rfl|rfl:l=0∨l=1:=by omega
 all_goals exact ⟨⟨by decide,by decide,by decide,fun h=>absurd h (by decide),fun _=>Nat.zero_lt_one⟩,by decide,fun _ h=>absurd h (by decide)⟩
theorem deep_dflts {l:Nat}(hl:l≤1)(v:Value):∀ q ∈ [(deepS l,v)],DfltsOk [] (cR q.1).fields:=fun q hq g hg=>by
 rw [List.mem_singleton] at hq
 subst hq
 have h:g=⟨⟨#[120]⟩,13,0,(l:Nat),0⟩:=by
  obtain ⟨f,hf,rfl⟩:=List.mem_map.1 (show g ∈ (deepS l).fields.map cF from hg)
  rw [deep_fld hf]
  rfl
 subst h
 obtain rfl|rfl:l=0∨l=1:=by omega
 all_goals (refine ⟨by decide,fun h=>absurd h (by decide),fun _=>rfl⟩)
theorem deep_fldsok {l:Nat}(hl:l≤1)(v:Value):FldsOk (crow [(deepS l,v)]):=fun q hq g hg=>by
 obtain ⟨x,hx,rfl⟩:=List.mem_map.1 (show q ∈ [(deepS l,v)].map _ from hq)
 rw [List.mem_singleton] at hx
 subst hx
 have h:g=⟨⟨#[120]⟩,13,0,(l:Nat),0⟩:=by
  obtain ⟨f,hf,rfl⟩:=List.mem_map.1 (show g ∈ (deepS l).fields.map cF from hg)
  rw [deep_fld hf]
  rfl
 subst h
 obtain rfl|rfl:l=0∨l=1:=by omega
 all_goals decide
end Go.Proofs.YtcfjjocmiheiaaaDoor
namespace Go.Proofs.YtcfjjocmiheiaaaDoor
open Go.ChangeShapes Go.WideShapes Go.ChangeAt Go.RowKit Go.Shelf
set_option maxRecDepth 100000 in
set_option maxHeartbeats 8000000 in
theorem fdeep_plain (n:Nat)(hn:n≤255)(w:World)(hT:Tabs w) :
  Calls Tryd.prog 4 #[.int .u8 n,.bool false] w fun e w'=>e=.returned (.bool true)∧Below w.heap.size w w':=by
 have HB0:=Lib.hid (Below.refl w.heap.size w)
 have HT:=Lib.hid hT
 clear hT
 go_enter Tryd.func4,Tryd.ntmps4
 go_upto_region 1 with (fail)
 go_wp2_with fail
 refine (awake10_any w HT.out).mono ?_
 rintro e W1 ⟨rfl,hb1⟩
 have HB1:=Lib.hid hb1
 clear hb1 HB0
 go_upto_region 9 with (fail)
 have hbt:Below W1.heap.size W1 (W1.alloc (.cells #[.int .u8 13,.int .i64 0,.int .i64 0] 50)):=(Below.refl _ _).alloc (Nat.le_refl _) _
 have HB2:=Lib.hid (HB1.out.trans (hbt.mono HB1.out.size))
 have HQT:=Lib.hid (heap_alloc_new W1 (.cells #[.int .u8 13,.int .i64 0,.int .i64 0] 50))
 clear hbt HB1
 generalize W1.alloc (.cells #[.int .u8 13,.int .i64 0,.int .i64 0] 50)=W2 at *
 generalize W1.heap.size=T at *
 obtain ⟨_,y0,y1,y2,_⟩:=blk3 HQT.out
 obtain ⟨h0,h1,h2,h3,h4,h5,h6⟩:=five_blk W2 (cfldsCells (deepF 0)).toArray #[.string ⟨#[83]⟩,.slice (some ⟨W2.heap.size,0,none⟩) 1 1] #[.slice (some ⟨W2.heap.size+1,0,none⟩) 1 1,.slice none 0 0,.int .i64 0] #[.int .u64 0,.slice none 0 0,.slice none 0 0,.bool false] #[.int .u64 0,.slice none 0 0,.slice (some ⟨W2.heap.size+1+1+1,0,none⟩) 1 1,.bool true] 52 55 30 36 36
 have HF:=Lib.hid h1
 have HR:=Lib.hid h2
 have HK:=Lib.hid HB2.out.size
 have HZ:=Lib.hid h3
 have HV:=Lib.hid (fun m=>vd_start (lists:=false) m h5 h4 (by omega))
 have HB3:=Lib.hid (HB2.out.trans (h0.mono HB2.out.size))
 have HSZ:=Lib.hid h6
 clear h0 h1 h2 h3 h4 h5 h6
 go_upto_region 11 with (fail)
 change Code.wp _ _ _ _ (((((W2.alloc (.cells (cfldsCells (deepF 0)).toArray 52)).alloc (.cells #[.string ⟨#[83]⟩,.slice (some ⟨W2.heap.size,0,none⟩) 1 1] 55)).alloc (.cells #[.slice (some ⟨W2.heap.size+1,0,none⟩) 1 1,.slice none 0 0,.int .i64 0] 30)).alloc (.cells #[.int .u64 0,.slice none 0 0,.slice none 0 0,.bool false] 36)).alloc (.cells #[.int .u64 0,.slice none 0 0,.slice (some ⟨W2.heap.size+1+1+1,0,none⟩) 1 1,.bool true] 36))
 generalize ((((W2.alloc (.cells (cfldsCells (deepF 0)).toArray 52)).alloc (.cells #[.string ⟨#[83]⟩,.slice (some ⟨W2.heap.size,0,none⟩) 1 1] 55)).alloc (.cells #[.slice (some ⟨W2.heap.size+1,0,none⟩) 1 1,.slice none 0 0,.int .i64 0] 30)).alloc (.cells #[.int .u64 0,.slice none 0 0,.slice none 0 0,.bool false] 36)).alloc (.cells #[.int .u64 0,.slice none 0 0,.slice (some ⟨W2.heap.size+1+1+1,0,none⟩) 1 1,.bool true] 36)=W4 at *
 generalize W2.heap.size=K at *
 obtain ⟨m,hm,hml⟩:∃ m:Nat,((n:Int) % 14)=m∧m<14:=⟨n % 14,by omega,by omega⟩
 rw [hm]
 clear hm
 go_wp2_with fail
 go_loopw [33] (fun x wr=>VDAt m (K+1+1+1+1) W4 false x wr) (fun x _=>14-(intOf x).toNat)
 case atStart=>exact HV.out m
 case round =>
  obtain ⟨j,M,hj,rfl,hV,hvh,hb⟩:=hrel
  have HVV:=Lib.hid hV
  have HVH:=Lib.hid hvh
  have HBW:=Lib.hid hb
  obtain ⟨_,v0,v1,v2,v3⟩:=blk4p hV
  clear hV hvh hb
  by_cases hjm:j<m
  · have hji:(j:Int)<m:=by omega
    go_upto_region 15 with (fail)
    have f0:=blk_frozen HVV.out 0
    have f1:=blk_frozen HVV.out 1
    have f2:=blk_frozen HVV.out 2
    have f3:=blk_frozen HVV.out 3
    have hlt:=blk_lt HVV.out
    go_wp2
    go_roundw
    case rel=>exact vd_next (by omega) HBW.out.size HVV.out HVH.out HBW.out
    case measure=>simp [intOf];omega
  · have hji:¬(j:Int)<m:=by omega
    obtain rfl:j=m:=by omega
    obtain ⟨_,z0,z1,z2,_⟩:=blk3 (blk_exc HZ.out HBW.out (blk_lt HZ.out) (by omega))
    go_upto_region 17 with (fail)
    have HBE:=Lib.hid (((Exc.of_below HB3.out).trans (HBW.out.mono HB3.out.size)).below (by have:=HK.out;omega))
    have HCR:=Lib.hid (deep_srows (l:=0) (blk_exc HF.out HBW.out (blk_lt HF.out) (by omega)) (blk_exc HR.out HBW.out (blk_lt HR.out) (by omega)))
    have HZW:=Lib.hid (blk_exc HZ.out HBW.out (blk_lt HZ.out) (by omega))
    generalize K=K0 at *
    obtain ⟨zs,hzs⟩:∃ zs,deepZ false 0 j=zs:=⟨_,rfl⟩
    have hlen:=deep_len0 j (by omega)
    have hred:=deep_red0 j (by omega)
    have henc:=encode_room 30 wr 0 HCR.out (deep_schM (by decide) _) (deep_dflts (by decide) _) (deepV false j) _ HVH.out.out (deep_room0 j (by omega)) (deep_has _ _) (Nat.le_trans hlen (by decide))
    unfold deepR at hred
    rw [hzs] at hlen hred
    have henc2:Calls Tryd.prog 16 #[.agg #[.slice (some ⟨K0+1,0,none⟩) 1 1,.slice none 0 0,.int .i64 0],.agg #[.int .u64 0,.slice none 0 0,.slice (some ⟨M,0,none⟩) 1 1,.bool true]] wr (EncPost zs wr):=by
     rw [←hzs]
     exact henc
    have HENC:=Lib.hid henc2
    have HZL:=Lib.hid hlen
    have HRED:=Lib.hid hred
    clear hzs hlen hred henc henc2
    go_wp2_with fail
    refine HENC.out.mono ?_
    rintro e W6 ⟨hb6,hrng,A,cap,rfl,hown⟩
    have HB6:=Lib.hid (HBE.out.trans (hb6.mono HBE.out.size))
    have HBO:=Lib.hid (bytes_ownv hown hrng)
    have HZ6:=Lib.hid (blk_below HZW.out hb6 (blk_lt HZW.out))
    have HYC:=Lib.hid HBO.out.2
    have HRW:=Lib.hid (fun (W':World) (hW:Below W6.heap.size W6 W')=>(HCR.out.below hb6).below hW)
    have HBYS:=Lib.hid (fun (W':World) (hW:Below W6.heap.size W6 W')=>HBO.out.1.below (Nat.le_refl _) hW)
    have HAM:=Lib.hid (fun (W':World) (hW:Below W6.heap.size W6 W')=>(fun V hV=>HT.out.below (Nat.le_refl _) (HB6.out.trans ((hW.trans hV).mono HB6.out.size)):Amb W6.heap.size W'))
    clear hb6 hown hrng HENC z0 z1 z2 v0 v1 v2 v3
    obtain ⟨_,z0,z1,z2,_⟩:=blk3 HZ6.out
    go_upto_region 18 with (fail)
    refine wp_region_noPanic ?_
    refine wp_region_held_drew (S:=(fun w'=>w'.cell? ⟨K0+1+1,0,none⟩=some (.slice (some ⟨K0+1,0,none⟩) 1 1)∧w'.cell? ⟨K0+1+1,1,none⟩=some (.slice none 0 0)∧w'.cell? ⟨K0+1+1,2,none⟩=some (.int .i64 0))) (by kernel_rfl) ⟨z0,z1,z2⟩ ?_
    intro hS
    refine tk 0 (.agg #[.slice (some ⟨K0+1,0,none⟩) 1 1,.slice none 0 0,.int .i64 0]) hS ?_ ?_
    · rintro w' ⟨z0,z1,z2⟩
      go_simp
    simp only [td]
    refine tk 1 (.slice A zs.length cap) hS ?_ ?_
    · rintro w' ⟨z0,z1,z2⟩
      go_simp
    simp only [td]
    refine wpAnyH_ready (rs:=[2]) (by kernel_rfl) (by decide) (AllReadyH.cons rfl (fun K hK=>?_) AllReadyH.nil)
    rw [if_pos (by kernel_rfl)]
    go_simp
    refine (enough_any W6.drew).mono ?_
    rintro e W7 ⟨rfl,hm7,hb7⟩
    have hl7:Below W6.heap.size W6 W7:=(Below.refl _ W6).drew.trans hb7
    have HL7:=Lib.hid hl7
    have HM7:=Lib.hid (show W7.heap[W6.heap.size]?=some (.cells #[.int .i64 1099511627776,.bool false] 106 (0,0)) from hm7)
    refine hK.out _ _ ⟨cell_stays hl7 z0,cell_stays hl7 z1,cell_stays hl7 z2⟩ (fun hS=>?_)
    clear hm7 hb7 hl7 hK K
    refine wpAnyH_ready (rs:=[3]) (by kernel_rfl) (by decide) (AllReadyH.cons rfl (fun K hK=>?_) AllReadyH.nil)
    rw [if_pos (by kernel_rfl)]
    go_simp
    refine (fread_any (B:=W6.heap.size) W7 0 (HRW.out W7 HL7.out) (deep_schM (by decide) _) (deep_dflts (by decide) _) ⟨by decide,fun q hq=>by cases hq⟩ Nat.zero_lt_one (HBYS.out W7 HL7.out) (by have:=HZL.out;omega) HYC.out HM7.out ⟨by omega,by omega⟩ (Nat.le_refl _) (HAM.out W7 HL7.out)).mono ?_
    rintro e W8 ⟨hx8,ml',mo,_,hpost⟩
    have hb8:Below W6.heap.size W7 W8:=(hx8.mono HL7.out.size).below (Nat.le_refl _)
    have HL8:=Lib.hid (HL7.out.trans hb8)
    have HZ8:=Lib.hid (blk_below HZ6.out HL8.out (blk_lt HZ6.out))
    have hS8:=And.intro (blk3 HZ8.out).2.1 (And.intro (blk3 HZ8.out).2.2.1 (blk3 HZ8.out).2.2.2.1)
    clear z0 z1 z2 hx8 hb8
    have HTO:Hid (Calls Tryd.prog 19 #[.agg #[.slice (some ⟨K0+1,0,none⟩) 1 1,.slice none 0 0,.int .i64 0],.slice A zs.length cap] W8 fun e w'=>e=.returned (.bool true)∧Below W8.heap.size W8 w'):=Lib.hid (ftold_any W8 0 (HRW.out W8 HL8.out) (deep_schM (by decide) _) (deep_dflts (by decide) _) ⟨by decide,fun q hq=>by cases hq⟩ (deep_fldsok (by decide) _) Nat.zero_lt_one (HBYS.out W8 HL8.out) (by have:=HZL.out;omega) HYC.out (fun V hV=>HT.out.below (Nat.le_refl _) (HB6.out.trans ((HL8.out.trans (hV.mono HL8.out.size)).mono HB6.out.size))))
    rcases hpost with ⟨v,l',x,hlz,hfl,rfl,_,_,_⟩|⟨rfl,hno⟩|⟨_,_,hbad⟩
    · have hle:j+1≤12:=by
       have h:=HRED.out
       rw [show flatZ [cR (deepS 0)] [] zs 12 13 0 0 0 zs.length=some (v,l') from hfl] at h
       exact of_decide_eq_true h.symm
      clear hfl
      refine hK.out _ _ hS8 (fun hS=>?_)
      clear hK K hS8
      have hS:=And.intro (blk3 HZ8.out).2.1 (And.intro (blk3 HZ8.out).2.2.1 (blk3 HZ8.out).2.2.2.1)
      refine tk 4 (.tuple #[x,.int .i64 0]) hS ?_ ?_
      · rintro w' ⟨z0,z1,z2⟩
        go_simp
      simp only [td]
      refine tk 5 x hS ?_ ?_
      · rintro w' ⟨z0,z1,z2⟩
        go_simp
      simp only [td]
      refine tk 6 (.int .i64 0) hS ?_ ?_
      · rintro w' ⟨z0,z1,z2⟩
        go_simp
      simp only [td]
      refine tk 7 x hS ?_ ?_
      · rintro w' ⟨z0,z1,z2⟩
        go_simp
      simp only [td]
      refine tk 8 (.int .i64 0) hS ?_ ?_
      · rintro w' ⟨z0,z1,z2⟩
        go_simp
      simp only [td]
      refine wpAnyH_done (by kernel_rfl) ?_ _
      refine NoPanic.normal ?_
      try simp only [Exit.then]
      have hli:1+(j:Int)≤12:=by omega
      obtain ⟨_,z0,z1,z2,_⟩:=blk3 HZ8.out
      clear hS
      go_wp2_with fail
      refine HTO.out.mono ?_
      rintro e W9 ⟨rfl,hb9⟩
      have HB9:=Lib.hid (HB6.out.trans ((HL8.out.trans (hb9.mono HL8.out.size)).mono HB6.out.size))
      clear hb9 z0 z1 z2
      go_wp2
      go_ret
      exact ⟨rfl,HB9.out⟩
    · have hle:¬j+1≤12:=by
       have h:=HRED.out
       rcases hno with h2|h2
       · have:=HZL.out
         omega
       · rw [show flatZ [cR (deepS 0)] [] zs 12 13 0 0 0 zs.length=none from h2] at h
         exact of_decide_eq_false h.symm
      clear hno
      refine hK.out _ _ hS8 (fun hS=>?_)
      clear hK K hS8
      have hS:=And.intro (blk3 HZ8.out).2.1 (And.intro (blk3 HZ8.out).2.2.1 (blk3 HZ8.out).2.2.2.1)
      refine tk 4 (.tuple #[.nilIface,.int .i64 20]) hS ?_ ?_
      · rintro w' ⟨z0,z1,z2⟩
        go_simp
      simp only [td]
      refine tk 5 (.nilIface) hS ?_ ?_
      · rintro w' ⟨z0,z1,z2⟩
        go_simp
      simp only [td]
      refine tk 6 (.int .i64 20) hS ?_ ?_
      · rintro w' ⟨z0,z1,z2⟩
        go_simp
      simp only [td]
      refine tk 7 (.nilIface) hS ?_ ?_
      · rintro w' ⟨z0,z1,z2⟩
        go_simp
      simp only [td]
      refine tk 8 (.int .i64 20) hS ?_ ?_
      · rintro w' ⟨z0,z1,z2⟩
        go_simp
      simp only [td]
      refine wpAnyH_done (by kernel_rfl) ?_ _
      refine NoPanic.normal ?_
      try simp only [Exit.then]
      have hli:¬1+(j:Int)≤12:=by omega
      obtain ⟨_,z0,z1,z2,_⟩:=blk3 HZ8.out
      clear hS
      go_wp2_with fail
      refine HTO.out.mono ?_
      rintro e W9 ⟨rfl,hb9⟩
      have HB9:=Lib.hid (HB6.out.trans ((HL8.out.trans (hb9.mono HL8.out.size)).mono HB6.out.size))
      clear hb9 z0 z1 z2
      go_wp2
      go_ret
      exact ⟨rfl,HB9.out⟩
    · have:=HZL.out
      omega
end Go.Proofs.YtcfjjocmiheiaaaDoor
namespace Go.Proofs.YtcfjjocmiheiaaaDoor
open Go.ChangeShapes Go.WideShapes Go.ChangeAt Go.RowKit Go.Shelf
set_option maxRecDepth 100000 in
set_option maxHeartbeats 8000000 in
theorem fdeep_lists (n:Nat)(hn:n≤255)(w:World)(hT:Tabs w) :
  Calls Tryd.prog 4 #[.int .u8 n,.bool true] w fun e w'=>e=.returned (.bool true)∧Below w.heap.size w w':=by
 have HB0:=Lib.hid (Below.refl w.heap.size w)
 have HT:=Lib.hid hT
 clear hT
 go_enter Tryd.func4,Tryd.ntmps4
 go_upto_region 1 with (fail)
 go_wp2_with fail
 refine (awake10_any w HT.out).mono ?_
 rintro e W1 ⟨rfl,hb1⟩
 have HB1:=Lib.hid hb1
 clear hb1 HB0
 go_upto_region 9 with (fail)
 have hbt:Below W1.heap.size W1 (W1.alloc (.cells #[.int .u8 13,.int .i64 0,.int .i64 1] 50)):=(Below.refl _ _).alloc (Nat.le_refl _) _
 have HB2:=Lib.hid (HB1.out.trans (hbt.mono HB1.out.size))
 have HQT:=Lib.hid (heap_alloc_new W1 (.cells #[.int .u8 13,.int .i64 0,.int .i64 1] 50))
 clear hbt HB1
 generalize W1.alloc (.cells #[.int .u8 13,.int .i64 0,.int .i64 1] 50)=W2 at *
 generalize W1.heap.size=T at *
 obtain ⟨_,y0,y1,y2,_⟩:=blk3 HQT.out
 obtain ⟨h0,h1,h2,h3,h4,h5,h6⟩:=five_blk W2 (cfldsCells (deepF 1)).toArray #[.string ⟨#[83]⟩,.slice (some ⟨W2.heap.size,0,none⟩) 1 1] #[.slice (some ⟨W2.heap.size+1,0,none⟩) 1 1,.slice none 0 0,.int .i64 0] #[.int .u64 0,.slice none 0 0,.slice none 0 0,.bool false] #[.int .u64 0,.slice none 0 0,.slice (some ⟨W2.heap.size+1+1+1,0,none⟩) 1 1,.bool true] 52 55 30 36 36
 have HF:=Lib.hid h1
 have HR:=Lib.hid h2
 have HK:=Lib.hid HB2.out.size
 have HZ:=Lib.hid h3
 have HV:=Lib.hid (fun m=>vd_start (lists:=true) m h5 h4 (by omega))
 have HB3:=Lib.hid (HB2.out.trans (h0.mono HB2.out.size))
 have HSZ:=Lib.hid h6
 clear h0 h1 h2 h3 h4 h5 h6
 go_upto_region 11 with (fail)
 change Code.wp _ _ _ _ (((((W2.alloc (.cells (cfldsCells (deepF 1)).toArray 52)).alloc (.cells #[.string ⟨#[83]⟩,.slice (some ⟨W2.heap.size,0,none⟩) 1 1] 55)).alloc (.cells #[.slice (some ⟨W2.heap.size+1,0,none⟩) 1 1,.slice none 0 0,.int .i64 0] 30)).alloc (.cells #[.int .u64 0,.slice none 0 0,.slice none 0 0,.bool false] 36)).alloc (.cells #[.int .u64 0,.slice none 0 0,.slice (some ⟨W2.heap.size+1+1+1,0,none⟩) 1 1,.bool true] 36))
 generalize ((((W2.alloc (.cells (cfldsCells (deepF 1)).toArray 52)).alloc (.cells #[.string ⟨#[83]⟩,.slice (some ⟨W2.heap.size,0,none⟩) 1 1] 55)).alloc (.cells #[.slice (some ⟨W2.heap.size+1,0,none⟩) 1 1,.slice none 0 0,.int .i64 0] 30)).alloc (.cells #[.int .u64 0,.slice none 0 0,.slice none 0 0,.bool false] 36)).alloc (.cells #[.int .u64 0,.slice none 0 0,.slice (some ⟨W2.heap.size+1+1+1,0,none⟩) 1 1,.bool true] 36)=W4 at *
 generalize W2.heap.size=K at *
 obtain ⟨m,hm,hml⟩:∃ m:Nat,((n:Int) % 14)=m∧m<14:=⟨n % 14,by omega,by omega⟩
 rw [hm]
 clear hm
 go_wp2_with fail
 go_loopw [33] (fun x wr=>VDAt m (K+1+1+1+1) W4 true x wr) (fun x _=>14-(intOf x).toNat)
 case atStart=>exact HV.out m
 case round =>
  obtain ⟨j,M,hj,rfl,hV,hvh,hb⟩:=hrel
  have HVV:=Lib.hid hV
  have HVH:=Lib.hid hvh
  have HBW:=Lib.hid hb
  obtain ⟨_,v0,v1,v2,v3⟩:=blk4p hV
  clear hV hvh hb
  by_cases hjm:j<m
  · have hji:(j:Int)<m:=by omega
    go_upto_region 14 with (fail)
    have f0:=blk_frozen HVV.out 0
    have f1:=blk_frozen HVV.out 1
    have f2:=blk_frozen HVV.out 2
    have f3:=blk_frozen HVV.out 3
    have hlt:=blk_lt HVV.out
    have hlt2:K+1+1+1+1<wr.heap.size+1:=by omega
    go_wp2
    go_roundw
    case rel=>exact vd_nextL (by omega) HBW.out.size HVV.out HVH.out HBW.out
    case measure=>simp [intOf];omega
  · have hji:¬(j:Int)<m:=by omega
    obtain rfl:j=m:=by omega
    obtain ⟨_,z0,z1,z2,_⟩:=blk3 (blk_exc HZ.out HBW.out (blk_lt HZ.out) (by omega))
    go_upto_region 17 with (fail)
    have HBE:=Lib.hid (((Exc.of_below HB3.out).trans (HBW.out.mono HB3.out.size)).below (by have:=HK.out;omega))
    have HCR:=Lib.hid (deep_srows (l:=1) (blk_exc HF.out HBW.out (blk_lt HF.out) (by omega)) (blk_exc HR.out HBW.out (blk_lt HR.out) (by omega)))
    have HZW:=Lib.hid (blk_exc HZ.out HBW.out (blk_lt HZ.out) (by omega))
    generalize K=K0 at *
    obtain ⟨zs,hzs⟩:∃ zs,deepZ true 1 j=zs:=⟨_,rfl⟩
    have hlen:=deep_len1 j (by omega)
    have hred:=deep_red1 j (by omega)
    have henc:=encode_room 30 wr 0 HCR.out (deep_schM (by decide) _) (deep_dflts (by decide) _) (deepV true j) _ HVH.out.out (deep_room1 j (by omega)) (deep_has _ _) (Nat.le_trans hlen (by decide))
    unfold deepR at hred
    rw [hzs] at hlen hred
    have henc2:Calls Tryd.prog 16 #[.agg #[.slice (some ⟨K0+1,0,none⟩) 1 1,.slice none 0 0,.int .i64 0],.agg #[.int .u64 0,.slice none 0 0,.slice (some ⟨M,0,none⟩) 1 1,.bool true]] wr (EncPost zs wr):=by
     rw [←hzs]
     exact henc
    have HENC:=Lib.hid henc2
    have HZL:=Lib.hid hlen
    have HRED:=Lib.hid hred
    clear hzs hlen hred henc henc2
    go_wp2_with fail
    refine HENC.out.mono ?_
    rintro e W6 ⟨hb6,hrng,A,cap,rfl,hown⟩
    have HB6:=Lib.hid (HBE.out.trans (hb6.mono HBE.out.size))
    have HBO:=Lib.hid (bytes_ownv hown hrng)
    have HZ6:=Lib.hid (blk_below HZW.out hb6 (blk_lt HZW.out))
    have HYC:=Lib.hid HBO.out.2
    have HRW:=Lib.hid (fun (W':World) (hW:Below W6.heap.size W6 W')=>(HCR.out.below hb6).below hW)
    have HBYS:=Lib.hid (fun (W':World) (hW:Below W6.heap.size W6 W')=>HBO.out.1.below (Nat.le_refl _) hW)
    have HAM:=Lib.hid (fun (W':World) (hW:Below W6.heap.size W6 W')=>(fun V hV=>HT.out.below (Nat.le_refl _) (HB6.out.trans ((hW.trans hV).mono HB6.out.size)):Amb W6.heap.size W'))
    clear hb6 hown hrng HENC z0 z1 z2 v0 v1 v2 v3
    obtain ⟨_,z0,z1,z2,_⟩:=blk3 HZ6.out
    go_upto_region 18 with (fail)
    refine wp_region_noPanic ?_
    refine wp_region_held_drew (S:=(fun w'=>w'.cell? ⟨K0+1+1,0,none⟩=some (.slice (some ⟨K0+1,0,none⟩) 1 1)∧w'.cell? ⟨K0+1+1,1,none⟩=some (.slice none 0 0)∧w'.cell? ⟨K0+1+1,2,none⟩=some (.int .i64 0))) (by kernel_rfl) ⟨z0,z1,z2⟩ ?_
    intro hS
    refine tk 0 (.agg #[.slice (some ⟨K0+1,0,none⟩) 1 1,.slice none 0 0,.int .i64 0]) hS ?_ ?_
    · rintro w' ⟨z0,z1,z2⟩
      go_simp
    simp only [td]
    refine tk 1 (.slice A zs.length cap) hS ?_ ?_
    · rintro w' ⟨z0,z1,z2⟩
      go_simp
    simp only [td]
    refine wpAnyH_ready (rs:=[2]) (by kernel_rfl) (by decide) (AllReadyH.cons rfl (fun K hK=>?_) AllReadyH.nil)
    rw [if_pos (by kernel_rfl)]
    go_simp
    refine (enough_any W6.drew).mono ?_
    rintro e W7 ⟨rfl,hm7,hb7⟩
    have hl7:Below W6.heap.size W6 W7:=(Below.refl _ W6).drew.trans hb7
    have HL7:=Lib.hid hl7
    have HM7:=Lib.hid (show W7.heap[W6.heap.size]?=some (.cells #[.int .i64 1099511627776,.bool false] 106 (0,0)) from hm7)
    refine hK.out _ _ ⟨cell_stays hl7 z0,cell_stays hl7 z1,cell_stays hl7 z2⟩ (fun hS=>?_)
    clear hm7 hb7 hl7 hK K
    refine wpAnyH_ready (rs:=[3]) (by kernel_rfl) (by decide) (AllReadyH.cons rfl (fun K hK=>?_) AllReadyH.nil)
    rw [if_pos (by kernel_rfl)]
    go_simp
    refine (fread_any (B:=W6.heap.size) W7 0 (HRW.out W7 HL7.out) (deep_schM (by decide) _) (deep_dflts (by decide) _) ⟨by decide,fun q hq=>by cases hq⟩ Nat.zero_lt_one (HBYS.out W7 HL7.out) (by have:=HZL.out;omega) HYC.out HM7.out ⟨by omega,by omega⟩ (Nat.le_refl _) (HAM.out W7 HL7.out)).mono ?_
    rintro e W8 ⟨hx8,ml',mo,_,hpost⟩
    have hb8:Below W6.heap.size W7 W8:=(hx8.mono HL7.out.size).below (Nat.le_refl _)
    have HL8:=Lib.hid (HL7.out.trans hb8)
    have HZ8:=Lib.hid (blk_below HZ6.out HL8.out (blk_lt HZ6.out))
    have hS8:=And.intro (blk3 HZ8.out).2.1 (And.intro (blk3 HZ8.out).2.2.1 (blk3 HZ8.out).2.2.2.1)
    clear z0 z1 z2 hx8 hb8
    have HTO:Hid (Calls Tryd.prog 19 #[.agg #[.slice (some ⟨K0+1,0,none⟩) 1 1,.slice none 0 0,.int .i64 0],.slice A zs.length cap] W8 fun e w'=>e=.returned (.bool true)∧Below W8.heap.size W8 w'):=Lib.hid (ftold_any W8 0 (HRW.out W8 HL8.out) (deep_schM (by decide) _) (deep_dflts (by decide) _) ⟨by decide,fun q hq=>by cases hq⟩ (deep_fldsok (by decide) _) Nat.zero_lt_one (HBYS.out W8 HL8.out) (by have:=HZL.out;omega) HYC.out (fun V hV=>HT.out.below (Nat.le_refl _) (HB6.out.trans ((HL8.out.trans (hV.mono HL8.out.size)).mono HB6.out.size))))
    rcases hpost with ⟨v,l',x,hlz,hfl,rfl,_,_,_⟩|⟨rfl,hno⟩|⟨_,_,hbad⟩
    · have hle:j+1≤6:=by
       have h:=HRED.out
       rw [show flatZ [cR (deepS 1)] [] zs 12 13 0 0 0 zs.length=some (v,l') from hfl] at h
       exact of_decide_eq_true h.symm
      clear hfl
      refine hK.out _ _ hS8 (fun hS=>?_)
      clear hK K hS8
      have hS:=And.intro (blk3 HZ8.out).2.1 (And.intro (blk3 HZ8.out).2.2.1 (blk3 HZ8.out).2.2.2.1)
      refine tk 4 (.tuple #[x,.int .i64 0]) hS ?_ ?_
      · rintro w' ⟨z0,z1,z2⟩
        go_simp
      simp only [td]
      refine tk 5 x hS ?_ ?_
      · rintro w' ⟨z0,z1,z2⟩
        go_simp
      simp only [td]
      refine tk 6 (.int .i64 0) hS ?_ ?_
      · rintro w' ⟨z0,z1,z2⟩
        go_simp
      simp only [td]
      refine tk 7 x hS ?_ ?_
      · rintro w' ⟨z0,z1,z2⟩
        go_simp
      simp only [td]
      refine tk 8 (.int .i64 0) hS ?_ ?_
      · rintro w' ⟨z0,z1,z2⟩
        go_simp
      simp only [td]
      refine wpAnyH_done (by kernel_rfl) ?_ _
      refine NoPanic.normal ?_
      try simp only [Exit.then]
      have hli:1+(j:Int)≤6:=by omega
      obtain ⟨_,z0,z1,z2,_⟩:=blk3 HZ8.out
      clear hS
      go_wp2_with fail
      refine HTO.out.mono ?_
      rintro e W9 ⟨rfl,hb9⟩
      have HB9:=Lib.hid (HB6.out.trans ((HL8.out.trans (hb9.mono HL8.out.size)).mono HB6.out.size))
      clear hb9 z0 z1 z2
      go_wp2
      go_ret
      exact ⟨rfl,HB9.out⟩
    · have hle:¬j+1≤6:=by
       have h:=HRED.out
       rcases hno with h2|h2
       · have:=HZL.out
         omega
       · rw [show flatZ [cR (deepS 1)] [] zs 12 13 0 0 0 zs.length=none from h2] at h
         exact of_decide_eq_false h.symm
      clear hno
      refine hK.out _ _ hS8 (fun hS=>?_)
      clear hK K hS8
      have hS:=And.intro (blk3 HZ8.out).2.1 (And.intro (blk3 HZ8.out).2.2.1 (blk3 HZ8.out).2.2.2.1)
      refine tk 4 (.tuple #[.nilIface,.int .i64 20]) hS ?_ ?_
      · rintro w' ⟨z0,z1,z2⟩
        go_simp
      simp only [td]
      refine tk 5 (.nilIface) hS ?_ ?_
      · rintro w' ⟨z0,z1,z2⟩
        go_simp
      simp only [td]
      refine tk 6 (.int .i64 20) hS ?_ ?_
      · rintro w' ⟨z0,z1,z2⟩
        go_simp
      simp only [td]
      refine tk 7 (.nilIface) hS ?_ ?_
      · rintro w' ⟨z0,z1,z2⟩
        go_simp
      simp only [td]
      refine tk 8 (.int .i64 20) hS ?_ ?_
      · rintro w' ⟨z0,z1,z2⟩
        go_simp
      simp only [td]
      refine wpAnyH_done (by kernel_rfl) ?_ _
      refine NoPanic.normal ?_
      try simp only [Exit.then]
      have hli:¬1+(j:Int)≤6:=by omega
      obtain ⟨_,z0,z1,z2,_⟩:=blk3 HZ8.out
      clear hS
      go_wp2_with fail
      refine HTO.out.mono ?_
      rintro e W9 ⟨rfl,hb9⟩
      have HB9:=Lib.hid (HB6.out.trans ((HL8.out.trans (hb9.mono HL8.out.size)).mono HB6.out.size))
      clear hb9 z0 z1 z2
      go_wp2
      go_ret
      exact ⟨rfl,HB9.out⟩
    · have:=HZL.out
      omega
end Go.Proofs.YtcfjjocmiheiaaaDoor
namespace Go.Proofs.YtcfjjocmiheiaaaDoor
open Go.ChangeShapes Go.WideShapes Go.ChangeAt Go.RowKit Go.Shelf
theorem flatreadDeep_walk (n:Int)(l:Bool)(w:World)(hn:(Lit.int .u8 n).wf=true)(hT:Tabs w) :
  Calls Tryd.prog 4 #[.int .u8 n,.bool l] w fun e w'=>e=.returned (.bool true)∧Below w.heap.size w w':=by
 have hb:=bounds_u8 hn
 obtain ⟨m,rfl⟩:∃ m:Nat,n=m:=⟨n.toNat,by omega⟩
 cases l with
 | false=>exact fdeep_plain m (by omega) w hT
 | true=>exact fdeep_lists m (by omega) w hT
end Go.Proofs.YtcfjjocmiheiaaaDoor
