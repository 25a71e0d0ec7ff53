/-
  The document's own reading of tables: what value is told of; lists, plain. Conditions: those that each theorem names.
-/
import Derived.Test.YtcfjjocmiheiaaaDoorPkD3
import Derived.Test.YtcfjjocmiheiaaaDoorPkD5
import Derived.Test.YtcfjjocmiheiaaaDoorPkD14
import Derived.Test.YtcfjjocmiheiaaaDoorPkD28
import Derived.Maps.AppendAt
namespace Go.Proofs.YtcfjjocmiheiaaaDoor
open Go.ChangeShapes Go.WideShapes Go.ChangeAt Go.RowKit Go.Shelf
theorem num_no {k l:Nat}(h:sortP k l≠1):numTB k l=false:=by
 unfold numTB
 by_cases h0:(l:Int)=0
 · rw [h0] at h
   unfold sortP at h
   rw [if_neg (by decide),if_neg (by decide)] at h
   by_cases h1:0<kSize k
   · rw [if_pos h1] at h
     exact absurd rfl h
   · rw [decide_eq_false h1,Bool.and_false]
 · rw [decide_eq_false h0,Bool.false_and]
variable {base B:Nat} {W W':World} {rk:Nat} {sv ev:Value} {root:Int} {bp:Option Addr} {bc:Nat} {zs:List Int} {ss:List (SRec × Value)} {es:List (SCho × Value)} {left l':Int}
theorem jump_ctx (h:DCtx base B W rk sv ev root bp bc zs ss es left)(at':Int)(ha : -1000000000≤at'∧at'≤1000000000) :
  Calls Tryd.prog 75 #[.pointer (some ⟨rk,0,none⟩),.int .i64 at'] W fun e w'=>e=.returned (.int .i64 (toJ zs at'))∧RdSt w' rk sv ev root bp bc zs (lenZ zs-left) (badJ zs at')∧Exw rk rk W.heap.size W w':=by
 refine (rdjump_any W h.st h.rows.rowV at' (by omega)).mono ?_
 rintro e w' ⟨rfl,hs,hx⟩
 rw [Bool.false_or] at hs
 exact ⟨rfl,hs,hx⟩
theorem rdpost_bad {res:Option (PV × Int)}{w w':World}{val:Value}(hr:res=none)(hx:Exw rk rk w.heap.size w w')(hf:VForm val){rc:Int}(h0:0≤rc)(h1:rc≤1000000000000)(hs:RdSt w' rk sv ev root bp bc zs rc true):RdPost res w rk sv ev root bp bc zs (.returned val) w':=
 ⟨hx,.inr ⟨hr,⟨val,rfl,hf⟩,rc,h0,h1,hs⟩⟩
set_option maxRecDepth 100000 in
set_option maxHeartbeats 8000000 in
theorem rdval_bad (w:World)(h:DCtx base B w rk sv ev root bp bc zs ss es left)(k r l:Nat)(at':Int)(room:Int)(ht:TyM ss.length (es.map Prod.fst) k r l)(hs:sortP k l=2∨sortP k l=3)(ha : -1000000000≤at'∧at'≤1000000000)(hbad:(badJ zs at' || !inZ (lenZ zs) (toJ zs at') 4)=true){res:Option (PV × Int)}(hres:res=none) :
  Calls Tryd.prog 106 #[.pointer (some ⟨rk,0,none⟩),.agg #[.int .u8 k,.int .i64 r,.int .i64 l],.int .i64 at',.int .i64 room] w (RdPost res w rk sv ev root bp bc zs):=by
 have hs1:sortP k l≠1:=by omega
 obtain ⟨hb,hq1,hq2⟩:=two_start w #[.int .u8 k,.int .i64 r,.int .i64 l] #[.int .u64 0,.slice none 0 0,.slice none 0 0,.bool false] 50 36
 have HB:=Lib.hid hb
 have HQ1:=Lib.hid hq1
 have HQ2:=Lib.hid hq2
 have H0:=Lib.hid (h.below hb)
 have HH0:=Lib.hid h
 have HV:=Lib.hid h.rows.rowV
 have HZB:=Lib.hid h.st.bytes.1
 have HRK:Hid (rk<w.heap.size):=Lib.hid (blk_lt h.st.blk)
 have HAT:=Lib.hid ha
 have hk13:=ht.hi
 have HNT:Hid (∀ W,Calls Tryd.prog 38 #[.agg #[.int .u8 k,.int .i64 r,.int .i64 l]] W fun e w'=>e=.returned (.bool false)∧Below W.heap.size W w'):=Lib.hid (fun W=>by
  have h5:=rnumI_any k (by omega) r l W
  rw [num_no hs1] at h5
  exact h5)
 have HRES:=Lib.hid hres
 have HBAD:=Lib.hid hbad
 have HLL:Hid (0≤lenZ zs-left∧lenZ zs-left≤1000000000000):=Lib.hid (by have:=h.len;have:=h.hl;omega)
 obtain ⟨P,hP⟩:∃ P,RdPost res w rk sv ev root bp bc zs=P:=⟨_,rfl⟩
 rw [hP]
 have HP:=Lib.hid hP.symm
 have hty:=tyM_sort ht
 clear hb hq1 hq2 h hP hbad hres hs1 hk13 ha ht
 rcases hty with ⟨hl,hs3⟩|⟨_,_,_,hs3⟩|⟨hl,hk,hs3⟩|⟨_,_,hs3⟩
 · have hl0:((l:Int)==0)=false:=by simp;omega
   clear hs hs3 hl
   go_enter Tryd.func106,Tryd.ntmps106
   go_upto_region 1 with (fail)
   generalize (w.alloc (.cells #[.int .u8 k,.int .i64 r,.int .i64 l] 50)).alloc (.cells #[.int .u64 0,.slice none 0 0,.slice none 0 0,.bool false] 36)=W0 at *
   obtain ⟨_,c0,c1,c2,c3,c4,c5⟩:=blk6 H0.out.st.blk
   obtain ⟨_,s0,s1,s2,_⟩:=blk3 HQ1.out
   go_wp2_with fail
   refine (HNT.out _).mono ?_
   rintro e W1 ⟨rfl,hb1⟩
   have HB1:=Lib.hid (HB.out.trans (hb1.mono HB.out.size))
   have H1:=Lib.hid (H0.out.below hb1)
   have P1:=Lib.hid (blk_below HQ1.out hb1 (blk_lt HQ1.out))
   have P2:=Lib.hid (blk_below HQ2.out hb1 (blk_lt HQ2.out))
   clear hb1 c0 c1 c2 c3 c4 c5 s0 s1 s2
   go_wp2_with fail
   refine (jump_ctx H1.out at' HAT.out).mono ?_
   rintro e W2 ⟨rfl,hs2,hx2⟩
   have HX2:=Lib.hid (Exw.after HB1.out hx2)
   have S2:=Lib.hid hs2
   have P12:=Lib.hid (blk_exw P1.out hx2 (blk_lt P1.out) (by have:=HRK.out;omega) (by have:=HRK.out;omega))
   have P22:=Lib.hid (blk_exw P2.out hx2 (blk_lt P2.out) (by have:=HRK.out;omega) (by have:=HRK.out;omega))
   clear hs2 hx2
   obtain ⟨_,s0,s1,s2,_⟩:=blk3 P12.out
   go_wp2_with fail
   refine (rdnum_any W2 S2.out HV.out _ 4 (.inr rfl)).mono ?_
   rintro e W3 ⟨rfl,hs3,hx3⟩
   rw [show (badJ zs at' || !inZ (lenZ zs) (toJ zs at') ((4:Nat):Int))=true from HBAD.out] at hs3
   have HX3:=Lib.hid (HX2.out.then hx3)
   have S3:=Lib.hid hs3
   have P23:=Lib.hid (blk_exw P22.out hx3 (blk_lt P22.out) (by have:=HRK.out;omega) (by have:=HRK.out;omega))
   clear hs3 hx3 s0 s1 s2
   obtain ⟨_,c0,c1,c2,c3,c4,c5⟩:=blk6 S3.out.blk
   obtain ⟨_,u0,u1,u2,u3⟩:=blk4p P23.out
   have p0:=blk_frozen P23.out 0
   have p1:=blk_frozen P23.out 1
   have p2:=blk_frozen P23.out 2
   have p3:=blk_frozen P23.out 3
   go_wp2
   refine post_gen (fun Wf=>Wf.heap[w.heap.size+1]?=some (.cells #[.int .u64 0,.slice none 0 0,.slice none 0 0,.bool false] 36 (0,0))∧P (.returned (.agg #[.int .u64 0,.slice none 0 0,.slice none 0 0,.bool false])) Wf) ⟨?_,?_⟩ ?_
   · exact blk_set4 P23.out _ _ _ _
   · rw [HP.out]
     have hx4:=((((HX3.out).setCell (p:=⟨w.heap.size+1,0,none⟩) (.inr (.inr (show w.heap.size≤w.heap.size+1 by omega))) (.int .u64 0)).setCell (p:=⟨w.heap.size+1,1,none⟩) (.inr (.inr (show w.heap.size≤w.heap.size+1 by omega))) (.slice none 0 0)).setCell (p:=⟨w.heap.size+1,2,none⟩) (.inr (.inr (show w.heap.size≤w.heap.size+1 by omega))) (.slice none 0 0)).setCell (p:=⟨w.heap.size+1,3,none⟩) (.inr (.inr (show w.heap.size≤w.heap.size+1 by omega))) (.bool false)
     exact rdpost_bad HRES.out hx4 (vform _ _ _ _ _ _ _ _) HLL.out.1 HLL.out.2 (HH0.out.st.keep HV.out hx4 ((set4_blk W3 (by have:=HRK.out;omega) _ _ _ _).trans S3.out.blk))
   · rintro Wf ⟨e1,e2⟩
     obtain ⟨_,d0,d1,d2,d3⟩:=blk4p e1
     exact bodyPost_ret (v:=.agg #[.int .u64 0,.slice none 0 0,.slice none 0 0,.bool false]) (by simp [results,Tryd.results106,go_sem,d0,d1,d2,d3]) rfl e2
 · rw [hs3] at hs;omega
 · have hl0:((l:Int)==0)=true:=by simp;omega
   have hk0:((k:Int)==13)=false:=by simp;omega
   clear hs hs3 hl hk
   go_enter Tryd.func106,Tryd.ntmps106
   go_upto_region 1 with (fail)
   generalize (w.alloc (.cells #[.int .u8 k,.int .i64 r,.int .i64 l] 50)).alloc (.cells #[.int .u64 0,.slice none 0 0,.slice none 0 0,.bool false] 36)=W0 at *
   obtain ⟨_,c0,c1,c2,c3,c4,c5⟩:=blk6 H0.out.st.blk
   obtain ⟨_,s0,s1,s2,_⟩:=blk3 HQ1.out
   go_wp2_with fail
   refine (HNT.out _).mono ?_
   rintro e W1 ⟨rfl,hb1⟩
   have HB1:=Lib.hid (HB.out.trans (hb1.mono HB.out.size))
   have H1:=Lib.hid (H0.out.below hb1)
   have P1:=Lib.hid (blk_below HQ1.out hb1 (blk_lt HQ1.out))
   have P2:=Lib.hid (blk_below HQ2.out hb1 (blk_lt HQ2.out))
   clear hb1 c0 c1 c2 c3 c4 c5 s0 s1 s2
   go_wp2_with fail
   refine (jump_ctx H1.out at' HAT.out).mono ?_
   rintro e W2 ⟨rfl,hs2,hx2⟩
   have HX2:=Lib.hid (Exw.after HB1.out hx2)
   have S2:=Lib.hid hs2
   have P12:=Lib.hid (blk_exw P1.out hx2 (blk_lt P1.out) (by have:=HRK.out;omega) (by have:=HRK.out;omega))
   have P22:=Lib.hid (blk_exw P2.out hx2 (blk_lt P2.out) (by have:=HRK.out;omega) (by have:=HRK.out;omega))
   clear hs2 hx2
   obtain ⟨_,s0,s1,s2,_⟩:=blk3 P12.out
   go_wp2_with fail
   refine (rdnum_any W2 S2.out HV.out _ 4 (.inr rfl)).mono ?_
   rintro e W3 ⟨rfl,hs3,hx3⟩
   rw [show (badJ zs at' || !inZ (lenZ zs) (toJ zs at') ((4:Nat):Int))=true from HBAD.out] at hs3
   have HX3:=Lib.hid (HX2.out.then hx3)
   have S3:=Lib.hid hs3
   have P23:=Lib.hid (blk_exw P22.out hx3 (blk_lt P22.out) (by have:=HRK.out;omega) (by have:=HRK.out;omega))
   clear hs3 hx3 s0 s1 s2
   obtain ⟨_,c0,c1,c2,c3,c4,c5⟩:=blk6 S3.out.blk
   obtain ⟨_,u0,u1,u2,u3⟩:=blk4p P23.out
   have p0:=blk_frozen P23.out 0
   have p1:=blk_frozen P23.out 1
   have p2:=blk_frozen P23.out 2
   have p3:=blk_frozen P23.out 3
   go_wp2
   refine post_gen (fun Wf=>Wf.heap[w.heap.size+1]?=some (.cells #[.int .u64 0,.slice none 0 0,.slice none 0 0,.bool false] 36 (0,0))∧P (.returned (.agg #[.int .u64 0,.slice none 0 0,.slice none 0 0,.bool false])) Wf) ⟨?_,?_⟩ ?_
   · exact blk_set4 P23.out _ _ _ _
   · rw [HP.out]
     have hx4:=((((HX3.out).setCell (p:=⟨w.heap.size+1,0,none⟩) (.inr (.inr (show w.heap.size≤w.heap.size+1 by omega))) (.int .u64 0)).setCell (p:=⟨w.heap.size+1,1,none⟩) (.inr (.inr (show w.heap.size≤w.heap.size+1 by omega))) (.slice none 0 0)).setCell (p:=⟨w.heap.size+1,2,none⟩) (.inr (.inr (show w.heap.size≤w.heap.size+1 by omega))) (.slice none 0 0)).setCell (p:=⟨w.heap.size+1,3,none⟩) (.inr (.inr (show w.heap.size≤w.heap.size+1 by omega))) (.bool false)
     exact rdpost_bad HRES.out hx4 (vform _ _ _ _ _ _ _ _) HLL.out.1 HLL.out.2 (HH0.out.st.keep HV.out hx4 ((set4_blk W3 (by have:=HRK.out;omega) _ _ _ _).trans S3.out.blk))
   · rintro Wf ⟨e1,e2⟩
     obtain ⟨_,d0,d1,d2,d3⟩:=blk4p e1
     exact bodyPost_ret (v:=.agg #[.int .u64 0,.slice none 0 0,.slice none 0 0,.bool false]) (by simp [results,Tryd.results106,go_sem,d0,d1,d2,d3]) rfl e2
 · rw [hs3] at hs;omega
set_option maxRecDepth 100000 in
set_option maxHeartbeats 8000000 in
theorem rdtab_bad (w:World){rc:Int}(h:RdSt w rk sv ev root bp bc zs rc true)(hv:RowV sv∧RowV ev)(h0:0≤rc)(h1:rc≤1000000000000)(at' k room:Int){res:Option (PV × Int)}(hres:res=none) :
  Calls Tryd.prog 74 #[.pointer (some ⟨rk,0,none⟩),.int .i64 at',.int .i64 k,.int .i64 room] w (RdPost res w rk sv ev root bp bc zs):=by
 have hb:=(Below.refl w.heap.size w).alloc (Nat.le_refl _) (.cells #[.int .u64 0,.slice none 0 0,.slice none 0 0,.bool false] 36)
 have HB:=Lib.hid hb
 have HQ:=Lib.hid (heap_alloc_new w (.cells #[.int .u64 0,.slice none 0 0,.slice none 0 0,.bool false] 36))
 have H0:=Lib.hid (h.below hb)
 have HV:=Lib.hid hv
 have HH0:=Lib.hid h
 have HRES:=Lib.hid hres
 have HRC:=Lib.hid (And.intro h0 h1)
 have HRK:Hid (rk<w.heap.size):=Lib.hid (blk_lt h.blk)
 have hbd:0≤ldO zs at' 4∧ldO zs at' 4<4294967296:=by
  unfold ldO
  split
  · exact leAt_4 zs _ h.bytes.1
  · omega
 have hsg:=sg32_is hbd.1 hbd.2
 have hsb:=sg32_bd hbd.1 hbd.2
 have HN:=Lib.hid (fun W (hW:RdSt W rk sv ev root bp bc zs rc true)=>rdnum_any W hW hv at' 4 (.inr rfl))
 generalize sg32 (ldO zs at' 4)=s at *
 generalize ldO zs at' 4=z at *
 have hws:=IntWalk.i64_in s ⟨by omega,by omega⟩
 obtain ⟨P,hP⟩:∃ P,RdPost res w rk sv ev root bp bc zs=P:=⟨_,rfl⟩
 rw [hP]
 have HP:=Lib.hid hP.symm
 clear hb h hP hres h0 h1 hv hbd hsb
 go_enter Tryd.func74,Tryd.ntmps74
 go_upto_region 1 with (fail)
 generalize w.alloc (.cells #[.int .u64 0,.slice none 0 0,.slice none 0 0,.bool false] 36)=W0 at *
 go_wp2_with fail
 refine (HN.out W0 H0.out).mono ?_
 rintro e W1 ⟨rfl,hs1,hx1⟩
 rw [Bool.true_or] at hs1
 have HX1:=Lib.hid (Exw.after HB.out hx1)
 have S1:=Lib.hid hs1
 have P1:=Lib.hid (blk_exw HQ.out hx1 (blk_lt HQ.out) (by have:=HRK.out;omega) (by have:=HRK.out;omega))
 obtain ⟨_,c0,c1,c2,c3,c4,c5⟩:=blk6 S1.out.blk
 have f3:=blk_frozen S1.out.blk 5
 have HS2:=Lib.hid ((blk_set S1.out.blk 5 (.bool true)).trans rfl)
 have HXS:=Lib.hid (HX1.out.setCell (p:=⟨rk,5,none⟩) (.inl rfl) (.bool true))
 have P2:=Lib.hid (blk_set_ne P1.out (p:=⟨rk,5,none⟩) (by have:=HRK.out;show rk≠_;omega) (.bool true))
 clear hs1 hx1
 go_upto_region 4 with (fail)
 clear c0 c1 c2 c3 c4 c5 f3
 generalize W1.setCell ⟨rk,5,none⟩ (.bool true)=W2 at *
 obtain ⟨_,u0,u1,u2,u3⟩:=blk4p P2.out
 have p0:=blk_frozen P2.out 0
 have p1:=blk_frozen P2.out 1
 have p2:=blk_frozen P2.out 2
 have p3:=blk_frozen P2.out 3
 go_wp2
 refine post_gen (fun Wf=>Wf.heap[w.heap.size]?=some (.cells #[.int .u64 0,.slice none 0 0,.slice none 0 0,.bool false] 36 (0,0))∧P (.returned (.agg #[.int .u64 0,.slice none 0 0,.slice none 0 0,.bool false])) Wf) ⟨?_,?_⟩ ?_
 · exact blk_set4 P2.out _ _ _ _
 · rw [HP.out]
   have hx4:=((((HXS.out).setCell (p:=⟨w.heap.size,0,none⟩) (.inr (.inr (show w.heap.size≤w.heap.size by omega))) (.int .u64 0)).setCell (p:=⟨w.heap.size,1,none⟩) (.inr (.inr (show w.heap.size≤w.heap.size by omega))) (.slice none 0 0)).setCell (p:=⟨w.heap.size,2,none⟩) (.inr (.inr (show w.heap.size≤w.heap.size by omega))) (.slice none 0 0)).setCell (p:=⟨w.heap.size,3,none⟩) (.inr (.inr (show w.heap.size≤w.heap.size by omega))) (.bool false)
   exact rdpost_bad HRES.out hx4 (vform _ _ _ _ _ _ _ _) HRC.out.1 HRC.out.2 (HH0.out.keep HV.out hx4 ((set4_blk W2 (by have:=HRK.out;omega) _ _ _ _).trans HS2.out))
 · rintro Wf ⟨e1,e2⟩
   obtain ⟨_,d0,d1,d2,d3⟩:=blk4p e1
   exact bodyPost_ret (v:=.agg #[.int .u64 0,.slice none 0 0,.slice none 0 0,.bool false]) (by simp [results,Tryd.results74,go_sem,d0,d1,d2,d3]) rfl e2
end Go.Proofs.YtcfjjocmiheiaaaDoor
namespace Go.Proofs.YtcfjjocmiheiaaaDoor
open Go.ChangeShapes Go.WideShapes Go.ChangeAt Go.RowKit Go.Shelf
theorem val_infoK:(Tryd.prog.info? 36).map (fun i=>(i.zero,i.size,i.bytes))=some (some (.agg #[.int .u64 0,.slice none 0 0,.slice none 0 0,.bool false]),4,64):=by kernel_rfl
theorem Exw.exc {R B:Nat}{w W:World}(h:Exw R R B w W):Exc R B w W:=⟨h.os,h.tape,h.output,h.size,fun k hk hr=>h.block k hk hr hr⟩
theorem RdPost.form {res:Option (PV × Int)}{w w':World}{rk:Nat}{sv ev:Value}{root:Int}{bp:Option Addr}{bc:Nat}{zs:List Int}{e:Ending}(h:RdPost res w rk sv ev root bp bc zs e w'):∃ x0 x1 x2 x3,e=.returned (.agg #[x0,x1,x2,x3])∧VForm (.agg #[x0,x1,x2,x3])∧Exw rk rk w.heap.size w w' ∧
  ((∃ v l',res=some (v,l')∧(0≤l'∧l'≤lenZ zs)∧VH (newS w.heap.size) w' v (.agg #[x0,x1,x2,x3])∧RdSt w' rk sv ev root bp bc zs (lenZ zs-l') false)∨(res=none∧∃ rc,0≤rc∧rc≤1000000000000∧RdSt w' rk sv ev root bp bc zs rc true)):=by
 obtain ⟨hx,h1⟩:=h
 rcases h1 with ⟨v,l',val,hr,hl,rfl,hv,hs⟩|⟨hr,⟨val,rfl,n,ba,bl,bc',ka,kl,kc,h,rfl⟩,hrc⟩
 · obtain ⟨ba,ka,bc',kc,rfl,_⟩:=IsV.form hv
   exact ⟨_,_,_,_,rfl,vform _ _ _ _ _ _ _ _,hx,.inl ⟨v,l',hr,hl,hv,hs⟩⟩
 · exact ⟨_,_,_,_,rfl,vform _ _ _ _ _ _ _ _,hx,.inr ⟨hr,hrc⟩⟩
theorem kid_app {rk O Bk cap:Nat}{wr V6 V:World}{A:Option Addr}{l:List KV}{x0 x1 x2 x3:Value}{has:Bool}(hrk:rk<O)(hO:wr.heap[O]?=some (.cells #[.int .u64 0,.slice none 0 0,.slice A l.length cap,.bool has] 36 (0,0)))
  (hrow:wr.ownsRow (O+1) 36 4 (.slice A l.length cap) l.length (kvsCells l)) (hx:Exw rk rk wr.heap.size wr V6) (h7:Below V6.heap.size V6 V) (hb:V.heap[Bk]?=some (.cells #[x0,x1,x2,x3] 36 (0,0))) (hf:VForm (.agg #[x0,x1,x2,x3])) (hlen:l.length≤1000000) :
  ∃ (a4:Option Addr) (c4:Nat) (V':World),(Builtin.append_ #[34,34] 34 #[.slice A l.length cap,.slice (some ⟨Bk,0,none⟩) 1 1]).run Tryd.prog V=.ok (.slice a4 (l.length+1) c4) V' ∧
   V'.heap[O]?=some (.cells #[.int .u64 0,.slice none 0 0,.slice A l.length cap,.bool has] 36 (0,0)) ∧
   Exw rk rk O wr (V'.setCell ⟨O,2,none⟩ (.slice a4 (l.length+1) c4))∧(V'.setCell ⟨O,2,none⟩ (.slice a4 (l.length+1) c4)).heap[rk]?=V6.heap[rk]? ∧
   (V'.setCell ⟨O,2,none⟩ (.slice a4 (l.length+1) c4)).heap[O]?=some (.cells #[.int .u64 0,.slice none 0 0,.slice a4 (l.length+1) c4,.bool has] 36 (0,0)) ∧
   (∀ v:PV,(V'.setCell ⟨O,2,none⟩ (.slice a4 (l.length+1) c4)).ownsRow (O+1) 36 4 (.slice a4 (l.length+1) c4) (l.length+1) (kvsCells (l++[⟨v,x0,x1,x2,x3⟩]))) ∧
   (∀ p u,(Value.slice A l.length cap).ownBlock≠some p.block→V.cell? p=some u→V'.cell? p=some u) ∧
   (∀ v:PV,KidsIn (rowS (O+1) (.slice A l.length cap)) wr l→VH (newS wr.heap.size) V6 v (.agg #[x0,x1,x2,x3])→KidsIn (rowS (O+1) (.slice a4 (l.length+1) c4)) (V'.setCell ⟨O,2,none⟩ (.slice a4 (l.length+1) c4)) (l++[⟨v,x0,x1,x2,x3⟩])):=by
 obtain ⟨i0,hi0,hz0,hz1,hz2⟩:=info_parts val_infoK
 have hOlt:=blk_lt hO
 have hown:∀ k,(Value.slice A l.length cap).ownBlock=some k→O+1≤k∧k<wr.heap.size:=ownsRow_lt hrow
 have hs6:=hx.size
 have hs7:=h7.size
 have hrow6:=row_keep h7 (hx.ownsRow hrow (fun e=>by have:=(hown _ e).1;omega) (fun e=>by have:=(hown _ e).1;omega))
 obtain ⟨n,ba,bl,bc,ka,kl,kc,h,he⟩:=hf
 injection he with he
 simp only [Array.mk.injEq,List.cons.injEq,and_true] at he
 obtain ⟨e0,e1,e2,e3⟩:=he
 obtain ⟨v4,V',hrun,hw,hg,_,hat⟩:=run_append_own_at (P:=Tryd.prog) V (O+1) 34 34 36 i0 _ 4 64 Tryd.underlying34 hi0 hz0 hz1 hz2 rfl (by decide) _ l.length _ hrow6 ⟨Bk,0,none⟩ 1 1 [x0,x1,x2,x3] rfl (World.news_of_block hb) (by
  intro u hu
  simp only [List.mem_cons,List.not_mem_nil,or_false] at hu
  rcases hu with rfl|rfl|rfl|rfl
  · rw [e0];rfl
  · rw [e1];rfl
  · rw [e2];rfl
  · rw [e3];rfl) (by unfold maxLen;omega) (by omega) (by omega)
 obtain ⟨a4,c4,rfl⟩:=ownsRow_form hw
 have hblk:∀ k,k<V6.heap.size→(Value.slice A l.length cap).ownBlock≠some k→V'.heap[k]?=V6.heap[k]?:=fun k hk hne=>(hg.block k (by omega) (fun e=>hne e.symm)).trans (h7.block k hk)
 have hno:∀ k,k≤O→(Value.slice A l.length cap).ownBlock≠some k:=fun k hk e=>by have:=(hown k e).1;omega
 have hset:∀ k,k≠O→(V'.setCell ⟨O,2,none⟩ (.slice a4 (l.length+1) c4)).heap[k]?=V'.heap[k]?:=fun k hk=>Below.heap_setCell _ _ _ _ (by show k≠O;exact hk)
 have hO':V'.heap[O]?=some (.cells #[.int .u64 0,.slice none 0 0,.slice A l.length cap,.bool has] 36 (0,0)):=(hblk O (by omega) (hno O (Nat.le_refl _))).trans ((hx.block O hOlt (by omega) (by omega)).trans hO)
 refine ⟨a4,c4,V',hrun,hO',⟨?_,?_,?_,?_,fun k hk h1 _=>?_⟩,?_,(blk_set hO' 2 _).trans rfl,fun v=>?_,fun p u hp hu=>?_,fun v hK hq=>?_⟩
 · exact hg.os.trans (h7.os.trans hx.os)
 · exact hg.tape.trans (h7.tape.trans hx.tape)
 · exact hg.output.trans (h7.output.trans hx.output)
 · have:=hg.size
   rw [show (V'.setCell ⟨O,2,none⟩ (.slice a4 (l.length+1) c4)).heap.size=V'.heap.size by simp [World.setCell]]
   omega
 · exact (hset k (by omega)).trans ((hblk k (by omega) (hno k (by omega))).trans (hx.block k (by omega) h1 h1))
 · exact (hset rk (by omega)).trans (hblk rk (by omega) (hno rk (by omega)))
 · rw [kvsCells_snoc]
   exact ownsRow_setCell_below (a:=⟨O,2,none⟩) hw (Nat.lt_succ_self O) _
 · exact (World.cell?_of_block (w:=V) (a:=p) (hg.block p.block (World.block_lt_of_cell? _ _ hu) (fun e=>hp e.symm))).trans hu
 · exact kids_step (g:=rk) (N:=V.heap.size) (q:=⟨v,x0,x1,x2,x3⟩) hK hx.exc (by omega) hOlt (fun k hk=>(hown k hk).2) hq h7 hg hat (Nat.le_refl _) 2 _
end Go.Proofs.YtcfjjocmiheiaaaDoor
namespace Go.Proofs.YtcfjjocmiheiaaaDoor
open Go.ChangeShapes Go.WideShapes Go.ChangeAt Go.RowKit Go.Shelf
structure RdValAt (room:Nat):Prop where
 run:∀ {base B:Nat} {W:World} {rk:Nat} {sv ev:Value} {root:Int} {bp:Option Addr} {bc:Nat} {zs:List Int} {ss:List (SRec × Value)} {es:List (SCho × Value)} {left:Int},DCtx base B W rk sv ev root bp bc zs ss es left→∀ (k r l:Nat) (at':Int),TyM ss.length (es.map Prod.fst) k r l → -1000000000≤at'∧at'≤1000000000 →
  Calls Tryd.prog 106 #[.pointer (some ⟨rk,0,none⟩),.agg #[.int .u8 k,.int .i64 r,.int .i64 l],.int .i64 at',.int .i64 room] W (RdPost (flatZ (sRecs ss) (es.map Prod.fst) zs room k r l at' left) W rk sv ev root bp bc zs)
theorem listAt_eq {zs:List Int}{nx:Option NextD}{k:Nat}{r lists to left m st:Int}{n:Nat}(h1:inZ (lenZ zs) to 4=true)(hn:leAt zs to.toNat 4=n)(hst:stepZ k lists=st)(hm:m=4+n * st) :
  listAtZ zs nx k r lists to left=if reachOk zs to m left=true then (match nx with
   | none=>if n=0 then some (.mk 0 [] [] false,left-m) else none
   | some f=>match seqD (fun j l=>f k r lists (to+4+j * st) l) (left-m) n with
    | none=>none
    | some (ks,l)=>some (.mk 0 [] ks false,l)) else none:=by
 unfold listAtZ reachOk
 rw [if_pos h1,hn,hst,←hm,Int.toNat_natCast]
 simp only [Bool.and_eq_true,decide_eq_true_eq]
 cases nx with
 | none=>simp only [Int.natCast_eq_zero]
 | some f=>rfl
def DLtAt (w:World)(E R O:Nat)(rk:Nat)(sv ev:Value)(root:Int)(bp:Option Addr)(bc:Nat)(zs:List Int)(tcells:Array Value)(g:Nat→Int→Option (PV × Int))(left1:Int)(n:Nat)(x:Value)(wr:World):Prop:=∃ (A:Option Addr) (cap:Nat) (l:List KV) (rc:Int) (bad:Bool),l.length≤n∧x=.int .i64 l.length ∧
 wr.heap[O]?=some (.cells #[.int .u64 0,.slice none 0 0,.slice A l.length cap,.bool false] 36 (0,0))∧wr.ownsRow (O+1) 36 4 (.slice A l.length cap) l.length (kvsCells l)∧wr.heap[R]?=some (.cells #[.int .u64 0,.slice none 0 0,.slice none 0 0,.bool false] 36 (0,0))∧wr.heap[E]?=some (.cells tcells 50 (0,0)) ∧
 Exw rk rk w.heap.size w wr∧RdSt wr rk sv ev root bp bc zs rc bad ∧
 ((bad=false∧∃ l',0≤l'∧l'≤lenZ zs∧rc=lenZ zs-l'∧seqD g left1 l.length=some (l.map KV.v,l')∧KidsIn (rowS (O+1) (.slice A l.length cap)) wr l)∨(bad=true∧0≤rc∧rc≤1000000000000∧seqD g left1 n=none))
end Go.Proofs.YtcfjjocmiheiaaaDoor
