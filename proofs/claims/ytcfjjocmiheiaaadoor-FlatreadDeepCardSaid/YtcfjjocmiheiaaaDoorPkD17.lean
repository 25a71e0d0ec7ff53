/-
  Package flatread: what its views hand back: by what they ask of the message. Conditions: those that each theorem names.
-/
import Derived.Test.YtcfjjocmiheiaaaDoorPkD52
import Derived.Test.YtcfjjocmiheiaaaDoorPkD13
import Derived.Test.YtcfjjocmiheiaaaDoorPkD14
import Derived.Test.YtcfjjocmiheiaaaDoorPkD15
namespace Go.Proofs.YtcfjjocmiheiaaaDoor
open Go.ChangeShapes Go.WideShapes Go.ChangeAt Go.RowKit Go.Shelf
set_option maxRecDepth 100000 in
set_option maxHeartbeats 8000000 in
theorem fsNum (w:World)(m:Nat)(r p b c d:Int)(j:Int)(kk kd:Nat)(kr kl ka:Int)(kt:Bool)(Q:Value→World→Prop)
  (hK:∀ W,Below w.heap.size w W→Calls Tryd.prog 101 #[.agg #[.pointer (some ⟨m,0,none⟩),.int .i64 r,.int .i64 p,.int .i64 b,.int .i64 c,.int .i64 d],.int .i64 j,.int .i64 1] W fun e w'=>e=.returned (kidV kk kr kl ka kd kt)∧Below W.heap.size W w')
  (hG:∀ W,Below w.heap.size w W→Calls Tryd.prog 143 #[.pointer (some ⟨m,0,none⟩),kidV kk kr kl ka kd kt] W fun e w'=>(∃ v,e=.returned v∧Q v w')∧Below W.heap.size W w') :
  Calls Tryd.prog 174 #[.agg #[.pointer (some ⟨m,0,none⟩),.int .i64 r,.int .i64 p,.int .i64 b,.int .i64 c,.int .i64 d],.int .i64 j] w fun e w'=>(∃ v,e=.returned v∧Q v w')∧Below w.heap.size w w':=by
 have hb:=(Below.refl w.heap.size w).alloc (Nat.le_refl _) (.cells #[.pointer (some ⟨m,0,none⟩),.int .i64 r,.int .i64 p,.int .i64 b,.int .i64 c,.int .i64 d] 120)
 have HB:=Lib.hid hb
 have HX:=Lib.hid (heap_alloc_new w (.cells #[.pointer (some ⟨m,0,none⟩),.int .i64 r,.int .i64 p,.int .i64 b,.int .i64 c,.int .i64 d] 120))
 have HKK:=Lib.hid (fun W (hW:Below (w.alloc (.cells #[.pointer (some ⟨m,0,none⟩),.int .i64 r,.int .i64 p,.int .i64 b,.int .i64 c,.int .i64 d] 120)).heap.size (w.alloc (.cells #[.pointer (some ⟨m,0,none⟩),.int .i64 r,.int .i64 p,.int .i64 b,.int .i64 c,.int .i64 d] 120)) W)=>hK W (hb.trans (hW.mono hb.size)))
 have HGG:=Lib.hid (fun W (hW:Below (w.alloc (.cells #[.pointer (some ⟨m,0,none⟩),.int .i64 r,.int .i64 p,.int .i64 b,.int .i64 c,.int .i64 d] 120)).heap.size (w.alloc (.cells #[.pointer (some ⟨m,0,none⟩),.int .i64 r,.int .i64 p,.int .i64 b,.int .i64 c,.int .i64 d] 120)) W)=>hG W (hb.trans (hW.mono hb.size)))
 unfold kidV at HKK HGG
 clear hb hK hG
 go_enter Tryd.func174,Tryd.ntmps174
 go_upto_region 1 with (fail)
 generalize w.alloc (.cells #[.pointer (some ⟨m,0,none⟩),.int .i64 r,.int .i64 p,.int .i64 b,.int .i64 c,.int .i64 d] 120)=W0 at *
 obtain ⟨_,s0,s1,s2,s3,s4,s5⟩:=blk6 HX.out
 refine wp_region_noPanic ?_
 refine wp_region_held_drew (S:=(fun w'=>w'.cell? ⟨w.heap.size,0,none⟩=some (.pointer (some ⟨m,0,none⟩))∧w'.cell? ⟨w.heap.size,1,none⟩=some (.int .i64 r)∧w'.cell? ⟨w.heap.size,2,none⟩=some (.int .i64 p)∧w'.cell? ⟨w.heap.size,3,none⟩=some (.int .i64 b)∧w'.cell? ⟨w.heap.size,4,none⟩=some (.int .i64 c)∧w'.cell? ⟨w.heap.size,5,none⟩=some (.int .i64 d))) (by kernel_rfl) ⟨s0,s1,s2,s3,s4,s5⟩ ?_
 intro hS
 refine tk 0 (.pointer (some ⟨w.heap.size,0,none⟩)) hS ?_ ?_
 · rintro w' ⟨s0,s1,s2,s3,s4,s5⟩
   go_simp
 simp only [td]
 refine tk 1 (.pointer (some ⟨m,0,none⟩)) hS ?_ ?_
 · rintro w' ⟨s0,s1,s2,s3,s4,s5⟩
   go_simp
 simp only [td]
 refine tk 2 (.agg #[.pointer (some ⟨m,0,none⟩),.int .i64 r,.int .i64 p,.int .i64 b,.int .i64 c,.int .i64 d]) hS ?_ ?_
 · rintro w' ⟨s0,s1,s2,s3,s4,s5⟩
   go_simp
 simp only [td]
 refine tk 3 (.int .i64 j) hS ?_ ?_
 · rintro w' ⟨s0,s1,s2,s3,s4,s5⟩
   go_simp
 simp only [td]
 refine wpAnyH_ready (rs:=[4]) (by kernel_rfl) (by decide) (AllReadyH.cons rfl (fun K hK=>?_) AllReadyH.nil)
 rw [if_pos (by kernel_rfl)]
 go_simp
 refine (HKK.out W0.drew ((Below.refl _ W0).drew)).mono ?_
 rintro e Wh1 ⟨rfl,hb1⟩
 have hx1:Below W0.heap.size W0 Wh1:=(Below.refl _ W0).drew.trans hb1
 have ns0:=cell_stays hx1 s0
 have ns1:=cell_stays hx1 s1
 have ns2:=cell_stays hx1 s2
 have ns3:=cell_stays hx1 s3
 have ns4:=cell_stays hx1 s4
 have ns5:=cell_stays hx1 s5
 refine hK.out _ _ ⟨ns0,ns1,ns2,ns3,ns4,ns5⟩ (fun hS=>?_)
 clear ns0 ns1 ns2 ns3 ns4 ns5
 refine wpAnyH_ready (rs:=[5]) (by kernel_rfl) (by decide) (AllReadyH.cons rfl (fun K hK=>?_) AllReadyH.nil)
 rw [if_pos (by kernel_rfl)]
 go_simp
 refine (HGG.out Wh1 hx1).mono ?_
 rintro e Wh2 ⟨⟨v,rfl,hq⟩,hb2⟩
 have hx2:Below W0.heap.size W0 Wh2:=hx1.trans (hb2.mono hx1.size)
 have ns0:=cell_stays hx2 s0
 have ns1:=cell_stays hx2 s1
 have ns2:=cell_stays hx2 s2
 have ns3:=cell_stays hx2 s3
 have ns4:=cell_stays hx2 s4
 have ns5:=cell_stays hx2 s5
 refine hK.out _ _ ⟨ns0,ns1,ns2,ns3,ns4,ns5⟩ (fun hS=>?_)
 clear ns0 ns1 ns2 ns3 ns4 ns5
 refine tk 6 v hS ?_ ?_
 · rintro w' ⟨s0,s1,s2,s3,s4,s5⟩
   go_simp
 simp only [td]
 refine wpAnyH_done (by kernel_rfl) ?_ _
 refine NoPanic.normal ?_
 try simp only [Exit.then]
 have HBE:=Lib.hid (HB.out.trans (hx2.mono HB.out.size))
 have HQ:=Lib.hid hq
 clear hS s0 s1 s2 s3 s4 s5 hx1 hb1 hx2 hb2 hq
 go_wp2
 go_ret
 exact ⟨⟨v,rfl,HQ.out⟩,HBE.out⟩
set_option maxRecDepth 100000 in
set_option maxHeartbeats 8000000 in
theorem fsBytes (w:World)(m:Nat)(r p b c d:Int)(j:Int)(kk kd:Nat)(kr kl ka:Int)(kt:Bool)(Q:Value→World→Prop)
  (hK:∀ W,Below w.heap.size w W→Calls Tryd.prog 101 #[.agg #[.pointer (some ⟨m,0,none⟩),.int .i64 r,.int .i64 p,.int .i64 b,.int .i64 c,.int .i64 d],.int .i64 j,.int .i64 2] W fun e w'=>e=.returned (kidV kk kr kl ka kd kt)∧Below W.heap.size W w')
  (hG:∀ W,Below w.heap.size w W→Calls Tryd.prog 176 #[.pointer (some ⟨m,0,none⟩),kidV kk kr kl ka kd kt] W fun e w'=>(∃ v,e=.returned v∧Q v w')∧Below W.heap.size W w') :
  Calls Tryd.prog 172 #[.agg #[.pointer (some ⟨m,0,none⟩),.int .i64 r,.int .i64 p,.int .i64 b,.int .i64 c,.int .i64 d],.int .i64 j] w fun e w'=>(∃ v,e=.returned v∧Q v w')∧Below w.heap.size w w':=by
 have hb:=(Below.refl w.heap.size w).alloc (Nat.le_refl _) (.cells #[.pointer (some ⟨m,0,none⟩),.int .i64 r,.int .i64 p,.int .i64 b,.int .i64 c,.int .i64 d] 120)
 have HB:=Lib.hid hb
 have HX:=Lib.hid (heap_alloc_new w (.cells #[.pointer (some ⟨m,0,none⟩),.int .i64 r,.int .i64 p,.int .i64 b,.int .i64 c,.int .i64 d] 120))
 have HKK:=Lib.hid (fun W (hW:Below (w.alloc (.cells #[.pointer (some ⟨m,0,none⟩),.int .i64 r,.int .i64 p,.int .i64 b,.int .i64 c,.int .i64 d] 120)).heap.size (w.alloc (.cells #[.pointer (some ⟨m,0,none⟩),.int .i64 r,.int .i64 p,.int .i64 b,.int .i64 c,.int .i64 d] 120)) W)=>hK W (hb.trans (hW.mono hb.size)))
 have HGG:=Lib.hid (fun W (hW:Below (w.alloc (.cells #[.pointer (some ⟨m,0,none⟩),.int .i64 r,.int .i64 p,.int .i64 b,.int .i64 c,.int .i64 d] 120)).heap.size (w.alloc (.cells #[.pointer (some ⟨m,0,none⟩),.int .i64 r,.int .i64 p,.int .i64 b,.int .i64 c,.int .i64 d] 120)) W)=>hG W (hb.trans (hW.mono hb.size)))
 unfold kidV at HKK HGG
 clear hb hK hG
 go_enter Tryd.func172,Tryd.ntmps172
 go_upto_region 1 with (fail)
 generalize w.alloc (.cells #[.pointer (some ⟨m,0,none⟩),.int .i64 r,.int .i64 p,.int .i64 b,.int .i64 c,.int .i64 d] 120)=W0 at *
 obtain ⟨_,s0,s1,s2,s3,s4,s5⟩:=blk6 HX.out
 refine wp_region_noPanic ?_
 refine wp_region_held_drew (S:=(fun w'=>w'.cell? ⟨w.heap.size,0,none⟩=some (.pointer (some ⟨m,0,none⟩))∧w'.cell? ⟨w.heap.size,1,none⟩=some (.int .i64 r)∧w'.cell? ⟨w.heap.size,2,none⟩=some (.int .i64 p)∧w'.cell? ⟨w.heap.size,3,none⟩=some (.int .i64 b)∧w'.cell? ⟨w.heap.size,4,none⟩=some (.int .i64 c)∧w'.cell? ⟨w.heap.size,5,none⟩=some (.int .i64 d))) (by kernel_rfl) ⟨s0,s1,s2,s3,s4,s5⟩ ?_
 intro hS
 refine tk 0 (.pointer (some ⟨w.heap.size,0,none⟩)) hS ?_ ?_
 · rintro w' ⟨s0,s1,s2,s3,s4,s5⟩
   go_simp
 simp only [td]
 refine tk 1 (.pointer (some ⟨m,0,none⟩)) hS ?_ ?_
 · rintro w' ⟨s0,s1,s2,s3,s4,s5⟩
   go_simp
 simp only [td]
 refine tk 2 (.agg #[.pointer (some ⟨m,0,none⟩),.int .i64 r,.int .i64 p,.int .i64 b,.int .i64 c,.int .i64 d]) hS ?_ ?_
 · rintro w' ⟨s0,s1,s2,s3,s4,s5⟩
   go_simp
 simp only [td]
 refine tk 3 (.int .i64 j) hS ?_ ?_
 · rintro w' ⟨s0,s1,s2,s3,s4,s5⟩
   go_simp
 simp only [td]
 refine wpAnyH_ready (rs:=[4]) (by kernel_rfl) (by decide) (AllReadyH.cons rfl (fun K hK=>?_) AllReadyH.nil)
 rw [if_pos (by kernel_rfl)]
 go_simp
 refine (HKK.out W0.drew ((Below.refl _ W0).drew)).mono ?_
 rintro e Wh1 ⟨rfl,hb1⟩
 have hx1:Below W0.heap.size W0 Wh1:=(Below.refl _ W0).drew.trans hb1
 have ns0:=cell_stays hx1 s0
 have ns1:=cell_stays hx1 s1
 have ns2:=cell_stays hx1 s2
 have ns3:=cell_stays hx1 s3
 have ns4:=cell_stays hx1 s4
 have ns5:=cell_stays hx1 s5
 refine hK.out _ _ ⟨ns0,ns1,ns2,ns3,ns4,ns5⟩ (fun hS=>?_)
 clear ns0 ns1 ns2 ns3 ns4 ns5
 refine wpAnyH_ready (rs:=[5]) (by kernel_rfl) (by decide) (AllReadyH.cons rfl (fun K hK=>?_) AllReadyH.nil)
 rw [if_pos (by kernel_rfl)]
 go_simp
 refine (HGG.out Wh1 hx1).mono ?_
 rintro e Wh2 ⟨⟨v,rfl,hq⟩,hb2⟩
 have hx2:Below W0.heap.size W0 Wh2:=hx1.trans (hb2.mono hx1.size)
 have ns0:=cell_stays hx2 s0
 have ns1:=cell_stays hx2 s1
 have ns2:=cell_stays hx2 s2
 have ns3:=cell_stays hx2 s3
 have ns4:=cell_stays hx2 s4
 have ns5:=cell_stays hx2 s5
 refine hK.out _ _ ⟨ns0,ns1,ns2,ns3,ns4,ns5⟩ (fun hS=>?_)
 clear ns0 ns1 ns2 ns3 ns4 ns5
 refine tk 6 v hS ?_ ?_
 · rintro w' ⟨s0,s1,s2,s3,s4,s5⟩
   go_simp
 simp only [td]
 refine wpAnyH_done (by kernel_rfl) ?_ _
 refine NoPanic.normal ?_
 try simp only [Exit.then]
 have HBE:=Lib.hid (HB.out.trans (hx2.mono HB.out.size))
 have HQ:=Lib.hid hq
 clear hS s0 s1 s2 s3 s4 s5 hx1 hb1 hx2 hb2 hq
 go_wp2
 go_ret
 exact ⟨⟨v,rfl,HQ.out⟩,HBE.out⟩
set_option maxRecDepth 100000 in
set_option maxHeartbeats 8000000 in
theorem fsList (w:World)(m:Nat)(r p b c d:Int)(j:Int)(kk kd:Nat)(kr kl ka:Int)(kt:Bool)(Q:Value→World→Prop)
  (hK:∀ W,Below w.heap.size w W→Calls Tryd.prog 101 #[.agg #[.pointer (some ⟨m,0,none⟩),.int .i64 r,.int .i64 p,.int .i64 b,.int .i64 c,.int .i64 d],.int .i64 j,.int .i64 3] W fun e w'=>e=.returned (kidV kk kr kl ka kd kt)∧Below W.heap.size W w')
  (hG:∀ W,Below w.heap.size w W→Calls Tryd.prog 177 #[.pointer (some ⟨m,0,none⟩),kidV kk kr kl ka kd kt] W fun e w'=>(∃ v,e=.returned v∧Q v w')∧Below W.heap.size W w') :
  Calls Tryd.prog 173 #[.agg #[.pointer (some ⟨m,0,none⟩),.int .i64 r,.int .i64 p,.int .i64 b,.int .i64 c,.int .i64 d],.int .i64 j] w fun e w'=>(∃ v,e=.returned (.iface 238 v)∧Q v w')∧Below w.heap.size w w':=by
 have hb:=(Below.refl w.heap.size w).alloc (Nat.le_refl _) (.cells #[.pointer (some ⟨m,0,none⟩),.int .i64 r,.int .i64 p,.int .i64 b,.int .i64 c,.int .i64 d] 120)
 have HB:=Lib.hid hb
 have HX:=Lib.hid (heap_alloc_new w (.cells #[.pointer (some ⟨m,0,none⟩),.int .i64 r,.int .i64 p,.int .i64 b,.int .i64 c,.int .i64 d] 120))
 have HKK:=Lib.hid (fun W (hW:Below (w.alloc (.cells #[.pointer (some ⟨m,0,none⟩),.int .i64 r,.int .i64 p,.int .i64 b,.int .i64 c,.int .i64 d] 120)).heap.size (w.alloc (.cells #[.pointer (some ⟨m,0,none⟩),.int .i64 r,.int .i64 p,.int .i64 b,.int .i64 c,.int .i64 d] 120)) W)=>hK W (hb.trans (hW.mono hb.size)))
 have HGG:=Lib.hid (fun W (hW:Below (w.alloc (.cells #[.pointer (some ⟨m,0,none⟩),.int .i64 r,.int .i64 p,.int .i64 b,.int .i64 c,.int .i64 d] 120)).heap.size (w.alloc (.cells #[.pointer (some ⟨m,0,none⟩),.int .i64 r,.int .i64 p,.int .i64 b,.int .i64 c,.int .i64 d] 120)) W)=>hG W (hb.trans (hW.mono hb.size)))
 unfold kidV at HKK HGG
 clear hb hK hG
 go_enter Tryd.func173,Tryd.ntmps173
 go_upto_region 1 with (fail)
 generalize w.alloc (.cells #[.pointer (some ⟨m,0,none⟩),.int .i64 r,.int .i64 p,.int .i64 b,.int .i64 c,.int .i64 d] 120)=W0 at *
 obtain ⟨_,s0,s1,s2,s3,s4,s5⟩:=blk6 HX.out
 refine wp_region_noPanic ?_
 refine wp_region_held_drew (S:=(fun w'=>w'.cell? ⟨w.heap.size,0,none⟩=some (.pointer (some ⟨m,0,none⟩))∧w'.cell? ⟨w.heap.size,1,none⟩=some (.int .i64 r)∧w'.cell? ⟨w.heap.size,2,none⟩=some (.int .i64 p)∧w'.cell? ⟨w.heap.size,3,none⟩=some (.int .i64 b)∧w'.cell? ⟨w.heap.size,4,none⟩=some (.int .i64 c)∧w'.cell? ⟨w.heap.size,5,none⟩=some (.int .i64 d))) (by kernel_rfl) ⟨s0,s1,s2,s3,s4,s5⟩ ?_
 intro hS
 refine tk 0 (.pointer (some ⟨w.heap.size,0,none⟩)) hS ?_ ?_
 · rintro w' ⟨s0,s1,s2,s3,s4,s5⟩
   go_simp
 simp only [td]
 refine tk 1 (.pointer (some ⟨m,0,none⟩)) hS ?_ ?_
 · rintro w' ⟨s0,s1,s2,s3,s4,s5⟩
   go_simp
 simp only [td]
 refine tk 2 (.agg #[.pointer (some ⟨m,0,none⟩),.int .i64 r,.int .i64 p,.int .i64 b,.int .i64 c,.int .i64 d]) hS ?_ ?_
 · rintro w' ⟨s0,s1,s2,s3,s4,s5⟩
   go_simp
 simp only [td]
 refine tk 3 (.int .i64 j) hS ?_ ?_
 · rintro w' ⟨s0,s1,s2,s3,s4,s5⟩
   go_simp
 simp only [td]
 refine wpAnyH_ready (rs:=[4]) (by kernel_rfl) (by decide) (AllReadyH.cons rfl (fun K hK=>?_) AllReadyH.nil)
 rw [if_pos (by kernel_rfl)]
 go_simp
 refine (HKK.out W0.drew ((Below.refl _ W0).drew)).mono ?_
 rintro e Wh1 ⟨rfl,hb1⟩
 have hx1:Below W0.heap.size W0 Wh1:=(Below.refl _ W0).drew.trans hb1
 have ns0:=cell_stays hx1 s0
 have ns1:=cell_stays hx1 s1
 have ns2:=cell_stays hx1 s2
 have ns3:=cell_stays hx1 s3
 have ns4:=cell_stays hx1 s4
 have ns5:=cell_stays hx1 s5
 refine hK.out _ _ ⟨ns0,ns1,ns2,ns3,ns4,ns5⟩ (fun hS=>?_)
 clear ns0 ns1 ns2 ns3 ns4 ns5
 refine wpAnyH_ready (rs:=[5]) (by kernel_rfl) (by decide) (AllReadyH.cons rfl (fun K hK=>?_) AllReadyH.nil)
 rw [if_pos (by kernel_rfl)]
 go_simp
 refine (HGG.out Wh1 hx1).mono ?_
 rintro e Wh2 ⟨⟨v,rfl,hq⟩,hb2⟩
 have hx2:Below W0.heap.size W0 Wh2:=hx1.trans (hb2.mono hx1.size)
 have ns0:=cell_stays hx2 s0
 have ns1:=cell_stays hx2 s1
 have ns2:=cell_stays hx2 s2
 have ns3:=cell_stays hx2 s3
 have ns4:=cell_stays hx2 s4
 have ns5:=cell_stays hx2 s5
 refine hK.out _ _ ⟨ns0,ns1,ns2,ns3,ns4,ns5⟩ (fun hS=>?_)
 clear ns0 ns1 ns2 ns3 ns4 ns5
 refine tk 6 (.iface 238 v) hS ?_ ?_
 · rintro w' ⟨s0,s1,s2,s3,s4,s5⟩
   go_simp
 simp only [td]
 refine tk 7 (.iface 238 v) hS ?_ ?_
 · rintro w' ⟨s0,s1,s2,s3,s4,s5⟩
   go_simp
 simp only [td]
 refine wpAnyH_done (by kernel_rfl) ?_ _
 refine NoPanic.normal ?_
 try simp only [Exit.then]
 have HBE:=Lib.hid (HB.out.trans (hx2.mono HB.out.size))
 have HQ:=Lib.hid hq
 clear hS s0 s1 s2 s3 s4 s5 hx1 hb1 hx2 hb2 hq
 go_wp2
 go_ret
 exact ⟨⟨v,rfl,HQ.out⟩,HBE.out⟩
set_option maxRecDepth 100000 in
set_option maxHeartbeats 8000000 in
theorem flNum (w:World)(m:Nat)(lk:Nat)(lr ll la ln ls:Int)(j:Int)(kk kd:Nat)(kr kl ka:Int)(kt:Bool)(Q:Value→World→Prop)
  (hK:∀ W,Below w.heap.size w W→Calls Tryd.prog 146 #[.agg #[.pointer (some ⟨m,0,none⟩),.int .u8 lk,.int .i64 lr,.int .i64 ll,.int .i64 la,.int .i64 ln,.int .i64 ls],.int .i64 j,.int .i64 1] W fun e w'=>e=.returned (kidV kk kr kl ka kd kt)∧Below W.heap.size W w')
  (hG:∀ W,Below w.heap.size w W→Calls Tryd.prog 143 #[.pointer (some ⟨m,0,none⟩),kidV kk kr kl ka kd kt] W fun e w'=>(∃ v,e=.returned v∧Q v w')∧Below W.heap.size W w') :
  Calls Tryd.prog 182 #[.agg #[.pointer (some ⟨m,0,none⟩),.int .u8 lk,.int .i64 lr,.int .i64 ll,.int .i64 la,.int .i64 ln,.int .i64 ls],.int .i64 j] w fun e w'=>(∃ v,e=.returned v∧Q v w')∧Below w.heap.size w w':=by
 have hb:=(Below.refl w.heap.size w).alloc (Nat.le_refl _) (.cells #[.pointer (some ⟨m,0,none⟩),.int .u8 lk,.int .i64 lr,.int .i64 ll,.int .i64 la,.int .i64 ln,.int .i64 ls] 238)
 have HB:=Lib.hid hb
 have HX:=Lib.hid (heap_alloc_new w (.cells #[.pointer (some ⟨m,0,none⟩),.int .u8 lk,.int .i64 lr,.int .i64 ll,.int .i64 la,.int .i64 ln,.int .i64 ls] 238))
 have HKK:=Lib.hid (fun W (hW:Below (w.alloc (.cells #[.pointer (some ⟨m,0,none⟩),.int .u8 lk,.int .i64 lr,.int .i64 ll,.int .i64 la,.int .i64 ln,.int .i64 ls] 238)).heap.size (w.alloc (.cells #[.pointer (some ⟨m,0,none⟩),.int .u8 lk,.int .i64 lr,.int .i64 ll,.int .i64 la,.int .i64 ln,.int .i64 ls] 238)) W)=>hK W (hb.trans (hW.mono hb.size)))
 have HGG:=Lib.hid (fun W (hW:Below (w.alloc (.cells #[.pointer (some ⟨m,0,none⟩),.int .u8 lk,.int .i64 lr,.int .i64 ll,.int .i64 la,.int .i64 ln,.int .i64 ls] 238)).heap.size (w.alloc (.cells #[.pointer (some ⟨m,0,none⟩),.int .u8 lk,.int .i64 lr,.int .i64 ll,.int .i64 la,.int .i64 ln,.int .i64 ls] 238)) W)=>hG W (hb.trans (hW.mono hb.size)))
 unfold kidV at HKK HGG
 clear hb hK hG
 go_enter Tryd.func182,Tryd.ntmps182
 go_upto_region 1 with (fail)
 generalize w.alloc (.cells #[.pointer (some ⟨m,0,none⟩),.int .u8 lk,.int .i64 lr,.int .i64 ll,.int .i64 la,.int .i64 ln,.int .i64 ls] 238)=W0 at *
 obtain ⟨_,s0,s1,s2,s3,s4,s5,s6⟩:=blk7 HX.out
 refine wp_region_noPanic ?_
 refine wp_region_held_drew (S:=(fun w'=>w'.cell? ⟨w.heap.size,0,none⟩=some (.pointer (some ⟨m,0,none⟩))∧w'.cell? ⟨w.heap.size,1,none⟩=some (.int .u8 lk)∧w'.cell? ⟨w.heap.size,2,none⟩=some (.int .i64 lr)∧w'.cell? ⟨w.heap.size,3,none⟩=some (.int .i64 ll)∧w'.cell? ⟨w.heap.size,4,none⟩=some (.int .i64 la)∧w'.cell? ⟨w.heap.size,5,none⟩=some (.int .i64 ln)∧w'.cell? ⟨w.heap.size,6,none⟩=some (.int .i64 ls))) (by kernel_rfl) ⟨s0,s1,s2,s3,s4,s5,s6⟩ ?_
 intro hS
 refine tk 0 (.pointer (some ⟨w.heap.size,0,none⟩)) hS ?_ ?_
 · rintro w' ⟨s0,s1,s2,s3,s4,s5,s6⟩
   go_simp
 simp only [td]
 refine tk 1 (.pointer (some ⟨m,0,none⟩)) hS ?_ ?_
 · rintro w' ⟨s0,s1,s2,s3,s4,s5,s6⟩
   go_simp
 simp only [td]
 refine tk 2 (.agg #[.pointer (some ⟨m,0,none⟩),.int .u8 lk,.int .i64 lr,.int .i64 ll,.int .i64 la,.int .i64 ln,.int .i64 ls]) hS ?_ ?_
 · rintro w' ⟨s0,s1,s2,s3,s4,s5,s6⟩
   go_simp
 simp only [td]
 refine tk 3 (.int .i64 j) hS ?_ ?_
 · rintro w' ⟨s0,s1,s2,s3,s4,s5,s6⟩
   go_simp
 simp only [td]
 refine wpAnyH_ready (rs:=[4]) (by kernel_rfl) (by decide) (AllReadyH.cons rfl (fun K hK=>?_) AllReadyH.nil)
 rw [if_pos (by kernel_rfl)]
 go_simp
 refine (HKK.out W0.drew ((Below.refl _ W0).drew)).mono ?_
 rintro e Wh1 ⟨rfl,hb1⟩
 have hx1:Below W0.heap.size W0 Wh1:=(Below.refl _ W0).drew.trans hb1
 have ns0:=cell_stays hx1 s0
 have ns1:=cell_stays hx1 s1
 have ns2:=cell_stays hx1 s2
 have ns3:=cell_stays hx1 s3
 have ns4:=cell_stays hx1 s4
 have ns5:=cell_stays hx1 s5
 have ns6:=cell_stays hx1 s6
 refine hK.out _ _ ⟨ns0,ns1,ns2,ns3,ns4,ns5,ns6⟩ (fun hS=>?_)
 clear ns0 ns1 ns2 ns3 ns4 ns5 ns6
 refine wpAnyH_ready (rs:=[5]) (by kernel_rfl) (by decide) (AllReadyH.cons rfl (fun K hK=>?_) AllReadyH.nil)
 rw [if_pos (by kernel_rfl)]
 go_simp
 refine (HGG.out Wh1 hx1).mono ?_
 rintro e Wh2 ⟨⟨v,rfl,hq⟩,hb2⟩
 have hx2:Below W0.heap.size W0 Wh2:=hx1.trans (hb2.mono hx1.size)
 have ns0:=cell_stays hx2 s0
 have ns1:=cell_stays hx2 s1
 have ns2:=cell_stays hx2 s2
 have ns3:=cell_stays hx2 s3
 have ns4:=cell_stays hx2 s4
 have ns5:=cell_stays hx2 s5
 have ns6:=cell_stays hx2 s6
 refine hK.out _ _ ⟨ns0,ns1,ns2,ns3,ns4,ns5,ns6⟩ (fun hS=>?_)
 clear ns0 ns1 ns2 ns3 ns4 ns5 ns6
 refine tk 6 v hS ?_ ?_
 · rintro w' ⟨s0,s1,s2,s3,s4,s5,s6⟩
   go_simp
 simp only [td]
 refine wpAnyH_done (by kernel_rfl) ?_ _
 refine NoPanic.normal ?_
 try simp only [Exit.then]
 have HBE:=Lib.hid (HB.out.trans (hx2.mono HB.out.size))
 have HQ:=Lib.hid hq
 clear hS s0 s1 s2 s3 s4 s5 s6 hx1 hb1 hx2 hb2 hq
 go_wp2
 go_ret
 exact ⟨⟨v,rfl,HQ.out⟩,HBE.out⟩
set_option maxRecDepth 100000 in
set_option maxHeartbeats 8000000 in
theorem flBytes (w:World)(m:Nat)(lk:Nat)(lr ll la ln ls:Int)(j:Int)(kk kd:Nat)(kr kl ka:Int)(kt:Bool)(Q:Value→World→Prop)
  (hK:∀ W,Below w.heap.size w W→Calls Tryd.prog 146 #[.agg #[.pointer (some ⟨m,0,none⟩),.int .u8 lk,.int .i64 lr,.int .i64 ll,.int .i64 la,.int .i64 ln,.int .i64 ls],.int .i64 j,.int .i64 2] W fun e w'=>e=.returned (kidV kk kr kl ka kd kt)∧Below W.heap.size W w')
  (hG:∀ W,Below w.heap.size w W→Calls Tryd.prog 176 #[.pointer (some ⟨m,0,none⟩),kidV kk kr kl ka kd kt] W fun e w'=>(∃ v,e=.returned v∧Q v w')∧Below W.heap.size W w') :
  Calls Tryd.prog 179 #[.agg #[.pointer (some ⟨m,0,none⟩),.int .u8 lk,.int .i64 lr,.int .i64 ll,.int .i64 la,.int .i64 ln,.int .i64 ls],.int .i64 j] w fun e w'=>(∃ v,e=.returned v∧Q v w')∧Below w.heap.size w w':=by
 have hb:=(Below.refl w.heap.size w).alloc (Nat.le_refl _) (.cells #[.pointer (some ⟨m,0,none⟩),.int .u8 lk,.int .i64 lr,.int .i64 ll,.int .i64 la,.int .i64 ln,.int .i64 ls] 238)
 have HB:=Lib.hid hb
 have HX:=Lib.hid (heap_alloc_new w (.cells #[.pointer (some ⟨m,0,none⟩),.int .u8 lk,.int .i64 lr,.int .i64 ll,.int .i64 la,.int .i64 ln,.int .i64 ls] 238))
 have HKK:=Lib.hid (fun W (hW:Below (w.alloc (.cells #[.pointer (some ⟨m,0,none⟩),.int .u8 lk,.int .i64 lr,.int .i64 ll,.int .i64 la,.int .i64 ln,.int .i64 ls] 238)).heap.size (w.alloc (.cells #[.pointer (some ⟨m,0,none⟩),.int .u8 lk,.int .i64 lr,.int .i64 ll,.int .i64 la,.int .i64 ln,.int .i64 ls] 238)) W)=>hK W (hb.trans (hW.mono hb.size)))
 have HGG:=Lib.hid (fun W (hW:Below (w.alloc (.cells #[.pointer (some ⟨m,0,none⟩),.int .u8 lk,.int .i64 lr,.int .i64 ll,.int .i64 la,.int .i64 ln,.int .i64 ls] 238)).heap.size (w.alloc (.cells #[.pointer (some ⟨m,0,none⟩),.int .u8 lk,.int .i64 lr,.int .i64 ll,.int .i64 la,.int .i64 ln,.int .i64 ls] 238)) W)=>hG W (hb.trans (hW.mono hb.size)))
 unfold kidV at HKK HGG
 clear hb hK hG
 go_enter Tryd.func179,Tryd.ntmps179
 go_upto_region 1 with (fail)
 generalize w.alloc (.cells #[.pointer (some ⟨m,0,none⟩),.int .u8 lk,.int .i64 lr,.int .i64 ll,.int .i64 la,.int .i64 ln,.int .i64 ls] 238)=W0 at *
 obtain ⟨_,s0,s1,s2,s3,s4,s5,s6⟩:=blk7 HX.out
 refine wp_region_noPanic ?_
 refine wp_region_held_drew (S:=(fun w'=>w'.cell? ⟨w.heap.size,0,none⟩=some (.pointer (some ⟨m,0,none⟩))∧w'.cell? ⟨w.heap.size,1,none⟩=some (.int .u8 lk)∧w'.cell? ⟨w.heap.size,2,none⟩=some (.int .i64 lr)∧w'.cell? ⟨w.heap.size,3,none⟩=some (.int .i64 ll)∧w'.cell? ⟨w.heap.size,4,none⟩=some (.int .i64 la)∧w'.cell? ⟨w.heap.size,5,none⟩=some (.int .i64 ln)∧w'.cell? ⟨w.heap.size,6,none⟩=some (.int .i64 ls))) (by kernel_rfl) ⟨s0,s1,s2,s3,s4,s5,s6⟩ ?_
 intro hS
 refine tk 0 (.pointer (some ⟨w.heap.size,0,none⟩)) hS ?_ ?_
 · rintro w' ⟨s0,s1,s2,s3,s4,s5,s6⟩
   go_simp
 simp only [td]
 refine tk 1 (.pointer (some ⟨m,0,none⟩)) hS ?_ ?_
 · rintro w' ⟨s0,s1,s2,s3,s4,s5,s6⟩
   go_simp
 simp only [td]
 refine tk 2 (.agg #[.pointer (some ⟨m,0,none⟩),.int .u8 lk,.int .i64 lr,.int .i64 ll,.int .i64 la,.int .i64 ln,.int .i64 ls]) hS ?_ ?_
 · rintro w' ⟨s0,s1,s2,s3,s4,s5,s6⟩
   go_simp
 simp only [td]
 refine tk 3 (.int .i64 j) hS ?_ ?_
 · rintro w' ⟨s0,s1,s2,s3,s4,s5,s6⟩
   go_simp
 simp only [td]
 refine wpAnyH_ready (rs:=[4]) (by kernel_rfl) (by decide) (AllReadyH.cons rfl (fun K hK=>?_) AllReadyH.nil)
 rw [if_pos (by kernel_rfl)]
 go_simp
 refine (HKK.out W0.drew ((Below.refl _ W0).drew)).mono ?_
 rintro e Wh1 ⟨rfl,hb1⟩
 have hx1:Below W0.heap.size W0 Wh1:=(Below.refl _ W0).drew.trans hb1
 have ns0:=cell_stays hx1 s0
 have ns1:=cell_stays hx1 s1
 have ns2:=cell_stays hx1 s2
 have ns3:=cell_stays hx1 s3
 have ns4:=cell_stays hx1 s4
 have ns5:=cell_stays hx1 s5
 have ns6:=cell_stays hx1 s6
 refine hK.out _ _ ⟨ns0,ns1,ns2,ns3,ns4,ns5,ns6⟩ (fun hS=>?_)
 clear ns0 ns1 ns2 ns3 ns4 ns5 ns6
 refine wpAnyH_ready (rs:=[5]) (by kernel_rfl) (by decide) (AllReadyH.cons rfl (fun K hK=>?_) AllReadyH.nil)
 rw [if_pos (by kernel_rfl)]
 go_simp
 refine (HGG.out Wh1 hx1).mono ?_
 rintro e Wh2 ⟨⟨v,rfl,hq⟩,hb2⟩
 have hx2:Below W0.heap.size W0 Wh2:=hx1.trans (hb2.mono hx1.size)
 have ns0:=cell_stays hx2 s0
 have ns1:=cell_stays hx2 s1
 have ns2:=cell_stays hx2 s2
 have ns3:=cell_stays hx2 s3
 have ns4:=cell_stays hx2 s4
 have ns5:=cell_stays hx2 s5
 have ns6:=cell_stays hx2 s6
 refine hK.out _ _ ⟨ns0,ns1,ns2,ns3,ns4,ns5,ns6⟩ (fun hS=>?_)
 clear ns0 ns1 ns2 ns3 ns4 ns5 ns6
 refine tk 6 v hS ?_ ?_
 · rintro w' ⟨s0,s1,s2,s3,s4,s5,s6⟩
   go_simp
 simp only [td]
 refine wpAnyH_done (by kernel_rfl) ?_ _
 refine NoPanic.normal ?_
 try simp only [Exit.then]
 have HBE:=Lib.hid (HB.out.trans (hx2.mono HB.out.size))
 have HQ:=Lib.hid hq
 clear hS s0 s1 s2 s3 s4 s5 s6 hx1 hb1 hx2 hb2 hq
 go_wp2
 go_ret
 exact ⟨⟨v,rfl,HQ.out⟩,HBE.out⟩
set_option maxRecDepth 100000 in
set_option maxHeartbeats 8000000 in
theorem flList (w:World)(m:Nat)(lk:Nat)(lr ll la ln ls:Int)(j:Int)(kk kd:Nat)(kr kl ka:Int)(kt:Bool)(Q:Value→World→Prop)
  (hK:∀ W,Below w.heap.size w W→Calls Tryd.prog 146 #[.agg #[.pointer (some ⟨m,0,none⟩),.int .u8 lk,.int .i64 lr,.int .i64 ll,.int .i64 la,.int .i64 ln,.int .i64 ls],.int .i64 j,.int .i64 3] W fun e w'=>e=.returned (kidV kk kr kl ka kd kt)∧Below W.heap.size W w')
  (hG:∀ W,Below w.heap.size w W→Calls Tryd.prog 177 #[.pointer (some ⟨m,0,none⟩),kidV kk kr kl ka kd kt] W fun e w'=>(∃ v,e=.returned v∧Q v w')∧Below W.heap.size W w') :
  Calls Tryd.prog 181 #[.agg #[.pointer (some ⟨m,0,none⟩),.int .u8 lk,.int .i64 lr,.int .i64 ll,.int .i64 la,.int .i64 ln,.int .i64 ls],.int .i64 j] w fun e w'=>(∃ v,e=.returned (.iface 238 v)∧Q v w')∧Below w.heap.size w w':=by
 have hb:=(Below.refl w.heap.size w).alloc (Nat.le_refl _) (.cells #[.pointer (some ⟨m,0,none⟩),.int .u8 lk,.int .i64 lr,.int .i64 ll,.int .i64 la,.int .i64 ln,.int .i64 ls] 238)
 have HB:=Lib.hid hb
 have HX:=Lib.hid (heap_alloc_new w (.cells #[.pointer (some ⟨m,0,none⟩),.int .u8 lk,.int .i64 lr,.int .i64 ll,.int .i64 la,.int .i64 ln,.int .i64 ls] 238))
 have HKK:=Lib.hid (fun W (hW:Below (w.alloc (.cells #[.pointer (some ⟨m,0,none⟩),.int .u8 lk,.int .i64 lr,.int .i64 ll,.int .i64 la,.int .i64 ln,.int .i64 ls] 238)).heap.size (w.alloc (.cells #[.pointer (some ⟨m,0,none⟩),.int .u8 lk,.int .i64 lr,.int .i64 ll,.int .i64 la,.int .i64 ln,.int .i64 ls] 238)) W)=>hK W (hb.trans (hW.mono hb.size)))
 have HGG:=Lib.hid (fun W (hW:Below (w.alloc (.cells #[.pointer (some ⟨m,0,none⟩),.int .u8 lk,.int .i64 lr,.int .i64 ll,.int .i64 la,.int .i64 ln,.int .i64 ls] 238)).heap.size (w.alloc (.cells #[.pointer (some ⟨m,0,none⟩),.int .u8 lk,.int .i64 lr,.int .i64 ll,.int .i64 la,.int .i64 ln,.int .i64 ls] 238)) W)=>hG W (hb.trans (hW.mono hb.size)))
 unfold kidV at HKK HGG
 clear hb hK hG
 go_enter Tryd.func181,Tryd.ntmps181
 go_upto_region 1 with (fail)
 generalize w.alloc (.cells #[.pointer (some ⟨m,0,none⟩),.int .u8 lk,.int .i64 lr,.int .i64 ll,.int .i64 la,.int .i64 ln,.int .i64 ls] 238)=W0 at *
 obtain ⟨_,s0,s1,s2,s3,s4,s5,s6⟩:=blk7 HX.out
 refine wp_region_noPanic ?_
 refine wp_region_held_drew (S:=(fun w'=>w'.cell? ⟨w.heap.size,0,none⟩=some (.pointer (some ⟨m,0,none⟩))∧w'.cell? ⟨w.heap.size,1,none⟩=some (.int .u8 lk)∧w'.cell? ⟨w.heap.size,2,none⟩=some (.int .i64 lr)∧w'.cell? ⟨w.heap.size,3,none⟩=some (.int .i64 ll)∧w'.cell? ⟨w.heap.size,4,none⟩=some (.int .i64 la)∧w'.cell? ⟨w.heap.size,5,none⟩=some (.int .i64 ln)∧w'.cell? ⟨w.heap.size,6,none⟩=some (.int .i64 ls))) (by kernel_rfl) ⟨s0,s1,s2,s3,s4,s5,s6⟩ ?_
 intro hS
 refine tk 0 (.pointer (some ⟨w.heap.size,0,none⟩)) hS ?_ ?_
 · rintro w' ⟨s0,s1,s2,s3,s4,s5,s6⟩
   go_simp
 simp only [td]
 refine tk 1 (.pointer (some ⟨m,0,none⟩)) hS ?_ ?_
 · rintro w' ⟨s0,s1,s2,s3,s4,s5,s6⟩
   go_simp
 simp only [td]
 refine tk 2 (.agg #[.pointer (some ⟨m,0,none⟩),.int .u8 lk,.int .i64 lr,.int .i64 ll,.int .i64 la,.int .i64 ln,.int .i64 ls]) hS ?_ ?_
 · rintro w' ⟨s0,s1,s2,s3,s4,s5,s6⟩
   go_simp
 simp only [td]
 refine tk 3 (.int .i64 j) hS ?_ ?_
 · rintro w' ⟨s0,s1,s2,s3,s4,s5,s6⟩
   go_simp
 simp only [td]
 refine wpAnyH_ready (rs:=[4]) (by kernel_rfl) (by decide) (AllReadyH.cons rfl (fun K hK=>?_) AllReadyH.nil)
 rw [if_pos (by kernel_rfl)]
 go_simp
 refine (HKK.out W0.drew ((Below.refl _ W0).drew)).mono ?_
 rintro e Wh1 ⟨rfl,hb1⟩
 have hx1:Below W0.heap.size W0 Wh1:=(Below.refl _ W0).drew.trans hb1
 have ns0:=cell_stays hx1 s0
 have ns1:=cell_stays hx1 s1
 have ns2:=cell_stays hx1 s2
 have ns3:=cell_stays hx1 s3
 have ns4:=cell_stays hx1 s4
 have ns5:=cell_stays hx1 s5
 have ns6:=cell_stays hx1 s6
 refine hK.out _ _ ⟨ns0,ns1,ns2,ns3,ns4,ns5,ns6⟩ (fun hS=>?_)
 clear ns0 ns1 ns2 ns3 ns4 ns5 ns6
 refine wpAnyH_ready (rs:=[5]) (by kernel_rfl) (by decide) (AllReadyH.cons rfl (fun K hK=>?_) AllReadyH.nil)
 rw [if_pos (by kernel_rfl)]
 go_simp
 refine (HGG.out Wh1 hx1).mono ?_
 rintro e Wh2 ⟨⟨v,rfl,hq⟩,hb2⟩
 have hx2:Below W0.heap.size W0 Wh2:=hx1.trans (hb2.mono hx1.size)
 have ns0:=cell_stays hx2 s0
 have ns1:=cell_stays hx2 s1
 have ns2:=cell_stays hx2 s2
 have ns3:=cell_stays hx2 s3
 have ns4:=cell_stays hx2 s4
 have ns5:=cell_stays hx2 s5
 have ns6:=cell_stays hx2 s6
 refine hK.out _ _ ⟨ns0,ns1,ns2,ns3,ns4,ns5,ns6⟩ (fun hS=>?_)
 clear ns0 ns1 ns2 ns3 ns4 ns5 ns6
 refine tk 6 (.iface 238 v) hS ?_ ?_
 · rintro w' ⟨s0,s1,s2,s3,s4,s5,s6⟩
   go_simp
 simp only [td]
 refine tk 7 (.iface 238 v) hS ?_ ?_
 · rintro w' ⟨s0,s1,s2,s3,s4,s5,s6⟩
   go_simp
 simp only [td]
 refine wpAnyH_done (by kernel_rfl) ?_ _
 refine NoPanic.normal ?_
 try simp only [Exit.then]
 have HBE:=Lib.hid (HB.out.trans (hx2.mono HB.out.size))
 have HQ:=Lib.hid hq
 clear hS s0 s1 s2 s3 s4 s5 s6 hx1 hb1 hx2 hb2 hq
 go_wp2
 go_ret
 exact ⟨⟨v,rfl,HQ.out⟩,HBE.out⟩
set_option maxHeartbeats 4000000 in
theorem flLen (w:World)(m:Nat)(lk:Nat)(lr ll la ln ls:Int):Calls Tryd.prog 180 #[.agg #[.pointer (some ⟨m,0,none⟩),.int .u8 lk,.int .i64 lr,.int .i64 ll,.int .i64 la,.int .i64 ln,.int .i64 ls]] w fun e w'=>e=.returned (.int .i64 ln)∧Below w.heap.size w w':=by
 have HB:=Lib.hid ((Below.refl w.heap.size w).alloc (Nat.le_refl _) (.cells #[.pointer (some ⟨m,0,none⟩),.int .u8 lk,.int .i64 lr,.int .i64 ll,.int .i64 la,.int .i64 ln,.int .i64 ls] 238))
 obtain ⟨_,s0,s1,s2,s3,s4,s5,s6⟩:=blk7 (heap_alloc_new w (.cells #[.pointer (some ⟨m,0,none⟩),.int .u8 lk,.int .i64 lr,.int .i64 ll,.int .i64 la,.int .i64 ln,.int .i64 ls] 238))
 go_enter Tryd.func180,Tryd.ntmps180
 go_wp2
 go_ret
 exact ⟨rfl,HB.out⟩
end Go.Proofs.YtcfjjocmiheiaaaDoor
