/-
  Package flatread: a struct's field and a list's element as kids. Conditions: those that each theorem names.
-/
import Derived.Test.YtcfjjocmiheiaaaDoorPkD52
import Derived.Test.YtcfjjocmiheiaaaDoorPkD12
namespace Go.Proofs.YtcfjjocmiheiaaaDoor
open Go.ChangeShapes Go.WideShapes Go.ChangeAt Go.RowKit Go.Shelf
def set6 (w:World)(g:Nat)(a b c d e f:Value):World:=(((((w.setCell ⟨g,0,none⟩ a).setCell ⟨g,1,none⟩ b).setCell ⟨g,2,none⟩ c).setCell ⟨g,3,none⟩ d).setCell ⟨g,4,none⟩ e).setCell ⟨g,5,none⟩ f
theorem keep6 {w:World}{g:Nat}{p:Addr}{v x0 x1 x2 x3 x4 x5:Value}(h:w.cell? p=some v)(hp:p.block≠g):(set6 w g x0 x1 x2 x3 x4 x5).cell? p=some v:=by
 have e:∀ (w:World) (i:Nat) (x:Value),(w.setCell ⟨g,i,none⟩ x).cell? p=w.cell? p:=fun w i x=>World.cell?_of_block (Below.heap_setCell _ _ _ _ hp)
 unfold set6
 rw [e,e,e,e,e,e,h]
theorem tri_yes (o:Nat):(((o:Nat):Int) != (o:Int))=false:=by simp
set_option maxRecDepth 100000 in
set_option maxHeartbeats 8000000 in
theorem flkid_any (w:World)(m k:Nat)(ref lists at' count size:Int)(i o:Nat)(hi:(i:Int)<count)(hc:count≤4294967296)(hs:1≤size∧size≤8)(ha:0≤at'∧at'≤1000000)(ho:sortP k lists=o) :
  Calls Tryd.prog 146 #[listV m k ref lists at' count size,.int .i64 i,.int .i64 o] w fun e w'=>e=.returned (kidV k ref lists (at'+i * size) 0 true)∧Below w.heap.size w w':=by
 obtain ⟨hb,hq1,hq2⟩:=two_start w #[.pointer (some ⟨m,0,none⟩),.int .u8 k,.int .i64 ref,.int .i64 lists,.int .i64 at',.int .i64 count,.int .i64 size] #[.int .u8 0,.int .i64 0,.int .i64 0,.int .i64 0,.int .u64 0,.bool false] 238 166
 have HB:=Lib.hid hb
 have HQ1:=Lib.hid hq1
 have HQ2:=Lib.hid hq2
 have hx0:0≤(i:Int) * size:=Int.mul_nonneg (by omega) (by omega)
 have hx1:(i:Int) * size≤4294967296 * 8:=Int.le_trans (Int.mul_le_mul_of_nonneg_right (by omega:(i:Int)≤4294967296) (by omega)) (Int.mul_le_mul_of_nonneg_left hs.2 (by decide))
 obtain ⟨y,hy⟩:∃ y,(i:Int) * size=y:=⟨_,rfl⟩
 have hw1:IntKind.i64.wrap ((i:Int) * size)=y:=by rw [←hy];exact IntWalk.i64_in ((i:Int) * size) ⟨by omega,by omega⟩
 have hw2:IntKind.i64.wrap (at'+y)=at'+y:=IntWalk.i64_in (at'+y) ⟨by omega,by omega⟩
 rw [hy]
 clear hy hx0 hx1
 have HSO:Hid (∀ W,Calls Tryd.prog 56 #[.agg #[.int .u8 k,.int .i64 ref,.int .i64 lists]] W fun e w'=>e=.returned (.int .i64 (o:Int))∧Below W.heap.size W w'):=Lib.hid (fun W=>by have h:=sorts_any k ref lists W;rw [ho] at h;exact h)
 have ht:=tri_yes o
 have hi0:¬(i:Int)<0:=by omega
 have hi1:¬count≤(i:Int):=by omega
 unfold listV kidV
 generalize (o:Int)=oi at *
 generalize (i:Int)=ii at *
 clear hb hq1 hq2
 go_enter Tryd.func146,Tryd.ntmps146
 go_upto_region 1 with (fail)
 generalize (w.alloc (.cells #[.pointer (some ⟨m,0,none⟩),.int .u8 k,.int .i64 ref,.int .i64 lists,.int .i64 at',.int .i64 count,.int .i64 size] 238)).alloc (.cells #[.int .u8 0,.int .i64 0,.int .i64 0,.int .i64 0,.int .u64 0,.bool false] 166)=W0 at *
 obtain ⟨_,l0,l1,l2,l3,l4,l5,l6⟩:=blk7 HQ1.out
 go_wp2_with fail
 refine (HSO.out _).mono ?_
 rintro e W1 ⟨rfl,hb1⟩
 have HB1:=Lib.hid (HB.out.trans (hb1.mono HB.out.size))
 have P1:=Lib.hid (blk_below HQ1.out hb1 (blk_lt HQ1.out))
 have P2:=Lib.hid (blk_below HQ2.out hb1 (blk_lt HQ2.out))
 clear hb1 l0 l1 l2 l3 l4 l5 l6
 obtain ⟨_,l0,l1,l2,l3,l4,l5,l6⟩:=blk7 P1.out
 obtain ⟨_,u0,u1,u2,u3,u4,u5⟩:=blk6 P2.out
 have p0:=blk_frozen P2.out 0
 have p1:=blk_frozen P2.out 1
 have p2:=blk_frozen P2.out 2
 have p3:=blk_frozen P2.out 3
 have p4:=blk_frozen P2.out 4
 have p5:=blk_frozen P2.out 5
 go_wp2
 refine post_gen (fun Wf=>Wf.heap[w.heap.size+1]?=some (.cells #[.int .u8 k,.int .i64 ref,.int .i64 lists,.int .i64 (at'+y),.int .u64 0,.bool true] 166 (0,0))∧Below w.heap.size w Wf) ⟨?_,?_⟩ ?_
 · exact blk_set6 P2.out _ _ _ _ _ _
 · exact below_set6 HB1.out (Nat.le_succ _) _ _ _ _ _ _
 · rintro Wf ⟨e1,e2⟩
   obtain ⟨_,d0,d1,d2,d3,d4,d5⟩:=blk6 e1
   exact bodyPost_ret (v:=.agg #[.int .u8 k,.int .i64 ref,.int .i64 lists,.int .i64 (at'+y),.int .u64 0,.bool true]) (by simp [results,Tryd.results146,go_sem,d0,d1,d2,d3,d4,d5]) rfl ⟨rfl,e2⟩
set_option maxRecDepth 100000 in
set_option maxHeartbeats 8000000 in
theorem fskid_any (w:World){base m:Nat}{bp:Option Addr}{bc:Nat}{sv ev:Value}{zs:List Int}{fs:List (List CFld × Value)}{ns:List Nat}(h:IsMsg base w m bp bc sv ev zs fs ns)(rec:Nat)(hr:rec<fs.length)(t:TabZ)(p:Int)(hp:0≤p∧p≤1000000)(j o:Nat)(hj:j<fs[rec].1.length)(hj2:j≤1000000)
  (ht:inZ (lenZ zs) t.la t.size=true∧t.size % 2=0) (x:CFld) (hx:fs[rec].1[j]=x) (ho:sortP x.kind x.lists=o) :
  Calls Tryd.prog 101 #[strV m rec t p,.int .i64 j,.int .i64 o] w fun e w'=>e=.returned (kidV x.kind x.ref x.lists (p+offZ zs t j) x.dflt (decide (offZ zs t j≠0)))∧Below w.heap.size w w':=by
 obtain ⟨hb,hq1,hq2⟩:=two_start w #[.pointer (some ⟨m,0,none⟩),.int .i64 rec,.int .i64 p,.int .i64 t.own,.int .i64 t.la,.int .i64 t.size] #[.int .u8 0,.int .i64 0,.int .i64 0,.int .i64 0,.int .u64 0,.bool false] 120 166
 have HB:=Lib.hid hb
 have HM:=Lib.hid (h.below hb)
 have HQ1:=Lib.hid hq1
 have HQ2:=Lib.hid hq2
 have hoz:0≤offZ zs t j∧offZ zs t j<65536:=by
  unfold offZ
  split
  · exact leAt_2 zs _ h.bytes.1
  · omega
 have HFF:=Lib.hid (fun W (hb:Below ((w.alloc (.cells #[.pointer (some ⟨m,0,none⟩),.int .i64 rec,.int .i64 p,.int .i64 t.own,.int .i64 t.la,.int .i64 t.size] 120)).alloc (.cells #[.int .u8 0,.int .i64 0,.int .i64 0,.int .i64 0,.int .u64 0,.bool false] 166)).heap.size ((w.alloc (.cells #[.pointer (some ⟨m,0,none⟩),.int .i64 rec,.int .i64 p,.int .i64 t.own,.int .i64 t.la,.int .i64 t.size] 120)).alloc (.cells #[.int .u8 0,.int .i64 0,.int .i64 0,.int .i64 0,.int .u64 0,.bool false] 166)) W)=>ffield_any W (HM.out.below hb) t p j hj2 ht)
 have hw1:=IntWalk.i64_in (p+offZ zs t j) ⟨by omega,by omega⟩
 have hfrow:=h.fields _ (List.getElem_mem hr)
 have hfew:=row_few hfrow
 obtain ⟨fa,fc,hf⟩:=ownsRow_form hfrow
 have HFS:Hid (∀ W,Calls Tryd.prog 98 #[.pointer (some ⟨m,0,none⟩),.int .i64 rec] ((w.alloc (.cells #[.pointer (some ⟨m,0,none⟩),.int .i64 rec,.int .i64 p,.int .i64 t.own,.int .i64 t.la,.int .i64 t.size] 120)).alloc (.cells #[.int .u8 0,.int .i64 0,.int .i64 0,.int .i64 0,.int .u64 0,.bool false] 166)) (fun e w'=>e=.returned (.slice fa fs[rec].1.length fc)∧((w.alloc (.cells #[.pointer (some ⟨m,0,none⟩),.int .i64 rec,.int .i64 p,.int .i64 t.own,.int .i64 t.la,.int .i64 t.size] 120)).alloc (.cells #[.int .u8 0,.int .i64 0,.int .i64 0,.int .i64 0,.int .u64 0,.bool false] 166))=w')→W=W):=Lib.hid (fun _ _=>rfl)
 have HFA:=Lib.hid (ffields_any _ (h.below hb) rec)
 have HROW:=Lib.hid (row_keep hb hfrow)
 clear HFS
 rw [hf] at HROW
 have HHF:=Lib.hid hf
 obtain ⟨g,cc,hv,hcc,hgl,hcell⟩:=row_el (l:=fs[rec].1) mfldCells 5 (fun _=>rfl) HROW.out j hj
 obtain ⟨rfl,rfl⟩:=slice_inj hv
 have hgw:g<w.heap.size:=(ownsRow_lt hfrow g (by rw [hf];rfl)).2
 rw [hx] at hcell
 have x0:((w.alloc (.cells #[.pointer (some ⟨m,0,none⟩),.int .i64 rec,.int .i64 p,.int .i64 t.own,.int .i64 t.la,.int .i64 t.size] 120)).alloc (.cells #[.int .u8 0,.int .i64 0,.int .i64 0,.int .i64 0,.int .u64 0,.bool false] 166)).cell? ⟨g,j * 5,none⟩=some (.int .u8 x.kind):=hcell 0 (by omega)
 have x1:=show _=some (Value.int .i64 x.ref) from hcell 1 (by omega)
 have x2:=show _=some (Value.int .i64 x.lists) from hcell 2 (by omega)
 have x3:=show _=some (Value.int .i64 (inlC x.kind x.lists)) from hcell 3 (by omega)
 have x4:=show _=some (Value.int .u64 (x.dflt:Nat)) from hcell 4 (by omega)
 have HSO:Hid (∀ W,Calls Tryd.prog 56 #[.agg #[.int .u8 x.kind,.int .i64 x.ref,.int .i64 x.lists]] W fun e w'=>e=.returned (.int .i64 (o:Int))∧Below W.heap.size W w'):=Lib.hid (fun W=>by have h:=sorts_any x.kind x.ref x.lists W;rw [ho] at h;exact h)
 have htr:=tri_yes o
 have hj0:¬(j:Int)<0:=by omega
 have hjl0:=hj
 have hjl:(j:Int)<(fs[rec].1.length:Int):=by omega
 have hjl2:¬(fs[rec].1.length:Int)≤(j:Int):=by omega
 have hjj0:(0:Int)≤(j:Int):=by omega
 have hdec:(offZ zs t j != 0)=decide (offZ zs t j≠0):=by
  by_cases h:offZ zs t j=0<;>simp [h]
 clear hcell hv hx ho hb hq1 hq2 h ht hfrow hp
 unfold strV kidV
 generalize decide (offZ zs t j≠0)=tb at *
 generalize offZ zs t j=oz at *
 generalize (o:Int)=oi at *
 generalize inlC x.kind x.lists=xi at *
 generalize x.kind=xk at *
 generalize x.ref=xr at *
 generalize x.lists=xl at *
 generalize x.dflt=xd at *
 have HLEN:Hid (fs[rec].2=.slice (some ⟨g,0,none⟩) fs[rec].1.length fc):=HHF
 obtain ⟨fl,hfl⟩:∃ fl,fs[rec].1.length=fl:=⟨_,rfl⟩
 rw [hfl] at hjl hjl2 HLEN
 have HR:=Lib.hid hr
 clear HHF HROW hfl hf hj hjl0
 go_enter Tryd.func101,Tryd.ntmps101
 go_upto_region 1 with (fail)
 generalize (w.alloc (.cells #[.pointer (some ⟨m,0,none⟩),.int .i64 rec,.int .i64 p,.int .i64 t.own,.int .i64 t.la,.int .i64 t.size] 120)).alloc (.cells #[.int .u8 0,.int .i64 0,.int .i64 0,.int .i64 0,.int .u64 0,.bool false] 166)=W0 at *
 obtain ⟨_,l0,l1,l2,l3,l4,l5⟩:=blk6 HQ1.out
 go_wp2_with fail
 refine HFA.out.mono ?_
 rintro e _ ⟨hpost,rfl⟩
 rcases hpost with ⟨hno,rfl⟩|⟨i',hi',hii,rfl⟩
 · exact absurd ⟨by omega,by have:=HR.out;omega⟩ hno
 obtain rfl:rec=i':=by omega
 rw [HLEN.out]
 clear hii
 go_wp2_with fail
 refine (HSO.out _).mono ?_
 rintro e W1 ⟨rfl,hb1⟩
 have HB1:=Lib.hid (HB.out.trans (hb1.mono HB.out.size))
 have P1:=Lib.hid (blk_below HQ1.out hb1 (blk_lt HQ1.out))
 have P2:=Lib.hid (blk_below HQ2.out hb1 (blk_lt HQ2.out))
 have HFW:=Lib.hid (HFF.out W1 hb1)
 replace x0:=cell_stays hb1 x0
 replace x1:=cell_stays hb1 x1
 replace x2:=cell_stays hb1 x2
 replace x4:=cell_stays hb1 x4
 clear hb1 l0 l1 l2 l3 l4 l5 x3 HFF
 obtain ⟨_,l0,l1,l2,l3,l4,l5⟩:=blk6 P1.out
 unfold tabV at HFW
 go_wp2_with fail
 refine HFW.out.mono ?_
 rintro e W2 ⟨rfl,hb2⟩
 have HB2:=Lib.hid (HB1.out.trans (hb2.mono HB1.out.size))
 have P3:=Lib.hid (blk_below P1.out hb2 (blk_lt P1.out))
 have P4:=Lib.hid (blk_below P2.out hb2 (blk_lt P2.out))
 replace x0:=cell_stays hb2 x0
 replace x1:=cell_stays hb2 x1
 replace x2:=cell_stays hb2 x2
 replace x4:=cell_stays hb2 x4
 have hgne:g≠w.heap.size+1:=by omega
 clear hb2 l0 l1 l2 l3 l4 l5 HFW
 obtain ⟨_,l0,l1,l2,l3,l4,l5⟩:=blk6 P3.out
 obtain ⟨_,u0,u1,u2,u3,u4,u5⟩:=blk6 P4.out
 have p0:=blk_frozen P4.out 0
 have p1:=blk_frozen P4.out 1
 have p2:=blk_frozen P4.out 2
 have p3:=blk_frozen P4.out 3
 have p4:=blk_frozen P4.out 4
 have p5:=blk_frozen P4.out 5
 go_upto_region 5 with (fail)
 have s0:=x0
 have s1:=x1
 have s2:=x2
 have s3:=x4
 have s4:=l2
 refine wp_region_noPanic ?_
 refine wp_region_held_drew (S:=(fun w'=>w'.cell? ⟨g,j * 5,none⟩=some (.int .u8 xk)∧w'.cell? ⟨g,j * 5+1,none⟩=some (.int .i64 xr)∧w'.cell? ⟨g,j * 5+2,none⟩=some (.int .i64 xl)∧w'.cell? ⟨g,j * 5+4,none⟩=some (.int .u64 xd)∧w'.cell? ⟨w.heap.size,2,none⟩=some (.int .i64 p))) (by kernel_rfl) ⟨s0,s1,s2,s3,s4⟩ ?_
 intro hS
 refine tk 0 (.slice (some ⟨g,0,none⟩) fl fc) hS ?_ ?_
 · rintro w' ⟨s0,s1,s2,s3,s4⟩
   go_simp
 simp only [td]
 refine tk 1 (.int .i64 j) hS ?_ ?_
 · rintro w' ⟨s0,s1,s2,s3,s4⟩
   go_simp
 simp only [td]
 refine tk 2 (.pointer (some ⟨g,j * 5,none⟩)) hS ?_ ?_
 · rintro w' ⟨s0,s1,s2,s3,s4⟩
   go_simp
 simp only [td]
 refine tk 3 (.pointer (some ⟨g,j * 5,none⟩)) hS ?_ ?_
 · rintro w' ⟨s0,s1,s2,s3,s4⟩
   go_simp
 simp only [td]
 refine tk 4 (.agg #[.int .u8 xk,.int .i64 xr,.int .i64 xl]) hS ?_ ?_
 · rintro w' ⟨s0,s1,s2,s3,s4⟩
   go_simp
 simp only [td]
 refine tk 5 (.pointer (some ⟨w.heap.size,2,none⟩)) hS ?_ ?_
 · rintro w' ⟨s0,s1,s2,s3,s4⟩
   go_simp
 simp only [td]
 refine tk 6 (.pointer (some ⟨w.heap.size,2,none⟩)) hS ?_ ?_
 · rintro w' ⟨s0,s1,s2,s3,s4⟩
   go_simp
 simp only [td]
 refine tk 7 (.int .i64 p) hS ?_ ?_
 · rintro w' ⟨s0,s1,s2,s3,s4⟩
   go_simp
 simp only [td]
 refine tk 8 (.int .i64 oz) hS ?_ ?_
 · rintro w' ⟨s0,s1,s2,s3,s4⟩
   go_simp
 simp only [td]
 refine tk 9 (.int .i64 (p+oz)) hS ?_ ?_
 · rintro w' ⟨s0,s1,s2,s3,s4⟩
   go_simp
 simp only [td]
 refine tk 10 (.slice (some ⟨g,0,none⟩) fl fc) hS ?_ ?_
 · rintro w' ⟨s0,s1,s2,s3,s4⟩
   go_simp
 simp only [td]
 refine tk 11 (.int .i64 j) hS ?_ ?_
 · rintro w' ⟨s0,s1,s2,s3,s4⟩
   go_simp
 simp only [td]
 refine tk 12 (.pointer (some ⟨g,j * 5,none⟩)) hS ?_ ?_
 · rintro w' ⟨s0,s1,s2,s3,s4⟩
   go_simp
 simp only [td]
 refine tk 13 (.pointer (some ⟨g,j * 5+4,none⟩)) hS ?_ ?_
 · rintro w' ⟨s0,s1,s2,s3,s4⟩
   go_simp
 simp only [td]
 refine tk 14 (.int .u64 xd) hS ?_ ?_
 · rintro w' ⟨s0,s1,s2,s3,s4⟩
   go_simp
 simp only [td]
 refine tk 15 (.int .i64 oz) hS ?_ ?_
 · rintro w' ⟨s0,s1,s2,s3,s4⟩
   go_simp
 simp only [td]
 refine tk 16 (.bool tb) hS ?_ ?_
 · rintro w' ⟨s0,s1,s2,s3,s4⟩
   go_simp
 simp only [td]
 refine tk 17 (.agg #[.int .u8 xk,.int .i64 xr,.int .i64 xl,.int .i64 (p+oz),.int .u64 xd,.bool tb]) hS ?_ ?_
 · rintro w' ⟨s0,s1,s2,s3,s4⟩
   go_simp
 simp only [td]
 have hP5:W2.drew.heap[w.heap.size+1]?=some (.cells #[.int .u8 0,.int .i64 0,.int .i64 0,.int .i64 0,.int .u64 0,.bool false] 166 (0,0)):=P4.out
 have hthere:W2.drew.there (w.heap.size+1) 0 6:=fun i hi=>by
  have h4:i=0∨i=1∨i=2∨i=3∨i=4∨i=5:=by omega
  obtain ⟨_,v0,v1,v2,v3,v4,v5⟩:=blk6 hP5
  rcases h4 with rfl|rfl|rfl|rfl|rfl|rfl
  · exact ⟨by rw [Nat.add_zero,v0];rfl,blk_frozen hP5 _⟩
  · exact ⟨by rw [Nat.zero_add,v1];rfl,blk_frozen hP5 _⟩
  · exact ⟨by rw [Nat.zero_add,v2];rfl,blk_frozen hP5 _⟩
  · exact ⟨by rw [Nat.zero_add,v3];rfl,blk_frozen hP5 _⟩
  · exact ⟨by rw [Nat.zero_add,v4];rfl,blk_frozen hP5 _⟩
  · exact ⟨by rw [Nat.zero_add,v5];rfl,blk_frozen hP5 _⟩
 refine wpAnyH_ready (rs:=[18]) (by kernel_rfl) (by decide) (AllReadyH.cons rfl (fun K hK=>?_) AllReadyH.nil)
 rw [if_pos (by kernel_rfl)]
 refine wp_store_mid 166 (.tmp 6) (.tmp 56) rfl (w.heap.size+1) 0 #[.int .u8 xk,.int .i64 xr,.int .i64 xl,.int .i64 (p+oz),.int .u64 xd,.bool tb] rfl rfl hthere (by kernel_rfl) (Array.all_eq_true_iff_forall_mem.2 (by intro x hx;simp at hx;rcases hx with rfl|rfl|rfl|rfl|rfl|rfl<;>rfl)) ?_
 change K _ (set6 W2.drew (w.heap.size+1) (.int .u8 xk) (.int .i64 xr) (.int .i64 xl) (.int .i64 (p+oz)) (.int .u64 xd) (.bool tb))
 have hks:∀ (b o:Nat) (c:Value),b≠w.heap.size+1→W2.cell? ⟨b,o,none⟩=some c→(set6 W2.drew (w.heap.size+1) (.int .u8 xk) (.int .i64 xr) (.int .i64 xl) (.int .i64 (p+oz)) (.int .u64 xd) (.bool tb)).cell? ⟨b,o,none⟩=some c:=fun b o c hb hc=>keep6 (w:=W2.drew) hc hb
 refine hK.out _ _ ⟨hks _ _ _ hgne s0,hks _ _ _ hgne s1,hks _ _ _ hgne s2,hks _ _ _ hgne s3,hks _ _ _ (by omega) s4⟩ (fun hS=>?_)
 refine wpAnyH_done (by kernel_rfl) ?_ _
 refine NoPanic.normal ?_
 try simp only [Exit.then]
 have HE1:=Lib.hid (show (set6 W2.drew (w.heap.size+1) (.int .u8 xk) (.int .i64 xr) (.int .i64 xl) (.int .i64 (p+oz)) (.int .u64 xd) (.bool tb)).heap[w.heap.size+1]?=some (.cells #[.int .u8 xk,.int .i64 xr,.int .i64 xl,.int .i64 (p+oz),.int .u64 xd,.bool tb] 166 (0,0)) from blk_set6 hP5 _ _ _ _ _ _)
 have HE2:=Lib.hid (show Below w.heap.size w (set6 W2.drew (w.heap.size+1) (.int .u8 xk) (.int .i64 xr) (.int .i64 xl) (.int .i64 (p+oz)) (.int .u64 xd) (.bool tb)) from below_set6 HB2.out.drew (Nat.le_succ _) _ _ _ _ _ _)
 clear hS hks hthere hP5 u0 u1 u2 u3 u4 u5 p0 p1 p2 p3 p4 p5 s0 s1 s2 s3 s4 l0 l1 l2 l3 l4 l5 x0 x1 x2 x4
 generalize set6 W2.drew (w.heap.size+1) (.int .u8 xk) (.int .i64 xr) (.int .i64 xl) (.int .i64 (p+oz)) (.int .u64 xd) (.bool tb)=W9 at *
 go_wp2
 refine post_gen (fun Wf=>Wf.heap[w.heap.size+1]?=some (.cells #[.int .u8 xk,.int .i64 xr,.int .i64 xl,.int .i64 (p+oz),.int .u64 xd,.bool tb] 166 (0,0))∧Below w.heap.size w Wf) ⟨HE1.out,HE2.out⟩ ?_
 rintro Wf ⟨e1,e2⟩
 obtain ⟨_,d0,d1,d2,d3,d4,d5⟩:=blk6 e1
 exact bodyPost_ret (v:=.agg #[.int .u8 xk,.int .i64 xr,.int .i64 xl,.int .i64 (p+oz),.int .u64 xd,.bool tb]) (by simp [results,Tryd.results101,go_sem,d0,d1,d2,d3,d4,d5]) rfl ⟨rfl,e2⟩
end Go.Proofs.YtcfjjocmiheiaaaDoor
