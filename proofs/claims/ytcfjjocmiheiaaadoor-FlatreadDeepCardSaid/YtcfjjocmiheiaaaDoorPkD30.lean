/-
  Package flatread: rows of a message's own fields: made, written. Conditions: those that each theorem names.
-/
import Derived.Test.YtcfjjocmiheiaaaDoorPkD52
import Derived.Test.YtcfjjocmiheiaaaDoorPkD1
import Derived.Test.YtcfjjocmiheiaaaDoorPkD3
import Derived.Test.YtcfjjocmiheiaaaDoorPkD6
import Derived.Test.YtcfjjocmiheiaaaDoorPkD9
import Derived.Test.YtcfjjocmiheiaaaDoorPkD10
import Derived.Test.YtcfjjocmiheiaaaDoorPkD25
import Derived.Deep.RegionHeld3
import Derived.Deep.Cut
import Derived.Laws.MakeOwn
namespace Go.Proofs.YtcfjjocmiheiaaaDoor
open Go.ChangeShapes Go.WideShapes Go.ChangeAt Go.RowKit Go.Shelf
theorem u8_nums {x y:Int}(hx:0≤x∧x≤255)(hy:0≤y∧y≤255)(h:UInt8.ofNat x.toNat=UInt8.ofNat y.toNat):x=y:=by
 have h1:=congrArg UInt8.toNat h
 simp only [UInt8.toNat_ofNat'] at h1
 omega
theorem nums_inj:∀ (a b:List Int),(∀ z ∈ a,0≤z∧z≤255)→(∀ z ∈ b,0≤z∧z≤255)→(a.map fun n=>UInt8.ofNat n.toNat)=(b.map fun n=>UInt8.ofNat n.toNat)→a=b
 | [],[],_,_,_=>rfl
 | [],y::b,_,_,h=>by simp at h
 | x::a,[],_,_,h=>by simp at h
 | x::a,y::b,ha,hb,h=>by
  rw [List.map_cons,List.map_cons,List.cons.injEq] at h
  rw [u8_nums (ha x (by simp)) (hb y (by simp)) h.1,nums_inj a b (fun z hz=>ha z (by simp [hz])) (fun z hz=>hb z (by simp [hz])) h.2]
theorem mem_range {a:List Int}(h:∀ i,0≤a.getD i 0∧a.getD i 0≤255):∀ z ∈ a,0≤z∧z≤255:=fun z hz=>by
 obtain ⟨i,hi,rfl⟩:=List.getElem_of_mem hz
 have:=h i
 rwa [List.getD,List.getElem?_eq_getElem hi,Option.getD_some] at this
theorem strOf_inj {a b:List Int}(ha:∀ i,0≤a.getD i 0∧a.getD i 0≤255)(hb:∀ i,0≤b.getD i 0∧b.getD i 0≤255)(h:strOfNums a=strOfNums b):a=b:=by
 have h1:=congrArg (fun s:ByteArray=>s.data.toList) h
 exact nums_inj a b (mem_range ha) (mem_range hb) h1
theorem conv_bytes {W:World}{p:Option Addr}{zs:List Int}(h:Bytes W p zs)(c:Nat):(convert 22 9 (.slice p zs.length c)).run Tryd.prog W=.ok (.string (strOfNums zs)) W:=by
 by_cases hz:zs=[]
 · subst hz
   exact conv_zero W _ 5 _ Tryd.underlying22 Tryd.underlying5 Tryd.underlying9 p c
 · obtain ⟨b,off,rfl,_,hc⟩:=h.2 hz
   exact run_convert_bytes_arg W _ 5 Tryd.underlying22 Tryd.underlying5 b off zs.length c zs rfl hc _ Tryd.underlying9
theorem sb_yes {a b:ByteArray}(h:a=b):(a.toList==b.toList)=true:=by rw [h];exact beq_self_eq_true _
theorem sb_no {a b:ByteArray}(h:a≠b):(a.toList==b.toList)=false:=by
 rw [beq_eq_false_iff_ne]
 intro e
 rw [ByteArray.toList_eq,ByteArray.toList_eq] at e
 apply h
 obtain ⟨⟨a⟩⟩:=a
 obtain ⟨⟨b⟩⟩:=b
 have e2:a=b:=e
 rw [e2]
def SamePost (a b:PV)(e:Ending):Prop:=∃ r,e=.returned (.bool r)∧(r=true ↔ a=b)
def SameAt (a:PV):Prop:=∀ (W:World) (b:PV) (va vb:Value),IsV W a va→IsV W b vb →
    Calls Tryd.prog 33 #[va,vb] W fun e w'=>SamePost a b e∧Below W.heap.size W w'
def SmAt (W0:World)(ks ls:List PV)(i:Value)(W:World):Prop:=∃ j:Nat,j≤ks.length∧i=.int .i64 j∧Below W0.heap.size W0 W∧ks.take j=ls.take j
theorem ret_no {a b:PV}(h:a≠b){W w:World}(hb:Below w.heap.size w W):SamePost a b (.returned (.bool false))∧Below w.heap.size w W:=⟨⟨false,rfl,by simp [h]⟩,hb⟩
set_option maxRecDepth 100000 in
set_option maxHeartbeats 16000000 in
theorem same_step (n:Nat)(bs:List Int)(ks:List PV)(hh:Bool)(hnext:∀ q ∈ ks,SameAt q):SameAt (.mk n bs ks hh):=by
 intro w b va vb ha hb'
 obtain ⟨m,cs,ls,gg⟩:=b
 obtain ⟨ba,ka,bc,kc,rfl,hn,hby,hbl,hbm,hkl,hkm,hks⟩:=ha.form
 obtain ⟨bb,kb2,bd,kd,rfl,hm,hcy,hcl,hcm,hll,hlm,hls⟩:=hb'.form
 simp only [PV.num,PV.bytes,PV.kids,PV.has] at hn hby hbl hbm hkl hkm hks hm hcy hcl hcm hll hlm hls ⊢
 obtain ⟨hb,hq1,hq2⟩:=two_start w #[.int .u64 n,.slice ba bs.length bc,.slice ka ks.length kc,.bool hh] #[.int .u64 m,.slice bb cs.length bd,.slice kb2 ls.length kd,.bool gg] 36 36
 have HB:=Lib.hid hb
 have HQ1:=Lib.hid hq1
 have HQ2:=Lib.hid hq2
 have HKS:=Lib.hid (KidsAt.later (w:=w) (ks:=ks) (ka:=ka) hks hb)
 have HLS:=Lib.hid (KidsAt.later (w:=w) (ks:=ls) (ka:=kb2) hls hb)
 have HNX:=Lib.hid hnext
 have HNB:=Lib.hid (fun h:bs=cs=>congrArg strOfNums h)
 have HINJ:=Lib.hid (fun h:strOfNums bs=strOfNums cs=>strOf_inj hby.1 hcy.1 h)
 have k1:=conv_bytes (hby.below (Nat.le_refl _) hb) bc
 have k2:=conv_bytes (hcy.below (Nat.le_refl _) hb) bd
 clear hb hq1 hq2 hks hls hnext ha hb' hby hcy hbl hbm hcl hcm hkl hll
 go_enter Tryd.func33,Tryd.ntmps33
 go_upto_region 1 with (fail)
 generalize (w.alloc (.cells #[.int .u64 n,.slice ba bs.length bc,.slice ka ks.length kc,.bool hh] 36)).alloc (.cells #[.int .u64 m,.slice bb cs.length bd,.slice kb2 ls.length kd,.bool gg] 36)=W0 at *
 generalize w.heap.size+1=V at *
 obtain ⟨_,s0,s1,s2,s3⟩:=blk4p HQ1.out
 obtain ⟨_,v0,v1,v2,v3⟩:=blk4p HQ2.out
 generalize strOfNums bs=S1 at *
 generalize strOfNums cs=S2 at *
 by_cases h1:n=m
 case neg =>
  have t1:((n:Int) != (m:Int))=true:=by simp;omega
  have HN:Hid (PV.mk n bs ks hh≠.mk m cs ls gg):=Lib.hid (fun h=>h1 (congrArg PV.num h))
  clear h1
  go_wp2
  go_ret
  exact ret_no HN.out HB.out
 case pos =>
 have t1:((n:Int) != (m:Int))=false:=by simp;omega
 by_cases h2:S1=S2
 case neg =>
  have t2:=sb_no h2
  have HN:Hid (PV.mk n bs ks hh≠.mk m cs ls gg):=Lib.hid (fun h=>h2 (HNB.out (congrArg PV.bytes h)))
  clear h1 h2
  go_wp2
  go_ret
  exact ret_no HN.out HB.out
 case pos =>
 have t2:=sb_yes h2
 have HBS:=Lib.hid (HINJ.out h2)
 have HNM:=Lib.hid h1
 clear HINJ h1
 by_cases h3:hh=gg
 case neg =>
  have t3:(hh != gg)=true:=bne_iff_ne.2 h3
  have HN:Hid (PV.mk n bs ks hh≠.mk m cs ls gg):=Lib.hid (fun h=>h3 (congrArg PV.has h))
  clear h2 t3
  go_wp2
  go_ret
  exact ret_no HN.out HB.out
 case pos =>
 have t3:(hh != gg)=false:=by rw [h3];simp
 have HHG:=Lib.hid h3
 by_cases h4:ks.length=ls.length
 case neg =>
  have t4:((ks.length:Int) != (ls.length:Int))=true:=by simp;omega
  have HN:Hid (PV.mk n bs ks hh≠.mk m cs ls gg):=Lib.hid (fun h=>h4 (congrArg (fun v=>(PV.kids v).length) h))
  clear h4 h3 h2
  go_wp2
  go_ret
  exact ret_no HN.out HB.out
 case pos =>
 have t4:((ks.length:Int) != (ls.length:Int))=false:=by simp;omega
 have HLEN:=Lib.hid h4
 clear h4 h3 h2
 go_wp2_with fail
 go_loopw [5] (fun i wr=>SmAt W0 ks ls i wr) (fun i _=>ks.length-(intOf i).toNat)
 case atStart=>exact ⟨0,Nat.zero_le _,rfl,Below.refl _ _,rfl⟩
 case round =>
  obtain ⟨j,hj,rfl,hb,hall⟩:=hrel
  have HALL:=Lib.hid hall
  have HBW:=Lib.hid hb
  clear hall hb k1 k2 s0 s1 s2 s3 v0 v1 v2 v3 t1 t2 t3 t4
  obtain ⟨_,s0,s1,s2,s3⟩:=blk4p (blk_below HQ1.out HBW.out (blk_lt HQ1.out))
  obtain ⟨_,v0,v1,v2,v3⟩:=blk4p (blk_below HQ2.out HBW.out (blk_lt HQ2.out))
  clear s0 s1 s3 v0 v1 v3
  by_cases hjl:j<ks.length
  · have hji:(j:Int)<ks.length:=by omega
    have hji0:(0:Int)≤(j:Int):=by omega
    have hjm:j<ls.length:=by have:=HLEN.out;omega
    have hjmi:(j:Int)<ls.length:=by omega
    obtain ⟨kb,ko,u0,u1,u2,u3,rfl,c0,c1,c2,c3,hiv⟩:=HKS.out.later HBW.out j hjl
    obtain ⟨lb,lo,x0,x1,x2,x3,rfl,d0,d1,d2,d3,hjv⟩:=HLS.out.later HBW.out j hjm
    have HSM:=Lib.hid (fun W (hb:Below wr.heap.size wr W)=>HNX.out ks[j] (List.getElem_mem hjl) W ls[j] _ _ (hiv.later hb) (hjv.later hb))
    have HTK:Hid (ks.take (j+1)=ls.take (j+1) ↔ ks[j]=ls[j]):=Lib.hid (by
     rw [List.take_succ_eq_append_getElem hjl,List.take_succ_eq_append_getElem hjm,HALL.out]
     constructor
     · intro h
       have h2:=List.append_cancel_left h
       injection h2
     · intro h
       rw [h])
    have HNE:Hid (ks[j]≠ls[j]→PV.mk n bs ks hh≠.mk m cs ls gg):=Lib.hid (fun hne h=>by
     have h1:ks=ls:=congrArg PV.kids h
     subst h1
     exact hne rfl)
    generalize ks[j]=q at *
    generalize ls[j]=p at *
    clear hiv hjv
    go_upto_region 6 with (fail)
    refine wp_region_noPanic ?_
    refine wp_region_held_drew (S:=(fun w'=>w'.cell? ⟨w.heap.size,2,none⟩=some (.slice (some ⟨kb,ko,none⟩) ks.length kc)∧w'.cell? ⟨V,2,none⟩=some (.slice (some ⟨lb,lo,none⟩) ls.length kd)∧w'.cell? ⟨kb,ko+j * 4,none⟩=some u0∧w'.cell? ⟨kb,ko+j * 4+1,none⟩=some u1∧w'.cell? ⟨kb,ko+j * 4+2,none⟩=some u2∧w'.cell? ⟨kb,ko+j * 4+3,none⟩=some u3∧w'.cell? ⟨lb,lo+j * 4,none⟩=some x0∧w'.cell? ⟨lb,lo+j * 4+1,none⟩=some x1∧w'.cell? ⟨lb,lo+j * 4+2,none⟩=some x2∧w'.cell? ⟨lb,lo+j * 4+3,none⟩=some x3)) (by kernel_rfl) ⟨s2,v2,c0,c1,c2,c3,d0,d1,d2,d3⟩ ?_
    intro hS
    refine tk 0 (.pointer (some ⟨w.heap.size,2,none⟩)) hS ?_ ?_
    · rintro w' ⟨s2,v2,c0,c1,c2,c3,d0,d1,d2,d3⟩
      go_simp
    simp only [td]
    refine tk 1 (.slice (some ⟨kb,ko,none⟩) ks.length kc) hS ?_ ?_
    · rintro w' ⟨s2,v2,c0,c1,c2,c3,d0,d1,d2,d3⟩
      go_simp
    simp only [td]
    refine tk 2 (.int .i64 j) hS ?_ ?_
    · rintro w' ⟨s2,v2,c0,c1,c2,c3,d0,d1,d2,d3⟩
      go_simp
    simp only [td]
    refine tk 3 (.pointer (some ⟨kb,ko+j * 4,none⟩)) hS ?_ ?_
    · rintro w' ⟨s2,v2,c0,c1,c2,c3,d0,d1,d2,d3⟩
      go_simp
    simp only [td]
    refine tk 4 (.agg #[u0,u1,u2,u3]) hS ?_ ?_
    · rintro w' ⟨s2,v2,c0,c1,c2,c3,d0,d1,d2,d3⟩
      go_simp
    simp only [td]
    refine tk 5 (.pointer (some ⟨V,2,none⟩)) hS ?_ ?_
    · rintro w' ⟨s2,v2,c0,c1,c2,c3,d0,d1,d2,d3⟩
      go_simp
    simp only [td]
    refine tk 6 (.slice (some ⟨lb,lo,none⟩) ls.length kd) hS ?_ ?_
    · rintro w' ⟨s2,v2,c0,c1,c2,c3,d0,d1,d2,d3⟩
      go_simp
    simp only [td]
    refine tk 7 (.int .i64 j) hS ?_ ?_
    · rintro w' ⟨s2,v2,c0,c1,c2,c3,d0,d1,d2,d3⟩
      go_simp
    simp only [td]
    refine tk 8 (.pointer (some ⟨lb,lo+j * 4,none⟩)) hS ?_ ?_
    · rintro w' ⟨s2,v2,c0,c1,c2,c3,d0,d1,d2,d3⟩
      go_simp
    simp only [td]
    refine tk 9 (.agg #[x0,x1,x2,x3]) hS ?_ ?_
    · rintro w' ⟨s2,v2,c0,c1,c2,c3,d0,d1,d2,d3⟩
      go_simp
    simp only [td]
    refine wpAnyH_ready (rs:=[10]) (by kernel_rfl) (by decide) (AllReadyH.cons rfl (fun K hK=>?_) AllReadyH.nil)
    rw [if_pos (by kernel_rfl)]
    go_simp
    refine (HSM.out _ (Below.refl _ wr).drew).mono ?_
    rintro e W3 ⟨⟨r,rfl,hiff⟩,hb3⟩
    have hx:Below wr.heap.size wr W3:=(Below.refl _ wr).drew.trans hb3
    have HB3:=Lib.hid (HBW.out.trans (hx.mono HBW.out.size))
    have zs2:=cell_stays hx s2
    have zv2:=cell_stays hx v2
    have zc0:=cell_stays hx c0
    have zc1:=cell_stays hx c1
    have zc2:=cell_stays hx c2
    have zc3:=cell_stays hx c3
    have zd0:=cell_stays hx d0
    have zd1:=cell_stays hx d1
    have zd2:=cell_stays hx d2
    have zd3:=cell_stays hx d3
    refine hK.out _ _ ⟨zs2,zv2,zc0,zc1,zc2,zc3,zd0,zd1,zd2,zd3⟩ (fun hS=>?_)
    cases r with
    | false =>
     have HNQ:Hid (q≠p):=Lib.hid (fun h=>by have h2:=hiff.2 h;cases h2)
     clear hiff
     refine tk 11 (.bool true) hS ?_ ?_
     · rintro w' ⟨s2,v2,c0,c1,c2,c3,d0,d1,d2,d3⟩
       go_simp
     simp only [td]
     refine wpAnyH_done (by kernel_rfl) ?_ _
     refine NoPanic.normal ?_
     simp only [Exit.then]
     go_wp2
     go_ret
     exact ret_no (HNE.out HNQ.out) (HB.out.trans (HB3.out.mono HB.out.size))
    | true =>
     have HYQ:=Lib.hid (hiff.1 rfl)
     clear hiff
     refine tk 11 (.bool false) hS ?_ ?_
     · rintro w' ⟨s2,v2,c0,c1,c2,c3,d0,d1,d2,d3⟩
       go_simp
     simp only [td]
     refine wpAnyH_done (by kernel_rfl) ?_ _
     refine NoPanic.normal ?_
     simp only [Exit.then]
     go_wp2
     go_roundw
     case rel=>exact ⟨j+1,by omega,by go_num,HB3.out,HTK.out.2 HYQ.out⟩
     case measure=>simp [intOf];omega
  · obtain rfl:j=ks.length:=by omega
    have HEQ:Hid (PV.mk n bs ks hh=.mk m cs ls gg):=Lib.hid (by
     have h:=HALL.out
     rw [List.take_length,HLEN.out,List.take_length] at h
     rw [HNM.out,HBS.out,h,HHG.out])
    have hlt:¬(ks.length:Int)<ks.length:=Int.lt_irrefl _
    go_wp2
    go_ret
    exact ⟨⟨true,rfl,⟨fun _=>by have h:=HEQ.out;rw [HHG.out] at h;exact h,fun _=>rfl⟩⟩,HB.out.trans (HBW.out.mono HB.out.size)⟩
theorem same_any:(a:PV)→SameAt a
 | .mk n bs ks hh=>same_step n bs ks hh (fun q _=>same_any q)
end Go.Proofs.YtcfjjocmiheiaaaDoor
namespace Go.Proofs.YtcfjjocmiheiaaaDoor
open Go.ChangeShapes Go.WideShapes Go.ChangeAt Go.RowKit Go.Shelf
set_option maxRecDepth 100000 in
set_option maxHeartbeats 8000000 in
theorem isdef_any (w:World)(name:ByteArray)(k:Nat)(ref lists:Int)(d:Nat)(hd:d≤18446744073709551615)(v:PV)(val:Value)(hv:IsV w v val) :
  Calls Tryd.prog 36 #[.agg #[.string name,.int .u8 k,.int .i64 ref,.int .i64 lists,.int .u64 d],val] w fun e w'=>SamePost v (numV d) e∧Below w.heap.size w w':=by
 have HV:=Lib.hid hv
 obtain ⟨n,bs,ks,hh⟩:=v
 obtain ⟨ba,ka,bc,kc,rfl,hn,hby,hbl,hbm,hkl,hkm,hks⟩:=hv.form
 simp only [PV.num,PV.bytes,PV.kids,PV.has] at HV hn hby hbl hbm hkl hkm hks ⊢
 obtain ⟨hb,hq1,hq2⟩:=two_start w #[.string name,.int .u8 k,.int .i64 ref,.int .i64 lists,.int .u64 d] #[.int .u64 n,.slice ba bs.length bc,.slice ka ks.length kc,.bool hh] 52 36
 have HB:=Lib.hid hb
 have HV1:=Lib.hid (HV.out.later hb)
 have HD:=Lib.hid hd
 obtain ⟨_,y0,y1,y2,y3,y4,_⟩:=blk5 hq1
 obtain ⟨_,z0,z1,z2,z3⟩:=blk4p hq2
 clear hb hq1 hq2 hv HV hby hks hn hbl hbm hkl hkm hd
 go_enter Tryd.func36,Tryd.ntmps36
 go_upto_region 1 with (fail)
 generalize (w.alloc (.cells #[.string name,.int .u8 k,.int .i64 ref,.int .i64 lists,.int .u64 d] 52)).alloc (.cells #[.int .u64 n,.slice ba bs.length bc,.slice ka ks.length kc,.bool hh] 36)=W0 at *
 generalize w.heap.size+1=V at *
 refine wp_region_noPanic ?_
 refine wp_region_held_drew (S:=(fun w'=>w'.cell? ⟨w.heap.size,0,none⟩=some (.string name)∧w'.cell? ⟨w.heap.size,1,none⟩=some (.int .u8 k)∧w'.cell? ⟨w.heap.size,2,none⟩=some (.int .i64 ref)∧w'.cell? ⟨w.heap.size,3,none⟩=some (.int .i64 lists)∧w'.cell? ⟨w.heap.size,4,none⟩=some (.int .u64 d)∧w'.cell? ⟨V,0,none⟩=some (.int .u64 n)∧w'.cell? ⟨V,1,none⟩=some (.slice ba bs.length bc)∧w'.cell? ⟨V,2,none⟩=some (.slice ka ks.length kc)∧w'.cell? ⟨V,3,none⟩=some (.bool hh))) (by kernel_rfl) ⟨y0,y1,y2,y3,y4,z0,z1,z2,z3⟩ ?_
 intro hS
 refine tk 0 (.agg #[.int .u64 n,.slice ba bs.length bc,.slice ka ks.length kc,.bool hh]) hS ?_ ?_
 · rintro w' ⟨y0,y1,y2,y3,y4,z0,z1,z2,z3⟩
   go_simp
 simp only [td]
 refine tk 1 (.agg #[.string name,.int .u8 k,.int .i64 ref,.int .i64 lists,.int .u64 d]) hS ?_ ?_
 · rintro w' ⟨y0,y1,y2,y3,y4,z0,z1,z2,z3⟩
   go_simp
 simp only [td]
 refine wpAnyH_ready (rs:=[2]) (by kernel_rfl) (by decide) (AllReadyH.cons rfl (fun K hK=>?_) AllReadyH.nil)
 rw [if_pos (by kernel_rfl)]
 go_simp
 refine (nothing_any W0.drew name k ref lists d).mono ?_
 rintro e W2 ⟨rfl,hb2⟩
 have hx2:Below W0.heap.size W0 W2:=(Below.refl _ W0).drew.trans hb2
 have HB2:=Lib.hid (HB.out.trans (hx2.mono HB.out.size))
 have HV2:=Lib.hid (HV1.out.later hx2)
 have ay0:=cell_stays hx2 y0
 have ay1:=cell_stays hx2 y1
 have ay2:=cell_stays hx2 y2
 have ay3:=cell_stays hx2 y3
 have ay4:=cell_stays hx2 y4
 have az0:=cell_stays hx2 z0
 have az1:=cell_stays hx2 z1
 have az2:=cell_stays hx2 z2
 have az3:=cell_stays hx2 z3
 refine hK.out _ _ ⟨ay0,ay1,ay2,ay3,ay4,az0,az1,az2,az3⟩ (fun hS=>?_)
 clear hx2 hb2 hK y0 y1 y2 y3 y4 z0 z1 z2 z3
 refine wpAnyH_ready (rs:=[3]) (by kernel_rfl) (by decide) (AllReadyH.cons rfl (fun K hK=>?_) AllReadyH.nil)
 rw [if_pos (by kernel_rfl)]
 go_simp
 refine (same_any _ W2 (numV d) _ _ HV2.out (isV_num W2 d HD.out)).mono ?_
 rintro e W3 ⟨⟨r,rfl,hiff⟩,hb3⟩
 have HB3:=Lib.hid (HB2.out.trans (hb3.mono HB2.out.size))
 have by0:=cell_stays hb3 ay0
 have by1:=cell_stays hb3 ay1
 have by2:=cell_stays hb3 ay2
 have by3:=cell_stays hb3 ay3
 have by4:=cell_stays hb3 ay4
 have bz0:=cell_stays hb3 az0
 have bz1:=cell_stays hb3 az1
 have bz2:=cell_stays hb3 az2
 have bz3:=cell_stays hb3 az3
 refine hK.out _ _ ⟨by0,by1,by2,by3,by4,bz0,bz1,bz2,bz3⟩ (fun hS=>?_)
 refine tk 4 (.bool r) hS ?_ ?_
 · rintro w' ⟨y0,y1,y2,y3,y4,z0,z1,z2,z3⟩
   go_simp
 simp only [td]
 refine wpAnyH_done (by kernel_rfl) ?_ _
 refine NoPanic.normal ?_
 simp only [Exit.then]
 go_wp2
 go_ret
 exact ⟨⟨r,rfl,hiff⟩,HB3.out⟩
end Go.Proofs.YtcfjjocmiheiaaaDoor
namespace Go.Proofs.YtcfjjocmiheiaaaDoor
open Go.ChangeShapes Go.WideShapes Go.ChangeAt Go.RowKit Go.Shelf
structure F5 where
 a:Value
 b:Value
 c:Value
 d:Value
 e:Value
def f5Cells (x:F5):List Value:=[x.a,x.b,x.c,x.d,x.e]
def f5s (l:List F5):List Value:=l.flatMap f5Cells
def mf5 (f:CFld):F5:=⟨.int .u8 f.kind,.int .i64 f.ref,.int .i64 f.lists,.int .i64 (inlC f.kind f.lists),.int .u64 f.dflt⟩
def zero5:F5:=⟨.int .u8 0,.int .i64 0,.int .i64 0,.int .i64 0,.int .u64 0⟩
theorem f5s_mf (l:List CFld):f5s (l.map mf5)=mfldsCells l:=by
 unfold f5s mfldsCells
 rw [List.flatMap_map]
 rfl
theorem f5s_len (l:List F5):(f5s l).length=l.length * 5:=by
 induction l with
 | nil=>rfl
 | cons a r ih =>
  have e:f5s (a::r)=f5Cells a++f5s r:=rfl
  have e4:(f5Cells a).length=5:=rfl
  rw [e,List.length_append,ih,e4,List.length_cons]
  omega
theorem f5s_at (l:List F5)(k:Nat)(hk:k<l.length)(j:Nat)(hj:j<5):(f5s l)[k * 5+j]?=(f5Cells l[k])[j]?:=flat_at f5Cells 5 (fun _=>rfl) l k hk j hj
theorem f5s_set:∀ (l:List F5) (i:Nat) (q:F5),i<l.length→(((((f5s l).set (i * 5) q.a).set (i * 5+1) q.b).set (i * 5+2) q.c).set (i * 5+3) q.d).set (i * 5+4) q.e=f5s (l.set i q)
 | [],_,_,h=>absurd h (Nat.not_lt_zero _)
 | p::l,0,q,_=>rfl
 | p::l,i+1,q,h=>by
  have ih:=f5s_set l i q (by simpa using h)
  show (((((p.a::p.b::p.c::p.d::p.e::f5s l).set ((i+1) * 5) q.a).set ((i+1) * 5+1) q.b).set ((i+1) * 5+2) q.c).set ((i+1) * 5+3) q.d).set ((i+1) * 5+4) q.e=p.a::p.b::p.c::p.d::p.e::f5s (l.set i q)
  rw [show (i+1) * 5=i * 5+5 by omega,show i * 5+5+1=i * 5+1+5 by omega,show i * 5+5+2=i * 5+2+5 by omega,show i * 5+5+3=i * 5+3+5 by omega,show i * 5+5+4=i * 5+4+5 by omega]
  simp only [List.set_cons_succ]
  rw [ih]
theorem fld_info:(Tryd.prog.info? 164).map (fun i=>(i.zero,i.size,i.bytes))=some (some (.agg #[.int .u8 0,.int .i64 0,.int .i64 0,.int .i64 0,.int .u64 0]),5,40):=by kernel_rfl
theorem made_f5s (n:Nat):madeCells (Value.agg #[.int .u8 0,.int .i64 0,.int .i64 0,.int .i64 0,.int .u64 0]).cells (n * 5)=(f5s (List.replicate n zero5)).toArray:=by
 apply Array.ext'
 apply List.ext_getElem?
 intro k
 have hrow:(f5s (List.replicate n zero5)).length=n * 5:=by rw [f5s_len,List.length_replicate]
 simp only [madeCells,Array.toList_map,Array.toList_range,List.getElem?_map]
 by_cases hk:k<n * 5
 · have h1:(f5s (List.replicate n zero5))[(k / 5) * 5+k % 5]?=_:=f5s_at (List.replicate n zero5) (k / 5) (by rw [List.length_replicate];omega) (k % 5) (by omega)
   rw [show (k / 5) * 5+k % 5=k by omega,List.getElem_replicate] at h1
   rw [List.getElem?_range hk,Option.map_some,h1]
   show some ((#[Value.int .u8 0,.int .i64 0,.int .i64 0,.int .i64 0,.int .u64 0])[k % 5]!)=_
   have h4:k % 5=0∨k % 5=1∨k % 5=2∨k % 5=3∨k % 5=4:=by omega
   rcases h4 with h|h|h|h|h<;>rw [h]<;>rfl
 · rw [List.getElem?_eq_none (by rw [List.length_range];omega),List.getElem?_eq_none (by rw [hrow];omega)]
   rfl
theorem make_flds (n:Nat)(hn:n≤1000000)(W:World):(Instr.makeSlice 161 (.int .i64 (n:Int)) (.int .i64 (n:Int))).run Tryd.prog W=.ok (.slice (some ⟨W.heap.size,0,none⟩) n n) (W.alloc (.cells (f5s (List.replicate n zero5)).toArray 164)):=by
 obtain ⟨i,hi,hz,hs,hb⟩:=info_parts fld_info
 have h:=run_make W 161 164 i (.agg #[.int .u8 0,.int .i64 0,.int .i64 0,.int .i64 0,.int .u64 0]) Tryd.underlying161 hi hz .i64 .i64 n n (by omega) (Int.le_refl _) (by rw [hb];omega) (by omega)
 rw [hs,Int.toNat_natCast,made_f5s] at h
 exact h
theorem inlC_inlP (f:SFld):inlP f=inlC f.kind (f.lists:Nat):=by
 unfold inlP inlC isNumP numTB
 by_cases h1:f.lists=0
 · by_cases h2:0<kSize f.kind<;>simp [h1,h2]
 · simp [h1]
theorem take_put (xs:List CFld)(j:Nat)(hj:j<xs.length):((xs.take j).map mf5++List.replicate (xs.length-j) zero5).set j (mf5 xs[j])=(xs.take (j+1)).map mf5++List.replicate (xs.length-(j+1)) zero5:=by
 have hl:((xs.take j).map mf5).length=j:=by rw [List.length_map,List.length_take];omega
 rw [List.set_append_right _ _ (by rw [hl];exact Nat.le_refl _),hl,Nat.sub_self,show xs.length-j=(xs.length-(j+1))+1 by omega,List.replicate_succ,List.set_cons_zero,List.take_succ_eq_append_getElem hj,List.map_append,List.append_assoc]
 rfl
theorem f5_put {W:World}{K j:Nat}{l:List F5}{t:TypeId}(h:W.heap[K]?=some (.cells (f5s l).toArray t (0,0)))(hj:j<l.length)(q:F5) :
  (((((W.setCell ⟨K,j * 5,none⟩ q.a).setCell ⟨K,j * 5+1,none⟩ q.b).setCell ⟨K,j * 5+2,none⟩ q.c).setCell ⟨K,j * 5+3,none⟩ q.d).setCell ⟨K,j * 5+4,none⟩ q.e).heap[K]?=some (.cells (f5s (l.set j q)).toArray t (0,0)):=by
 have h5:=blk_set (blk_set (blk_set (blk_set (blk_set h (j * 5) q.a) (j * 5+1) q.b) (j * 5+2) q.c) (j * 5+3) q.d) (j * 5+4) q.e
 rw [h5,←f5s_set l j q hj]
 simp
end Go.Proofs.YtcfjjocmiheiaaaDoor
