/-
  What the hand's Made makes is fit for its value. Conditions: those that each theorem names.
-/
import Derived.Test.YtpbaaedijfofnaaDoorPkV53
import Derived.Test.YtpbaaedijfofnaaDoorPkV6
import Derived.Test.YtpbaaedijfofnaaDoorPkV8
import Derived.Test.YtpbaaedijfofnaaDoorPkV12
import Derived.Test.YtpbaaedijfofnaaDoorPkV13
import Derived.Test.YtpbaaedijfofnaaDoorPkV19
import Derived.Deep.RegionHeld3
import Derived.Deep.Cut
namespace Go.Proofs.YtpbaaedijfofnaaDoor
open Go.ChangeShapes Go.WideShapes Go.ChangeAt Go.RowKit Go.Shelf
theorem u8_nums {x y:Int}(hx:0≤x∧x≤255)(hy:0≤y∧y≤255)(h:UInt8.ofNat x.toNat=UInt8.ofNat y.toNat):x=y:=by
 have h1:=congrArg UInt8.toNat h
 simp only [UInt8.toNat_ofNat'] at h1
 omega
theorem nums_inj:∀ (a b:List Int),(∀ z ∈ a,0≤z∧z≤255)→(∀ z ∈ b,0≤z∧z≤255)→(a.map fun n=>UInt8.ofNat n.toNat)=(b.map fun n=>UInt8.ofNat n.toNat)→a=b
 | [],[],_,_,_=>rfl
 | [],y::b,_,_,h=>by simp at h
 | x::a,[],_,_,h=>by simp at h
 | x::a,y::b,ha,hb,h=>by
  rw [List.map_cons,List.map_cons,List.cons.injEq] at h
  rw [u8_nums (ha x (by simp)) (hb y (by simp)) h.1,nums_inj a b (fun z hz=>ha z (by simp [hz])) (fun z hz=>hb z (by simp [hz])) h.2]
theorem mem_range {a:List Int}(h:∀ i,0≤a.getD i 0∧a.getD i 0≤255):∀ z ∈ a,0≤z∧z≤255:=fun z hz=>by
 obtain ⟨i,hi,rfl⟩:=List.getElem_of_mem hz
 have:=h i
 rwa [List.getD,List.getElem?_eq_getElem hi,Option.getD_some] at this
theorem strOf_inj {a b:List Int}(ha:∀ i,0≤a.getD i 0∧a.getD i 0≤255)(hb:∀ i,0≤b.getD i 0∧b.getD i 0≤255)(h:strOfNums a=strOfNums b):a=b:=by
 have h1:=congrArg (fun s:ByteArray=>s.data.toList) h
 exact nums_inj a b (mem_range ha) (mem_range hb) h1
theorem conv_bytes {W:World}{p:Option Addr}{zs:List Int}(h:Bytes W p zs)(c:Nat):(convert 22 9 (.slice p zs.length c)).run Tryd.prog W=.ok (.string (strOfNums zs)) W:=by
 by_cases hz:zs=[]
 · subst hz
   exact conv_zero W _ 5 _ Tryd.underlying22 Tryd.underlying5 Tryd.underlying9 p c
 · obtain ⟨b,off,rfl,_,hc⟩:=h.2 hz
   exact run_convert_bytes_arg W _ 5 Tryd.underlying22 Tryd.underlying5 b off zs.length c zs rfl hc _ Tryd.underlying9
theorem sb_yes {a b:ByteArray}(h:a=b):(a.toList==b.toList)=true:=by rw [h];exact beq_self_eq_true _
theorem sb_no {a b:ByteArray}(h:a≠b):(a.toList==b.toList)=false:=by
 rw [beq_eq_false_iff_ne]
 intro e
 rw [ByteArray.toList_eq,ByteArray.toList_eq] at e
 apply h
 obtain ⟨⟨a⟩⟩:=a
 obtain ⟨⟨b⟩⟩:=b
 have e2:a=b:=e
 rw [e2]
def SamePost (a b:PV)(e:Ending):Prop:=∃ r,e=.returned (.bool r)∧(r=true ↔ a=b)
def SameAt (a:PV):Prop:=∀ (W:World) (b:PV) (va vb:Value),IsV W a va→IsV W b vb →
    Calls Tryd.prog 25 #[va,vb] W fun e w'=>SamePost a b e∧Below W.heap.size W w'
def SmAt (W0:World)(ks ls:List PV)(i:Value)(W:World):Prop:=∃ j:Nat,j≤ks.length∧i=.int .i64 j∧Below W0.heap.size W0 W∧ks.take j=ls.take j
theorem ret_no {a b:PV}(h:a≠b){W w:World}(hb:Below w.heap.size w W):SamePost a b (.returned (.bool false))∧Below w.heap.size w W:=⟨⟨false,rfl,by simp [h]⟩,hb⟩
set_option maxRecDepth 100000 in
set_option maxHeartbeats 16000000 in
theorem same_step (n:Nat)(bs:List Int)(ks:List PV)(hh:Bool)(hnext:∀ q ∈ ks,SameAt q):SameAt (.mk n bs ks hh):=by
 intro w b va vb ha hb'
 obtain ⟨m,cs,ls,gg⟩:=b
 obtain ⟨ba,ka,bc,kc,rfl,hn,hby,hbl,hbm,hkl,hkm,hks⟩:=ha.form
 obtain ⟨bb,kb2,bd,kd,rfl,hm,hcy,hcl,hcm,hll,hlm,hls⟩:=hb'.form
 simp only [PV.num,PV.bytes,PV.kids,PV.has] at hn hby hbl hbm hkl hkm hks hm hcy hcl hcm hll hlm hls ⊢
 obtain ⟨hb,hq1,hq2⟩:=two_start w #[.int .u64 n,.slice ba bs.length bc,.slice ka ks.length kc,.bool hh] #[.int .u64 m,.slice bb cs.length bd,.slice kb2 ls.length kd,.bool gg] 36 36
 have HB:=Lib.hid hb
 have HQ1:=Lib.hid hq1
 have HQ2:=Lib.hid hq2
 have HKS:=Lib.hid (KidsAt.later (w:=w) (ks:=ks) (ka:=ka) hks hb)
 have HLS:=Lib.hid (KidsAt.later (w:=w) (ks:=ls) (ka:=kb2) hls hb)
 have HNX:=Lib.hid hnext
 have HNB:=Lib.hid (fun h:bs=cs=>congrArg strOfNums h)
 have HINJ:=Lib.hid (fun h:strOfNums bs=strOfNums cs=>strOf_inj hby.1 hcy.1 h)
 have k1:=conv_bytes (hby.below (Nat.le_refl _) hb) bc
 have k2:=conv_bytes (hcy.below (Nat.le_refl _) hb) bd
 clear hb hq1 hq2 hks hls hnext ha hb' hby hcy hbl hbm hcl hcm hkl hll
 go_enter Tryd.func25,Tryd.ntmps25
 go_upto_region 1 with (fail)
 generalize (w.alloc (.cells #[.int .u64 n,.slice ba bs.length bc,.slice ka ks.length kc,.bool hh] 36)).alloc (.cells #[.int .u64 m,.slice bb cs.length bd,.slice kb2 ls.length kd,.bool gg] 36)=W0 at *
 generalize w.heap.size+1=V at *
 obtain ⟨_,s0,s1,s2,s3⟩:=blk4p HQ1.out
 obtain ⟨_,v0,v1,v2,v3⟩:=blk4p HQ2.out
 generalize strOfNums bs=S1 at *
 generalize strOfNums cs=S2 at *
 by_cases h1:n=m
 case neg =>
  have t1:((n:Int) != (m:Int))=true:=by simp;omega
  have HN:Hid (PV.mk n bs ks hh≠.mk m cs ls gg):=Lib.hid (fun h=>h1 (congrArg PV.num h))
  clear h1
  go_wp2
  go_ret
  exact ret_no HN.out HB.out
 case pos =>
 have t1:((n:Int) != (m:Int))=false:=by simp;omega
 by_cases h2:S1=S2
 case neg =>
  have t2:=sb_no h2
  have HN:Hid (PV.mk n bs ks hh≠.mk m cs ls gg):=Lib.hid (fun h=>h2 (HNB.out (congrArg PV.bytes h)))
  clear h1 h2
  go_wp2
  go_ret
  exact ret_no HN.out HB.out
 case pos =>
 have t2:=sb_yes h2
 have HBS:=Lib.hid (HINJ.out h2)
 have HNM:=Lib.hid h1
 clear HINJ h1
 by_cases h3:hh=gg
 case neg =>
  have t3:(hh != gg)=true:=bne_iff_ne.2 h3
  have HN:Hid (PV.mk n bs ks hh≠.mk m cs ls gg):=Lib.hid (fun h=>h3 (congrArg PV.has h))
  clear h2 t3
  go_wp2
  go_ret
  exact ret_no HN.out HB.out
 case pos =>
 have t3:(hh != gg)=false:=by rw [h3];simp
 have HHG:=Lib.hid h3
 by_cases h4:ks.length=ls.length
 case neg =>
  have t4:((ks.length:Int) != (ls.length:Int))=true:=by simp;omega
  have HN:Hid (PV.mk n bs ks hh≠.mk m cs ls gg):=Lib.hid (fun h=>h4 (congrArg (fun v=>(PV.kids v).length) h))
  clear h4 h3 h2
  go_wp2
  go_ret
  exact ret_no HN.out HB.out
 case pos =>
 have t4:((ks.length:Int) != (ls.length:Int))=false:=by simp;omega
 have HLEN:=Lib.hid h4
 clear h4 h3 h2
 go_wp2_with fail
 go_loopw [5] (fun i wr=>SmAt W0 ks ls i wr) (fun i _=>ks.length-(intOf i).toNat)
 case atStart=>exact ⟨0,Nat.zero_le _,rfl,Below.refl _ _,rfl⟩
 case round =>
  obtain ⟨j,hj,rfl,hb,hall⟩:=hrel
  have HALL:=Lib.hid hall
  have HBW:=Lib.hid hb
  clear hall hb k1 k2 s0 s1 s2 s3 v0 v1 v2 v3 t1 t2 t3 t4
  obtain ⟨_,s0,s1,s2,s3⟩:=blk4p (blk_below HQ1.out HBW.out (blk_lt HQ1.out))
  obtain ⟨_,v0,v1,v2,v3⟩:=blk4p (blk_below HQ2.out HBW.out (blk_lt HQ2.out))
  clear s0 s1 s3 v0 v1 v3
  by_cases hjl:j<ks.length
  · have hji:(j:Int)<ks.length:=by omega
    have hji0:(0:Int)≤(j:Int):=by omega
    have hjm:j<ls.length:=by have:=HLEN.out;omega
    have hjmi:(j:Int)<ls.length:=by omega
    obtain ⟨kb,ko,u0,u1,u2,u3,rfl,c0,c1,c2,c3,hiv⟩:=HKS.out.later HBW.out j hjl
    obtain ⟨lb,lo,x0,x1,x2,x3,rfl,d0,d1,d2,d3,hjv⟩:=HLS.out.later HBW.out j hjm
    have HSM:=Lib.hid (fun W (hb:Below wr.heap.size wr W)=>HNX.out ks[j] (List.getElem_mem hjl) W ls[j] _ _ (hiv.later hb) (hjv.later hb))
    have HTK:Hid (ks.take (j+1)=ls.take (j+1) ↔ ks[j]=ls[j]):=Lib.hid (by
     rw [List.take_succ_eq_append_getElem hjl,List.take_succ_eq_append_getElem hjm,HALL.out]
     constructor
     · intro h
       have h2:=List.append_cancel_left h
       injection h2
     · intro h
       rw [h])
    have HNE:Hid (ks[j]≠ls[j]→PV.mk n bs ks hh≠.mk m cs ls gg):=Lib.hid (fun hne h=>by
     have h1:ks=ls:=congrArg PV.kids h
     subst h1
     exact hne rfl)
    generalize ks[j]=q at *
    generalize ls[j]=p at *
    clear hiv hjv
    go_upto_region 6 with (fail)
    refine wp_region_noPanic ?_
    refine wp_region_held_drew (S:=(fun w'=>w'.cell? ⟨w.heap.size,2,none⟩=some (.slice (some ⟨kb,ko,none⟩) ks.length kc)∧w'.cell? ⟨V,2,none⟩=some (.slice (some ⟨lb,lo,none⟩) ls.length kd)∧w'.cell? ⟨kb,ko+j * 4,none⟩=some u0∧w'.cell? ⟨kb,ko+j * 4+1,none⟩=some u1∧w'.cell? ⟨kb,ko+j * 4+2,none⟩=some u2∧w'.cell? ⟨kb,ko+j * 4+3,none⟩=some u3∧w'.cell? ⟨lb,lo+j * 4,none⟩=some x0∧w'.cell? ⟨lb,lo+j * 4+1,none⟩=some x1∧w'.cell? ⟨lb,lo+j * 4+2,none⟩=some x2∧w'.cell? ⟨lb,lo+j * 4+3,none⟩=some x3)) (by kernel_rfl) ⟨s2,v2,c0,c1,c2,c3,d0,d1,d2,d3⟩ ?_
    intro hS
    refine tk 0 (.pointer (some ⟨w.heap.size,2,none⟩)) hS ?_ ?_
    · rintro w' ⟨s2,v2,c0,c1,c2,c3,d0,d1,d2,d3⟩
      go_simp
    simp only [td]
    refine tk 1 (.slice (some ⟨kb,ko,none⟩) ks.length kc) hS ?_ ?_
    · rintro w' ⟨s2,v2,c0,c1,c2,c3,d0,d1,d2,d3⟩
      go_simp
    simp only [td]
    refine tk 2 (.int .i64 j) hS ?_ ?_
    · rintro w' ⟨s2,v2,c0,c1,c2,c3,d0,d1,d2,d3⟩
      go_simp
    simp only [td]
    refine tk 3 (.pointer (some ⟨kb,ko+j * 4,none⟩)) hS ?_ ?_
    · rintro w' ⟨s2,v2,c0,c1,c2,c3,d0,d1,d2,d3⟩
      go_simp
    simp only [td]
    refine tk 4 (.agg #[u0,u1,u2,u3]) hS ?_ ?_
    · rintro w' ⟨s2,v2,c0,c1,c2,c3,d0,d1,d2,d3⟩
      go_simp
    simp only [td]
    refine tk 5 (.pointer (some ⟨V,2,none⟩)) hS ?_ ?_
    · rintro w' ⟨s2,v2,c0,c1,c2,c3,d0,d1,d2,d3⟩
      go_simp
    simp only [td]
    refine tk 6 (.slice (some ⟨lb,lo,none⟩) ls.length kd) hS ?_ ?_
    · rintro w' ⟨s2,v2,c0,c1,c2,c3,d0,d1,d2,d3⟩
      go_simp
    simp only [td]
    refine tk 7 (.int .i64 j) hS ?_ ?_
    · rintro w' ⟨s2,v2,c0,c1,c2,c3,d0,d1,d2,d3⟩
      go_simp
    simp only [td]
    refine tk 8 (.pointer (some ⟨lb,lo+j * 4,none⟩)) hS ?_ ?_
    · rintro w' ⟨s2,v2,c0,c1,c2,c3,d0,d1,d2,d3⟩
      go_simp
    simp only [td]
    refine tk 9 (.agg #[x0,x1,x2,x3]) hS ?_ ?_
    · rintro w' ⟨s2,v2,c0,c1,c2,c3,d0,d1,d2,d3⟩
      go_simp
    simp only [td]
    refine wpAnyH_ready (rs:=[10]) (by kernel_rfl) (by decide) (AllReadyH.cons rfl (fun K hK=>?_) AllReadyH.nil)
    rw [if_pos (by kernel_rfl)]
    go_simp
    refine (HSM.out _ (Below.refl _ wr).drew).mono ?_
    rintro e W3 ⟨⟨r,rfl,hiff⟩,hb3⟩
    have hx:Below wr.heap.size wr W3:=(Below.refl _ wr).drew.trans hb3
    have HB3:=Lib.hid (HBW.out.trans (hx.mono HBW.out.size))
    have zs2:=cell_stays hx s2
    have zv2:=cell_stays hx v2
    have zc0:=cell_stays hx c0
    have zc1:=cell_stays hx c1
    have zc2:=cell_stays hx c2
    have zc3:=cell_stays hx c3
    have zd0:=cell_stays hx d0
    have zd1:=cell_stays hx d1
    have zd2:=cell_stays hx d2
    have zd3:=cell_stays hx d3
    refine hK.out _ _ ⟨zs2,zv2,zc0,zc1,zc2,zc3,zd0,zd1,zd2,zd3⟩ (fun hS=>?_)
    cases r with
    | false =>
     have HNQ:Hid (q≠p):=Lib.hid (fun h=>by have h2:=hiff.2 h;cases h2)
     clear hiff
     refine tk 11 (.bool true) hS ?_ ?_
     · rintro w' ⟨s2,v2,c0,c1,c2,c3,d0,d1,d2,d3⟩
       go_simp
     simp only [td]
     refine wpAnyH_done (by kernel_rfl) ?_ _
     refine NoPanic.normal ?_
     simp only [Exit.then]
     go_wp2
     go_ret
     exact ret_no (HNE.out HNQ.out) (HB.out.trans (HB3.out.mono HB.out.size))
    | true =>
     have HYQ:=Lib.hid (hiff.1 rfl)
     clear hiff
     refine tk 11 (.bool false) hS ?_ ?_
     · rintro w' ⟨s2,v2,c0,c1,c2,c3,d0,d1,d2,d3⟩
       go_simp
     simp only [td]
     refine wpAnyH_done (by kernel_rfl) ?_ _
     refine NoPanic.normal ?_
     simp only [Exit.then]
     go_wp2
     go_roundw
     case rel=>exact ⟨j+1,by omega,by go_num,HB3.out,HTK.out.2 HYQ.out⟩
     case measure=>simp [intOf];omega
  · obtain rfl:j=ks.length:=by omega
    have HEQ:Hid (PV.mk n bs ks hh=.mk m cs ls gg):=Lib.hid (by
     have h:=HALL.out
     rw [List.take_length,HLEN.out,List.take_length] at h
     rw [HNM.out,HBS.out,h,HHG.out])
    have hlt:¬(ks.length:Int)<ks.length:=Int.lt_irrefl _
    go_wp2
    go_ret
    exact ⟨⟨true,rfl,⟨fun _=>by have h:=HEQ.out;rw [HHG.out] at h;exact h,fun _=>rfl⟩⟩,HB.out.trans (HBW.out.mono HB.out.size)⟩
theorem same_any:(a:PV)→SameAt a
 | .mk n bs ks hh=>same_step n bs ks hh (fun q _=>same_any q)
end Go.Proofs.YtpbaaedijfofnaaDoor
namespace Go.Proofs.YtpbaaedijfofnaaDoor
open Go.RowKit
def isDefB (d:Nat)(v:PV):Bool:=v.num==d&&v.bytes.isEmpty&&v.kids.isEmpty && !v.has
theorem isDefB_iff (d:Nat)(v:PV):isDefB d v=true ↔ v=numV d:=by
 obtain ⟨n,bs,ks,h⟩:=v
 simp only [isDefB,numV,PV.num,PV.bytes,PV.kids,PV.has,Bool.and_eq_true,beq_iff_eq,List.isEmpty_iff,Bool.not_eq_true',PV.mk.injEq]
 exact ⟨fun ⟨⟨⟨a,b⟩,c⟩,d⟩=>⟨a,b,c,d⟩,fun ⟨a,b,c,d⟩=>⟨⟨⟨a,b⟩,c⟩,d⟩⟩
def padE (m:Nat)(zs:List Int):List Int:=zs++zeros ((m-zs.length % m) % m)
def putE (s:Nat)(n:Int)(zs:List Int):List Int:=zs++laidOver (zeros s) 0 n s
def setE (a s:Nat)(n:Int)(zs:List Int):List Int:=laidOver zs a n s
def seqE (f:Nat→List Int→List Int)(zs:List Int):Nat→List Int
 | 0=>zs
 | j+1=>f j (seqE f zs j)
abbrev NextE:=Nat→Int→Int→PV→Nat→List Int→List Int
def thereE (fs:List SFld)(vs:List PV):List Bool:=(List.range fs.length).map fun i => !isDefB (fs.getD i ⟨⟨#[]⟩,0,0,0,0⟩).dflt (vs.getD i (numV 0))
def lastE (th:List Bool):Nat→Nat
 | 0=>0
 | j+1=>if th.getD j false=true then j+1 else lastE th j
def recE (ss:List SRec)(ref:Int):SRec:=ss.getD ref.toNat ⟨⟨#[]⟩,[]⟩
def headE (fs:List SFld)(th:List Bool)(zs:List Int):List Int:=
 seqE (fun i=>putE 2 ((tabAll fs th 4).pl.getD i 0)) (putE 2 (tabAll fs th 4).size (putE 2 (4+2 * (lastE th fs.length:Int)) (padE 2 zs))) (lastE th fs.length)
def kidE (b:Bool)(f:List Int→List Int)(zs:List Int):List Int:=
 match b with
 | true=>f zs
 | false=>zs
def tableE (ss:List SRec)(nx:NextE)(ref:Int)(v:PV)(frm:Nat)(zs:List Int):List Int:=
 let fs:=(recE ss ref).fields
 let th:=thereE fs v.kids
 let st:=tabAll fs th 4
 let z1:=padE st.al.toNat (headE fs th zs)
 let z2:=putE 4 ((z1.length:Int)-((padE 2 zs).length:Int)) z1
 let z3:=setE frm 4 ((z1.length:Int)-frm) z2
 let z4:=z3++zeros (z1.length+st.size.toNat-z3.length)
 seqE (fun i=>kidE (th.getD i false) (nx (fs.getD i ⟨⟨#[]⟩,0,0,0,0⟩).kind (fs.getD i ⟨⟨#[]⟩,0,0,0,0⟩).ref (fs.getD i ⟨⟨#[]⟩,0,0,0,0⟩).lists (v.kids.getD i (numV 0)) (z1.length+(st.pl.getD i 0).toNat))) z4 fs.length
def listE (nx:NextE)(k:Nat)(ref lists:Int)(v:PV)(frm:Nat)(zs:List Int):List Int:=
 let step:=(stepZ k lists).toNat
 let z0:=padE 4 zs
 let z1:=if step=8∧(z0.length+4) % 8≠0 then z0++zeros 4 else z0
 let z2:=setE frm 4 ((z1.length:Int)-frm) (putE 4 (v.kids.length:Nat) z1)
 seqE (fun i=>nx k ref lists (v.kids.getD i (numV 0)) (z1.length+4+i * step)) (z2++zeros (step * v.kids.length)) v.kids.length
def bytesE (k:Nat)(v:PV)(at':Nat)(zs:List Int):List Int:=
 setE at' 4 (((padE 4 zs).length:Int)-at') (putE 4 (v.bytes.length:Nat) (padE 4 zs))++v.bytes++(if k=11 then [0] else [])
def valE (ss:List SRec)(nx:NextE)(k:Nat)(ref lists:Int)(v:PV)(at':Nat)(zs:List Int):List Int:=
 if numTB k lists=true then setE at' (kSize k).toNat v.num zs
 else if 0<lists then listE nx k ref (lists-1) v at' zs
 else if k=13 then tableE ss nx ref v at' zs
 else bytesE k v at' zs
def encE (ss:List SRec):Nat→NextE
 | 0=>fun _ _ _ _ _ zs=>zs
 | r+1=>valE ss (encE ss r)
def encZ (ss:List SRec)(room:Nat)(root:Int)(v:PV):List Int:=tableE ss (encE ss room) root v 0 (zeros 4)
theorem padE_le (m:Nat)(zs:List Int):zs.length≤(padE m zs).length:=by simp [padE]
theorem putE_length (s:Nat)(n:Int)(zs:List Int):(putE s n zs).length=zs.length+s:=by simp [putE,laidOver_length,zeros]
theorem setE_length (a s:Nat)(n:Int)(zs:List Int):(setE a s n zs).length=zs.length:=laidOver_length ..
theorem seqE_le {f:Nat→List Int→List Int}(hf:∀ i zs,zs.length≤(f i zs).length)(zs:List Int):∀ n,zs.length≤(seqE f zs n).length
 | 0=>Nat.le_refl _
 | n+1=>Nat.le_trans (seqE_le hf zs n) (hf n _)
theorem headE_le (fs:List SFld)(th:List Bool)(zs:List Int):zs.length≤(headE fs th zs).length:=by
 refine Nat.le_trans ?_ (seqE_le (fun i zs=>by rw [putE_length];omega) _ _)
 rw [putE_length,putE_length]
 have:=padE_le 2 zs
 omega
def Grows (nx:NextE):Prop:=∀ k ref lists v a zs,zs.length≤(nx k ref lists v a zs).length
theorem tableE_le {ss:List SRec}{nx:NextE}(hn:Grows nx)(ref:Int)(v:PV)(frm:Nat)(zs:List Int):zs.length≤(tableE ss nx ref v frm zs).length:=by
 refine Nat.le_trans ?_ (seqE_le (fun i zs=>by unfold kidE;split;exact hn ..;exact Nat.le_refl _) _ _)
 rw [List.length_append,setE_length,putE_length]
 have h1:=headE_le (recE ss ref).fields (thereE (recE ss ref).fields v.kids) zs
 have h2:=padE_le (tabAll (recE ss ref).fields (thereE (recE ss ref).fields v.kids) 4).al.toNat (headE (recE ss ref).fields (thereE (recE ss ref).fields v.kids) zs)
 omega
theorem listE_le {nx:NextE}(hn:Grows nx)(k:Nat)(ref lists:Int)(v:PV)(frm:Nat)(zs:List Int):zs.length≤(listE nx k ref lists v frm zs).length:=by
 refine Nat.le_trans ?_ (seqE_le (fun i zs=>hn ..) _ _)
 rw [List.length_append,setE_length,putE_length]
 have h1:=padE_le 4 zs
 split
 · rw [List.length_append];omega
 · omega
theorem bytesE_le (k:Nat)(v:PV)(a:Nat)(zs:List Int):zs.length≤(bytesE k v a zs).length:=by
 have h1:=padE_le 4 zs
 simp only [bytesE,List.length_append,setE_length,putE_length]
 omega
theorem encE_grows (ss:List SRec):∀ r,Grows (encE ss r)
 | 0=>fun _ _ _ _ _ _=>Nat.le_refl _
 | r+1=>fun k ref lists v a zs=>by
  show zs.length≤(valE ss (encE ss r) k ref lists v a zs).length
  unfold valE
  split
  · rw [setE_length];exact Nat.le_refl _
  · split
    · exact listE_le (encE_grows ss r) ..
    · split
      · exact tableE_le (encE_grows ss r) ..
      · exact bytesE_le ..
theorem encZ_four (ss:List SRec)(room:Nat)(root:Int)(v:PV):4≤(encZ ss room root v).length:=by
 have h:=tableE_le (ss:=ss) (encE_grows ss room) root v 0 (zeros 4)
 rw [show (zeros 4).length=4 from rfl] at h
 exact h
end Go.Proofs.YtpbaaedijfofnaaDoor
namespace Go.Proofs.YtpbaaedijfofnaaDoor
open Go.ChangeShapes Go.WideShapes Go.ChangeAt Go.RowKit
theorem zeroCells_u8 (m:Nat):Builtin.zeroCells (Value.int .u8 0).cells m=(u8s (zeros m)).toArray:=by
 apply Array.ext'
 simp only [Builtin.zeroCells]
 apply List.ext_getElem?
 intro i
 by_cases hi:i<m
 · simp [zeros,u8s,Value.cells,hi,Nat.mod_one]
 · simp [zeros,u8s,Value.cells,hi]
theorem u8s_append (a b:List Int):u8s (a++b)=u8s a++u8s b:=by simp [u8s]
section
variable {P:Program} (w:World)
def OwnV (w:World)(base:Nat)(e:TypeId)(A:Option Addr)(cap:Nat)(zs:List Int):Prop:=w.ownsRow base e 1 (.slice A zs.length cap) zs.length (u8s zs)
def rowOf (A:Option Addr):Option Nat:=A.map (·.block)
theorem ownBlock_rowOf (A:Option Addr)(n cap:Nat):(Value.slice A n cap).ownBlock=rowOf A:=by cases A<;>rfl
theorem run_append_zeros_grow (t tx ty e:TypeId)(i:TypeInfo)(ht:P.underlying t=some (.slice e))(hk:P.underlying tx=some (.int .i64))(hi:P.info? e=some i)(hz:i.zero=some (.int .u8 0))(hsize:i.size=1)(hby:i.bytes=1)
  (A:Option Addr) (n cap:Nat) (olds:List Value) (hold:(Builtin.firstCells 1 n (.slice A n cap)).run P w.drew=.ok olds.toArray w.drew) (m:Nat) (hg:cap<n+m) (hbd:n+m≤140737488355328) :
  (Builtin.append_ #[t,tx] ty #[.slice A n cap,.int .i64 m]).run P w=.ok (.slice (some ⟨w.heap.size,0,none⟩) (n+m) (grownCap w (n+m) cap e))
    (w.drew.alloc (.cells ((olds++u8s (zeros m)).toArray++Builtin.zeroCells (Value.int .u8 0).cells (grownCap w (n+m) cap e-(n+m))) e)):=by
 have hwr:IntKind.i64.wrap (m:Int)=m:=IntWalk.i64_in m (by omega)
 have hm48:¬(281474976710656:Int)<(m:Int):=by omega
 have hm0:¬(m:Int)<0:=by omega
 have hn:¬(n+m≤cap):=by omega
 have h63':¬(9223372036854775807<((n:Int)+(m:Int))):=by omega
 have hfit:=growslice_fits (old:=cap) (need:=n+m) (bytes:=1) hg (by omega)
 have h48':¬(281474976710656<Builtin.nextslicecap (n+m) cap):=by omega
 have hzz:=zeroCells_u8 m
 by_cases h0:m=0
 · subst h0
   have hw0:IntKind.i64.wrap 0=0:=IntWalk.i64_in 0 (by decide)
   rw [Nat.add_zero] at hg
   have hn':¬n≤cap:=by omega
   have h63'':¬(9223372036854775807<(n:Int)):=by omega
   rw [Nat.add_zero] at h48'
   simp [Builtin.append_,run_underlying ht,run_underlying hk,sizeOf,typeInfo,zeroValue,hi,hz,hsize,hby,hw0,asInt,asIntOf,hn',h63'',h48',Question.forced,hold,newRow,grownCap]
   have hu:olds++u8s (zeros 0)=olds:=by simp [u8s,zeros]
   rw [hu]
 · simp [Builtin.append_,run_underlying ht,run_underlying hk,sizeOf,typeInfo,zeroValue,hi,hz,hsize,hby,hwr,asInt,asIntOf,hm48,hm0,hn,h63',h48',h0,Question.forced,hold,newRow,grownCap,hzz]
   congr 2
   apply Array.ext'
   simp [List.append_assoc]
theorem run_append_zeros_room (t tx ty e:TypeId)(i:TypeInfo)(ht:P.underlying t=some (.slice e))(hk:P.underlying tx=some (.int .i64))(hi:P.info? e=some i)(hz:i.zero=some (.int .u8 0))(hsize:i.size=1)(hby:i.bytes=1)
  (g n cap:Nat) (m:Nat) (w':World) (hroom:n+m≤cap) (hbd:n+m≤140737488355328) (hst:(storeCells (⟨g,n,none⟩:Addr) (u8s (zeros m))).run P w=.ok () w') :
  (Builtin.append_ #[t,tx] ty #[.slice (some ⟨g,0,none⟩) n cap,.int .i64 m]).run P w=.ok (.slice (some ⟨g,0,none⟩) (n+m) cap) w':=by
 have hwr:IntKind.i64.wrap (m:Int)=m:=IntWalk.i64_in m (by omega)
 have hm48:¬(281474976710656:Int)<(m:Int):=by omega
 have hm0:¬(m:Int)<0:=by omega
 have hzz:=zeroCells_u8 m
 by_cases h0:m=0
 · subst h0
   have hw0:IntKind.i64.wrap 0=0:=IntWalk.i64_in 0 (by decide)
   rw [Nat.add_zero] at hroom
   have hu:u8s (zeros 0)=[]:=rfl
   rw [hu] at hst
   simp [Builtin.append_,run_underlying ht,run_underlying hk,sizeOf,typeInfo,zeroValue,hi,hz,hsize,hby,hw0,asInt,asIntOf,hroom,Addr.add_lit,hst]
 · simp [Builtin.append_,run_underlying ht,run_underlying hk,sizeOf,typeInfo,zeroValue,hi,hz,hsize,hby,hwr,asInt,asIntOf,hm48,hm0,hroom,h0,hzz,Addr.add_lit,hst]
theorem run_append_zeros (base:Nat)(t tx ty e:TypeId)(i:TypeInfo)(ht:P.underlying t=some (.slice e))(hk:P.underlying tx=some (.int .i64))(hi:P.info? e=some i)(hz:i.zero=some (.int .u8 0))(hsize:i.size=1)(hby:i.bytes=1)
  (A:Option Addr) (cap:Nat) (zs:List Int) (hown:OwnV w base e A cap zs) (m:Nat) (hbd:zs.length+m≤140737488355328) (hbase:base≤w.heap.size) :
  ∃ A' cap' w',(Builtin.append_ #[t,tx] ty #[.slice A zs.length cap,.int .i64 m]).run P w=.ok (.slice A' (zs.length+m) cap') w'∧OwnV w' base e A' cap' (zs++zeros m)∧w.grownBy w' (rowOf A)∧(rowOf A'=rowOf A∨rowOf A'=some w.heap.size):=by
 have hnl:(u8s (zeros m)).length=m:=by simp [u8s,zeros]
 have hll:(zs++zeros m).length=zs.length+m:=by simp [zeros]
 have hlen:(u8s (zs++zeros m)).length=(zs.length+m) * 1:=by simp [u8s,zeros]
 have hoz:(u8s zs).length=zs.length:=by simp [u8s]
 have grown:∀ (old:Nat),old<zs.length+m→∀ (row:Option Nat),
   OwnV (w.drew.alloc (.cells ((u8s zs++u8s (zeros m)).toArray++Builtin.zeroCells (Value.int .u8 0).cells (grownCap w (zs.length+m) old e-(zs.length+m))) e)) base e (some ⟨w.heap.size,0,none⟩) (grownCap w (zs.length+m) old e) (zs++zeros m) ∧
   w.grownBy (w.drew.alloc (.cells ((u8s zs++u8s (zeros m)).toArray++Builtin.zeroCells (Value.int .u8 0).cells (grownCap w (zs.length+m) old e-(zs.length+m))) e)) row:=by
  intro old ho row
  have hge:=grownCap_ge w (zs.length+m) old e
  have hcm:grownCap w (zs.length+m) old e≤maxLen:=grownCap_le_maxLen w (zs.length+m) old e (by unfold maxLen;omega)
  refine ⟨?_,⟨rfl,rfl,rfl,by simp,fun k hk _=>Below.heap_alloc w.drew _ k hk⟩⟩
  unfold OwnV
  rw [hll]
  refine ⟨hlen,.inr ⟨w.heap.size,_,_,rfl,hbase,heap_alloc_new w.drew _,hge,hcm,?_,?_⟩⟩
  · simp only [Array.size_append,List.size_toArray,size_zeroCells,List.length_append,hoz,hnl,Value.cells]
    simp
    omega
  · rw [u8s_append]
    simp only [Array.toList_append]
    rw [←hlen,u8s_append]
    exact List.take_left
 have hown0:=hown
 unfold OwnV at hown
 rcases hown.2 with ⟨hv,hn⟩|⟨g,cap0,cur,hv,hbg,hg,hnc,hcm,hcs,htake⟩
 · injection hv with h1 h2 h3
   subst h1 h3
   have hzs:zs=[]:=List.eq_nil_of_length_eq_zero hn
   subst hzs
   by_cases hm:m=0
   · subst hm
     refine ⟨none,0,w,?_,by simpa [zeros] using hown0,⟨rfl,rfl,rfl,Nat.le_refl _,fun _ _ _=>rfl⟩,.inl rfl⟩
     have hw0:IntKind.i64.wrap 0=0:=IntWalk.i64_in 0 (by decide)
     simp [Builtin.append_,run_underlying ht,run_underlying hk,sizeOf,typeInfo,hi,hby,hw0,asInt,asIntOf]
   · have hr:=run_append_zeros_grow (P:=P) w t tx ty e i ht hk hi hz hsize hby none 0 0 [] (run_firstCells_none w.drew 1 0 0 0) m (by omega) (by simpa using hbd)
     have hgr:=grown 0 (by simp;omega) (rowOf none)
     exact ⟨_,_,_,hr,hgr.1,hgr.2,.inr rfl⟩
 · injection hv with h1 h2 h3
   subst h1 h3
   by_cases hroom:zs.length+m≤cap
   · have hfit:zs.length * 1+(u8s (zeros m)).length≤cur.size:=by rw [hnl,hcs];omega
     have hst:=run_storeCells_at P g zs.length e (u8s (zeros m)) 0 cur w hg (by simpa using hfit) (u8s_one _)
     simp only [Nat.add_zero] at hst
     have hr:=run_append_zeros_room (P:=P) w t tx ty e i ht hk hi hz hsize hby g zs.length cap m _ hroom hbd hst
     refine ⟨_,_,_,hr,?_,⟨rfl,rfl,rfl,by simp,fun k _ hk=>setRow_other w g k _ (fun e=>hk (by simp [rowOf,e]))⟩,.inl rfl⟩
     unfold OwnV
     rw [hll]
     refine ⟨hlen,.inr ⟨g,cap,_,rfl,hbg,setRow_heap w g cur _ e _ hg,hroom,hcm,?_,?_⟩⟩
     · simp only [List.size_toArray,List.length_append,List.length_take,List.length_drop,Array.length_toList]
       omega
     · rw [Nat.mul_one] at htake
       rw [htake,←hlen,u8s_append]
       exact List.take_left
   · have holds:∀ j u,(u8s zs)[j]?=some u→w.cell? ((⟨g,0,none⟩:Addr).add j)=some u:=hown.cells (g:=g) rfl
     have hf:=run_firstCells_some (P:=P) w.drew 1 zs.length ⟨g,0,none⟩ zs.length cap (u8s zs) hown.1 (by simpa using holds)
     have hr:=run_append_zeros_grow (P:=P) w t tx ty e i ht hk hi hz hsize hby (some ⟨g,0,none⟩) zs.length cap (u8s zs) hf m (by omega) hbd
     have hgr:=grown cap (by omega) (rowOf (some ⟨g,0,none⟩))
     exact ⟨_,_,_,hr,hgr.1,hgr.2,.inr rfl⟩
end
end Go.Proofs.YtpbaaedijfofnaaDoor
namespace Go.Proofs.YtpbaaedijfofnaaDoor
open Go.ChangeShapes Go.WideShapes Go.ChangeAt Go.RowKit Go.Shelf
theorem made_schM {p:Plan}(hok:planOk p)(hn:PlanNums p){ss:List (SRec × Value)}{es:List (SCho × Value)}(hss:ss.map Prod.fst=recsP p p.structs.length)(hes:es.map Prod.fst=chosP p p.enums.length):SchM ss (es.map Prod.fst):=by
 have hl:ss.length=p.structs.length:=by
  have:=congrArg List.length hss
  rwa [List.length_map,recsP_length] at this
 have hel:(es.map Prod.fst).length=p.enums.length:=by rw [hes,chosP_length]
 refine ⟨by rw [hl];exact hok.2.1,fun x hx=>?_⟩
 have h1:x.1 ∈ recsP p p.structs.length:=by rw [←hss];exact List.mem_map.2 ⟨x,hx,rfl⟩
 obtain ⟨i,hi,h2⟩:=List.mem_map.1 h1
 have hi':i<p.structs.length:=List.mem_range.1 hi
 have hgl:p.structs.getD i []=p.structs[i]:=by rw [List.getD,List.getElem?_eq_getElem hi',Option.getD_some]
 have hlen:x.1.fields.length=(p.structs.getD i []).length:=by
  rw [←h2]
  exact fldsP_length _ _ _ _
 refine ⟨by rw [hlen,hgl];exact (hok.2.2.2 _ (List.getElem_mem hi')).2,fun f hf=>?_⟩
 rw [←h2] at hf
 obtain ⟨k,hk,rfl⟩:=List.mem_map.1 (show f ∈ (List.range _).map _ from hf)
 have hk':=List.mem_range.1 hk
 generalize hq:(p.structs.getD i []).getD k noPF=q
 have hqd:(q.dflt:Int)≤18446744073709551615:=by rw [←hq];exact hn i hi' k hk'
 have hkl:=kindP_le p i q
 have hen:kindP p i q=10→refP p i q<(es.map Prod.fst).length∧1≤cntE (es.map Prod.fst) (refP p i q)∧cntE (es.map Prod.fst) (refP p i q)=cntOf p (refP p i q):=fun h=>by
  obtain ⟨h0,hr⟩:=kind_enum h
  have hlt:refP p i q<p.enums.length:=by rw [hr];exact Nat.mod_lt _ (by omega)
  have hc:cntE (es.map Prod.fst) (refP p i q)=cntOf p (refP p i q):=by
   unfold cntE
   rw [hes,List.getD]
   unfold chosP
   rw [List.getElem?_map,List.getElem?_range hlt]
   simp [choP]
  exact ⟨by rw [hel];exact hlt,by rw [hc];unfold cntOf;omega,hc⟩
 have hty:TyM ss.length (es.map Prod.fst) (kindP p i q) (refP p i q) (q.lists % 4):=⟨hkl.1,hkl.2,by omega,fun h=>⟨(hen h).1,(hen h).2.1⟩,fun h=>by rw [hl];exact refP_struct hi' h⟩
 refine ⟨hty,?_,fun h0 h10=>?_⟩
 · show ((if _ then numP _ _ _ else 0:Nat):Int)≤_
   split
   · exact numP_max _ _ _ hqd
   · decide
 · have h0':q.lists % 4=0:=h0
   have hin:isNumP (kindP p i q) (q.lists % 4)=true:=by
    unfold isNumP
    rw [h0',decide_eq_true (k_size hkl.1 h10)]
    rfl
   show fitsT (es.map Prod.fst) (kindP p i q) (refP p i q) 0 (if isNumP (kindP p i q) (q.lists % 4)=true then numP (cntOf p (refP p i q)) (kindP p i q) q.dflt else 0)=true
   rw [if_pos hin]
   have hnt:NumTy (es.map Prod.fst) (kindP p i q) (refP p i q):=⟨hkl.1,h10,fun h=>⟨(hen h).1,(hen h).2.1⟩⟩
   have hf:=num_fits hnt (n:=q.dflt) (by omega)
   by_cases hk10:kindP p i q=10
   · rwa [(hen hk10).2.2] at hf
   · have he:numP (cntOf p (refP p i q)) (kindP p i q) q.dflt=numP (cntE (es.map Prod.fst) (refP p i q)) (kindP p i q) q.dflt:=by
      unfold numP
      rw [if_neg hk10,if_neg hk10]
     rw [he]
     exact hf
end Go.Proofs.YtpbaaedijfofnaaDoor
