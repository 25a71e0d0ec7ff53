/-
  The document's writer of tables, a table: where its fields stand; a row of truths that is made and written. Conditions: those that each theorem names.
-/
import Derived.Test.YtpbaaedijfofnaaDoorPkV53
import Derived.Test.YtpbaaedijfofnaaDoorPkV6
import Derived.Test.YtpbaaedijfofnaaDoorPkV8
import Derived.Test.YtpbaaedijfofnaaDoorPkV12
import Derived.Test.YtpbaaedijfofnaaDoorPkV21
import Derived.Test.YtpbaaedijfofnaaDoorPkV37
import Derived.Deep.Cut
namespace Go.Proofs.YtpbaaedijfofnaaDoor
open Go.ChangeShapes Go.WideShapes Go.ChangeAt Go.RowKit Go.Shelf
structure RTM (w:World)(nm fv:Value)(pl:List Int)(W:World):Prop where
 bel:Below w.heap.size w W
 rc:W.heap[w.heap.size]?=some (.cells #[nm,fv] 67 (0,0))
 row:W.heap[w.heap.size+1]?=some (.cells (i64Cells pl).toArray 3 (0,0))
theorem RTM.later {w W W':World}{nm fv:Value}{pl:List Int}(h:RTM w nm fv pl W)(hb:Below W.heap.size W W'):RTM w nm fv pl W':=
 ⟨h.bel.trans (hb.mono h.bel.size),blk_below h.rc hb (blk_lt h.rc),blk_below h.row hb (blk_lt h.row)⟩
theorem RTM.put {w W:World}{nm fv:Value}{pl:List Int}(h:RTM w nm fv pl W)(k:Nat)(z:Int):RTM w nm fv (pl.set k z) (W.setCell ⟨w.heap.size+1,k,none⟩ (.int .i64 z)):=
 ⟨h.bel.setCell (p:=⟨w.heap.size+1,k,none⟩) (by show w.heap.size≤w.heap.size+1;omega) _,blk_set_ne h.rc (by show w.heap.size+1≠_;omega) _,(blk_set h.row k _).trans (by rw [i64_set])⟩
theorem RTM.start (w:World)(nm fv:Value)(n:Nat):RTM w nm fv (List.replicate n 0) ((w.alloc (.cells #[nm,fv] 67)).alloc (.cells (i64Cells (List.replicate n 0)).toArray 3)):=by
 refine ⟨((Below.refl _ _).alloc (Nat.le_refl _) _).alloc (by simp) _,?_,?_⟩
 · exact blk_alloc (heap_alloc_new w _) _
 · have h:=heap_alloc_new (w.alloc (.cells #[nm,fv] 67)) (.cells (i64Cells (List.replicate n 0)).toArray 3)
   rw [World.size_alloc] at h
   exact h
def zOf (j:Nat):Int:=[(8:Int),4,2,1,0].getD j 0
theorem zOf_in (j:Nat)(h:j<4):zOf j=inlinesL.getD j 0∧(zOf j).tdiv 2=zOf (j+1)∧0<zOf j∧(zOf (j+1)).toNat<(zOf j).toNat:=by
 have:j=0∨j=1∨j=2∨j=3:=by omega
 rcases this with rfl|rfl|rfl|rfl<;>decide
def RTOut (w:World)(nm fv:Value)(fs:List SFld)(th:List Bool)(b a z:Value)(W:World):Prop:=
 ∃ j:Nat,j≤4∧z=.int .i64 (zOf j)∧b=.int .i64 (tabAll fs th j).size∧a=.int .i64 (tabAll fs th j).al∧RTM w nm fv (tabAll fs th j).pl W
def RTIn (w:World)(nm fv:Value)(fs:List SFld)(th:List Bool)(wd:Int)(s:TabSt)(b a i:Value)(W:World):Prop:=
 ∃ k:Nat,k≤fs.length∧i=.int .i64 k∧b=.int .i64 (tabUp wd fs th s k).size∧a=.int .i64 (tabUp wd fs th s k).al∧RTM w nm fv (tabUp wd fs th s k).pl W
def RTUp (W0:World)(n wd:Int)(b:Value)(W:World):Prop:=∃ c:Int,n≤c∧c≤multI n wd∧b=.int .i64 c∧W0=W
def RTPost (fs:List SFld)(th:List Bool)(w:World)(e:Ending)(w':World):Prop:=
 ∃ v,e=.returned (.tuple #[v,.int .i64 (tabAll fs th 4).size,.int .i64 (tabAll fs th 4).al])∧w'.ownsRow w.heap.size 3 1 v (tabAll fs th 4).pl.length (i64Cells (tabAll fs th 4).pl)∧Below w.heap.size w w'
set_option maxRecDepth 100000 in
set_option maxHeartbeats 8000000 in
theorem rtabled_any (w:World)(nm:ByteArray)(fs:List SFld)(fv:Value)(base:Nat)(h:w.ownsRow base 64 5 fv fs.length (sfldsCells fs))(hn:fs.length≤1000)(hkd:∀ f ∈ fs,f.kind≤255)(th:List Bool)(tv:Value)(tbase:Nat)(ht:w.ownsRow tbase 4 1 tv th.length (boolCells th))(hth:th.length=fs.length) :
  Calls Tryd.prog 73 #[.agg #[.string nm,fv],tv] w (RTPost fs th w):=by
 obtain ⟨fa,fc,rfl⟩:=ownsRow_form h
 obtain ⟨ta,tc,rfl⟩:=ownsRow_form ht
 have HR:=Lib.hid h
 have HTH:=Lib.hid ht
 have HTL:=Lib.hid hth
 have HKD:=Lib.hid hkd
 have hfew:=row_few h
 have hfew2:=row_few ht
 have hmk:=make_ints fs.length (by omega)
 clear h ht hth hkd
 go_enter Tryd.func73,Tryd.ntmps73
 go_upto_region 3 with (fail)
 have HM:=Lib.hid (RTM.start w (.string nm) (.slice fa fs.length fc) fs.length)
 generalize (w.alloc (.cells #[.string nm,.slice fa fs.length fc] 67)).alloc (.cells (i64Cells (List.replicate fs.length 0)).toArray 3)=W0 at *
 clear hmk
 go_wp2_with fail
 go_loopw [8,9,10] (fun b a z wr=>RTOut w (.string nm) (.slice fa fs.length fc) fs th b a z wr) (fun _ _ z _=>(intOf z).toNat)
 case atStart=>exact ⟨0,Nat.zero_le _,rfl,rfl,rfl,HM.out⟩
 case round =>
  obtain ⟨j,hj,rfl,rfl,rfl,hm⟩:=hrel
  have HM1:=Lib.hid hm
  clear hm HM
  obtain ⟨hsl,hsz0,hsz1,hal0,hal1⟩:=tabAll_facts fs th j (by omega)
  have hs1:(tabAll fs th j).size≤60004:=by
   have:fs.length * j≤1000 * 4:=Nat.mul_le_mul hn hj
   omega
  clear hsz1
  by_cases hj4:j<4
  · obtain ⟨hzi,hzd,hz0,hzm⟩:=zOf_in j hj4
    have hwd:=inlines_is j hj4
    rw [←hzi] at hwd
    have HWA:Hid (tabAll fs th (j+1)=tabUp (zOf j) fs th (tabAll fs th j) fs.length):=Lib.hid (by rw [hzi];rfl)
    have HZN:Hid ((intOf (.int .i64 (zOf (j+1)))).toNat<(intOf (.int .i64 (zOf j))).toNat):=Lib.hid hzm
    clear hzi hzm
    generalize hzj:zOf j=wd at *
    have HZJ:=Lib.hid hzj
    generalize hzj2:zOf (j+1)=wd2 at *
    have HZJ2:=Lib.hid hzj2
    generalize tabAll fs th j=s at *
    clear hzj hzj2
    go_wp2_with fail
    go_loopw [8,9,11] (fun b a i wq=>RTIn w (.string nm) (.slice fa fs.length fc) fs th wd s b a i wq) (fun _ _ i _=>fs.length-(intOf i).toNat)
    case atStart=>exact ⟨0,Nat.zero_le _,rfl,rfl,rfl,HM1.out⟩
    case round =>
     obtain ⟨k,hk,rfl,rfl,rfl,hm⟩:=hrel
     have HM2:=Lib.hid hm
     obtain ⟨hpl,hp4,hp5,ha4,ha8⟩:=tabUp_facts hwd fs th s hsz0 hal0 hal1 k
     clear hm
     obtain ⟨hBl,r0,r1,_⟩:=blk2 HM2.out.rc
     by_cases hkl:k<fs.length
     · have hki:(k:Int)<fs.length:=by omega
       have hkt:k<th.length:=by rw [HTL.out];exact hkl
       have hkti:(k:Int)<th.length:=by omega
       have hki0:(0:Int)≤(k:Int):=by omega
       obtain ⟨g,cc,hv,hcc,hg,hcell⟩:=row_el sfldCells 5 (fun _=>rfl) (row_keep HM2.out.bel HR.out) k hkl
       obtain ⟨rfl,rfl⟩:=slice_inj hv
       obtain ⟨g3,c3,hv3,_,hg3,t0⟩:=row_bool (row_keep HM2.out.bel HTH.out) k hkt
       obtain ⟨rfl,rfl⟩:=slice_inj hv3
       have x0:wr.cell? ⟨g,k * 5,none⟩=some (.string fs[k].name):=hcell 0 (by omega)
       have x1:wr.cell? ⟨g,k * 5+1,none⟩=some (.int .u8 (fs[k].kind:Nat)):=hcell 1 (by omega)
       have x2:wr.cell? ⟨g,k * 5+2,none⟩=some (.int .i64 (fs[k].ref:Nat)):=hcell 2 (by omega)
       have x3:wr.cell? ⟨g,k * 5+3,none⟩=some (.int .i64 (fs[k].lists:Nat)):=hcell 3 (by omega)
       have x4:wr.cell? ⟨g,k * 5+4,none⟩=some (.int .u64 (fs[k].dflt:Nat)):=hcell 4 (by omega)
       have HST:=Lib.hid (tabUp_step (z:=wd) (s:=s) hkl hkt)
       have hkb:=HKD.out fs[k] (List.getElem_mem hkl)
       clear hcell hv hv3
       generalize fs[k]=f at *
       generalize th[k]=b at *
       obtain ⟨fn,fk,fr,fl,fd⟩:=f
       simp only at x0 x1 x2 x3 x4 hkb
       generalize tabUp wd fs th s k=st at *
       have hmb:=mult_bd hwd (show 0≤st.size by omega)
       have hib:=inlP_bd ⟨fn,fk,fr,fl,fd⟩
       cases b
       · have HE:=Lib.hid (HST.out.trans (tabStep_no (.inl rfl)))
         clear HST
         go_wp2
         go_roundw
         case rel=>exact ⟨k+1,hkl,by go_num,by rw [HE.out],by rw [HE.out],by rw [HE.out];exact HM2.out⟩
         case measure=>simp [intOf];omega
       · go_wp2_with fail
         refine (rinline_any fn fk fr fl fd wr hkb).mono ?_
         rintro e W2 ⟨rfl,hb2⟩
         have HM4:=Lib.hid (HM2.out.later hb2)
         clear hb2 x0 x1 x2 x3 x4 t0 HM2 r0 r1
         by_cases hiw:inlP ⟨fn,fk,fr,fl,fd⟩=wd
         · have HE:=Lib.hid (HST.out.trans (tabStep_yes rfl hiw))
           rw [hiw]
           clear HST hiw hib
           go_wp2_with fail
           have hm0:multI st.size wd≤100000:=by omega
           go_loopw [8] (fun b wq=>RTUp W2 st.size wd b wq) (fun b _=>(multI st.size wd-intOf b).toNat)
           case atStart=>exact ⟨st.size,Int.le_refl _,hmb.1,rfl,rfl⟩
           case round =>
            obtain ⟨c,hc1,hc2,rfl,hw⟩:=hrel
            obtain rfl:W2=wr:=hw
            have hwd0:wd≠0:=by omega
            have hct:c.tmod wd=c % wd:=Int.tmod_eq_emod_of_nonneg (by omega)
            by_cases hcm:c % wd=0
            · have hce:=mult_end hwd hc1 hc2 hcm
              have tb:(c % wd != 0)=false:=by simpa using hcm
              have HP:=Lib.hid (HM4.out.put k c)
              have c0:W2.cell? ⟨w.heap.size+1,k,none⟩=some (.int .i64 (st.pl.getD k 0)):=by
               rw [blk_cell HM4.out.row k,i64Cells_map]
               simp [List.getD,hpl,hsl,hkl]
              have f0:=blk_frozen HM4.out.row k
              have k1:=IntWalk.i64_in (c+wd) (by omega)
              have HCE:=Lib.hid hce
              obtain ⟨hBl2,r0,r1,_⟩:=blk2 HP.out.rc
              generalize st.pl.getD k 0=old at *
              clear hcm hce hc1 hc2
              by_cases hal:st.al<wd
              · have HMX:Hid (max st.al wd=wd):=Lib.hid (by omega)
                go_wp2
                go_roundw
                case rel=>exact ⟨k+1,hkl,by go_num,by rw [HE.out,HCE.out],by rw [HE.out];simp only;rw [HMX.out],by rw [HE.out,←HCE.out];exact HP.out⟩
                case measure=>simp [intOf];omega
              · have HMX:Hid (max st.al wd=st.al):=Lib.hid (by omega)
                go_wp2
                go_roundw
                case rel=>exact ⟨k+1,hkl,by go_num,by rw [HE.out,HCE.out],by rw [HE.out];simp only;rw [HMX.out],by rw [HE.out,←HCE.out];exact HP.out⟩
                case measure=>simp [intOf];omega
            · have hcu:=mult_up hwd hc1 hc2 hcm
              have tb:(c % wd != 0)=true:=by simpa using hcm
              have k1:=IntWalk.i64_in (c+1) (by omega)
              clear hcm
              go_wp2
              go_roundw
              case rel=>exact ⟨c+1,by omega,hcu,by go_num,rfl⟩
              case measure=>simp [intOf];omega
         · have HE:=Lib.hid (HST.out.trans (tabStep_no (.inr hiw)))
           have tb:(inlP ⟨fn,fk,fr,fl,fd⟩==wd)=false:=by simpa using hiw
           have hrc:=HM4.out.rc
           obtain ⟨hBl2,r0,r1,_⟩:=blk2 hrc
           generalize inlP ⟨fn,fk,fr,fl,fd⟩=q at *
           clear HST hrc
           go_wp2
           go_roundw
           case rel=>exact ⟨k+1,hkl,by go_num,by rw [HE.out],by rw [HE.out],by rw [HE.out];exact HM4.out⟩
           case measure=>simp [intOf];omega
     · obtain rfl:k=fs.length:=by omega
       have HE:=Lib.hid HWA.out
       have hdv:wd / 2=wd2:=by rw [←hzd];exact (Int.tdiv_eq_ediv_of_nonneg (by omega)).symm
       go_wp2
       exact ⟨⟨j+1,by omega,by rw [HZJ2.out],by rw [HE.out],by rw [HE.out],by rw [HE.out];exact HM2.out⟩,HZN.out⟩
  · have hze:j=4:=by omega
    have HEQ:Hid (tabAll fs th 4=tabAll fs th j):=Lib.hid (by rw [hze])
    have hz0:zOf j=0:=by rw [hze];rfl
    rw [hz0]
    clear hze hj hj4
    generalize tabAll fs th j=st at *
    have hrow:wr.ownsRow w.heap.size 3 1 (.slice (some ⟨w.heap.size+1,0,none⟩) fs.length fs.length) fs.length (i64Cells st.pl):=by
     refine ⟨by rw [i64Cells_length,hsl];omega,.inr ⟨w.heap.size+1,fs.length,_,rfl,by omega,HM1.out.row,Nat.le_refl _,by unfold maxLen;omega,by simp [i64Cells_length,hsl],?_⟩⟩
     rw [List.toList_toArray,List.take_of_length_le (by rw [i64Cells_length,hsl];omega)]
    have HROW:=Lib.hid hrow
    clear hrow hz0
    go_wp2
    refine bodyPost_ret (v:=.tuple #[.slice (some ⟨w.heap.size+1,0,none⟩) fs.length fs.length,.int .i64 st.size,.int .i64 st.al]) (by simp [results,Tryd.results73,go_sem]) rfl ?_
    unfold RTPost
    rw [HEQ.out,hsl]
    exact ⟨_,rfl,HROW.out,HM1.out.bel⟩
end Go.Proofs.YtpbaaedijfofnaaDoor
namespace Go.Proofs.YtpbaaedijfofnaaDoor
open Go.ChangeShapes Go.WideShapes Go.ChangeAt Go.RowKit Go.Shelf
set_option maxRecDepth 100000 in
set_option maxHeartbeats 8000000 in
theorem isdef_any (w:World)(name:ByteArray)(k:Nat)(ref lists:Int)(d:Nat)(hd:d≤18446744073709551615)(v:PV)(val:Value)(hv:IsV w v val) :
  Calls Tryd.prog 43 #[.agg #[.string name,.int .u8 k,.int .i64 ref,.int .i64 lists,.int .u64 d],val] w fun e w'=>SamePost v (numV d) e∧Below w.heap.size w w':=by
 have HV:=Lib.hid hv
 obtain ⟨n,bs,ks,hh⟩:=v
 obtain ⟨ba,ka,bc,kc,rfl,hn,hby,hbl,hbm,hkl,hkm,hks⟩:=hv.form
 simp only [PV.num,PV.bytes,PV.kids,PV.has] at HV hn hby hbl hbm hkl hkm hks ⊢
 obtain ⟨hb,hq1,hq2⟩:=two_start w #[.string name,.int .u8 k,.int .i64 ref,.int .i64 lists,.int .u64 d] #[.int .u64 n,.slice ba bs.length bc,.slice ka ks.length kc,.bool hh] 64 36
 have HB:=Lib.hid hb
 have HV1:=Lib.hid (HV.out.later hb)
 have HD:=Lib.hid hd
 obtain ⟨_,y0,y1,y2,y3,y4,_⟩:=blk5 hq1
 obtain ⟨_,z0,z1,z2,z3⟩:=blk4p hq2
 clear hb hq1 hq2 hv HV hby hks hn hbl hbm hkl hkm hd
 go_enter Tryd.func43,Tryd.ntmps43
 go_upto_region 1 with (fail)
 generalize (w.alloc (.cells #[.string name,.int .u8 k,.int .i64 ref,.int .i64 lists,.int .u64 d] 64)).alloc (.cells #[.int .u64 n,.slice ba bs.length bc,.slice ka ks.length kc,.bool hh] 36)=W0 at *
 generalize w.heap.size+1=V at *
 refine wp_region_noPanic ?_
 refine wp_region_held_drew (S:=(fun w'=>w'.cell? ⟨w.heap.size,0,none⟩=some (.string name)∧w'.cell? ⟨w.heap.size,1,none⟩=some (.int .u8 k)∧w'.cell? ⟨w.heap.size,2,none⟩=some (.int .i64 ref)∧w'.cell? ⟨w.heap.size,3,none⟩=some (.int .i64 lists)∧w'.cell? ⟨w.heap.size,4,none⟩=some (.int .u64 d)∧w'.cell? ⟨V,0,none⟩=some (.int .u64 n)∧w'.cell? ⟨V,1,none⟩=some (.slice ba bs.length bc)∧w'.cell? ⟨V,2,none⟩=some (.slice ka ks.length kc)∧w'.cell? ⟨V,3,none⟩=some (.bool hh))) (by kernel_rfl) ⟨y0,y1,y2,y3,y4,z0,z1,z2,z3⟩ ?_
 intro hS
 refine tk 0 (.agg #[.int .u64 n,.slice ba bs.length bc,.slice ka ks.length kc,.bool hh]) hS ?_ ?_
 · rintro w' ⟨y0,y1,y2,y3,y4,z0,z1,z2,z3⟩
   go_simp
 simp only [td]
 refine tk 1 (.agg #[.string name,.int .u8 k,.int .i64 ref,.int .i64 lists,.int .u64 d]) hS ?_ ?_
 · rintro w' ⟨y0,y1,y2,y3,y4,z0,z1,z2,z3⟩
   go_simp
 simp only [td]
 refine wpAnyH_ready (rs:=[2]) (by kernel_rfl) (by decide) (AllReadyH.cons rfl (fun K hK=>?_) AllReadyH.nil)
 rw [if_pos (by kernel_rfl)]
 go_simp
 refine (nothing_any W0.drew name k ref lists d).mono ?_
 rintro e W2 ⟨rfl,hb2⟩
 have hx2:Below W0.heap.size W0 W2:=(Below.refl _ W0).drew.trans hb2
 have HB2:=Lib.hid (HB.out.trans (hx2.mono HB.out.size))
 have HV2:=Lib.hid (HV1.out.later hx2)
 have ay0:=cell_stays hx2 y0
 have ay1:=cell_stays hx2 y1
 have ay2:=cell_stays hx2 y2
 have ay3:=cell_stays hx2 y3
 have ay4:=cell_stays hx2 y4
 have az0:=cell_stays hx2 z0
 have az1:=cell_stays hx2 z1
 have az2:=cell_stays hx2 z2
 have az3:=cell_stays hx2 z3
 refine hK.out _ _ ⟨ay0,ay1,ay2,ay3,ay4,az0,az1,az2,az3⟩ (fun hS=>?_)
 clear hx2 hb2 hK y0 y1 y2 y3 y4 z0 z1 z2 z3
 refine wpAnyH_ready (rs:=[3]) (by kernel_rfl) (by decide) (AllReadyH.cons rfl (fun K hK=>?_) AllReadyH.nil)
 rw [if_pos (by kernel_rfl)]
 go_simp
 refine (same_any _ W2 (numV d) _ _ HV2.out (isV_num W2 d HD.out)).mono ?_
 rintro e W3 ⟨⟨r,rfl,hiff⟩,hb3⟩
 have HB3:=Lib.hid (HB2.out.trans (hb3.mono HB2.out.size))
 have by0:=cell_stays hb3 ay0
 have by1:=cell_stays hb3 ay1
 have by2:=cell_stays hb3 ay2
 have by3:=cell_stays hb3 ay3
 have by4:=cell_stays hb3 ay4
 have bz0:=cell_stays hb3 az0
 have bz1:=cell_stays hb3 az1
 have bz2:=cell_stays hb3 az2
 have bz3:=cell_stays hb3 az3
 refine hK.out _ _ ⟨by0,by1,by2,by3,by4,bz0,bz1,bz2,bz3⟩ (fun hS=>?_)
 refine tk 4 (.bool r) hS ?_ ?_
 · rintro w' ⟨y0,y1,y2,y3,y4,z0,z1,z2,z3⟩
   go_simp
 simp only [td]
 refine wpAnyH_done (by kernel_rfl) ?_ _
 refine NoPanic.normal ?_
 simp only [Exit.then]
 go_wp2
 go_ret
 exact ⟨⟨r,rfl,hiff⟩,HB3.out⟩
end Go.Proofs.YtpbaaedijfofnaaDoor
namespace Go.Proofs.YtpbaaedijfofnaaDoor
open Go.ChangeShapes Go.WideShapes Go.ChangeAt Go.RowKit Go.Shelf
theorem bool_infoW:(Tryd.prog.info? 4).map (fun i=>(i.zero,i.size,i.bytes))=some (some (.bool false),1,1):=by kernel_rfl
theorem bool_map (l:List Bool):boolCells l=l.map Value.bool:=by
 unfold boolCells
 induction l with
 | nil=>rfl
 | cons a l ih=>rw [List.flatMap_cons,ih];rfl
theorem made_bools (n:Nat):madeCells (Value.bool false).cells (n * 1)=(boolCells (List.replicate n false)).toArray:=by
 rw [bool_map]
 apply Array.ext'
 apply List.ext_getElem?
 intro k
 simp only [madeCells,Array.toList_map,Array.toList_range,Nat.mul_one,List.getElem?_map,List.getElem?_replicate]
 by_cases hk:k<n
 · rw [List.getElem?_range hk,if_pos hk,Option.map_some]
   show some (#[Value.bool false][k % 1]!)=_
   rw [Nat.mod_one]
   rfl
 · rw [List.getElem?_eq_none (by simp;omega),if_neg hk]
   rfl
theorem make_bools (n:Nat)(hn:n≤1000000)(W:World):(Instr.makeSlice 159 (.int .i64 (n:Int)) (.int .i64 (n:Int))).run Tryd.prog W=.ok (.slice (some ⟨W.heap.size,0,none⟩) n n) (W.alloc (.cells (boolCells (List.replicate n false)).toArray 4)):=by
 obtain ⟨i,hi,hz,hs,hb⟩:=info_parts bool_infoW
 have h:=run_make W 159 4 i (.bool false) Tryd.underlying159 hi hz .i64 .i64 n n (by omega) (Int.le_refl _) (by rw [hb];omega) (by omega)
 rw [hs,Int.toNat_natCast,made_bools] at h
 exact h
theorem bools_set (l:List Bool)(j:Nat)(x:Bool):(boolCells l).set j (.bool x)=boolCells (l.set j x):=by
 rw [bool_map,bool_map,List.map_set]
theorem bools_length (l:List Bool):(boolCells l).length=l.length:=by rw [bool_map,List.length_map]
theorem own_bools {W:World}{base g n:Nat}{l:List Bool}(h:W.heap[g]?=some (.cells (boolCells l).toArray 4 (0,0)))(hb:base≤g)(hl:l.length=n)(hn:n≤1000000):W.ownsRow base 4 1 (.slice (some ⟨g,0,none⟩) n n) l.length (boolCells l):=by
 subst hl
 refine ⟨by rw [bools_length];omega,.inr ⟨g,l.length,_,rfl,hb,h,Nat.le_refl _,by unfold maxLen;omega,by simp [bools_length],?_⟩⟩
 simp only [Nat.mul_one]
 exact List.take_of_length_le (by rw [bools_length];exact Nat.le_refl _)
theorem bools_cell {W:World}{g:Nat}{l:List Bool}(h:W.heap[g]?=some (.cells (boolCells l).toArray 4 (0,0)))(j:Nat)(hj:j<l.length):W.cell? ⟨g,j,none⟩=some (.bool (l.getD j false)):=by
 rw [blk_cell h j,bool_map]
 simp [List.getD,List.getElem?_eq_getElem hj]
theorem bools_put {W:World}{g:Nat}{l:List Bool}(h:W.heap[g]?=some (.cells (boolCells l).toArray 4 (0,0)))(j:Nat)(x:Bool):(W.setCell ⟨g,j,none⟩ (.bool x)).heap[g]?=some (.cells (boolCells (l.set j x)).toArray 4 (0,0)):=by
 rw [blk_set h j (.bool x),←bools_set]
 simp
theorem ints_cell {W:World}{base n:Nat}{v:Value}{l:List Int}(h:W.ownsRow base 3 1 v l.length (i64Cells l))(j:Nat)(hj:j<l.length)(_hn:n=0):∃ g c,v=.slice (some ⟨g,0,none⟩) l.length c∧l.length≤c∧base≤g∧g<W.heap.size∧∀ k,k<l.length→W.cell? ⟨g,k,none⟩=some (.int .i64 (l.getD k 0)):=by
 obtain ⟨g,c,hv,hc,hb,hg,hcell⟩:=row_at h (by omega)
 refine ⟨g,c,hv,hc,hb,hg,fun k hk=>?_⟩
 rw [hcell k (by omega),i64Cells_map,List.getElem?_map,List.getElem?_eq_getElem hk]
 simp [List.getD,List.getElem?_eq_getElem hk]
theorem tabUp_al {z:Int}(hz:z=8∨z=4∨z=2∨z=1)(fs:List SFld)(th:List Bool)(s:TabSt)(h:s.al=4∨s.al=8):∀ k,(tabUp z fs th s k).al=4∨(tabUp z fs th s k).al=8
 | 0=>h
 | k+1=>by
  have ih:=tabUp_al hz fs th s h k
  unfold tabUp tabStep
  split
  · show max _ z=4∨max _ z=8
    omega
  · exact ih
theorem tabAll_al (fs:List SFld)(th:List Bool):∀ z,z≤4→(tabAll fs th z).al=4∨(tabAll fs th z).al=8
 | 0,_=>.inl rfl
 | z+1,hz=>tabUp_al (inlines_is z (by omega)) fs th _ (tabAll_al fs th z (by omega)) _
theorem tabUp_pl {z:Int}(hz:z=8∨z=4∨z=2∨z=1)(fs:List SFld)(th:List Bool)(s:TabSt)(h4:4≤s.size)(h0:∀ i,0≤s.pl.getD i 0)(hn:∀ i,th.getD i false=false→s.pl.getD i 0=0):∀ k,(∀ i,0≤(tabUp z fs th s k).pl.getD i 0)∧(∀ i,th.getD i false=false→(tabUp z fs th s k).pl.getD i 0=0)∧4≤(tabUp z fs th s k).size
 | 0=>⟨h0,hn,h4⟩
 | k+1=>by
  obtain ⟨i0,i1,i2⟩:=tabUp_pl hz fs th s h4 h0 hn k
  unfold tabUp tabStep
  split
  · rename_i hb
    have hm:=mult_bd hz (show 0≤(tabUp z fs th s k).size by omega)
    refine ⟨fun i=>?_,fun i hi=>?_,by show 4≤multI _ z+z;omega⟩
    · show 0≤((tabUp z fs th s k).pl.set k _).getD i 0
      rcases Nat.lt_or_ge k (tabUp z fs th s k).pl.length with h1|h1
      · rw [getD_set_at _ _ _ _ h1]
        split
        · omega
        · exact i0 i
      · rw [List.set_eq_of_length_le h1];exact i0 i
    · show ((tabUp z fs th s k).pl.set k _).getD i 0=0
      have hne:k≠i:=fun e=>by rw [e,hi] at hb;exact absurd hb.1 (by decide)
      rcases Nat.lt_or_ge k (tabUp z fs th s k).pl.length with h1|h1
      · rw [getD_set_at _ _ _ _ h1,if_neg hne];exact i1 i hi
      · rw [List.set_eq_of_length_le h1];exact i1 i hi
  · exact ⟨i0,i1,i2⟩
theorem tabAll_pl (fs:List SFld)(th:List Bool):∀ z,z≤4→(∀ i,0≤(tabAll fs th z).pl.getD i 0)∧(∀ i,th.getD i false=false→(tabAll fs th z).pl.getD i 0=0)∧4≤(tabAll fs th z).size
 | 0,_=>by
  have h:∀ i,(List.replicate fs.length (0:Int)).getD i 0=0:=fun i=>by
   rw [List.getD,List.getElem?_replicate]
   split<;>rfl
  exact ⟨fun i=>by show 0≤(List.replicate fs.length (0:Int)).getD i 0;rw [h];exact Int.le_refl _,fun i _=>h i,by show (4:Int)≤4;decide⟩
 | z+1,hz=>by
  obtain ⟨h0,h1,h2⟩:=tabAll_pl fs th z (by omega)
  exact tabUp_pl (inlines_is z (by omega)) fs th _ h2 h0 h1 _
theorem tab_place (fs:List SFld)(th:List Bool)(j:Nat)(hj:j<fs.length):0≤(tabAll fs th 4).pl.getD j 0∧(tabAll fs th 4).pl.getD j 0≤(tabAll fs th 4).size∧(th.getD j false=true→4≤(tabAll fs th 4).pl.getD j 0∧(tabAll fs th 4).pl.getD j 0+inlP (fs.getD j noSF)≤(tabAll fs th 4).size):=by
 have h1:=tabAll_pl fs th 4 (Nat.le_refl _)
 have h2:=tab_spans fs th
 refine ⟨h1.1 j,?_,fun hb=>?_⟩
 · cases hb:th.getD j false with
   | false=>rw [h1.2.1 j hb];omega
   | true =>
    have h3:=h2.1.inn j ⟨hj,hb⟩
    have h4:=inlP_bd (fldAt fs j)
    have h5:ksAt fs j=inlP (fldAt fs j):=rfl
    omega
 · have h3:=h2.1.inn j ⟨hj,hb⟩
   exact ⟨h3.2.1,h3.2.2⟩
theorem inl_same (f:SFld):inlC f.kind (f.lists:Nat)=inlP f:=by
 unfold inlC inlP numTB isNumP
 have h:decide (((f.lists:Nat):Int)=0)=decide (f.lists=0):=by
  by_cases h0:f.lists=0
  · rw [decide_eq_true h0,decide_eq_true (by omega)]
  · rw [decide_eq_false h0,decide_eq_false (by omega)]
 rw [h]
theorem thereE_len (fs:List SFld)(vs:List PV):(thereE fs vs).length=fs.length:=by simp [thereE]
theorem thereE_at {fs:List SFld}{vs:List PV}{j:Nat}(hj:j<fs.length)(hk:j<vs.length):(thereE fs vs).getD j false = !isDefB fs[j].dflt vs[j]:=by
 unfold thereE
 rw [List.getD,List.getElem?_map,List.getElem?_range hj]
 simp only [Option.map_some,Option.getD_some]
 rw [List.getD,List.getElem?_eq_getElem hj,List.getD,List.getElem?_eq_getElem hk]
 rfl
theorem lastE_up {th:List Bool}{j:Nat}:lastE th (j+1)=if th.getD j false=true then j+1 else lastE th j:=rfl
end Go.Proofs.YtpbaaedijfofnaaDoor
