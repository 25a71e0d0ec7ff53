/-
  The document's own reading of tables: lists that are too deep. Conditions: those that each theorem names.
-/
import Derived.Test.YtcfjjocmiheiaaaDoorPkD6
import Derived.Test.YtcfjjocmiheiaaaDoorPkD10
import Derived.Test.YtcfjjocmiheiaaaDoorPkD13
import Derived.Test.YtcfjjocmiheiaaaDoorPkD24
import Derived.Test.YtcfjjocmiheiaaaDoorPkD29
import Derived.Test.YtcfjjocmiheiaaaDoorPkD30
import Derived.Deep.Cut
namespace Go.Proofs.YtcfjjocmiheiaaaDoor
open Go.ChangeShapes Go.WideShapes Go.ChangeAt Go.RowKit Go.Shelf
structure RTM (w:World)(nm fv:Value)(pl:List Int)(W:World):Prop where
 bel:Below w.heap.size w W
 rc:W.heap[w.heap.size]?=some (.cells #[nm,fv] 55 (0,0))
 row:W.heap[w.heap.size+1]?=some (.cells (i64Cells pl).toArray 3 (0,0))
theorem RTM.later {w W W':World}{nm fv:Value}{pl:List Int}(h:RTM w nm fv pl W)(hb:Below W.heap.size W W'):RTM w nm fv pl W':=
 ⟨h.bel.trans (hb.mono h.bel.size),blk_below h.rc hb (blk_lt h.rc),blk_below h.row hb (blk_lt h.row)⟩
theorem RTM.put {w W:World}{nm fv:Value}{pl:List Int}(h:RTM w nm fv pl W)(k:Nat)(z:Int):RTM w nm fv (pl.set k z) (W.setCell ⟨w.heap.size+1,k,none⟩ (.int .i64 z)):=
 ⟨h.bel.setCell (p:=⟨w.heap.size+1,k,none⟩) (by show w.heap.size≤w.heap.size+1;omega) _,blk_set_ne h.rc (by show w.heap.size+1≠_;omega) _,(blk_set h.row k _).trans (by rw [i64_set])⟩
theorem RTM.start (w:World)(nm fv:Value)(n:Nat):RTM w nm fv (List.replicate n 0) ((w.alloc (.cells #[nm,fv] 55)).alloc (.cells (i64Cells (List.replicate n 0)).toArray 3)):=by
 refine ⟨((Below.refl _ _).alloc (Nat.le_refl _) _).alloc (by simp) _,?_,?_⟩
 · exact blk_alloc (heap_alloc_new w _) _
 · have h:=heap_alloc_new (w.alloc (.cells #[nm,fv] 55)) (.cells (i64Cells (List.replicate n 0)).toArray 3)
   rw [World.size_alloc] at h
   exact h
def zOf (j:Nat):Int:=[(8:Int),4,2,1,0].getD j 0
theorem zOf_in (j:Nat)(h:j<4):zOf j=inlinesL.getD j 0∧(zOf j).tdiv 2=zOf (j+1)∧0<zOf j∧(zOf (j+1)).toNat<(zOf j).toNat:=by
 have:j=0∨j=1∨j=2∨j=3:=by omega
 rcases this with rfl|rfl|rfl|rfl<;>decide
def RTOut (w:World)(nm fv:Value)(fs:List SFld)(th:List Bool)(b a z:Value)(W:World):Prop:=
 ∃ j:Nat,j≤4∧z=.int .i64 (zOf j)∧b=.int .i64 (tabAll fs th j).size∧a=.int .i64 (tabAll fs th j).al∧RTM w nm fv (tabAll fs th j).pl W
def RTIn (w:World)(nm fv:Value)(fs:List SFld)(th:List Bool)(wd:Int)(s:TabSt)(b a i:Value)(W:World):Prop:=
 ∃ k:Nat,k≤fs.length∧i=.int .i64 k∧b=.int .i64 (tabUp wd fs th s k).size∧a=.int .i64 (tabUp wd fs th s k).al∧RTM w nm fv (tabUp wd fs th s k).pl W
def RTUp (W0:World)(n wd:Int)(b:Value)(W:World):Prop:=∃ c:Int,n≤c∧c≤multI n wd∧b=.int .i64 c∧W0=W
def RTPost (fs:List SFld)(th:List Bool)(w:World)(e:Ending)(w':World):Prop:=
 ∃ v,e=.returned (.tuple #[v,.int .i64 (tabAll fs th 4).size,.int .i64 (tabAll fs th 4).al])∧w'.ownsRow w.heap.size 3 1 v (tabAll fs th 4).pl.length (i64Cells (tabAll fs th 4).pl)∧Below w.heap.size w w'
set_option maxRecDepth 100000 in
set_option maxHeartbeats 8000000 in
theorem rtabled_any (w:World)(nm:ByteArray)(fs:List SFld)(fv:Value)(base:Nat)(h:w.ownsRow base 52 5 fv fs.length (sfldsCells fs))(hn:fs.length≤1000)(hkd:∀ f ∈ fs,f.kind≤255)(th:List Bool)(tv:Value)(tbase:Nat)(ht:w.ownsRow tbase 4 1 tv th.length (boolCells th))(hth:th.length=fs.length) :
  Calls Tryd.prog 66 #[.agg #[.string nm,fv],tv] w (RTPost fs th w):=by
 obtain ⟨fa,fc,rfl⟩:=ownsRow_form h
 obtain ⟨ta,tc,rfl⟩:=ownsRow_form ht
 have HR:=Lib.hid h
 have HTH:=Lib.hid ht
 have HTL:=Lib.hid hth
 have HKD:=Lib.hid hkd
 have hfew:=row_few h
 have hfew2:=row_few ht
 have hmk:=make_ints fs.length (by omega)
 clear h ht hth hkd
 go_enter Tryd.func66,Tryd.ntmps66
 go_upto_region 3 with (fail)
 have HM:=Lib.hid (RTM.start w (.string nm) (.slice fa fs.length fc) fs.length)
 generalize (w.alloc (.cells #[.string nm,.slice fa fs.length fc] 55)).alloc (.cells (i64Cells (List.replicate fs.length 0)).toArray 3)=W0 at *
 clear hmk
 go_wp2_with fail
 go_loopw [8,9,10] (fun b a z wr=>RTOut w (.string nm) (.slice fa fs.length fc) fs th b a z wr) (fun _ _ z _=>(intOf z).toNat)
 case atStart=>exact ⟨0,Nat.zero_le _,rfl,rfl,rfl,HM.out⟩
 case round =>
  obtain ⟨j,hj,rfl,rfl,rfl,hm⟩:=hrel
  have HM1:=Lib.hid hm
  clear hm HM
  obtain ⟨hsl,hsz0,hsz1,hal0,hal1⟩:=tabAll_facts fs th j (by omega)
  have hs1:(tabAll fs th j).size≤60004:=by
   have:fs.length * j≤1000 * 4:=Nat.mul_le_mul hn hj
   omega
  clear hsz1
  by_cases hj4:j<4
  · obtain ⟨hzi,hzd,hz0,hzm⟩:=zOf_in j hj4
    have hwd:=inlines_is j hj4
    rw [←hzi] at hwd
    have HWA:Hid (tabAll fs th (j+1)=tabUp (zOf j) fs th (tabAll fs th j) fs.length):=Lib.hid (by rw [hzi];rfl)
    have HZN:Hid ((intOf (.int .i64 (zOf (j+1)))).toNat<(intOf (.int .i64 (zOf j))).toNat):=Lib.hid hzm
    clear hzi hzm
    generalize hzj:zOf j=wd at *
    have HZJ:=Lib.hid hzj
    generalize hzj2:zOf (j+1)=wd2 at *
    have HZJ2:=Lib.hid hzj2
    generalize tabAll fs th j=s at *
    clear hzj hzj2
    go_wp2_with fail
    go_loopw [8,9,11] (fun b a i wq=>RTIn w (.string nm) (.slice fa fs.length fc) fs th wd s b a i wq) (fun _ _ i _=>fs.length-(intOf i).toNat)
    case atStart=>exact ⟨0,Nat.zero_le _,rfl,rfl,rfl,HM1.out⟩
    case round =>
     obtain ⟨k,hk,rfl,rfl,rfl,hm⟩:=hrel
     have HM2:=Lib.hid hm
     obtain ⟨hpl,hp4,hp5,ha4,ha8⟩:=tabUp_facts hwd fs th s hsz0 hal0 hal1 k
     clear hm
     obtain ⟨hBl,r0,r1,_⟩:=blk2 HM2.out.rc
     by_cases hkl:k<fs.length
     · have hki:(k:Int)<fs.length:=by omega
       have hkt:k<th.length:=by rw [HTL.out];exact hkl
       have hkti:(k:Int)<th.length:=by omega
       have hki0:(0:Int)≤(k:Int):=by omega
       obtain ⟨g,cc,hv,hcc,hg,hcell⟩:=row_el sfldCells 5 (fun _=>rfl) (row_keep HM2.out.bel HR.out) k hkl
       obtain ⟨rfl,rfl⟩:=slice_inj hv
       obtain ⟨g3,c3,hv3,_,hg3,t0⟩:=row_bool (row_keep HM2.out.bel HTH.out) k hkt
       obtain ⟨rfl,rfl⟩:=slice_inj hv3
       have x0:wr.cell? ⟨g,k * 5,none⟩=some (.string fs[k].name):=hcell 0 (by omega)
       have x1:wr.cell? ⟨g,k * 5+1,none⟩=some (.int .u8 (fs[k].kind:Nat)):=hcell 1 (by omega)
       have x2:wr.cell? ⟨g,k * 5+2,none⟩=some (.int .i64 (fs[k].ref:Nat)):=hcell 2 (by omega)
       have x3:wr.cell? ⟨g,k * 5+3,none⟩=some (.int .i64 (fs[k].lists:Nat)):=hcell 3 (by omega)
       have x4:wr.cell? ⟨g,k * 5+4,none⟩=some (.int .u64 (fs[k].dflt:Nat)):=hcell 4 (by omega)
       have HST:=Lib.hid (tabUp_step (z:=wd) (s:=s) hkl hkt)
       have hkb:=HKD.out fs[k] (List.getElem_mem hkl)
       clear hcell hv hv3
       generalize fs[k]=f at *
       generalize th[k]=b at *
       obtain ⟨fn,fk,fr,fl,fd⟩:=f
       simp only at x0 x1 x2 x3 x4 hkb
       generalize tabUp wd fs th s k=st at *
       have hmb:=mult_bd hwd (show 0≤st.size by omega)
       have hib:=inlP_bd ⟨fn,fk,fr,fl,fd⟩
       cases b
       · have HE:=Lib.hid (HST.out.trans (tabStep_no (.inl rfl)))
         clear HST
         go_wp2
         go_roundw
         case rel=>exact ⟨k+1,hkl,by go_num,by rw [HE.out],by rw [HE.out],by rw [HE.out];exact HM2.out⟩
         case measure=>simp [intOf];omega
       · go_wp2_with fail
         refine (rinline_any fn fk fr fl fd wr hkb).mono ?_
         rintro e W2 ⟨rfl,hb2⟩
         have HM4:=Lib.hid (HM2.out.later hb2)
         clear hb2 x0 x1 x2 x3 x4 t0 HM2 r0 r1
         by_cases hiw:inlP ⟨fn,fk,fr,fl,fd⟩=wd
         · have HE:=Lib.hid (HST.out.trans (tabStep_yes rfl hiw))
           rw [hiw]
           clear HST hiw hib
           go_wp2_with fail
           have hm0:multI st.size wd≤100000:=by omega
           go_loopw [8] (fun b wq=>RTUp W2 st.size wd b wq) (fun b _=>(multI st.size wd-intOf b).toNat)
           case atStart=>exact ⟨st.size,Int.le_refl _,hmb.1,rfl,rfl⟩
           case round =>
            obtain ⟨c,hc1,hc2,rfl,hw⟩:=hrel
            obtain rfl:W2=wr:=hw
            have hwd0:wd≠0:=by omega
            have hct:c.tmod wd=c % wd:=Int.tmod_eq_emod_of_nonneg (by omega)
            by_cases hcm:c % wd=0
            · have hce:=mult_end hwd hc1 hc2 hcm
              have tb:(c % wd != 0)=false:=by simpa using hcm
              have HP:=Lib.hid (HM4.out.put k c)
              have c0:W2.cell? ⟨w.heap.size+1,k,none⟩=some (.int .i64 (st.pl.getD k 0)):=by
               rw [blk_cell HM4.out.row k,i64Cells_map]
               simp [List.getD,hpl,hsl,hkl]
              have f0:=blk_frozen HM4.out.row k
              have k1:=IntWalk.i64_in (c+wd) (by omega)
              have HCE:=Lib.hid hce
              obtain ⟨hBl2,r0,r1,_⟩:=blk2 HP.out.rc
              generalize st.pl.getD k 0=old at *
              clear hcm hce hc1 hc2
              by_cases hal:st.al<wd
              · have HMX:Hid (max st.al wd=wd):=Lib.hid (by omega)
                go_wp2
                go_roundw
                case rel=>exact ⟨k+1,hkl,by go_num,by rw [HE.out,HCE.out],by rw [HE.out];simp only;rw [HMX.out],by rw [HE.out,←HCE.out];exact HP.out⟩
                case measure=>simp [intOf];omega
              · have HMX:Hid (max st.al wd=st.al):=Lib.hid (by omega)
                go_wp2
                go_roundw
                case rel=>exact ⟨k+1,hkl,by go_num,by rw [HE.out,HCE.out],by rw [HE.out];simp only;rw [HMX.out],by rw [HE.out,←HCE.out];exact HP.out⟩
                case measure=>simp [intOf];omega
            · have hcu:=mult_up hwd hc1 hc2 hcm
              have tb:(c % wd != 0)=true:=by simpa using hcm
              have k1:=IntWalk.i64_in (c+1) (by omega)
              clear hcm
              go_wp2
              go_roundw
              case rel=>exact ⟨c+1,by omega,hcu,by go_num,rfl⟩
              case measure=>simp [intOf];omega
         · have HE:=Lib.hid (HST.out.trans (tabStep_no (.inr hiw)))
           have tb:(inlP ⟨fn,fk,fr,fl,fd⟩==wd)=false:=by simpa using hiw
           have hrc:=HM4.out.rc
           obtain ⟨hBl2,r0,r1,_⟩:=blk2 hrc
           generalize inlP ⟨fn,fk,fr,fl,fd⟩=q at *
           clear HST hrc
           go_wp2
           go_roundw
           case rel=>exact ⟨k+1,hkl,by go_num,by rw [HE.out],by rw [HE.out],by rw [HE.out];exact HM4.out⟩
           case measure=>simp [intOf];omega
     · obtain rfl:k=fs.length:=by omega
       have HE:=Lib.hid HWA.out
       have hdv:wd / 2=wd2:=by rw [←hzd];exact (Int.tdiv_eq_ediv_of_nonneg (by omega)).symm
       go_wp2
       exact ⟨⟨j+1,by omega,by rw [HZJ2.out],by rw [HE.out],by rw [HE.out],by rw [HE.out];exact HM2.out⟩,HZN.out⟩
  · have hze:j=4:=by omega
    have HEQ:Hid (tabAll fs th 4=tabAll fs th j):=Lib.hid (by rw [hze])
    have hz0:zOf j=0:=by rw [hze];rfl
    rw [hz0]
    clear hze hj hj4
    generalize tabAll fs th j=st at *
    have hrow:wr.ownsRow w.heap.size 3 1 (.slice (some ⟨w.heap.size+1,0,none⟩) fs.length fs.length) fs.length (i64Cells st.pl):=by
     refine ⟨by rw [i64Cells_length,hsl];omega,.inr ⟨w.heap.size+1,fs.length,_,rfl,by omega,HM1.out.row,Nat.le_refl _,by unfold maxLen;omega,by simp [i64Cells_length,hsl],?_⟩⟩
     rw [List.toList_toArray,List.take_of_length_le (by rw [i64Cells_length,hsl];omega)]
    have HROW:=Lib.hid hrow
    clear hrow hz0
    go_wp2
    refine bodyPost_ret (v:=.tuple #[.slice (some ⟨w.heap.size+1,0,none⟩) fs.length fs.length,.int .i64 st.size,.int .i64 st.al]) (by simp [results,Tryd.results66,go_sem]) rfl ?_
    unfold RTPost
    rw [HEQ.out,hsl]
    exact ⟨_,rfl,HROW.out,HM1.out.bel⟩
end Go.Proofs.YtcfjjocmiheiaaaDoor
namespace Go.Proofs.YtcfjjocmiheiaaaDoor
open Go.ChangeShapes Go.WideShapes Go.ChangeAt Go.RowKit Go.Shelf
theorem bool_infoW:(Tryd.prog.info? 4).map (fun i=>(i.zero,i.size,i.bytes))=some (some (.bool false),1,1):=by kernel_rfl
theorem bool_map (l:List Bool):boolCells l=l.map Value.bool:=by
 unfold boolCells
 induction l with
 | nil=>rfl
 | cons a l ih=>rw [List.flatMap_cons,ih];rfl
theorem made_bools (n:Nat):madeCells (Value.bool false).cells (n * 1)=(boolCells (List.replicate n false)).toArray:=by
 rw [bool_map]
 apply Array.ext'
 apply List.ext_getElem?
 intro k
 simp only [madeCells,Array.toList_map,Array.toList_range,Nat.mul_one,List.getElem?_map,List.getElem?_replicate]
 by_cases hk:k<n
 · rw [List.getElem?_range hk,if_pos hk,Option.map_some]
   show some (#[Value.bool false][k % 1]!)=_
   rw [Nat.mod_one]
   rfl
 · rw [List.getElem?_eq_none (by simp;omega),if_neg hk]
   rfl
theorem make_bools (n:Nat)(hn:n≤1000000)(W:World):(Instr.makeSlice 152 (.int .i64 (n:Int)) (.int .i64 (n:Int))).run Tryd.prog W=.ok (.slice (some ⟨W.heap.size,0,none⟩) n n) (W.alloc (.cells (boolCells (List.replicate n false)).toArray 4)):=by
 obtain ⟨i,hi,hz,hs,hb⟩:=info_parts bool_infoW
 have h:=run_make W 152 4 i (.bool false) Tryd.underlying152 hi hz .i64 .i64 n n (by omega) (Int.le_refl _) (by rw [hb];omega) (by omega)
 rw [hs,Int.toNat_natCast,made_bools] at h
 exact h
theorem bools_set (l:List Bool)(j:Nat)(x:Bool):(boolCells l).set j (.bool x)=boolCells (l.set j x):=by
 rw [bool_map,bool_map,List.map_set]
theorem bools_length (l:List Bool):(boolCells l).length=l.length:=by rw [bool_map,List.length_map]
theorem own_bools {W:World}{base g n:Nat}{l:List Bool}(h:W.heap[g]?=some (.cells (boolCells l).toArray 4 (0,0)))(hb:base≤g)(hl:l.length=n)(hn:n≤1000000):W.ownsRow base 4 1 (.slice (some ⟨g,0,none⟩) n n) l.length (boolCells l):=by
 subst hl
 refine ⟨by rw [bools_length];omega,.inr ⟨g,l.length,_,rfl,hb,h,Nat.le_refl _,by unfold maxLen;omega,by simp [bools_length],?_⟩⟩
 simp only [Nat.mul_one]
 exact List.take_of_length_le (by rw [bools_length];exact Nat.le_refl _)
theorem bools_cell {W:World}{g:Nat}{l:List Bool}(h:W.heap[g]?=some (.cells (boolCells l).toArray 4 (0,0)))(j:Nat)(hj:j<l.length):W.cell? ⟨g,j,none⟩=some (.bool (l.getD j false)):=by
 rw [blk_cell h j,bool_map]
 simp [List.getD,List.getElem?_eq_getElem hj]
theorem bools_put {W:World}{g:Nat}{l:List Bool}(h:W.heap[g]?=some (.cells (boolCells l).toArray 4 (0,0)))(j:Nat)(x:Bool):(W.setCell ⟨g,j,none⟩ (.bool x)).heap[g]?=some (.cells (boolCells (l.set j x)).toArray 4 (0,0)):=by
 rw [blk_set h j (.bool x),←bools_set]
 simp
theorem ints_cell {W:World}{base n:Nat}{v:Value}{l:List Int}(h:W.ownsRow base 3 1 v l.length (i64Cells l))(j:Nat)(hj:j<l.length)(_hn:n=0):∃ g c,v=.slice (some ⟨g,0,none⟩) l.length c∧l.length≤c∧base≤g∧g<W.heap.size∧∀ k,k<l.length→W.cell? ⟨g,k,none⟩=some (.int .i64 (l.getD k 0)):=by
 obtain ⟨g,c,hv,hc,hb,hg,hcell⟩:=row_at h (by omega)
 refine ⟨g,c,hv,hc,hb,hg,fun k hk=>?_⟩
 rw [hcell k (by omega),i64Cells_map,List.getElem?_map,List.getElem?_eq_getElem hk]
 simp [List.getD,List.getElem?_eq_getElem hk]
theorem tabUp_al {z:Int}(hz:z=8∨z=4∨z=2∨z=1)(fs:List SFld)(th:List Bool)(s:TabSt)(h:s.al=4∨s.al=8):∀ k,(tabUp z fs th s k).al=4∨(tabUp z fs th s k).al=8
 | 0=>h
 | k+1=>by
  have ih:=tabUp_al hz fs th s h k
  unfold tabUp tabStep
  split
  · show max _ z=4∨max _ z=8
    omega
  · exact ih
theorem tabAll_al (fs:List SFld)(th:List Bool):∀ z,z≤4→(tabAll fs th z).al=4∨(tabAll fs th z).al=8
 | 0,_=>.inl rfl
 | z+1,hz=>tabUp_al (inlines_is z (by omega)) fs th _ (tabAll_al fs th z (by omega)) _
theorem tabUp_pl {z:Int}(hz:z=8∨z=4∨z=2∨z=1)(fs:List SFld)(th:List Bool)(s:TabSt)(h4:4≤s.size)(h0:∀ i,0≤s.pl.getD i 0)(hn:∀ i,th.getD i false=false→s.pl.getD i 0=0):∀ k,(∀ i,0≤(tabUp z fs th s k).pl.getD i 0)∧(∀ i,th.getD i false=false→(tabUp z fs th s k).pl.getD i 0=0)∧4≤(tabUp z fs th s k).size
 | 0=>⟨h0,hn,h4⟩
 | k+1=>by
  obtain ⟨i0,i1,i2⟩:=tabUp_pl hz fs th s h4 h0 hn k
  unfold tabUp tabStep
  split
  · rename_i hb
    have hm:=mult_bd hz (show 0≤(tabUp z fs th s k).size by omega)
    refine ⟨fun i=>?_,fun i hi=>?_,by show 4≤multI _ z+z;omega⟩
    · show 0≤((tabUp z fs th s k).pl.set k _).getD i 0
      rcases Nat.lt_or_ge k (tabUp z fs th s k).pl.length with h1|h1
      · rw [getD_set_at _ _ _ _ h1]
        split
        · omega
        · exact i0 i
      · rw [List.set_eq_of_length_le h1];exact i0 i
    · show ((tabUp z fs th s k).pl.set k _).getD i 0=0
      have hne:k≠i:=fun e=>by rw [e,hi] at hb;exact absurd hb.1 (by decide)
      rcases Nat.lt_or_ge k (tabUp z fs th s k).pl.length with h1|h1
      · rw [getD_set_at _ _ _ _ h1,if_neg hne];exact i1 i hi
      · rw [List.set_eq_of_length_le h1];exact i1 i hi
  · exact ⟨i0,i1,i2⟩
theorem tabAll_pl (fs:List SFld)(th:List Bool):∀ z,z≤4→(∀ i,0≤(tabAll fs th z).pl.getD i 0)∧(∀ i,th.getD i false=false→(tabAll fs th z).pl.getD i 0=0)∧4≤(tabAll fs th z).size
 | 0,_=>by
  have h:∀ i,(List.replicate fs.length (0:Int)).getD i 0=0:=fun i=>by
   rw [List.getD,List.getElem?_replicate]
   split<;>rfl
  exact ⟨fun i=>by show 0≤(List.replicate fs.length (0:Int)).getD i 0;rw [h];exact Int.le_refl _,fun i _=>h i,by show (4:Int)≤4;decide⟩
 | z+1,hz=>by
  obtain ⟨h0,h1,h2⟩:=tabAll_pl fs th z (by omega)
  exact tabUp_pl (inlines_is z (by omega)) fs th _ h2 h0 h1 _
theorem tab_place (fs:List SFld)(th:List Bool)(j:Nat)(hj:j<fs.length):0≤(tabAll fs th 4).pl.getD j 0∧(tabAll fs th 4).pl.getD j 0≤(tabAll fs th 4).size∧(th.getD j false=true→4≤(tabAll fs th 4).pl.getD j 0∧(tabAll fs th 4).pl.getD j 0+inlP (fs.getD j noSF)≤(tabAll fs th 4).size):=by
 have h1:=tabAll_pl fs th 4 (Nat.le_refl _)
 have h2:=tab_spans fs th
 refine ⟨h1.1 j,?_,fun hb=>?_⟩
 · cases hb:th.getD j false with
   | false=>rw [h1.2.1 j hb];omega
   | true =>
    have h3:=h2.1.inn j ⟨hj,hb⟩
    have h4:=inlP_bd (fldAt fs j)
    have h5:ksAt fs j=inlP (fldAt fs j):=rfl
    omega
 · have h3:=h2.1.inn j ⟨hj,hb⟩
   exact ⟨h3.2.1,h3.2.2⟩
theorem inl_same (f:SFld):inlC f.kind (f.lists:Nat)=inlP f:=by
 unfold inlC inlP numTB isNumP
 have h:decide (((f.lists:Nat):Int)=0)=decide (f.lists=0):=by
  by_cases h0:f.lists=0
  · rw [decide_eq_true h0,decide_eq_true (by omega)]
  · rw [decide_eq_false h0,decide_eq_false (by omega)]
 rw [h]
theorem thereE_len (fs:List SFld)(vs:List PV):(thereE fs vs).length=fs.length:=by simp [thereE]
theorem thereE_at {fs:List SFld}{vs:List PV}{j:Nat}(hj:j<fs.length)(hk:j<vs.length):(thereE fs vs).getD j false = !isDefB fs[j].dflt vs[j]:=by
 unfold thereE
 rw [List.getD,List.getElem?_map,List.getElem?_range hj]
 simp only [Option.map_some,Option.getD_some]
 rw [List.getD,List.getElem?_eq_getElem hj,List.getD,List.getElem?_eq_getElem hk]
 rfl
theorem lastE_up {th:List Bool}{j:Nat}:lastE th (j+1)=if th.getD j false=true then j+1 else lastE th j:=rfl
end Go.Proofs.YtcfjjocmiheiaaaDoor
namespace Go.Proofs.YtcfjjocmiheiaaaDoor
open Go.ChangeShapes Go.WideShapes Go.ChangeAt Go.RowKit Go.Shelf
variable {base B:Nat} {W W':World} {rk:Nat} {sv ev:Value} {root:Int} {bp:Option Addr} {bc:Nat} {zs:List Int} {ss:List (SRec × Value)} {es:List (SCho × Value)} {left l':Int}
set_option maxRecDepth 100000 in
set_option maxHeartbeats 16000000 in
theorem rdval_deepN (w:World)(h:DCtx base B w rk sv ev root bp bc zs ss es left)(k r l lm:Nat)(at':Int)(room:Nat)(ht:TyM ss.length (es.map Prod.fst) k r l)(hlm:l=lm+1)(hnum:numTB k lm=true)(ha : -1000000000≤at'∧at'≤1000000000)(hj:badJ zs at'=false)(hin:inZ (lenZ zs) (toJ zs at') 4=true)(hpos:0<leAt zs (toJ zs at').toNat 4)(hr0:room=0) :
  Calls Tryd.prog 106 #[.pointer (some ⟨rk,0,none⟩),.agg #[.int .u8 k,.int .i64 r,.int .i64 l],.int .i64 at',.int .i64 room] w (RdPost (listAtZ zs (nextZ (sRecs ss) (es.map Prod.fst) zs room) k r ((l:Int)-1) (toJ zs at') left) w rk sv ev root bp bc zs):=by
 have hs1:sortP k l≠1:=by unfold sortP;rw [if_pos (by omega)];decide
 obtain ⟨hb,hq1,hq2⟩:=two_start w #[.int .u8 k,.int .i64 r,.int .i64 l] #[.int .u64 0,.slice none 0 0,.slice none 0 0,.bool false] 50 36
 have HB:=Lib.hid hb
 have HQ1:=Lib.hid hq1
 have HQ2:=Lib.hid hq2
 have H0:=Lib.hid (h.below hb)
 have HH0:=Lib.hid h
 have HV:=Lib.hid h.rows.rowV
 have HZB:=Lib.hid h.st.bytes.1
 have HRK:Hid (rk<w.heap.size):=Lib.hid (blk_lt h.st.blk)
 have HAT:=Lib.hid ha
 have hk13:=ht.hi
 have HNT:Hid (∀ W,Calls Tryd.prog 38 #[.agg #[.int .u8 k,.int .i64 r,.int .i64 l]] W fun e w'=>e=.returned (.bool false)∧Below W.heap.size W w'):=Lib.hid (fun W=>by
  have h5:=rnumI_any k (by omega) r l W
  rw [num_no hs1] at h5
  exact h5)
 have HJ:=Lib.hid hj
 have HIN:=Lib.hid hin
 have HLE:Hid (lenZ zs≤16384∧0≤left∧left≤lenZ zs):=Lib.hid ⟨h.len,h.hl⟩
 have hld:=leAt_4 zs (toJ zs at').toNat h.st.bytes.1
 have hldO:ldO zs (toJ zs at') 4=leAt zs (toJ zs at').toNat 4:=if_pos hin
 obtain ⟨n,hn⟩:∃ n:Nat,leAt zs (toJ zs at').toNat 4=n:=Int.eq_ofNat_of_zero_le hld.1
 rw [hn] at hld hldO hpos
 have hl1:(l:Int)-1=(lm:Int):=by omega
 have hwl:=IntWalk.i64_in (lm:Int) (by have:=ht.li;omega)
 rw [hl1]
 have hsb:=step_bd k (lm:Int)
 obtain ⟨st,hst⟩:∃ st,stepZ k lm=st:=⟨_,rfl⟩
 rw [hst] at hsb
 have HEQ:=Lib.hid (listAt_eq (nx:=nextZ (sRecs ss) (es.map Prod.fst) zs room) (r:=r) (left:=left) hin hn hst rfl)
 have HNV:=Lib.hid hldO
 have HTY:Hid (TyM ss.length (es.map Prod.fst) k r lm):=Lib.hid ⟨ht.lo,ht.hi,by have:=ht.li;omega,ht.en,ht.st⟩
 obtain ⟨P,hP⟩:∃ P,RdPost (listAtZ zs (nextZ (sRecs ss) (es.map Prod.fst) zs room) k r lm (toJ zs at') left) w rk sv ev root bp bc zs=P:=⟨_,rfl⟩
 rw [hP]
 have HP:=Lib.hid hP.symm
 have hi1:=inZ_iff.1 hin
 obtain ⟨a,hta⟩:∃ a:Nat,toJ zs at'=a:=⟨(toJ zs at').toNat,by omega⟩
 have HTA:=Lib.hid hta
 rw [hta] at HIN HNV
 rw [hta] at HEQ
 have HI1:Hid (a+4≤zs.length∧zs.length≤16384):=Lib.hid (by rw [hta] at hi1;have h2:=h.st.len;unfold lenZ at hi1;omega)
 have hl0:((l:Int)==0)=false:=by simp;omega
 have HN0:=Lib.hid (fun W=>rnumI_any k (by omega) r lm W)
 rw [hnum] at HN0
 have HSZ:=Lib.hid (fun W=>rsize_any k W)
 have hkst:kSize k=st:=by unfold stepZ at hst;rw [hnum,if_pos rfl] at hst;exact hst
 rw [hkst] at HSZ
 have hw8:=IntWalk.i64_in (k:Int) ⟨by omega,by omega⟩
 clear hkst
 have hroom:(room:Int)<1:=by omega
 have HNR:Hid (room=0∧n≠0):=Lib.hid ⟨hr0,by omega⟩
 have hmul:0≤(n:Int) * st∧(n:Int) * st≤40000000000:=⟨Int.mul_nonneg (by omega) (by omega),by
  have h5:(n:Int) * st≤4294967296 * 8:=Int.mul_le_mul (by omega) (by omega) (by omega) (by omega)
  omega⟩
 have hw1:=IntWalk.i64_in ((n:Int) * st) ⟨by omega,by omega⟩
 have hw2:=IntWalk.i64_in (4+(n:Int) * st) ⟨by omega,by omega⟩
 have HMU:=Lib.hid hmul
 have HSB:=Lib.hid hsb
 clear hb hq1 hq2 h hP hs1 hk13 ha ht hin hj hn hldO hi1 hst hlm hnum hld hmul hsb hr0
 go_enter Tryd.func106,Tryd.ntmps106
 go_upto_region 1 with (fail)
 generalize (w.alloc (.cells #[.int .u8 k,.int .i64 r,.int .i64 l] 50)).alloc (.cells #[.int .u64 0,.slice none 0 0,.slice none 0 0,.bool false] 36)=W0 at *
 obtain ⟨_,c0,c1,c2,c3,c4,c5⟩:=blk6 H0.out.st.blk
 obtain ⟨_,s0,s1,s2,_⟩:=blk3 HQ1.out
 go_wp2_with fail
 refine (HNT.out _).mono ?_
 rintro e W1 ⟨rfl,hb1⟩
 have HB1:=Lib.hid (HB.out.trans (hb1.mono HB.out.size))
 have H1:=Lib.hid (H0.out.below hb1)
 have P1:=Lib.hid (blk_below HQ1.out hb1 (blk_lt HQ1.out))
 have P2:=Lib.hid (blk_below HQ2.out hb1 (blk_lt HQ2.out))
 clear hb1 c0 c1 c2 c3 c4 c5 s0 s1 s2
 go_wp2_with fail
 refine (jump_ctx H1.out at' HAT.out).mono ?_
 rintro e W2 ⟨rfl,hs2,hx2⟩
 have HX2:=Lib.hid (Exw.after HB1.out hx2)
 have S2:=Lib.hid hs2
 have P12:=Lib.hid (blk_exw P1.out hx2 (blk_lt P1.out) (by have:=HRK.out;omega) (by have:=HRK.out;omega))
 have P22:=Lib.hid (blk_exw P2.out hx2 (blk_lt P2.out) (by have:=HRK.out;omega) (by have:=HRK.out;omega))
 have hx2K:=hx2
 clear hs2 hx2
 obtain ⟨_,s0,s1,s2,_⟩:=blk3 P12.out
 have H2:=Lib.hid (H1.out.exw hx2K (by have h5:=S2.out;rw [HJ.out] at h5;exact h5) HLE.out.2)
 clear hx2K
 go_wp2_with fail
 refine (rdnum_any W2 H2.out.st HV.out _ 4 (.inr rfl)).mono ?_
 rintro e W3 ⟨rfl,hs3,hx3⟩
 rw [show (false || !inZ (lenZ zs) (a:Int) ((4:Nat):Int))=false from by rw [Bool.false_or,show inZ (lenZ zs) (a:Int) ((4:Nat):Int)=true from HIN.out];rfl] at hs3
 rw [HNV.out]
 have HX3:=Lib.hid (HX2.out.then hx3)
 have H3:=Lib.hid (H2.out.exw hx3 hs3 HLE.out.2)
 have P13:=Lib.hid (blk_exw P12.out hx3 (blk_lt P12.out) (by have:=HRK.out;omega) (by have:=HRK.out;omega))
 have P23:=Lib.hid (blk_exw P22.out hx3 (blk_lt P22.out) (by have:=HRK.out;omega) (by have:=HRK.out;omega))
 clear hs3 hx3 s0 s1 s2
 obtain ⟨_,c0,c1,c2,c3,c4,c5⟩:=blk6 H3.out.st.blk
 obtain ⟨_,s0,s1,s2,_⟩:=blk3 P13.out
 have hba:Below W3.heap.size W3 (W3.alloc (.cells #[.int .u8 k,.int .i64 r,.int .i64 l] 50)):=(Below.refl _ _).alloc (Nat.le_refl _) _
 have hba5:=hba.setCell (p:=⟨W3.heap.size,2,none⟩) (Nat.le_refl _) (.int .i64 lm)
 have HEN:=Lib.hid (heap_alloc_new W3 (.cells #[.int .u8 k,.int .i64 r,.int .i64 l] 50))
 have HE2:=Lib.hid ((blk_set HEN.out 2 (.int .i64 lm)).trans rfl)
 have H5:=Lib.hid (H3.out.below hba5)
 have HX5:=Lib.hid (HX3.out.bel hba5)
 have P25:=Lib.hid (blk_below P23.out hba5 (blk_lt P23.out))
 have HE1:Hid (w.heap.size+1<W3.heap.size):=Lib.hid (blk_lt P23.out)
 clear hba hba5
 go_upto_region 31 with (fail)
 clear s0 s1 s2 c0 c1 c2 c3 c4 c5
 generalize W3.alloc (.cells #[.int .u8 k,.int .i64 r,.int .i64 l] 50)=W4 at *
 generalize W3.heap.size=E at *
 obtain ⟨_,s0,s1,s2,_⟩:=blk3 HEN.out
 have p2:=blk_frozen HEN.out 2
 go_upto_region 33 with (fail)
 clear s0 s1 s2 p2
 generalize W4.setCell ⟨E,2,none⟩ (.int .i64 lm)=W5 at *
 obtain ⟨_,s0,s1,s2,_⟩:=blk3 HE2.out
 go_wp2_with fail
 refine (HN0.out _).mono ?_
 rintro e W6 ⟨rfl,hb6⟩
 have H6:=Lib.hid (H5.out.below hb6)
 have HX6:=Lib.hid (HX5.out.bel hb6)
 have P26:=Lib.hid (blk_below P25.out hb6 (blk_lt P25.out))
 have HE6:=Lib.hid (blk_below HE2.out hb6 (blk_lt HE2.out))
 have HE9:Hid (E<W6.heap.size):=Lib.hid (blk_lt HE6.out)
 clear hb6 s0 s1 s2
 obtain ⟨_,s0,s1,s2,_⟩:=blk3 HE6.out
 go_wp2_with fail
 refine (HSZ.out _).mono ?_
 rintro e _ ⟨rfl,rfl⟩
 have HZR:Hid (listAtZ zs (nextZ (sRecs ss) (es.map Prod.fst) zs room) k r lm (toJ zs at') left=none):=Lib.hid (by
  rw [HTA.out,HEQ.out]
  split
  · rw [HNR.out.1]
    exact if_neg HNR.out.2
  · rfl)
 have HRC:Hid (0≤lenZ zs-left∧lenZ zs-left≤1000000000000):=Lib.hid (by have:=HLE.out;omega)
 obtain ⟨_,c0,c1,c2,c3,c4,c5⟩:=blk6 H6.out.st.blk
 have f5:=blk_frozen H6.out.st.blk 5
 have HS8:=Lib.hid ((blk_set H6.out.st.blk 5 (.bool true)).trans rfl)
 have HX8:=Lib.hid (HX6.out.setCell (p:=⟨rk,5,none⟩) (.inl rfl) (.bool true))
 have P28:=Lib.hid (blk_set_ne P26.out (p:=⟨rk,5,none⟩) (by have:=HRK.out;show rk≠_;omega) (.bool true))
 go_upto_region 37 with (fail)
 clear c0 c1 c2 c3 c4 c5 f5 s0 s1 s2
 generalize W6.setCell ⟨rk,5,none⟩ (.bool true)=W8 at *
 obtain ⟨_,u0,u1,u2,u3⟩:=blk4p P28.out
 have p0:=blk_frozen P28.out 0
 have p1:=blk_frozen P28.out 1
 have p2:=blk_frozen P28.out 2
 have p3:=blk_frozen P28.out 3
 go_wp2
 refine post_gen (fun Wf=>Wf.heap[w.heap.size+1]?=some (.cells #[.int .u64 0,.slice none 0 0,.slice none 0 0,.bool false] 36 (0,0))∧P (.returned (.agg #[.int .u64 0,.slice none 0 0,.slice none 0 0,.bool false])) Wf) ⟨?_,?_⟩ ?_
 · exact blk_set4 P28.out _ _ _ _
 · rw [HP.out]
   have hx4:=((((HX8.out).setCell (p:=⟨w.heap.size+1,0,none⟩) (.inr (.inr (show w.heap.size≤w.heap.size+1 by omega))) (.int .u64 0)).setCell (p:=⟨w.heap.size+1,1,none⟩) (.inr (.inr (show w.heap.size≤w.heap.size+1 by omega))) (.slice none 0 0)).setCell (p:=⟨w.heap.size+1,2,none⟩) (.inr (.inr (show w.heap.size≤w.heap.size+1 by omega))) (.slice none 0 0)).setCell (p:=⟨w.heap.size+1,3,none⟩) (.inr (.inr (show w.heap.size≤w.heap.size+1 by omega))) (.bool false)
   exact rdpost_bad HZR.out hx4 (vform _ _ _ _ _ _ _ _) HRC.out.1 HRC.out.2 (HH0.out.st.keep HV.out hx4 ((set4_blk W8 (by have:=HRK.out;omega) _ _ _ _).trans HS8.out))
 · rintro Wf ⟨e1,e2⟩
   obtain ⟨_,d0,d1,d2,d3⟩:=blk4p e1
   exact bodyPost_ret (v:=.agg #[.int .u64 0,.slice none 0 0,.slice none 0 0,.bool false]) (by simp [results,Tryd.results106,go_sem,d0,d1,d2,d3]) rfl e2
set_option maxRecDepth 100000 in
set_option maxHeartbeats 16000000 in
theorem rdval_deepO (w:World)(h:DCtx base B w rk sv ev root bp bc zs ss es left)(k r l lm:Nat)(at':Int)(room:Nat)(ht:TyM ss.length (es.map Prod.fst) k r l)(hlm:l=lm+1)(hnum:numTB k lm=false)(ha : -1000000000≤at'∧at'≤1000000000)(hj:badJ zs at'=false)(hin:inZ (lenZ zs) (toJ zs at') 4=true)(hpos:0<leAt zs (toJ zs at').toNat 4)(hr0:room=0) :
  Calls Tryd.prog 106 #[.pointer (some ⟨rk,0,none⟩),.agg #[.int .u8 k,.int .i64 r,.int .i64 l],.int .i64 at',.int .i64 room] w (RdPost (listAtZ zs (nextZ (sRecs ss) (es.map Prod.fst) zs room) k r ((l:Int)-1) (toJ zs at') left) w rk sv ev root bp bc zs):=by
 have hs1:sortP k l≠1:=by unfold sortP;rw [if_pos (by omega)];decide
 obtain ⟨hb,hq1,hq2⟩:=two_start w #[.int .u8 k,.int .i64 r,.int .i64 l] #[.int .u64 0,.slice none 0 0,.slice none 0 0,.bool false] 50 36
 have HB:=Lib.hid hb
 have HQ1:=Lib.hid hq1
 have HQ2:=Lib.hid hq2
 have H0:=Lib.hid (h.below hb)
 have HH0:=Lib.hid h
 have HV:=Lib.hid h.rows.rowV
 have HZB:=Lib.hid h.st.bytes.1
 have HRK:Hid (rk<w.heap.size):=Lib.hid (blk_lt h.st.blk)
 have HAT:=Lib.hid ha
 have hk13:=ht.hi
 have HNT:Hid (∀ W,Calls Tryd.prog 38 #[.agg #[.int .u8 k,.int .i64 r,.int .i64 l]] W fun e w'=>e=.returned (.bool false)∧Below W.heap.size W w'):=Lib.hid (fun W=>by
  have h5:=rnumI_any k (by omega) r l W
  rw [num_no hs1] at h5
  exact h5)
 have HJ:=Lib.hid hj
 have HIN:=Lib.hid hin
 have HLE:Hid (lenZ zs≤16384∧0≤left∧left≤lenZ zs):=Lib.hid ⟨h.len,h.hl⟩
 have hld:=leAt_4 zs (toJ zs at').toNat h.st.bytes.1
 have hldO:ldO zs (toJ zs at') 4=leAt zs (toJ zs at').toNat 4:=if_pos hin
 obtain ⟨n,hn⟩:∃ n:Nat,leAt zs (toJ zs at').toNat 4=n:=Int.eq_ofNat_of_zero_le hld.1
 rw [hn] at hld hldO hpos
 have hl1:(l:Int)-1=(lm:Int):=by omega
 have hwl:=IntWalk.i64_in (lm:Int) (by have:=ht.li;omega)
 rw [hl1]
 have hsb:=step_bd k (lm:Int)
 obtain ⟨st,hst⟩:∃ st,stepZ k lm=st:=⟨_,rfl⟩
 rw [hst] at hsb
 have HEQ:=Lib.hid (listAt_eq (nx:=nextZ (sRecs ss) (es.map Prod.fst) zs room) (r:=r) (left:=left) hin hn hst rfl)
 have HNV:=Lib.hid hldO
 have HTY:Hid (TyM ss.length (es.map Prod.fst) k r lm):=Lib.hid ⟨ht.lo,ht.hi,by have:=ht.li;omega,ht.en,ht.st⟩
 obtain ⟨P,hP⟩:∃ P,RdPost (listAtZ zs (nextZ (sRecs ss) (es.map Prod.fst) zs room) k r lm (toJ zs at') left) w rk sv ev root bp bc zs=P:=⟨_,rfl⟩
 rw [hP]
 have HP:=Lib.hid hP.symm
 have hi1:=inZ_iff.1 hin
 obtain ⟨a,hta⟩:∃ a:Nat,toJ zs at'=a:=⟨(toJ zs at').toNat,by omega⟩
 have HTA:=Lib.hid hta
 rw [hta] at HIN HNV
 rw [hta] at HEQ
 have HI1:Hid (a+4≤zs.length∧zs.length≤16384):=Lib.hid (by rw [hta] at hi1;have h2:=h.st.len;unfold lenZ at hi1;omega)
 have hl0:((l:Int)==0)=false:=by simp;omega
 have HN0:=Lib.hid (fun W=>rnumI_any k (by omega) r lm W)
 rw [hnum] at HN0
 obtain rfl:st=4:=by unfold stepZ at hst;rw [hnum,if_neg (by decide)] at hst;omega
 have hroom:(room:Int)<1:=by omega
 have HNR:Hid (room=0∧n≠0):=Lib.hid ⟨hr0,by omega⟩
 have hmul:0≤(n:Int) * 4∧(n:Int) * 4≤40000000000:=⟨Int.mul_nonneg (by omega) (by omega),by
  have h5:(n:Int) * 4≤4294967296 * 8:=Int.mul_le_mul (by omega) (by omega) (by omega) (by omega)
  omega⟩
 have hw1:=IntWalk.i64_in ((n:Int) * 4) ⟨by omega,by omega⟩
 have hw2:=IntWalk.i64_in (4+(n:Int) * 4) ⟨by omega,by omega⟩
 have HMU:=Lib.hid hmul
 have HSB:=Lib.hid hsb
 clear hb hq1 hq2 h hP hs1 hk13 ha ht hin hj hn hldO hi1 hst hlm hnum hld hmul hsb hr0
 go_enter Tryd.func106,Tryd.ntmps106
 go_upto_region 1 with (fail)
 generalize (w.alloc (.cells #[.int .u8 k,.int .i64 r,.int .i64 l] 50)).alloc (.cells #[.int .u64 0,.slice none 0 0,.slice none 0 0,.bool false] 36)=W0 at *
 obtain ⟨_,c0,c1,c2,c3,c4,c5⟩:=blk6 H0.out.st.blk
 obtain ⟨_,s0,s1,s2,_⟩:=blk3 HQ1.out
 go_wp2_with fail
 refine (HNT.out _).mono ?_
 rintro e W1 ⟨rfl,hb1⟩
 have HB1:=Lib.hid (HB.out.trans (hb1.mono HB.out.size))
 have H1:=Lib.hid (H0.out.below hb1)
 have P1:=Lib.hid (blk_below HQ1.out hb1 (blk_lt HQ1.out))
 have P2:=Lib.hid (blk_below HQ2.out hb1 (blk_lt HQ2.out))
 clear hb1 c0 c1 c2 c3 c4 c5 s0 s1 s2
 go_wp2_with fail
 refine (jump_ctx H1.out at' HAT.out).mono ?_
 rintro e W2 ⟨rfl,hs2,hx2⟩
 have HX2:=Lib.hid (Exw.after HB1.out hx2)
 have S2:=Lib.hid hs2
 have P12:=Lib.hid (blk_exw P1.out hx2 (blk_lt P1.out) (by have:=HRK.out;omega) (by have:=HRK.out;omega))
 have P22:=Lib.hid (blk_exw P2.out hx2 (blk_lt P2.out) (by have:=HRK.out;omega) (by have:=HRK.out;omega))
 have hx2K:=hx2
 clear hs2 hx2
 obtain ⟨_,s0,s1,s2,_⟩:=blk3 P12.out
 have H2:=Lib.hid (H1.out.exw hx2K (by have h5:=S2.out;rw [HJ.out] at h5;exact h5) HLE.out.2)
 clear hx2K
 go_wp2_with fail
 refine (rdnum_any W2 H2.out.st HV.out _ 4 (.inr rfl)).mono ?_
 rintro e W3 ⟨rfl,hs3,hx3⟩
 rw [show (false || !inZ (lenZ zs) (a:Int) ((4:Nat):Int))=false from by rw [Bool.false_or,show inZ (lenZ zs) (a:Int) ((4:Nat):Int)=true from HIN.out];rfl] at hs3
 rw [HNV.out]
 have HX3:=Lib.hid (HX2.out.then hx3)
 have H3:=Lib.hid (H2.out.exw hx3 hs3 HLE.out.2)
 have P13:=Lib.hid (blk_exw P12.out hx3 (blk_lt P12.out) (by have:=HRK.out;omega) (by have:=HRK.out;omega))
 have P23:=Lib.hid (blk_exw P22.out hx3 (blk_lt P22.out) (by have:=HRK.out;omega) (by have:=HRK.out;omega))
 clear hs3 hx3 s0 s1 s2
 obtain ⟨_,c0,c1,c2,c3,c4,c5⟩:=blk6 H3.out.st.blk
 obtain ⟨_,s0,s1,s2,_⟩:=blk3 P13.out
 have hba:Below W3.heap.size W3 (W3.alloc (.cells #[.int .u8 k,.int .i64 r,.int .i64 l] 50)):=(Below.refl _ _).alloc (Nat.le_refl _) _
 have hba5:=hba.setCell (p:=⟨W3.heap.size,2,none⟩) (Nat.le_refl _) (.int .i64 lm)
 have HEN:=Lib.hid (heap_alloc_new W3 (.cells #[.int .u8 k,.int .i64 r,.int .i64 l] 50))
 have HE2:=Lib.hid ((blk_set HEN.out 2 (.int .i64 lm)).trans rfl)
 have H5:=Lib.hid (H3.out.below hba5)
 have HX5:=Lib.hid (HX3.out.bel hba5)
 have P25:=Lib.hid (blk_below P23.out hba5 (blk_lt P23.out))
 have HE1:Hid (w.heap.size+1<W3.heap.size):=Lib.hid (blk_lt P23.out)
 clear hba hba5
 go_upto_region 31 with (fail)
 clear s0 s1 s2 c0 c1 c2 c3 c4 c5
 generalize W3.alloc (.cells #[.int .u8 k,.int .i64 r,.int .i64 l] 50)=W4 at *
 generalize W3.heap.size=E at *
 obtain ⟨_,s0,s1,s2,_⟩:=blk3 HEN.out
 have p2:=blk_frozen HEN.out 2
 go_upto_region 33 with (fail)
 clear s0 s1 s2 p2
 generalize W4.setCell ⟨E,2,none⟩ (.int .i64 lm)=W5 at *
 obtain ⟨_,s0,s1,s2,_⟩:=blk3 HE2.out
 go_wp2_with fail
 refine (HN0.out _).mono ?_
 rintro e W6 ⟨rfl,hb6⟩
 have H6:=Lib.hid (H5.out.below hb6)
 have HX6:=Lib.hid (HX5.out.bel hb6)
 have P26:=Lib.hid (blk_below P25.out hb6 (blk_lt P25.out))
 have HE6:=Lib.hid (blk_below HE2.out hb6 (blk_lt HE2.out))
 have HE9:Hid (E<W6.heap.size):=Lib.hid (blk_lt HE6.out)
 clear hb6 s0 s1 s2
 obtain ⟨_,s0,s1,s2,_⟩:=blk3 HE6.out
 have HZR:Hid (listAtZ zs (nextZ (sRecs ss) (es.map Prod.fst) zs room) k r lm (toJ zs at') left=none):=Lib.hid (by
  rw [HTA.out,HEQ.out]
  split
  · rw [HNR.out.1]
    exact if_neg HNR.out.2
  · rfl)
 have HRC:Hid (0≤lenZ zs-left∧lenZ zs-left≤1000000000000):=Lib.hid (by have:=HLE.out;omega)
 obtain ⟨_,c0,c1,c2,c3,c4,c5⟩:=blk6 H6.out.st.blk
 have f5:=blk_frozen H6.out.st.blk 5
 have HS8:=Lib.hid ((blk_set H6.out.st.blk 5 (.bool true)).trans rfl)
 have HX8:=Lib.hid (HX6.out.setCell (p:=⟨rk,5,none⟩) (.inl rfl) (.bool true))
 have P28:=Lib.hid (blk_set_ne P26.out (p:=⟨rk,5,none⟩) (by have:=HRK.out;show rk≠_;omega) (.bool true))
 go_upto_region 37 with (fail)
 clear c0 c1 c2 c3 c4 c5 f5 s0 s1 s2
 generalize W6.setCell ⟨rk,5,none⟩ (.bool true)=W8 at *
 obtain ⟨_,u0,u1,u2,u3⟩:=blk4p P28.out
 have p0:=blk_frozen P28.out 0
 have p1:=blk_frozen P28.out 1
 have p2:=blk_frozen P28.out 2
 have p3:=blk_frozen P28.out 3
 go_wp2
 refine post_gen (fun Wf=>Wf.heap[w.heap.size+1]?=some (.cells #[.int .u64 0,.slice none 0 0,.slice none 0 0,.bool false] 36 (0,0))∧P (.returned (.agg #[.int .u64 0,.slice none 0 0,.slice none 0 0,.bool false])) Wf) ⟨?_,?_⟩ ?_
 · exact blk_set4 P28.out _ _ _ _
 · rw [HP.out]
   have hx4:=((((HX8.out).setCell (p:=⟨w.heap.size+1,0,none⟩) (.inr (.inr (show w.heap.size≤w.heap.size+1 by omega))) (.int .u64 0)).setCell (p:=⟨w.heap.size+1,1,none⟩) (.inr (.inr (show w.heap.size≤w.heap.size+1 by omega))) (.slice none 0 0)).setCell (p:=⟨w.heap.size+1,2,none⟩) (.inr (.inr (show w.heap.size≤w.heap.size+1 by omega))) (.slice none 0 0)).setCell (p:=⟨w.heap.size+1,3,none⟩) (.inr (.inr (show w.heap.size≤w.heap.size+1 by omega))) (.bool false)
   exact rdpost_bad HZR.out hx4 (vform _ _ _ _ _ _ _ _) HRC.out.1 HRC.out.2 (HH0.out.st.keep HV.out hx4 ((set4_blk W8 (by have:=HRK.out;omega) _ _ _ _).trans HS8.out))
 · rintro Wf ⟨e1,e2⟩
   obtain ⟨_,d0,d1,d2,d3⟩:=blk4p e1
   exact bodyPost_ret (v:=.agg #[.int .u64 0,.slice none 0 0,.slice none 0 0,.bool false]) (by simp [results,Tryd.results106,go_sem,d0,d1,d2,d3]) rfl e2
end Go.Proofs.YtcfjjocmiheiaaaDoor
