/-
  The package schema's Check: is what lies in memory a schema? Conditions: those that each theorem names; the library's tables hold what the row lists.
-/
import Derived.Test.YtokhnoogkdlidaaGreatDoorPkP1
import Derived.Test.YtokhnoogkdlidaaGreatDoorPkP3
import Derived.Test.YtokhnoogkdlidaaGreatDoorPkP18
import Derived.Test.YtokhnoogkdlidaaGreatDoorPkP22
import Derived.Test.YtokhnoogkdlidaaGreatDoorPkP37
import Derived.Deep.QuietTactic
import Derived.BigQuiet
import Derived.Deep.RegionHeld3
namespace Go.Proofs.YtokhnoogkdlidaaGreatDoor
open Go.ChangeShapes Go.WideShapes Go.ChangeAt Go.RowKit Go.Shelf
theorem map_fst_at2 {α β:Type}{l l':List (α × β)}(h:l.map Prod.fst=l'.map Prod.fst)(k:Nat)(hk:k<l.length):∃ hk':k<l'.length,l[k].1=l'[k].1:=by
 have hl:l.length=l'.length:=by simpa using congrArg List.length h
 refine ⟨hl▸hk,?_⟩
 have h1:(l.map Prod.fst)[k]?=(l'.map Prod.fst)[k]?:=by rw [h]
 rw [List.getElem?_map,List.getElem?_map,List.getElem?_eq_getElem hk,List.getElem?_eq_getElem (hl▸hk)] at h1
 exact Option.some.inj h1
set_option maxRecDepth 100000 in
set_option maxHeartbeats 16000000 in
theorem samesch_any (w:World){ss ss':List (SRec × Value)}{es es':List (SCho × Value)}{sv ev sv' ev':Value}{b b' rt:Nat}(h:SchRows b w ss es sv ev)(h':SchRows b' w ss' es' sv' ev')(hss:ss.map Prod.fst=ss'.map Prod.fst)(hes:es.map Prod.fst=es'.map Prod.fst) :
  Calls Tryz.prog 9 #[.agg #[sv,ev,.int .i64 rt],.agg #[sv',ev',.int .i64 rt]] w fun e w'=>e=.returned (.bool true)∧Below w.heap.size w w':=by
 have HSS:=Lib.hid hss
 have HES:=Lib.hid hes
 have hl1:ss.length=ss'.length:=by simpa using congrArg List.length hss
 have hl2:es.length=es'.length:=by simpa using congrArg List.length hes
 have HL1:=Lib.hid hl1
 have HL2:=Lib.hid hl2
 have hf1:=row_few h.structs
 have hf2:=row_few h.enums
 obtain ⟨sa,sc,ea,ec,rfl,rfl⟩:=h.forms
 obtain ⟨sa',sc',ea',ec',rfl,rfl⟩:=h'.forms
 have HR:=Lib.hid h
 have HR':=Lib.hid h'
 rw [←hl1,←hl2]
 obtain ⟨hb0,hq1,hq2⟩:=two_blk w #[.slice sa ss.length sc,.slice ea es.length ec,.int .i64 rt] #[.slice sa' ss.length sc',.slice ea' es.length ec',.int .i64 rt] 30 30
 have HQ1:=Lib.hid hq1
 have HQ2:=Lib.hid hq2
 have HB0:=Lib.hid hb0
 clear h h' hss hes hl1 hl2 hq1 hq2 hb0
 go_enter Tryz.func9,Tryz.ntmps9
 go_upto_region 1 with (fail)
 generalize ((w.alloc (.cells #[.slice sa ss.length sc,.slice ea es.length ec,.int .i64 rt] 30)).alloc (.cells #[.slice sa' ss.length sc',.slice ea' es.length ec',.int .i64 rt] 30))=W0 at *
 obtain ⟨_,p0,p1,p2,_⟩:=blk3 HQ1.out
 obtain ⟨_,q0,q1,q2,_⟩:=blk3 HQ2.out
 go_upto_region 3 with (fail)
 go_wp2_with fail
 clear p0 p1 p2 q0 q1 q2
 go_loopw [5] (fun i wr=>Below w.heap.size w wr∧wr.heap[w.heap.size]?=some (.cells #[.slice sa ss.length sc,.slice ea es.length ec,.int .i64 rt] 30 (0,0))∧wr.heap[w.heap.size+1]?=some (.cells #[.slice sa' ss.length sc',.slice ea' es.length ec',.int .i64 rt] 30 (0,0))∧∃ k:Nat,k≤ss.length∧i=.int .i64 k) (fun i _=>ss.length-(intOf i).toNat)
 case atStart=>exact ⟨HB0.out,HQ1.out,HQ2.out,0,Nat.zero_le _,rfl⟩
 case round =>
  clear HB0 HQ1 HQ2
  obtain ⟨hb,hp1,hp2,k,hk,rfl⟩:=hrel
  have HB:=Lib.hid hb
  have HP1:=Lib.hid hp1
  have HP2:=Lib.hid hp2
  clear hb hp1 hp2
  obtain ⟨_,p0,p1,p2,_⟩:=blk3 HP1.out
  obtain ⟨_,q0,q1,q2,_⟩:=blk3 HP2.out
  by_cases hlt:k<ss.length
  · obtain ⟨hk',he⟩:=map_fst_at2 HSS.out k hlt
    obtain ⟨g,c,za,zc,hv,hc,hg,x0,x1,hz⟩:=(HR.out.below HB.out).strct k hlt
    obtain ⟨rfl,rfl⟩:=slice_inj hv
    obtain ⟨g',c',za',zc',hv',hc',hg',y0,y1,hz'⟩:=(HR'.out.below HB.out).strct k hk'
    rw [←HL1.out] at hv' hc'
    obtain ⟨rfl,rfl⟩:=slice_inj hv'
    have HF:=Lib.hid ((HR.out.below HB.out).fields _ (List.getElem_mem hlt))
    have HF':=Lib.hid ((HR'.out.below HB.out).fields _ (List.getElem_mem hk'))
    rw [hz] at HF
    rw [hz'] at HF'
    rw [←he] at y0 y1 HF'
    generalize ss[k].1=d at *
    generalize hnm:d.name=nm at *
    generalize hdl:d.fields=dl at *
    generalize hcn:dl.length=cnt at *
    have HCN:=Lib.hid hcn
    have hki:(k:Int)<ss.length:=by omega
    clear hv hv' hz hz' he hnm hdl hcn
    go_upto_region 6 with (fail)
    go_region_held3 (fun w'=>w'.cell? ⟨w.heap.size,0,none⟩=some (.slice (some ⟨g,0,none⟩) ss.length sc)∧w'.cell? ⟨w.heap.size+1,0,none⟩=some (.slice (some ⟨g',0,none⟩) ss.length sc')∧w'.cell? ⟨g,k * 2,none⟩=some (.string nm)∧w'.cell? ⟨g,k * 2+1,none⟩=some (.slice za cnt zc)∧w'.cell? ⟨g',k * 2,none⟩=some (.string nm)∧w'.cell? ⟨g',k * 2+1,none⟩=some (.slice za' cnt zc')) (first|assumption|go_keep) (first|fail)
    all_goals
     go_upto_region 7 with (fail)
     have hbb:Below wr.heap.size wr ((wr.alloc (.cells #[.string nm,.slice za cnt zc] 52)).alloc (.cells #[.string nm,.slice za' cnt zc'] 52)).drew:=(((Below.refl _ _).alloc (Nat.le_refl _) _).alloc (by simp) _).drew
     have hbb':Below wr.heap.size wr ((wr.alloc (.cells #[.string nm,.slice za' cnt zc'] 52)).alloc (.cells #[.string nm,.slice za cnt zc] 52)).drew:=(((Below.refl _ _).alloc (Nat.le_refl _) _).alloc (by simp) _).drew
     have ht1:=(two_blk wr #[.string nm,.slice za cnt zc] #[.string nm,.slice za' cnt zc'] 52 52).2
     have ht2:=(two_blk wr #[.string nm,.slice za' cnt zc'] #[.string nm,.slice za cnt zc] 52 52).2
     first
      | (obtain ⟨W2,hW2⟩:∃ W2,((wr.alloc (.cells #[.string nm,.slice za cnt zc] 52)).alloc (.cells #[.string nm,.slice za' cnt zc'] 52)).drew=W2:=⟨_,rfl⟩
         rw [hW2]
         have hx:W2.heap[wr.heap.size]?=some (.cells #[.string nm,.slice za cnt zc] 52 (0,0)):=by rw [←hW2];exact ht1.1
         have hy:W2.heap[wr.heap.size+1]?=some (.cells #[.string nm,.slice za' cnt zc'] 52 (0,0)):=by rw [←hW2];exact ht1.2
         rw [hW2] at hbb
         clear ht1 ht2 hbb' hW2)
      | (obtain ⟨W2,hW2⟩:∃ W2,((wr.alloc (.cells #[.string nm,.slice za' cnt zc'] 52)).alloc (.cells #[.string nm,.slice za cnt zc] 52)).drew=W2:=⟨_,rfl⟩
         rw [hW2]
         have hy:W2.heap[wr.heap.size]?=some (.cells #[.string nm,.slice za' cnt zc'] 52 (0,0)):=by rw [←hW2];exact ht2.1
         have hx:W2.heap[wr.heap.size+1]?=some (.cells #[.string nm,.slice za cnt zc] 52 (0,0)):=by rw [←hW2];exact ht2.2
         rw [hW2] at hbb'
         have hbb:=hbb'
         clear ht1 ht2 hbb' hW2)
     have HB2:=Lib.hid (HB.out.trans (hbb.mono HB.out.size))
     have HP3:=Lib.hid (blk_below HP1.out hbb (blk_lt HP1.out))
     have HP4:=Lib.hid (blk_below HP2.out hbb (blk_lt HP2.out))
     have HX:=Lib.hid hx
     have HY:=Lib.hid hy
     have HG:=Lib.hid (row_below hbb HF.out)
     have HG':=Lib.hid (row_below hbb HF'.out)
     have hff:=row_few HG.out
     obtain ⟨_,u0,u1,_⟩:=blk2 hx
     obtain ⟨_,v0,v1,_⟩:=blk2 hy
     clear hbb hx hy p0 q0 p1 q1 p2 q2 x0 x1 y0 y1 HF HF' HP1 HP2 HB
     go_upto_region 9 with (fail)
     go_wp2_with fail
     clear u0 u1 v0 v1
     go_loopw [8] (fun i wq=>Below W2.heap.size W2 wq∧∃ j:Nat,j≤cnt∧i=.int .i64 j) (fun i _=>cnt-(intOf i).toNat)
     case atStart=>exact ⟨Below.refl _ _,0,Nat.zero_le _,rfl⟩
     case round =>
      obtain ⟨hb,j,hj,rfl⟩:=hrel
      have HBQ:=Lib.hid hb
      obtain ⟨_,u0,u1,_⟩:=blk2 (blk_below HX.out hb (blk_lt HX.out))
      obtain ⟨_,v0,v1,_⟩:=blk2 (blk_below HY.out hb (blk_lt HY.out))
      clear hb
      by_cases hjl:j<cnt
      · have hjd:j<dl.length:=by rw [HCN.out];exact hjl
        have hgr:=row_below HBQ.out HG.out
        have hgr':=row_below HBQ.out HG'.out
        rw [←HCN.out] at hgr hgr'
        obtain ⟨g2,c2,hv2,hc2,hg2,hcell2⟩:=row_el sfldCells 5 (fun _=>rfl) hgr j hjd
        obtain ⟨g3,c3,hv3,hc3,hg3,hcell3⟩:=row_el sfldCells 5 (fun _=>rfl) hgr' j hjd
        rw [HCN.out] at hv2 hv3 hc2 hc3
        obtain ⟨rfl,rfl⟩:=slice_inj hv2
        obtain ⟨rfl,rfl⟩:=slice_inj hv3
        have a0:=hcell2 0 (by omega)
        have b0:=hcell3 0 (by omega)
        have a1:=hcell2 1 (by omega)
        have b1:=hcell3 1 (by omega)
        have a2:=hcell2 2 (by omega)
        have b2:=hcell3 2 (by omega)
        have a3:=hcell2 3 (by omega)
        have b3:=hcell3 3 (by omega)
        have a4:=hcell2 4 (by omega)
        have b4:=hcell3 4 (by omega)
        generalize dl[j]=f at *
        simp only [sfldCells,List.getElem?_cons_zero,List.getElem?_cons_succ,Nat.add_zero] at a0 b0 a1 b1 a2 b2 a3 b3 a4 b4
        have hji:(j:Int)<cnt:=by omega
        clear hcell2 hcell3 hv2 hv3 hgr hgr' hjd
        go_upto_region 12 with (fail)
        go_quiet (fail)
        go_wp2
        go_roundw
        case rel=>exact ⟨bel_drewN HBQ.out nq,j+1,hjl,by go_num⟩
        case measure=>simp [intOf];omega
      · obtain rfl:j=cnt:=by omega
        clear hjl
        go_wp2
        go_roundw
        case rel=>exact ⟨HB2.out.trans (HBQ.out.mono HB2.out.size),blk_below HP3.out HBQ.out (blk_lt HP3.out),blk_below HP4.out HBQ.out (blk_lt HP4.out),k+1,hlt,by go_num⟩
        case measure=>simp [intOf];omega
  · obtain rfl:k=ss.length:=by omega
    clear hlt
    go_upto_region 14 with (fail)
    go_wp2_with fail
    clear p0 p1 p2 q0 q1 q2
    go_loopw [9] (fun i wr=>Below w.heap.size w wr∧wr.heap[w.heap.size]?=some (.cells #[.slice sa ss.length sc,.slice ea es.length ec,.int .i64 rt] 30 (0,0))∧wr.heap[w.heap.size+1]?=some (.cells #[.slice sa' ss.length sc',.slice ea' es.length ec',.int .i64 rt] 30 (0,0))∧∃ k:Nat,k≤es.length∧i=.int .i64 k) (fun i _=>es.length-(intOf i).toNat)
    case atStart=>exact ⟨HB.out,HP1.out,HP2.out,0,Nat.zero_le _,rfl⟩
    case round =>
     clear HB HP1 HP2
     obtain ⟨hb,hp1,hp2,k,hk,rfl⟩:=hrel
     have HB:=Lib.hid hb
     have HP1:=Lib.hid hp1
     have HP2:=Lib.hid hp2
     clear hb hp1 hp2
     obtain ⟨_,p0,p1,p2,_⟩:=blk3 HP1.out
     obtain ⟨_,q0,q1,q2,_⟩:=blk3 HP2.out
     by_cases hlt:k<es.length
     · obtain ⟨hk',he⟩:=map_fst_at2 HES.out k hlt
       obtain ⟨g,c,za,zc,hv,hc,hg,x0,x1,hz⟩:=(HR.out.below HB.out).enum k hlt
       obtain ⟨rfl,rfl⟩:=slice_inj hv
       obtain ⟨g',c',za',zc',hv',hc',hg',y0,y1,hz'⟩:=(HR'.out.below HB.out).enum k hk'
       rw [←HL2.out] at hv' hc'
       obtain ⟨rfl,rfl⟩:=slice_inj hv'
       have HF:=Lib.hid ((HR.out.below HB.out).names _ (List.getElem_mem hlt))
       have HF':=Lib.hid ((HR'.out.below HB.out).names _ (List.getElem_mem hk'))
       rw [hz] at HF
       rw [hz'] at HF'
       rw [←he] at y0 y1 HF'
       generalize es[k].1=d at *
       generalize hnm:d.name=nm at *
       generalize hdl:d.names=dl at *
       generalize hcn:dl.length=cnt at *
       have HCN:=Lib.hid hcn
       have hki:(k:Int)<es.length:=by omega
       clear hv hv' hz hz' he hnm hdl hcn
       go_upto_region 17 with (fail)
       go_region_held3 (fun w'=>w'.cell? ⟨w.heap.size,1,none⟩=some (.slice (some ⟨g,0,none⟩) es.length ec)∧w'.cell? ⟨w.heap.size+1,1,none⟩=some (.slice (some ⟨g',0,none⟩) es.length ec')∧w'.cell? ⟨g,k * 2,none⟩=some (.string nm)∧w'.cell? ⟨g,k * 2+1,none⟩=some (.slice za cnt zc)∧w'.cell? ⟨g',k * 2,none⟩=some (.string nm)∧w'.cell? ⟨g',k * 2+1,none⟩=some (.slice za' cnt zc')) (first|assumption|go_keep) (first|fail)
       all_goals
        go_upto_region 18 with (fail)
        have hbb:Below wr.heap.size wr ((wr.alloc (.cells #[.string nm,.slice za cnt zc] 55)).alloc (.cells #[.string nm,.slice za' cnt zc'] 55)).drew:=(((Below.refl _ _).alloc (Nat.le_refl _) _).alloc (by simp) _).drew
        have hbb':Below wr.heap.size wr ((wr.alloc (.cells #[.string nm,.slice za' cnt zc'] 55)).alloc (.cells #[.string nm,.slice za cnt zc] 55)).drew:=(((Below.refl _ _).alloc (Nat.le_refl _) _).alloc (by simp) _).drew
        have ht1:=(two_blk wr #[.string nm,.slice za cnt zc] #[.string nm,.slice za' cnt zc'] 55 55).2
        have ht2:=(two_blk wr #[.string nm,.slice za' cnt zc'] #[.string nm,.slice za cnt zc] 55 55).2
        first
         | (obtain ⟨W2,hW2⟩:∃ W2,((wr.alloc (.cells #[.string nm,.slice za cnt zc] 55)).alloc (.cells #[.string nm,.slice za' cnt zc'] 55)).drew=W2:=⟨_,rfl⟩
            rw [hW2]
            have hx:W2.heap[wr.heap.size]?=some (.cells #[.string nm,.slice za cnt zc] 55 (0,0)):=by rw [←hW2];exact ht1.1
            have hy:W2.heap[wr.heap.size+1]?=some (.cells #[.string nm,.slice za' cnt zc'] 55 (0,0)):=by rw [←hW2];exact ht1.2
            rw [hW2] at hbb
            clear ht1 ht2 hbb' hW2)
         | (obtain ⟨W2,hW2⟩:∃ W2,((wr.alloc (.cells #[.string nm,.slice za' cnt zc'] 55)).alloc (.cells #[.string nm,.slice za cnt zc] 55)).drew=W2:=⟨_,rfl⟩
            rw [hW2]
            have hy:W2.heap[wr.heap.size]?=some (.cells #[.string nm,.slice za' cnt zc'] 55 (0,0)):=by rw [←hW2];exact ht2.1
            have hx:W2.heap[wr.heap.size+1]?=some (.cells #[.string nm,.slice za cnt zc] 55 (0,0)):=by rw [←hW2];exact ht2.2
            rw [hW2] at hbb'
            have hbb:=hbb'
            clear ht1 ht2 hbb' hW2)
        have HB2:=Lib.hid (HB.out.trans (hbb.mono HB.out.size))
        have HP3:=Lib.hid (blk_below HP1.out hbb (blk_lt HP1.out))
        have HP4:=Lib.hid (blk_below HP2.out hbb (blk_lt HP2.out))
        have HX:=Lib.hid hx
        have HY:=Lib.hid hy
        have HG:=Lib.hid (row_below hbb HF.out)
        have HG':=Lib.hid (row_below hbb HF'.out)
        have hff:=row_few HG.out
        obtain ⟨_,u0,u1,_⟩:=blk2 hx
        obtain ⟨_,v0,v1,_⟩:=blk2 hy
        clear hbb hx hy p0 q0 p1 q1 p2 q2 x0 x1 y0 y1 HF HF' HP1 HP2 HB
        go_upto_region 20 with (fail)
        go_wp2_with fail
        clear u0 u1 v0 v1
        go_loopw [12] (fun i wq=>Below W2.heap.size W2 wq∧∃ j:Nat,j≤cnt∧i=.int .i64 j) (fun i _=>cnt-(intOf i).toNat)
        case atStart=>exact ⟨Below.refl _ _,0,Nat.zero_le _,rfl⟩
        case round =>
         obtain ⟨hb,j,hj,rfl⟩:=hrel
         have HBQ:=Lib.hid hb
         obtain ⟨_,u0,u1,_⟩:=blk2 (blk_below HX.out hb (blk_lt HX.out))
         obtain ⟨_,v0,v1,_⟩:=blk2 (blk_below HY.out hb (blk_lt HY.out))
         clear hb
         by_cases hjl:j<cnt
         · have hjd:j<dl.length:=by rw [HCN.out];exact hjl
           have hgr:=row_below HBQ.out HG.out
           have hgr':=row_below HBQ.out HG'.out
           rw [←HCN.out] at hgr hgr'
           obtain ⟨g2,c2,hv2,hc2,hg2,hcell2⟩:=row_el strCells 1 (fun _=>rfl) hgr j hjd
           obtain ⟨g3,c3,hv3,hc3,hg3,hcell3⟩:=row_el strCells 1 (fun _=>rfl) hgr' j hjd
           rw [HCN.out] at hv2 hv3 hc2 hc3
           obtain ⟨rfl,rfl⟩:=slice_inj hv2
           obtain ⟨rfl,rfl⟩:=slice_inj hv3
           have a0:=hcell2 0 (by omega)
           have b0:=hcell3 0 (by omega)
           generalize dl[j]=f at *
           simp only [strCells,List.getElem?_cons_zero,Nat.add_zero,Nat.mul_one] at a0 b0
           have hji:(j:Int)<cnt:=by omega
           clear hcell2 hcell3 hv2 hv3 hgr hgr' hjd
           go_upto_region 23 with (fail)
           go_quiet (fail)
           go_wp2
           go_roundw
           case rel=>exact ⟨bel_drewN HBQ.out nq,j+1,hjl,by go_num⟩
           case measure=>simp [intOf];omega
         · obtain rfl:j=cnt:=by omega
           clear hjl
           go_wp2
           go_roundw
           case rel=>exact ⟨HB2.out.trans (HBQ.out.mono HB2.out.size),blk_below HP3.out HBQ.out (blk_lt HP3.out),blk_below HP4.out HBQ.out (blk_lt HP4.out),k+1,hlt,by go_num⟩
           case measure=>simp [intOf];omega
     · obtain rfl:k=es.length:=by omega
       clear hlt
       go_wp2
       go_ret
       exact ⟨rfl,HB.out⟩
end Go.Proofs.YtokhnoogkdlidaaGreatDoor
namespace Go.Proofs.YtokhnoogkdlidaaGreatDoor
open Go.ChangeShapes Go.WideShapes Go.ChangeAt Go.RowKit Go.Shelf
set_option maxRecDepth 100000 in
set_option maxHeartbeats 4000000 in
theorem chk1_any (w:World)(S:Nat){base:Nat}{ss:List (CRec × Value)}{es:List (SCho × Value)}{sv ev:Value}(root:Int)(h:CRows base w ss es sv ev)(hS:w.heap[S]?=some (.cells #[sv,ev,.int .i64 root] 30 (0,0)))(q:CRec × Value)(hq:q ∈ ss)(hf:∀ f ∈ q.1.fields,FldFit f)(hT:Tabs w) :
  Calls Tryz.prog 29 #[.agg #[.string q.1.name,q.2],.pointer (some ⟨S,0,none⟩)] w fun e w'=>e=.returned (.bool (recordB ss.length (es.map Prod.fst) q.1))∧Below w.heap.size w w':=by
 obtain ⟨sa,sc,ea,ec,rfl,rfl⟩:=h.forms
 have hr:=h.fields q hq
 obtain ⟨r,v⟩:=q
 simp only at hf hr
 obtain ⟨a,cp,rfl⟩:=ownsRow_form hr
 have h0:=heap_alloc_new w (.cells #[.string r.name,.slice a r.fields.length cp] 52)
 have hb:=(Below.refl w.heap.size w).alloc (Nat.le_refl _) (.cells #[.string r.name,.slice a r.fields.length cp] 52)
 have HB:=Lib.hid hb
 have HC:=Lib.hid (srecord_any _ root (h.below hb) r _ (row_keep hb hr) hf (hT.below (Nat.le_refl _) hb))
 obtain ⟨_,p0,p1,p2,_⟩:=blk3 (blk_below hS hb (blk_lt hS))
 obtain ⟨_,q0,q1,_⟩:=blk2 h0
 clear h0 hb h hT hS hf hr hq
 go_enter Tryz.func29,Tryz.ntmps29
 go_upto_region 1 with (fail)
 generalize (w.alloc (.cells #[.string r.name,.slice a r.fields.length cp] 52))=W0 at *
 go_wp2_with fail
 refine HC.out.mono ?_
 rintro e W1 ⟨rfl,hb1⟩
 have HB1:=Lib.hid (HB.out.trans (hb1.mono HB.out.size))
 clear hb1 p0 p1 p2 q0 q1
 go_wp2
 go_ret
 exact ⟨rfl,HB1.out⟩
theorem tells_chk1 (w:World)(S:Nat){base:Nat}{ss:List (CRec × Value)}{es:List (SCho × Value)}{sv ev:Value}(root:Int)(h:CRows base w ss es sv ev)(hS:w.heap[S]?=some (.cells #[sv,ev,.int .i64 root] 30 (0,0)))(hf:∀ q ∈ ss,∀ f ∈ q.1.fields,FldFit f)(hT:Tabs w) :
  Tells w 29 #[.pointer (some ⟨S,0,none⟩)] (fun q:CRec × Value=>Value.agg #[.string q.1.name,q.2]) ss (fun q=>recordB ss.length (es.map Prod.fst) q.1):=
 ⟨enters_of Tryz.func29 (by kernel_rfl) rfl,fun W x hx hb=>chk1_any W S root (h.below hb) (blk_below hS hb (blk_lt hS)) x hx (hf x hx) (hT.below (Nat.le_refl _) hb)⟩
theorem tells_cho (w:World){base:Nat}{es:List (SCho × Value)}(h:∀ q ∈ es,w.ownsRow base 9 1 q.2 q.1.names.length (strsCells q.1.names))(hs:∀ q ∈ es,∀ s ∈ q.1.names,s.size≤281474976710656)(hT:Tabs w) :
  Tells w 27 #[] (fun q:SCho × Value=>Value.agg #[.string q.1.name,q.2]) es (fun q=>choiceB q.1):=
 ⟨enters_of Tryz.func27 (by kernel_rfl) rfl,fun W x hx hb=>schoice_any x.1 x.2 base W (row_keep hb (h x hx)) (hT.below (Nat.le_refl _) hb) (hs x hx)⟩
theorem namesC_rows (ss:List (CRec × Value))(es:List (SCho × Value)):namesC (ss.map Prod.fst) (es.map Prod.fst)=(es.map fun q=>q.1.name)++ss.map fun q=>q.1.name:=by
 unfold namesC
 rw [List.map_map,List.map_map]
 rfl
set_option maxRecDepth 100000 in
set_option maxHeartbeats 4000000 in
theorem check_any (w:World){base:Nat}{ss:List (CRec × Value)}{es:List (SCho × Value)}{sv ev:Value}(root:Int)(h:CRows base w ss es sv ev)(hf:∀ q ∈ ss,q.1.name.size≤281474976710656∧∀ f ∈ q.1.fields,FldFit f)(he:∀ q ∈ es,q.1.name.size≤281474976710656∧∀ s ∈ q.1.names,s.size≤281474976710656)(hT:Tabs w) :
  Calls Tryz.prog 10 #[.agg #[sv,ev,.int .i64 root]] w fun e w'=>e=.returned (.bool (checkB ⟨ss.map Prod.fst,es.map Prod.fst,root⟩))∧Below w.heap.size w w':=by
 obtain ⟨sa,sc,ea,ec,rfl,rfl⟩:=h.forms
 obtain ⟨res,hres⟩:∃ res,checkB ⟨ss.map Prod.fst,es.map Prod.fst,root⟩=res:=⟨_,rfl⟩
 rw [hres]
 unfold checkB at hres
 simp only [List.length_map,namesC_rows,List.all_map] at hres
 have hf1:=row_few h.structs
 have hf2:=row_few h.enums
 have h0:=heap_alloc_new w (.cells #[.slice sa ss.length sc,.slice ea es.length ec,.int .i64 root] 30)
 have hb:=(Below.refl w.heap.size w).alloc (Nat.le_refl _) (.cells #[.slice sa ss.length sc,.slice ea es.length ec,.int .i64 root] 30)
 have HB:=Lib.hid hb
 have HQ:=Lib.hid h0
 have HR:=Lib.hid (h.below hb)
 have HT:=Lib.hid (hT.below (Nat.le_refl _) hb)
 have HF:=Lib.hid hf
 have HE:=Lib.hid he
 have HN:=Lib.hid hres
 have hns:∀ s ∈ (es.map fun q=>q.1.name)++(ss.map fun q=>q.1.name),s.size≤281474976710656:=by
  intro s hs
  rcases List.mem_append.1 hs with h|h
  · obtain ⟨q,hq,rfl⟩:=List.mem_map.1 h
    exact (he q hq).1
  · obtain ⟨q,hq,rfl⟩:=List.mem_map.1 h
    exact (hf q hq).1
 have hln:ss.length+es.length=((es.map fun q=>q.1.name)++(ss.map fun q=>q.1.name)).length:=by
  rw [List.length_append,List.length_map,List.length_map];omega
 have HNS:=Lib.hid hns
 have HLN:=Lib.hid hln
 obtain ⟨_,p0,p1,p2,_⟩:=blk3 h0
 clear h0 hb h hT hf he hres hns hln
 go_enter Tryz.func10,Tryz.ntmps10
 go_upto_region 1 with (fail)
 generalize (w.alloc (.cells #[.slice sa ss.length sc,.slice ea es.length ec,.int .i64 root] 30))=W0 at *
 go_wp2_with fail
 by_cases hl:1≤ss.length∧ss.length≤16
 rotate_left
 · refine (samong_any ((ss.length:Int)-1) 16 false (decide_eq_false (by omega)) _).mono ?_
   rintro e W1 ⟨rfl,rfl⟩
   have HX:=Lib.hid (show res=false by rw [←HN.out,if_pos (.inl hl)])
   clear HN hl
   go_wp2
   go_ret
   exact ⟨ret_bool HX.out.symm,HB.out⟩
 refine (samong_any ((ss.length:Int)-1) 16 true (decide_eq_true (by omega)) _).mono ?_
 rintro e W1 ⟨rfl,rfl⟩
 by_cases h8:8<es.length
 · have HX:=Lib.hid (show res=false by rw [←HN.out,if_pos (.inr (.inl h8))])
   have g8:(8:Int)<(es.length:Int):=by omega
   clear HN hl
   go_wp2
   go_ret
   exact ⟨ret_bool HX.out.symm,HB.out⟩
 have g8:¬(8:Int)<(es.length:Int):=by omega
 have hl1:ss.length≤16:=hl.2
 have hl2:es.length≤8:=by omega
 by_cases hr:0≤root∧root<(ss.length:Int)
 rotate_left
 · have HX:=Lib.hid (show res=false by rw [←HN.out,if_pos (.inr (.inr hr))])
   have HA:=Lib.hid (samong_any root ss.length false (decide_eq_false hr))
   clear HN hl hr
   go_wp2_with fail
   refine (HA.out _).mono ?_
   rintro e W2 ⟨rfl,rfl⟩
   go_wp2
   go_ret
   exact ⟨ret_bool HX.out.symm,HB.out⟩
 have HN2:=Lib.hid (show res=_ from HN.out.symm.trans (if_neg (by omega)))
 have HA:=Lib.hid (samong_any root ss.length true (decide_eq_true hr))
 clear HN hl hr
 go_wp2_with fail
 refine (HA.out _).mono ?_
 rintro e W2 ⟨rfl,rfl⟩
 clear HA
 go_wp2_with fail
 refine (declared_any _ root HR.out hl1 hl2).mono ?_
 rintro e W3 ⟨nv,rfl,hrow,hb3⟩
 rw [HLN.out] at hrow
 generalize (es.map fun q=>q.1.name)++(ss.map fun q=>q.1.name)=names at *
 obtain ⟨na,nc,rfl⟩:=ownsRow_form hrow
 have HB3:=Lib.hid (HB.out.trans (hb3.mono HB.out.size))
 have HR3:=Lib.hid (HR.out.below hb3)
 have HQ3:=Lib.hid (blk_below HQ.out hb3 (blk_lt HQ.out))
 have HT3:=Lib.hid (HT.out.below (Nat.le_refl _) hb3)
 have HROW:=Lib.hid hrow
 clear hb3 hrow p0 p1 p2 HB HR HQ HT
 go_wp2_with fail
 refine (all_str names freeB _ _ W3 23 #[] HROW.out (tells_free names W3 HT3.out HNS.out)).mono ?_
 rintro e W4 ⟨rfl,hb4⟩
 have HB4:=Lib.hid (HB3.out.trans (hb4.mono HB3.out.size))
 have HR4:=Lib.hid (HR3.out.below hb4)
 have HQ4:=Lib.hid (blk_below HQ3.out hb4 (blk_lt HQ3.out))
 have HT4:=Lib.hid (HT3.out.below (Nat.le_refl _) hb4)
 have HROW4:=Lib.hid (row_keep hb4 HROW.out)
 clear hb4 HB3 HR3 HQ3 HT3 HROW
 obtain ⟨_,p0,p1,p2,_⟩:=blk3 HQ4.out
 cases h1:names.all freeB
 · have HX:=Lib.hid (show res=false by rw [HN2.out,h1,Bool.false_and])
   clear HN2 h1
   go_wp2
   go_ret
   exact ⟨ret_bool HX.out.symm,HB4.out⟩
 have HN3:=Lib.hid (show res=_ from HN2.out.trans (by rw [h1,Bool.true_and]))
 clear HN2 h1
 go_wp2_with fail
 refine (again_strS names _ _ W4 HROW4.out).mono ?_
 rintro e W5 ⟨rfl,hb5⟩
 have HB5:=Lib.hid (HB4.out.trans (hb5.mono HB4.out.size))
 have HR5:=Lib.hid (HR4.out.below hb5)
 have HQ5:=Lib.hid (blk_below HQ4.out hb5 (blk_lt HQ4.out))
 have HT5:=Lib.hid (HT4.out.below (Nat.le_refl _) hb5)
 clear hb5 p0 p1 p2 HB4 HR4 HQ4 HT4 HROW4
 obtain ⟨_,p0,p1,p2,_⟩:=blk3 HQ5.out
 rw [List.map_id]
 have HD:=Lib.hid (dupI_neg (dup names))
 by_cases h2:dup names=none
 rotate_left
 · have HX:=Lib.hid (show res=false by rw [HN3.out,decide_eq_false h2,Bool.false_and])
   have hd:¬dupI (dup names)<0:=by have:=HD.out;rw [decide_eq_false h2] at this;exact of_decide_eq_false this
   generalize dupI (dup names)=d at *
   clear HN3 h2 HD
   go_wp2
   go_ret
   exact ⟨ret_bool HX.out.symm,HB5.out⟩
 have HN4:=Lib.hid (show res=_ from HN3.out.trans (by rw [decide_eq_true h2,Bool.true_and]))
 have hd:dupI (dup names)<0:=by have:=HD.out;rw [decide_eq_true h2] at this;exact of_decide_eq_true this
 generalize dupI (dup names)=d at *
 clear HN3 h2 HD
 go_wp2_with fail
 refine (all_cho es (fun q=>choiceB q.1) _ _ W5 27 #[] HR5.out.enums (fun q hq=>by obtain ⟨a,c,h⟩:=ownsRow_form (HR5.out.names q hq);exact ⟨_,_,_,h⟩) (tells_cho W5 HR5.out.names (fun q hq=>(HE.out q hq).2) HT5.out)).mono ?_
 rintro e W6 ⟨rfl,hb6⟩
 have HB6:=Lib.hid (HB5.out.trans (hb6.mono HB5.out.size))
 have HR6:=Lib.hid (HR5.out.below hb6)
 have HQ6:=Lib.hid (blk_below HQ5.out hb6 (blk_lt HQ5.out))
 have HT6:=Lib.hid (HT5.out.below (Nat.le_refl _) hb6)
 clear hb6 p0 p1 p2 HB5 HR5 HQ5 HT5
 obtain ⟨_,p0,p1,p2,_⟩:=blk3 HQ6.out
 cases h3:es.all (fun q=>choiceB q.1)
 · have HX:=Lib.hid (show res=false by rw [HN4.out,show es.all (choiceB ∘ Prod.fst)=false from h3,Bool.false_and])
   clear HN4 h3
   go_wp2
   go_ret
   exact ⟨ret_bool HX.out.symm,HB6.out⟩
 have HX:=Lib.hid (show res=ss.all (fun q=>recordB ss.length (es.map Prod.fst) q.1) from HN4.out.trans (by rw [show es.all (choiceB ∘ Prod.fst)=true from h3,Bool.true_and];rfl))
 clear HN4 h3
 go_wp2_with fail
 refine (all_crec ss (fun q=>recordB ss.length (es.map Prod.fst) q.1) _ _ W6 29 _ HR6.out.structs (fun q hq=>by obtain ⟨a,c,h⟩:=ownsRow_form (HR6.out.fields q hq);exact ⟨_,_,_,h⟩) (tells_chk1 W6 w.heap.size root HR6.out HQ6.out (fun q hq=>(HF.out q hq).2) HT6.out)).mono ?_
 rintro e W7 ⟨rfl,hb7⟩
 have HB7:=Lib.hid (HB6.out.trans (hb7.mono HB6.out.size))
 clear hb7
 go_wp2
 go_ret
 exact ⟨ret_bool HX.out.symm,HB7.out⟩
end Go.Proofs.YtokhnoogkdlidaaGreatDoor
