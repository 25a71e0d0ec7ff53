/-
  The document's Make: the loop over the structs' names and labels. Conditions: those that each theorem names. (Made by program: wip/tools/gen-rmo.py.)
-/
import Derived.Test.YtokhnoogkdlidaaGreatDoorPkP36
import Derived.Test.YtokhnoogkdlidaaGreatDoorPkP41
namespace Go.Proofs.YtokhnoogkdlidaaGreatDoor
open Go.ChangeShapes Go.WideShapes Go.ChangeAt Go.RowKit Go.Shelf
structure RmKeep (w:World)(sv ev rv:Value)(W:World):Prop where
 bel:Below w.heap.size w W
 raw:W.heap[w.heap.size]?=some (.cells #[sv,ev,rv] 68 (0,0))
 res:noRes W (w.heap.size+1)
theorem RmKeep.below {w W W':World}{sv ev rv:Value}{B:Nat}(h:RmKeep w sv ev rv W)(hb:Below B W W')(hB:w.heap.size+2≤B):RmKeep w sv ev rv W':=
 ⟨h.bel.trans (hb.mono (by omega)),blk_below h.raw hb (by omega),blk_below h.res hb (by omega)⟩
theorem RmKeep.grown {w W Wa W':World}{sv ev rv:Value}{row:Option Nat}(h:RmKeep w sv ev rv W)(ha:Below W.heap.size W Wa)(hg:Wa.grownBy W' row)(hr:∀ k,row=some k→w.heap.size+2≤k):RmKeep w sv ev rv W':=by
 have l1:=blk_lt h.raw
 have l2:=blk_lt h.res
 have hs:=ha.size
 refine ⟨(h.bel.trans (ha.mono h.bel.size)).grown hg (by omega) (fun k hk=>by have:=hr k hk;omega),(hg.block _ (by omega) (fun e=>by have:=hr _ e.symm;omega)).trans (blk_below h.raw ha l1),(hg.block _ (by omega) (fun e=>by have:=hr _ e.symm;omega)).trans (blk_below h.res ha l2)⟩
theorem taken_look (kd:Nat){m0:List NEnt}{U0:List ByteArray}(hm:m0.map NEnt.name=basicS++U0)(l:List ByteArray)(s:ByteArray):(lookN (m0++entsOf kd 0 l) s).isSome=takenB (U0++l) s:=by
 rw [lookN_has,List.map_append,ents_names,hm,takenB,hasS_append,hasS_append,hasS_append,Bool.or_assoc]
def RmAAt (w:World)(sv ev rv:Value)(re:List (RCho × Value))(m0:List NEnt)(U0:List ByteArray)(c':Act)(w':World):Prop:=∃ (i e:Nat) (a:Option Addr),i≤re.length∧i≤8∧RmA w.heap.size a (U0.length+i) e i c'∧RmKeep w sv ev rv w'∧w'.ownsRow (w.heap.size+2) 9 1 (.slice a (U0.length+i) e) (U0.length+i) (strsCells (U0++(choNms re).take i))∧chosM 0 m0 (re.map Prod.fst)=chosM i (m0++entsOf 10 0 ((choNms re).take i)) ((re.map Prod.fst).drop i)
set_option maxRecDepth 100000 in
set_option maxHeartbeats 8000000 in
theorem rma_wp {Q:Exit→Act→World→Prop}{c:Act}{w w0:World}{rb e0:Nat}{rs:List (RRec × Value)}{re:List (RCho × Value)}{rt:List Tok}{sv ev rv:Value}{a0:Option Addr}{m0:List NEnt}{U0:List ByteArray}(h:RawRows rb w rs re rt sv ev rv)(hm:m0.map NEnt.name=basicS++U0)(hU:U0.length≤8)
  (hc:RmA w.heap.size a0 U0.length e0 0 c) (hk:RmKeep w sv ev rv w0) (hu:w0.ownsRow (w.heap.size+2) 9 1 (.slice a0 U0.length e0) U0.length (strsCells U0))
  (hQ:∀ c' w' a' e' m1,chosM 0 m0 (re.map Prod.fst)=.ok m1→re.length≤8→RmA w.heap.size a' (U0.length+re.length) e' re.length c'→RmKeep w sv ev rv w'→w'.ownsRow (w.heap.size+2) 9 1 (.slice a' (U0.length+re.length) e') (U0.length+re.length) (strsCells (U0++choNms re))→Q (.exit 0) c' w')
  (hB:∀ c' w' (code:Int) (p:Nat),chosM 0 m0 (re.map Prod.fst)=.no code p→RmR w.heap.size code p c'→noRes w' (w.heap.size+1)→Below w.heap.size w w'→Q .ret c' w') :
  Code.wp Tryz.prog (Code.loop (loopsRm 0)) Q c w0:=by
 obtain ⟨sa,sc,ea,ec,ra,rc,rfl,rfl,rfl⟩:=h.forms
 refine wp_loop (RmAAt w (.slice sa rs.length sc) (.slice ea re.length ec) (.slice ra rt.length rc) re m0 U0)
  (fun c' _=>re.length-(intOf (c'.tmps.getD 6 undef)).toNat) ⟨0,e0,a0,Nat.zero_le _,Nat.zero_le _,hc,hk,by simpa using hu,by simp [entsOf]⟩ ?_
 clear hc hk hu
 rintro c wr ⟨i,e,a,hi,hlim,hc,hk,hu,hch⟩
 have HRAW:=Lib.hid h
 have HQ:=Lib.hid hQ
 have HBAD:=Lib.hid hB
 have HK:=Lib.hid hk
 have HU:=Lib.hid hu
 have HCH:=Lib.hid hch
 have HM:=Lib.hid hm
 have hfs:=row_few h.structs
 have hfe:=row_few h.enums
 obtain ⟨_,p0,p1,p2,_⟩:=blk3 hk.raw
 obtain ⟨u,rfl⟩:=hc.lit
 clear hc hQ hB hk hu hch h hm
 conv=>arg 2;whnf
 by_cases hlt:i<re.length
 · obtain ⟨g,cc,hv,hcc,hg,hcell⟩:=row_el choCells 3 (fun _=>rfl) (row_keep HK.out.bel HRAW.out.enums) i hlt
   obtain ⟨rfl,rfl⟩:=slice_inj hv
   have hn:=HRAW.out.names _ (List.getElem_mem hlt)
   obtain ⟨na,nc,hnv⟩:=ownsRow_form hn
   have x0:wr.cell? ⟨g,i * 3,none⟩=some (.string (strOfNums re[i].1.name)):=hcell 0 (by omega)
   have x1:wr.cell? ⟨g,i * 3+1,none⟩=some (.int .i64 re[i].1.place):=hcell 1 (by omega)
   have x2:wr.cell? ⟨g,i * 3+2,none⟩=some (.slice na re[i].1.names.length nc):=by rw [←hnv];exact hcell 2 (by omega)
   rw [hnv] at hn
   have HN:=Lib.hid hn
   have hfn:=row_few hn
   have HNQ:=Lib.hid (show ∀ g,na=some g→g.block≠w.heap.size+1 from fun g hg=>by
    have:=(ownsRow_lt hn g.block (by rw [hg];rfl)).2
    omega)
   have HST:=Lib.hid (show chosM 0 m0 (re.map Prod.fst)=(choM i (m0++entsOf 10 0 ((choNms re).take i)) re[i].1).bind fun m'=>chosM (i+1) m' ((re.map Prod.fst).drop (i+1)) by
    rw [HCH.out,chos_step i _ (re.map Prod.fst) i (by simpa using hlt)]
    simp)
   have HLK:=Lib.hid (taken_look 10 HM.out ((choNms re).take i) (strOfNums re[i].1.name))
   have HTK:=Lib.hid (show (choNms re).take (i+1)=(choNms re).take i++[strOfNums re[i].1.name] by
    rw [List.take_succ_eq_append_getElem (by rw [choNms_len];exact hlt),choNms_at re i hlt])
   have HTL:=Lib.hid (show ((choNms re).take i).length=i by rw [List.length_take,choNms_len];omega)
   generalize hmi:m0++entsOf 10 0 ((choNms re).take i)=mi at *
   generalize hui:U0++(choNms re).take i=ui at *
   have HMI:=Lib.hid hmi
   have HUI:=Lib.hid hui
   have HUL:=Lib.hid (show ui.length=U0.length+i by rw [←hui,List.length_append,HTL.out])
   generalize re[i].1=d at *
   obtain ⟨dn,dp,dl⟩:=d
   simp only at *
   generalize hnm:strOfNums dn=nm at *
   have HNM:=Lib.hid hnm
   have hii:(i:Int)<re.length:=by omega
   clear hv hcell hn hnv hmi hui hnm HCH
   have hbt:Below wr.heap.size wr (wr.alloc (.cells #[.string nm,.int .i64 dp,.slice na dl.length nc] 105)):=(Below.refl _ _).alloc (Nat.le_refl _) _
   have HBT:=Lib.hid hbt
   have HE:=Lib.hid (heap_alloc_new wr (.cells #[.string nm,.int .i64 dp,.slice na dl.length nc] 105))
   have hql:w.heap.size+1<wr.heap.size:=blk_lt HK.out.res
   clear hbt
   go_upto_region 6 with (fail)
   generalize wr.alloc (.cells #[.string nm,.int .i64 dp,.slice na dl.length nc] 105)=Wt at *
   clear x0 x1 x2 p0 p1 p2
   obtain ⟨_,y0,y1,y2,_⟩:=blk3 HE.out
   have HROW0:=Lib.hid (show Wt.ownsRow (w.heap.size+2) 9 1 (.slice a (U0.length+i) e) ui.length (strsCells ui) from by rw [HUL.out];exact row_keep HBT.out HU.out)
   go_wp2_with fail
   refine (rtaken_any ui (.slice a (U0.length+i) e) (w.heap.size+2) Wt HROW0.out nm).mono ?_
   rintro ee W3 ⟨rfl,hb3⟩
   have HB3:=Lib.hid (HBT.out.trans (hb3.mono HBT.out.size))
   have HE3:=Lib.hid (blk_below HE.out hb3 (blk_lt HE.out))
   have HK3:=Lib.hid (HK.out.below HB3.out (by omega))
   have HU3:=Lib.hid (row_keep HB3.out HU.out)
   clear hb3 y0 y1 y2 HE HROW0
   obtain ⟨hEl,y0,y1,y2,_⟩:=blk3 HE3.out
   obtain ⟨hRl,_,_,_,f0,f1,f2⟩:=blk3 HK3.out.res
   cases htk:takenB ui nm
   · have HLK2:=Lib.hid (HLK.out.trans htk)
     obtain ⟨i0,hi0,hzz0,hzz1,hzz2⟩:=info_parts str_info
     have I1:=Lib.hid hi0
     have I2:=Lib.hid hzz0
     have I3:=Lib.hid hzz1
     have I4:=Lib.hid hzz2
     have HBN:=Lib.hid (heap_alloc_new W3 (.cells #[.string nm] 9))
     have HBA:=Lib.hid ((Below.refl W3.heap.size W3).alloc (Nat.le_refl _) (.cells #[.string nm] 9))
     clear hi0 hzz0 hzz1 hzz2 htk HLK
     go_upto_region 9 with (at_builtin;refine wpList_append_own _ rfl (.tmp 47) (.tmp 50) 53 rfl (w.heap.size+2) 9 i0 _ 1 16 Tryz.underlying53 I1.out I2.out I3.out I4.out rfl (by decide) _ (U0.length+i) (strsCells ui) rfl (row_keep HBA.out HU3.out) _ 1 1 [.string nm] rfl rfl (World.news_of_block HBN.out) (by intro u hu;simp at hu;subst hu;rfl) (by unfold maxLen;omega) (by omega) (by simp;omega) ?_;intro v4 W8 hown4 hg4 hx;clear hx;have HG4:=Lib.hid hg4;obtain ⟨a4,e4,rfl⟩:=ownsRow_form hown4;have HU8:=Lib.hid hown4;have hE8:=(hg4.block wr.heap.size (by simp;omega) (fun e'=>by have:=(ownsRow_lt HU.out _ e'.symm).2;omega)).trans (blk_below HE3.out HBA.out (blk_lt HE3.out));have HE8:=Lib.hid hE8;have HK8:=Lib.hid (HK3.out.grown HBA.out hg4 (fun k hk=>(ownsRow_lt HU3.out k hk).1));obtain ⟨_,b0,b1,b2,_⟩:=blk3 hE8;obtain ⟨_,_,_,_,f3,f4,f5⟩:=blk3 HK8.out.res;clear hown4 hg4 hE8)
     clear y0 y1 y2 f0 f1 f2
     by_cases hfew:i<8∧1≤dl.length∧dl.length≤32
     · obtain ⟨g1,g2,g3⟩:=hfew
       have HFEW:=Lib.hid (decide_eq_true (show i<8∧1≤dl.length∧dl.length≤32 from ⟨g1,g2,g3⟩)).symm
       go_wp2_with fail
       refine rma2_wp ⟨rfl,rfl,rfl,rfl,rfl,rfl,rfl,rfl⟩ HE8.out hql (row_keep HK8.out.bel HN.out) HNQ.out HK8.out.res ?_ ?_
       · intro c2 w2 hd hc2 hb2
         have HOK:=Lib.hid (choM_ok (k:=i) (m:=mi) (q:=⟨dn,dp,dl⟩) (by rw [HNM.out];exact HLK2.out) HFEW.out hd)
         have HK2:=Lib.hid (HK8.out.below hb2 (by have:=blk_lt HK8.out.res;omega))
         have HU2:=Lib.hid (row_keep hb2 HU8.out)
         obtain ⟨u2,rfl⟩:=hc2.lit
         clear hc2 hb2 hd b0 b1 b2 f3 f4 f5
         simp only [Exit.inBlock,Exit.then]
         apply_assumption
         go_wp2
         refine ⟨⟨i+1,e4,a4,by omega,by omega,⟨rfl,rfl,rfl,rfl,rfl,rfl⟩,HK2.out,?_,?_⟩,?_⟩
         · rw [HTK.out,←List.append_assoc,HUI.out,strsCells_snoc]
           exact HU2.out
         · rw [HST.out,HOK.out,mbind_ok,HTK.out,ents_append,HTL.out,←List.append_assoc,HMI.out,Nat.zero_add,HNM.out]
           rfl
         · show re.length-(intOf (.int .i64 ((i:Int)+1))).toNat<re.length-(intOf (.int .i64 (i:Int))).toNat
           simp [intOf];omega
       · intro c2 w2 j hj hd hc2 hr2 hb2
         have HNO:=Lib.hid (choM_dup (k:=i) (m:=mi) (q:=⟨dn,dp,dl⟩) (by rw [HNM.out];exact HLK2.out) HFEW.out hd hj)
         simp only [Exit.inBlock,Exit.then]
         exact HBAD.out _ _ 13 dl[j].place (by rw [HST.out,HNO.out];rfl) hc2 hr2 (HK8.out.bel.trans (hb2.mono (Nat.le_succ _)))
     · have HNO:=Lib.hid (choM_16 (k:=i) (m:=mi) (q:=⟨dn,dp,dl⟩) (by rw [HNM.out];exact HLK2.out) (decide_eq_false hfew).symm)
       have hor:¬i<8∨(i<8∧dl.length<1)∨(i<8∧¬dl.length<1∧32<dl.length):=by omega
       clear hfew
       rcases hor with hbad|⟨hb1,hbad⟩|⟨hb1,hb2,hbad⟩
       all_goals
        go_wp2_with fail
        go_region
        all_goals
         simp only [Exit.then]
         apply_assumption
         go_wp2
         exact HBAD.out _ _ 16 dp (by rw [HST.out,HNO.out];rfl) ⟨rfl,rfl,rfl,rfl,rfl⟩ HK8.out.res.put (bel_put HK8.out.bel (Nat.le_succ _) _ _ _).drew
   · have HNO:=Lib.hid (choM_13 (k:=i) (m:=mi) (q:=⟨dn,dp,dl⟩) (by rw [HNM.out];exact HLK.out.trans htk))
     clear htk
     go_wp2_with fail
     go_region
     all_goals
      simp only [Exit.then]
      apply_assumption
      go_wp2
      exact HBAD.out _ _ 13 dp (by rw [HST.out,HNO.out];rfl) ⟨rfl,rfl,rfl,rfl,rfl⟩ HK3.out.res.put (bel_put HK3.out.bel (Nat.le_succ _) _ _ _).drew
 · obtain rfl:i=re.length:=by omega
   clear hlt
   go_wp2
   refine HQ.out _ _ _ _ (m0++entsOf 10 0 ((choNms re).take re.length)) ?_ hlim ⟨rfl,rfl,rfl,rfl,rfl,rfl⟩ HK.out ?_
   · rw [HCH.out,show (re.map Prod.fst).drop re.length=[] from List.drop_eq_nil_of_le (by simp)]
     rfl
   · have:=HU.out
     rw [show (choNms re).take re.length=choNms re by rw [←choNms_len,List.take_length]] at this
     exact this
end Go.Proofs.YtokhnoogkdlidaaGreatDoor
namespace Go.Proofs.YtokhnoogkdlidaaGreatDoor
open Go.ChangeShapes Go.WideShapes Go.ChangeAt Go.RowKit Go.Shelf
set_option maxRecDepth 100000 in
set_option maxHeartbeats 4000000 in
theorem rmb3_wp {Q:Exit→Act→World→Prop}{c:Act}{w0:World}{q n e i E k nc rb:Nat}{a na:Option Addr}{name pl:Value}{l:List RField}(hc:RmB3 q a n e i E k 0 c)(hk:k<l.length)
  (hE:w0.heap[E]?=some (.cells #[name,pl,.slice na l.length nc] 102 (0,0))) (hEq:q+1<E) (hrow:w0.ownsRow rb 114 8 (.slice na l.length nc) l.length (fieldsCells l)) (hrq:∀ g,na=some g→g.block≠q+1) (hres:noRes w0 (q+1))
  (hQ:∀ c' w',hasS ((l.map fldT).take k) (fldT l[k])=false→RmB3 q a n e i E k k c'→Below w0.heap.size w0 w'→Q (.exit 10) c' w')
  (hB:∀ c' w',hasS ((l.map fldT).take k) (fldT l[k])=true→RmR q 13 l[k].place c'→noRes w' (q+1)→Below (q+1) w0 w'→Q .ret c' w') :
  Code.wp Tryz.prog (Code.loop (loopsRm 5)) Q c w0:=by
 refine wp_loop (fun c' w'=>∃ x:Nat,x≤k∧RmB3 q a n e i E k x c'∧Below w0.heap.size w0 w'∧hasS ((l.map fldT).take x) (fldT l[k])=false) (fun c' _=>k-(intOf (c'.tmps.getD 13 undef)).toNat) ⟨0,Nat.zero_le _,hc,Below.refl _ _,rfl⟩ ?_
 clear hc
 rintro c wr ⟨x,hx,hc,hb,hi⟩
 have HQ:=Lib.hid hQ
 have HBAD:=Lib.hid hB
 have HRES:=Lib.hid (hres.below hb (blk_lt hres))
 have HB:=Lib.hid hb
 have HEB:=Lib.hid (blk_below hE hb (blk_lt hE))
 have HROW:=Lib.hid (row_keep hb hrow)
 have HRQ:=Lib.hid hrq
 have hfew:=row_few hrow
 have hql:q+1<w0.heap.size:=blk_lt hres
 obtain ⟨u,rfl⟩:=hc.lit
 clear hc hQ hB hb hE hrow hres hrq
 obtain ⟨_,z0,z1,z2,_⟩:=blk3 HEB.out
 conv=>arg 2;whnf
 by_cases hlt:x<k
 · obtain ⟨g,cc,hv,hcc,hg,hcell⟩:=row_el fieldCells 8 (fun _=>rfl) HROW.out x (by omega)
   obtain ⟨g2,cc2,hv2,_,_,hcell2⟩:=row_el fieldCells 8 (fun _=>rfl) HROW.out k hk
   obtain ⟨rfl,rfl⟩:=slice_inj hv
   obtain ⟨hgg,hcc'⟩:=slice_inj hv2
   cases hgg
   subst hcc'
   have x1:wr.cell? ⟨g,x * 8,none⟩=some (.string (fldT l[x])):=hcell 0 (by omega)
   have y1:wr.cell? ⟨g,k * 8,none⟩=some (.string (fldT l[k])):=hcell2 0 (by omega)
   have y2:wr.cell? ⟨g,k * 8+1,none⟩=some (.int .i64 l[k].place):=hcell2 1 (by omega)
   have hmx:(l.map fldT)[x]'(by rw [List.length_map];omega)=fldT l[x]:=by rw [List.getElem_map]
   have hst:=has_take_succ (l.map fldT) (fldT l[k]) x (by rw [List.length_map];omega)
   have hgq:g≠q+1:=HRQ.out _ rfl
   rw [hmx] at hst
   have hxl:(x:Int)<l.length:=by omega
   have hkl:(k:Int)<l.length:=by omega
   by_cases hq:fldT l[x]=fldT l[k]
   · have HT:=Lib.hid (show hasS ((l.map fldT).take k) (fldT l[k])=true by
      have hT:=hst
      rw [decide_eq_true hq.symm,Bool.or_true] at hT
      have hsplit:(l.map fldT).take k=(l.map fldT).take (x+1)++((l.map fldT).drop (x+1)).take (k-(x+1)):=by
       rw [←List.take_add]
       congr 1
       omega
      rw [hsplit,hasS_append,hT,Bool.true_or])
     have t3:((fldT l[x]).toList==(fldT l[k]).toList)=true:=ba_yes hq
     obtain ⟨_,_,_,_,f0,f1,f2⟩:=blk3 HRES.out
     clear hq hi hst hmx hcell hcell2 hv hv2
     generalize fldT l[x]=sx at *
     generalize fldT l[k]=sk at *
     generalize l[k].place=pk at *
     go_wp2_with fail
     go_quiet (fail)
     have HW2:=Lib.hid (bel_drewN (Below.refl wr.heap.size wr) nq)
     have k0:(wr.drewN nq).cell? ⟨E,2,none⟩=some (.slice (some ⟨g,0,none⟩) l.length nc):=(World.cell?_drewN ..).trans z2
     have k1:(wr.drewN nq).cell? ⟨g,k * 8+1,none⟩=some (.int .i64 pk):=(World.cell?_drewN ..).trans y2
     obtain ⟨_,_,_,_,f0,f1,f2⟩:=blk3 (HRES.out.below HW2.out (blk_lt HRES.out))
     have HR2:=Lib.hid (HRES.out.below HW2.out (blk_lt HRES.out))
     have hEne:(⟨E,2,none⟩:Addr).block≠q+1:=by show E≠q+1;omega
     have hgne:(⟨g,k * 8+1,none⟩:Addr).block≠q+1:=hgq
     generalize wr.drewN nq=W2 at *
     clear z0 z1 z2 x1 y1 y2
     go_upto_region 35 with (fail)
     go_region_held3 (fun w'=>w'.cell? ⟨E,2,none⟩=some (.slice (some ⟨g,0,none⟩) l.length nc)∧w'.cell? ⟨g,k * 8+1,none⟩=some (.int .i64 pk)) (first|assumption|(with_reducible exact ⟨keep3 k0 hEne,keep3 k1 hgne⟩)|(with_reducible exact ⟨keep3d k0 hEne,keep3d k1 hgne⟩)|(with_reducible exact ⟨keep3o k0 hEne,keep3o k1 hgne⟩)|go_keep) (first|fail)
     all_goals
      simp only [Exit.then]
      apply_assumption
      go_wp2
      exact HBAD.out _ _ HT.out ⟨rfl,rfl,rfl,rfl,rfl⟩ HR2.out.put (bel_put (show Below (q+1) w0 W2 from (HB.out.trans (HW2.out.mono HB.out.size)).mono (Nat.le_of_lt hql)) (Nat.le_refl _) _ _ _).drew
   · have HI:=Lib.hid (show hasS ((l.map fldT).take (x+1)) (fldT l[k])=false by rw [hst,hi,Bool.false_or];exact decide_eq_false fun e=>hq e.symm)
     have t3:((fldT l[x]).toList==(fldT l[k]).toList)=false:=ba_no hq
     clear hq hi hst hmx hcell hcell2 hv hv2
     generalize fldT l[x]=sx at *
     generalize fldT l[k]=sk at *
     go_wp2_with fail
     go_quiet (fail)
     go_wp2_with fail
     refine ⟨⟨x+1,by omega,⟨rfl,rfl,rfl,rfl,rfl,rfl,rfl,rfl,rfl⟩,bel_drewN HB.out _,HI.out⟩,?_⟩
     show k-(intOf (.int .i64 ((x:Int)+1))).toNat<k-(intOf (.int .i64 (x:Int))).toNat
     simp [intOf];omega
 · obtain rfl:x=k:=by omega
   have HI:=Lib.hid hi
   clear hi hlt
   go_wp2
   exact HQ.out _ _ HI.out ⟨rfl,rfl,rfl,rfl,rfl,rfl,rfl,rfl,rfl⟩ HB.out
set_option maxRecDepth 100000 in
set_option maxHeartbeats 4000000 in
theorem rmb2_wp {Q:Exit→Act→World→Prop}{c:Act}{w0:World}{q n e i E nc rb:Nat}{a na:Option Addr}{name pl:Value}{l:List RField}(hc:RmB2 q a n e i E 0 c)
  (hE:w0.heap[E]?=some (.cells #[name,pl,.slice na l.length nc] 102 (0,0))) (hEq:q+1<E) (hrow:w0.ownsRow rb 114 8 (.slice na l.length nc) l.length (fieldsCells l)) (hrq:∀ g,na=some g→g.block≠q+1) (hres:noRes w0 (q+1))
  (hQ:∀ c' w',dup (l.map fldT)=none→RmB2 q a n e i E l.length c'→Below w0.heap.size w0 w'→Q (.exit 8) c' w')
  (hB:∀ c' w' j (hj:j<l.length),dup (l.map fldT)=some j→RmR q 13 l[j].place c'→noRes w' (q+1)→Below (q+1) w0 w'→Q .ret c' w') :
  Code.wp Tryz.prog (Code.loop (loopsRm 4)) Q c w0:=by
 refine wp_loop (fun c' w'=>∃ k:Nat,k≤l.length∧RmB2 q a n e i E k c'∧Below w0.heap.size w0 w'∧dup (l.map fldT)=dupFrom ((l.map fldT).take k) ((l.map fldT).drop k)) (fun c' _=>l.length-(intOf (c'.tmps.getD 12 undef)).toNat) ⟨0,Nat.zero_le _,hc,Below.refl _ _,rfl⟩ ?_
 clear hc
 rintro c wr ⟨k,hk,hc,hb,hd⟩
 have HQ:=Lib.hid hQ
 have HBAD:=Lib.hid hB
 have HRES:=Lib.hid (hres.below hb (blk_lt hres))
 have HB:=Lib.hid hb
 have HEB:=Lib.hid (blk_below hE hb (blk_lt hE))
 have HROW:=Lib.hid (row_keep hb hrow)
 have HRQ:=Lib.hid hrq
 have HD:=Lib.hid hd
 have hfew:=row_few hrow
 have hql:q+1<w0.heap.size:=blk_lt hres
 obtain ⟨u,rfl⟩:=hc.lit
 clear hc hQ hB hb hE hrow hres hrq hd
 obtain ⟨_,z0,z1,z2,_⟩:=blk3 HEB.out
 conv=>arg 2;whnf
 by_cases hlt:k<l.length
 · have HST:=Lib.hid (HD.out.trans (dupD_step (l.map fldT) k (by rw [List.length_map];exact hlt)))
   rw [List.getElem_map] at HST
   clear HD
   go_wp2_with fail
   refine rmb3_wp (k:=k) ⟨rfl,rfl,rfl,rfl,rfl,rfl,rfl,rfl,rfl⟩ hlt HEB.out hEq HROW.out HRQ.out HRES.out ?_ ?_
   · intro c2 w2 hf hc2 hb2
     have HI:=Lib.hid (HST.out.trans (if_neg (by rw [hf];decide)))
     have HB2:=Lib.hid (HB.out.trans (hb2.mono HB.out.size))
     obtain ⟨u2,rfl⟩:=hc2.lit
     clear hc2 hb2 hf z0 z1 z2
     simp only [Exit.inBlock,Exit.then]
     apply_assumption
     go_wp2
     refine ⟨⟨k+1,by omega,⟨rfl,rfl,rfl,rfl,rfl,rfl,rfl,rfl⟩,HB2.out,HI.out⟩,?_⟩
     show l.length-(intOf (.int .i64 ((k:Int)+1))).toNat<l.length-(intOf (.int .i64 (k:Int))).toNat
     simp [intOf];omega
   · intro c2 w2 ht hc2 hr2 hb2
     have HT:=Lib.hid (HST.out.trans (if_pos ht))
     simp only [Exit.inBlock,Exit.then]
     exact HBAD.out _ _ k hlt HT.out hc2 hr2 ((HB.out.mono (Nat.le_of_lt hql)).trans hb2)
 · obtain rfl:k=l.length:=by omega
   have HI:=Lib.hid (show dup (l.map fldT)=none by rw [HD.out,←List.length_map (f:=fldT),List.drop_length];rfl)
   clear hlt HD
   go_wp2
   exact HQ.out _ _ HI.out ⟨rfl,rfl,rfl,rfl,rfl,rfl,rfl,rfl⟩ HB.out
end Go.Proofs.YtokhnoogkdlidaaGreatDoor
namespace Go.Proofs.YtokhnoogkdlidaaGreatDoor
open Go.ChangeShapes Go.WideShapes Go.ChangeAt Go.RowKit Go.Shelf
def RmBAt (w:World)(sv ev rv:Value)(rs:List (RRec × Value))(m0:List NEnt)(U0:List ByteArray)(c':Act)(w':World):Prop:=∃ (i e:Nat) (a:Option Addr),i≤rs.length∧i≤16∧RmB w.heap.size a (U0.length+i) e i c'∧RmKeep w sv ev rv w'∧w'.ownsRow (w.heap.size+2) 9 1 (.slice a (U0.length+i) e) (U0.length+i) (strsCells (U0++(recNms rs).take i))∧recsM 0 m0 (rs.map Prod.fst)=recsM i (m0++entsOf 13 0 ((recNms rs).take i)) ((rs.map Prod.fst).drop i)
set_option maxRecDepth 100000 in
set_option maxHeartbeats 8000000 in
theorem rmb_wp {Q:Exit→Act→World→Prop}{c:Act}{w w0:World}{rb e0:Nat}{rs:List (RRec × Value)}{re:List (RCho × Value)}{rt:List Tok}{sv ev rv:Value}{a0:Option Addr}{m0:List NEnt}{U0:List ByteArray}(h:RawRows rb w rs re rt sv ev rv)(hm:m0.map NEnt.name=basicS++U0)(hU:U0.length≤8)
  (hc:RmB w.heap.size a0 U0.length e0 0 c) (hk:RmKeep w sv ev rv w0) (hu:w0.ownsRow (w.heap.size+2) 9 1 (.slice a0 U0.length e0) U0.length (strsCells U0))
  (hQ:∀ c' w' a' e' m1,recsM 0 m0 (rs.map Prod.fst)=.ok m1→rs.length≤16→RmB w.heap.size a' (U0.length+rs.length) e' rs.length c'→RmKeep w sv ev rv w'→w'.ownsRow (w.heap.size+2) 9 1 (.slice a' (U0.length+rs.length) e') (U0.length+rs.length) (strsCells (U0++recNms rs))→Q (.exit 6) c' w')
  (hB:∀ c' w' (code:Int) (p:Nat),recsM 0 m0 (rs.map Prod.fst)=.no code p→RmR w.heap.size code p c'→noRes w' (w.heap.size+1)→Below w.heap.size w w'→Q .ret c' w') :
  Code.wp Tryz.prog (Code.loop (loopsRm 3)) Q c w0:=by
 obtain ⟨sa,sc,ea,ec,ra,rc,rfl,rfl,rfl⟩:=h.forms
 refine wp_loop (RmBAt w (.slice sa rs.length sc) (.slice ea re.length ec) (.slice ra rt.length rc) rs m0 U0)
  (fun c' _=>rs.length-(intOf (c'.tmps.getD 10 undef)).toNat) ⟨0,e0,a0,Nat.zero_le _,Nat.zero_le _,hc,hk,by simpa using hu,by simp [entsOf]⟩ ?_
 clear hc hk hu
 rintro c wr ⟨i,e,a,hi,hlim,hc,hk,hu,hch⟩
 have HRAW:=Lib.hid h
 have HQ:=Lib.hid hQ
 have HBAD:=Lib.hid hB
 have HK:=Lib.hid hk
 have HU:=Lib.hid hu
 have HCH:=Lib.hid hch
 have HM:=Lib.hid hm
 have hfs:=row_few h.structs
 have hfe:=row_few h.enums
 obtain ⟨_,p0,p1,p2,_⟩:=blk3 hk.raw
 obtain ⟨u,rfl⟩:=hc.lit
 clear hc hQ hB hk hu hch h hm
 conv=>arg 2;whnf
 by_cases hlt:i<rs.length
 · obtain ⟨g,cc,hv,hcc,hg,hcell⟩:=row_el recCells 3 (fun _=>rfl) (row_keep HK.out.bel HRAW.out.structs) i hlt
   obtain ⟨rfl,rfl⟩:=slice_inj hv
   have hn:=HRAW.out.fields _ (List.getElem_mem hlt)
   obtain ⟨na,nc,hnv⟩:=ownsRow_form hn
   have x0:wr.cell? ⟨g,i * 3,none⟩=some (.string (strOfNums rs[i].1.name)):=hcell 0 (by omega)
   have x1:wr.cell? ⟨g,i * 3+1,none⟩=some (.int .i64 rs[i].1.place):=hcell 1 (by omega)
   have x2:wr.cell? ⟨g,i * 3+2,none⟩=some (.slice na rs[i].1.fields.length nc):=by rw [←hnv];exact hcell 2 (by omega)
   rw [hnv] at hn
   have HN:=Lib.hid hn
   have hfn:=row_few hn
   have HNQ:=Lib.hid (show ∀ g,na=some g→g.block≠w.heap.size+1 from fun g hg=>by
    have:=(ownsRow_lt hn g.block (by rw [hg];rfl)).2
    omega)
   have HST:=Lib.hid (show recsM 0 m0 (rs.map Prod.fst)=(recM i (m0++entsOf 13 0 ((recNms rs).take i)) rs[i].1).bind fun m'=>recsM (i+1) m' ((rs.map Prod.fst).drop (i+1)) by
    rw [HCH.out,recs_step i _ (rs.map Prod.fst) i (by simpa using hlt)]
    simp)
   have HLK:=Lib.hid (taken_look 13 HM.out ((recNms rs).take i) (strOfNums rs[i].1.name))
   have HTK:=Lib.hid (show (recNms rs).take (i+1)=(recNms rs).take i++[strOfNums rs[i].1.name] by
    rw [List.take_succ_eq_append_getElem (by rw [recNms_len];exact hlt),recNms_at rs i hlt])
   have HTL:=Lib.hid (show ((recNms rs).take i).length=i by rw [List.length_take,recNms_len];omega)
   generalize hmi:m0++entsOf 13 0 ((recNms rs).take i)=mi at *
   generalize hui:U0++(recNms rs).take i=ui at *
   have HMI:=Lib.hid hmi
   have HUI:=Lib.hid hui
   have HUL:=Lib.hid (show ui.length=U0.length+i by rw [←hui,List.length_append,HTL.out])
   generalize rs[i].1=d at *
   obtain ⟨dn,dp,dl⟩:=d
   simp only at *
   generalize hnm:strOfNums dn=nm at *
   have HNM:=Lib.hid hnm
   have hii:(i:Int)<rs.length:=by omega
   clear hv hcell hn hnv hmi hui hnm HCH
   have hbt:Below wr.heap.size wr (wr.alloc (.cells #[.string nm,.int .i64 dp,.slice na dl.length nc] 102)):=(Below.refl _ _).alloc (Nat.le_refl _) _
   have HBT:=Lib.hid hbt
   have HE:=Lib.hid (heap_alloc_new wr (.cells #[.string nm,.int .i64 dp,.slice na dl.length nc] 102))
   have hql:w.heap.size+1<wr.heap.size:=blk_lt HK.out.res
   clear hbt
   go_upto_region 23 with (fail)
   generalize wr.alloc (.cells #[.string nm,.int .i64 dp,.slice na dl.length nc] 102)=Wt at *
   clear x0 x1 x2 p0 p1 p2
   obtain ⟨_,y0,y1,y2,_⟩:=blk3 HE.out
   have HROW0:=Lib.hid (show Wt.ownsRow (w.heap.size+2) 9 1 (.slice a (U0.length+i) e) ui.length (strsCells ui) from by rw [HUL.out];exact row_keep HBT.out HU.out)
   go_wp2_with fail
   refine (rtaken_any ui (.slice a (U0.length+i) e) (w.heap.size+2) Wt HROW0.out nm).mono ?_
   rintro ee W3 ⟨rfl,hb3⟩
   have HB3:=Lib.hid (HBT.out.trans (hb3.mono HBT.out.size))
   have HE3:=Lib.hid (blk_below HE.out hb3 (blk_lt HE.out))
   have HK3:=Lib.hid (HK.out.below HB3.out (by omega))
   have HU3:=Lib.hid (row_keep HB3.out HU.out)
   clear hb3 y0 y1 y2 HE HROW0
   obtain ⟨hEl,y0,y1,y2,_⟩:=blk3 HE3.out
   obtain ⟨hRl,_,_,_,f0,f1,f2⟩:=blk3 HK3.out.res
   cases htk:takenB ui nm
   · have HLK2:=Lib.hid (HLK.out.trans htk)
     obtain ⟨i0,hi0,hzz0,hzz1,hzz2⟩:=info_parts str_info
     have I1:=Lib.hid hi0
     have I2:=Lib.hid hzz0
     have I3:=Lib.hid hzz1
     have I4:=Lib.hid hzz2
     have HBN:=Lib.hid (heap_alloc_new W3 (.cells #[.string nm] 9))
     have HBA:=Lib.hid ((Below.refl W3.heap.size W3).alloc (Nat.le_refl _) (.cells #[.string nm] 9))
     clear hi0 hzz0 hzz1 hzz2 htk HLK
     go_upto_region 26 with (at_builtin;refine wpList_append_own _ rfl (.tmp 120) (.tmp 123) 53 rfl (w.heap.size+2) 9 i0 _ 1 16 Tryz.underlying53 I1.out I2.out I3.out I4.out rfl (by decide) _ (U0.length+i) (strsCells ui) rfl (row_keep HBA.out HU3.out) _ 1 1 [.string nm] rfl rfl (World.news_of_block HBN.out) (by intro u hu;simp at hu;subst hu;rfl) (by unfold maxLen;omega) (by omega) (by simp;omega) ?_;intro v4 W8 hown4 hg4 hx;clear hx;have HG4:=Lib.hid hg4;obtain ⟨a4,e4,rfl⟩:=ownsRow_form hown4;have HU8:=Lib.hid hown4;have hE8:=(hg4.block wr.heap.size (by simp;omega) (fun e'=>by have:=(ownsRow_lt HU.out _ e'.symm).2;omega)).trans (blk_below HE3.out HBA.out (blk_lt HE3.out));have HE8:=Lib.hid hE8;have HK8:=Lib.hid (HK3.out.grown HBA.out hg4 (fun k hk=>(ownsRow_lt HU3.out k hk).1));obtain ⟨_,b0,b1,b2,_⟩:=blk3 hE8;obtain ⟨_,_,_,_,f3,f4,f5⟩:=blk3 HK8.out.res;clear hown4 hg4 hE8)
     clear y0 y1 y2 f0 f1 f2
     by_cases hfew:i<16∧1≤dl.length∧dl.length≤16
     · obtain ⟨g1,g2,g3⟩:=hfew
       have HFEW:=Lib.hid (decide_eq_true (show i<16∧1≤dl.length∧dl.length≤16 from ⟨g1,g2,g3⟩)).symm
       go_wp2_with fail
       refine rmb2_wp ⟨rfl,rfl,rfl,rfl,rfl,rfl,rfl,rfl⟩ HE8.out hql (row_keep HK8.out.bel HN.out) HNQ.out HK8.out.res ?_ ?_
       · intro c2 w2 hd hc2 hb2
         have HOK:=Lib.hid (recM_ok (k:=i) (m:=mi) (q:=⟨dn,dp,dl⟩) (by rw [HNM.out];exact HLK2.out) HFEW.out hd)
         have HK2:=Lib.hid (HK8.out.below hb2 (by have:=blk_lt HK8.out.res;omega))
         have HU2:=Lib.hid (row_keep hb2 HU8.out)
         obtain ⟨u2,rfl⟩:=hc2.lit
         clear hc2 hb2 hd b0 b1 b2 f3 f4 f5
         simp only [Exit.inBlock,Exit.then]
         apply_assumption
         go_wp2
         refine ⟨⟨i+1,e4,a4,by omega,by omega,⟨rfl,rfl,rfl,rfl,rfl,rfl⟩,HK2.out,?_,?_⟩,?_⟩
         · rw [HTK.out,←List.append_assoc,HUI.out,strsCells_snoc]
           exact HU2.out
         · rw [HST.out,HOK.out,mbind_ok,HTK.out,ents_append,HTL.out,←List.append_assoc,HMI.out,Nat.zero_add,HNM.out]
           rfl
         · show rs.length-(intOf (.int .i64 ((i:Int)+1))).toNat<rs.length-(intOf (.int .i64 (i:Int))).toNat
           simp [intOf];omega
       · intro c2 w2 j hj hd hc2 hr2 hb2
         have HNO:=Lib.hid (recM_dup (k:=i) (m:=mi) (q:=⟨dn,dp,dl⟩) (by rw [HNM.out];exact HLK2.out) HFEW.out hd hj)
         simp only [Exit.inBlock,Exit.then]
         exact HBAD.out _ _ 13 dl[j].place (by rw [HST.out,HNO.out];rfl) hc2 hr2 (HK8.out.bel.trans (hb2.mono (Nat.le_succ _)))
     · have HNO:=Lib.hid (recM_16 (k:=i) (m:=mi) (q:=⟨dn,dp,dl⟩) (by rw [HNM.out];exact HLK2.out) (decide_eq_false hfew).symm)
       have hor:¬i<16∨(i<16∧dl.length<1)∨(i<16∧¬dl.length<1∧16<dl.length):=by omega
       clear hfew
       rcases hor with hbad|⟨hb1,hbad⟩|⟨hb1,hb2,hbad⟩
       all_goals
        go_wp2_with fail
        go_region
        all_goals
         simp only [Exit.then]
         apply_assumption
         go_wp2
         exact HBAD.out _ _ 16 dp (by rw [HST.out,HNO.out];rfl) ⟨rfl,rfl,rfl,rfl,rfl⟩ HK8.out.res.put (bel_put HK8.out.bel (Nat.le_succ _) _ _ _).drew
   · have HNO:=Lib.hid (recM_13 (k:=i) (m:=mi) (q:=⟨dn,dp,dl⟩) (by rw [HNM.out];exact HLK.out.trans htk))
     clear htk
     go_wp2_with fail
     go_region
     all_goals
      simp only [Exit.then]
      apply_assumption
      go_wp2
      exact HBAD.out _ _ 13 dp (by rw [HST.out,HNO.out];rfl) ⟨rfl,rfl,rfl,rfl,rfl⟩ HK3.out.res.put (bel_put HK3.out.bel (Nat.le_succ _) _ _ _).drew
 · obtain rfl:i=rs.length:=by omega
   clear hlt
   go_wp2
   refine HQ.out _ _ _ _ (m0++entsOf 13 0 ((recNms rs).take rs.length)) ?_ hlim ⟨rfl,rfl,rfl,rfl,rfl,rfl⟩ HK.out ?_
   · rw [HCH.out,show (rs.map Prod.fst).drop rs.length=[] from List.drop_eq_nil_of_le (by simp)]
     rfl
   · have:=HU.out
     rw [show (recNms rs).take rs.length=recNms rs by rw [←recNms_len,List.take_length]] at this
     exact this
end Go.Proofs.YtokhnoogkdlidaaGreatDoor
