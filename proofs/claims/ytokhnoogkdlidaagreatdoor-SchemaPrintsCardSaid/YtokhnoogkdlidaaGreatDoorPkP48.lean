/-
  The document's Make: the loop that makes the enums, whole. Conditions: those that each theorem names.
-/
import Derived.Test.YtokhnoogkdlidaaGreatDoorPkP10
import Derived.Test.YtokhnoogkdlidaaGreatDoorPkP45
import Derived.Deep.RegionLaw
import Derived.Deep.AppendLies
import Derived.Deep.RegionHeld3
namespace Go.Proofs.YtokhnoogkdlidaaGreatDoor
open Go.ChangeShapes Go.WideShapes Go.ChangeAt Go.RowKit Go.Shelf
def RmC2At (q S i T:Nat)(name:Value)(l:List Tok)(w0:World)(c':Act)(w':World):Prop:=
 ∃ (k:Nat) (nv:Value),k≤l.length∧RmC2 q S i T k c'∧Below T w0 w'∧w'.heap[T]?=some (.cells #[name,nv] 55 (0,0))∧w'.ownsRow (T+1) 9 1 nv k (strsCells ((l.take k).map tokT))
set_option maxRecDepth 100000 in
set_option maxHeartbeats 8000000 in
theorem rmc2_wp {Q:Exit→Act→World→Prop}{c:Act}{w w0:World}{rb S i T:Nat}{name:Value}{rs:List (RRec × Value)}{re:List (RCho × Value)}{rt:List Tok}{sv ev rv:Value}(h:RawRows rb w rs re rt sv ev rv)(hc:RmC2 w.heap.size S i T 0 c)(hk:RmKeep w sv ev rv w0)
  (hi:i<re.length) (hT:w0.heap[T]?=some (.cells #[name,.slice none 0 0] 55 (0,0))) (hTq:w.heap.size+2≤T) (hlen:re[i].1.names.length≤100)
  (hQ:∀ c' w' nv,RmC2 w.heap.size S i T re[i].1.names.length c'→Below T w0 w'→w'.heap[T]?=some (.cells #[name,nv] 55 (0,0))→w'.ownsRow (T+1) 9 1 nv re[i].1.names.length (strsCells (re[i].1.names.map tokT))→Q (.exit 14) c' w') :
  Code.wp Tryz.prog (Code.loop (loopsRm 7)) Q c w0:=by
 obtain ⟨sa,sc,ea,ec,ra,rc,rfl,rfl,rfl⟩:=h.forms
 have hfe:=row_few h.enums
 obtain ⟨g,cc,hv,hcc,hg,hcell⟩:=row_el choCells 3 (fun _=>rfl) h.enums i hi
 obtain ⟨rfl,rfl⟩:=slice_inj hv
 have hn:=h.names _ (List.getElem_mem hi)
 obtain ⟨na,nc,hnv⟩:=ownsRow_form hn
 have x2:w.cell? ⟨g,i * 3+2,none⟩=some (.slice na re[i].1.names.length nc):=by rw [←hnv];exact hcell 2 (by omega)
 rw [hnv] at hn
 generalize re[i].1.names=l at *
 have hii:(i:Int)<re.length:=by omega
 have HX2:=Lib.hid x2
 have HN:=Lib.hid hn
 clear h hv hcell hnv x2 hn
 refine wp_loop (RmC2At w.heap.size S i T name l w0) (fun c' _=>l.length-(intOf (c'.tmps.getD 17 undef)).toNat) ⟨0,_,Nat.zero_le _,hc,Below.refl _ _,hT,World.ownsRow_nil _ _ _ _⟩ ?_
 clear hc hT
 rintro c wr ⟨k,nv,hkl,hc,hb,hC,hrow⟩
 have HQ:=Lib.hid hQ
 have HB:=Lib.hid hb
 have HCB:=Lib.hid hC
 have HROW:=Lib.hid hrow
 have HKR:=Lib.hid (hk.below hb hTq)
 have hbw:=HKR.out.bel
 have x2:wr.cell? ⟨g,i * 3+2,none⟩=some (.slice na l.length nc):=(hbw.cell (p:=⟨g,i * 3+2,none⟩) hg).trans HX2.out
 have HNR:=Lib.hid (row_keep hbw HN.out)
 obtain ⟨_,p0,p1,p2,_⟩:=blk3 HKR.out.raw
 obtain ⟨u,rfl⟩:=hc.lit
 obtain ⟨nva,nvc,rfl⟩:=ownsRow_form hrow
 obtain ⟨hCl,c0',c1',f0,f1⟩:=blk2 hC
 have hfn:=row_few HNR.out
 have hfr:=row_few hrow
 clear hc hQ hb hC hrow hbw hk
 conv=>arg 2;whnf
 by_cases hlt:k<l.length
 · obtain ⟨gn,cn,hvn,hcn,hgn,hcelln⟩:=row_el tokCells 3 (fun _=>rfl) HNR.out k hlt
   obtain ⟨rfl,rfl⟩:=slice_inj hvn
   have y1:wr.cell? ⟨gn,k * 3+1,none⟩=some (.string (tokT l[k])):=hcelln 1 (by omega)
   have HTS:=Lib.hid (take_snoc_map tokT l k hlt)
   generalize tokT l[k]=t at *
   have hki:(k:Int)<l.length:=by omega
   obtain ⟨i0,hi0,hzz0,hzz1,hzz2⟩:=info_parts str_info
   have I1:=Lib.hid hi0
   have I2:=Lib.hid hzz0
   have I3:=Lib.hid hzz1
   have I4:=Lib.hid hzz2
   clear hvn hcelln hi0 hzz0 hzz1 hzz2 p0 p2
   go_upto_region 44 with (fail)
   have hBA:Below wr.heap.size wr (wr.drew.alloc (.cells #[.string t] 9)):=(Below.refl _ wr).drew.alloc (Nat.le_refl _) _
   have HBA:=Lib.hid hBA
   clear hBA
   refine wp_region_noPanic ?_
   go_region_law (first|(refine step_append_lies _ rfl (.tmp 201) (.tmp 212) 53 rfl (T+1) 9 i0 _ 1 16 Tryz.underlying53 I1.out I2.out I3.out I4.out rfl (by decide) _ k (strsCells ((l.take k).map tokT)) rfl (row_keep HBA.out HROW.out) _ 1 1 [.string t] rfl rfl (World.news_of_block (heap_alloc_new _ _)) (by intro u hu;rw [List.mem_singleton.1 hu];rfl) (by decide) (by unfold maxLen;omega) (by omega) (by simp;omega) _ rfl ?_;rintro g4 c4 W8 hown4 hg4 hat4 hlt4;obtain ⟨s1,s2,s3,s4⟩:=step2 HB.out HCB.out HROW.out HBA.out hg4 hown4;obtain ⟨_,d0,d1,e0,e1⟩:=blk2 s4;have S1:=Lib.hid s1;have S2:=Lib.hid s2;have S3:=Lib.hid s3;clear s1 s2 s3 s4 hown4 hg4 hat4))
   all_goals
    refine NoPanic.normal ?_
    simp only [Exit.inBlock,Exit.then]
    apply_assumption
    go_wp2
    refine ⟨⟨k+1,_,by omega,⟨rfl,rfl,rfl,rfl,rfl,rfl,rfl,rfl⟩,S1.out,S2.out,by rw [HTS.out,strsCells_snoc];exact S3.out⟩,?_⟩
    show l.length-(intOf (.int .i64 ((k:Int)+1))).toNat<l.length-(intOf (.int .i64 (k:Int))).toNat
    simp [intOf];omega
 · obtain rfl:k=l.length:=by omega
   clear hlt
   go_wp2
   exact HQ.out _ _ _ ⟨rfl,rfl,rfl,rfl,rfl,rfl,rfl,rfl⟩ HB.out HCB.out (by have h:=HROW.out;rw [List.take_length] at h;exact h)
end Go.Proofs.YtokhnoogkdlidaaGreatDoor
namespace Go.Proofs.YtokhnoogkdlidaaGreatDoor
open Go.ChangeShapes Go.WideShapes Go.ChangeAt Go.RowKit Go.Shelf
def RmCAt (w:World)(sv ev rv:Value)(re:List (RCho × Value))(S:Nat)(c':Act)(w':World):Prop:=
 ∃ (i:Nat) (es:List (SCho × Value)) (esv:Value),i≤re.length∧RmC w.heap.size S i c'∧RmKeep w sv ev rv w'∧SchAt S w' [] es (.slice none 0 0) esv 0∧es.map Prod.fst=(re.take i).map (fun p=>choOut p.1)
set_option maxRecDepth 100000 in
set_option maxHeartbeats 8000000 in
theorem rmc_wp {Q:Exit→Act→World→Prop}{c:Act}{w w0:World}{rb S:Nat}{rs:List (RRec × Value)}{re:List (RCho × Value)}{rt:List Tok}{sv ev rv:Value}(h:RawRows rb w rs re rt sv ev rv)(hc:RmC w.heap.size S 0 c)(hk:RmKeep w sv ev rv w0)
  (hs:SchAt S w0 [] [] (.slice none 0 0) (.slice none 0 0) 0) (hSq:w.heap.size+2≤S) (hlen:∀ p ∈ re,p.1.names.length≤100) (hl8:re.length≤8)
  (hQ:∀ c' w' es esv,RmC w.heap.size S re.length c'→RmKeep w sv ev rv w'→SchAt S w' [] es (.slice none 0 0) esv 0→es.map Prod.fst=(re.map Prod.fst).map choOut→Q (.exit 12) c' w') :
  Code.wp Tryz.prog (Code.loop (loopsRm 6)) Q c w0:=by
 refine wp_loop (RmCAt w sv ev rv re S) (fun c' _=>re.length-(intOf (c'.tmps.getD 15 undef)).toNat) ⟨0,[],_,Nat.zero_le _,hc,hk,hs,rfl⟩ ?_
 clear hc hk hs
 rintro c wr ⟨i,es,esv,hi,hc,hk,hs,hes⟩
 have HRAW:=Lib.hid h
 have HQ:=Lib.hid hQ
 have HK:=Lib.hid hk
 have HS:=Lib.hid hs
 have HES:=Lib.hid hes
 have HL:=Lib.hid hlen
 have hesl:es.length≤8:=by have:=congrArg List.length hes;simp at this;omega
 obtain ⟨sa,sc,ea,ec,ra,rc,rfl,rfl,rfl⟩:=h.forms
 have hfe:=row_few h.enums
 obtain ⟨u,rfl⟩:=hc.lit
 obtain ⟨_,p0,p1,p2,_⟩:=blk3 hk.raw
 have hbl:S<wr.heap.size:=blk_lt hs.blk
 clear hc hQ hk hs hes h hlen
 conv=>arg 2;whnf
 by_cases hlt:i<re.length
 · obtain ⟨g,cc,hv,hcc,hg,hcell⟩:=row_el choCells 3 (fun _=>rfl) (row_keep HK.out.bel HRAW.out.enums) i hlt
   obtain ⟨rfl,rfl⟩:=slice_inj hv
   have x0:wr.cell? ⟨g,i * 3,none⟩=some (.string (strOfNums re[i].1.name)):=hcell 0 (by omega)
   have HTK:=Lib.hid (show (re.take (i+1)).map (fun p=>choOut p.1)=(re.take i).map (fun p=>choOut p.1)++[choOut re[i].1] by
    rw [List.take_succ_eq_append_getElem hlt,List.map_append];rfl)
   have HCO:=Lib.hid (show choOut re[i].1=⟨strOfNums re[i].1.name,re[i].1.names.map tokT⟩ from rfl)
   have HLE:=Lib.hid (HL.out _ (List.getElem_mem hlt))
   have hii:(i:Int)<re.length:=by omega
   generalize hnm:strOfNums re[i].1.name=nm at *
   have hbt:Below wr.heap.size wr (wr.alloc (.cells #[.string nm,.slice none 0 0] 55)):=(Below.refl _ _).alloc (Nat.le_refl _) _
   have HBT:=Lib.hid hbt
   have HT:=Lib.hid (heap_alloc_new wr (.cells #[.string nm,.slice none 0 0] 55))
   have HKT:=Lib.hid (HK.out.below hbt (by omega))
   clear hv hcell hbt hnm
   go_upto_region 41 with (fail)
   generalize wr.alloc (.cells #[.string nm,.slice none 0 0] 55)=Wt at *
   clear x0 p0 p1 p2
   go_wp2_with fail
   refine rmc2_wp (i:=i) (T:=wr.heap.size) HRAW.out ⟨rfl,rfl,rfl,rfl,rfl,rfl,rfl,rfl⟩ HKT.out hlt HT.out (by omega) HLE.out ?_
   intro c2 w2 nv hf hbel hC2 hrow2
   generalize hln:re[i].1.names.length=ln at *
   have HLN:=Lib.hid hln
   obtain ⟨nva,nvc,rfl⟩:=ownsRow_form hrow2
   have hb3:Below wr.heap.size wr w2:=HBT.out.trans (hbel.mono (by have:=HBT.out.size;omega))
   have hs2:=HS.out.below hb3
   have HS2:=Lib.hid hs2
   have HK2:=Lib.hid (HK.out.below hb3 (by omega))
   have HROW:=Lib.hid hrow2
   obtain ⟨_,z0,z1,z2,f0,f1,f2⟩:=blk3 hs2.blk
   obtain ⟨hCl,d0,d1,_⟩:=blk2 hC2
   obtain ⟨eva,evc,rfl⟩:=ownsRow_form hs2.rows.enums
   obtain ⟨i0,hi0,hzz0,hzz1,hzz2⟩:=info_parts scho_info
   have I1:=Lib.hid hi0
   have I2:=Lib.hid hzz0
   have I3:=Lib.hid hzz1
   have I4:=Lib.hid hzz2
   have hbs:S<w2.heap.size:=blk_lt hs2.blk
   have HBN:=Lib.hid (heap_alloc_new w2 (.cells #[.string nm,.slice nva ln nvc] 55))
   have HBA:=Lib.hid ((Below.refl w2.heap.size w2).alloc (Nat.le_refl _) (.cells #[.string nm,.slice nva ln nvc] 55))
   obtain ⟨u2,rfl⟩:=hf.lit
   clear hf hbel hC2 hrow2 hb3 hs2 hi0 hzz0 hzz1 hzz2 HS HK hln
   simp only [Exit.inBlock,Exit.then]
   apply_assumption
   go_wp2_with (at_builtin;refine wpList_append_own _ rfl (.tmp 216) (.tmp 218) 28 rfl (S+1) 55 i0 _ 2 40 Tryz.underlying28 I1.out I2.out I3.out I4.out rfl (by decide) _ es.length (schosCells es) rfl (row_keep HBA.out HS2.out.rows.enums) _ 1 1 [.string nm,.slice nva ln nvc] rfl rfl (World.news_of_block HBN.out) (by intro u hu;simp at hu;rcases hu with rfl|rfl<;>rfl) (by unfold maxLen;omega) (by omega) (by simp;omega) ?_;intro v4 W8 hown4 hg4 hx;clear hx;obtain ⟨a4,m4,rfl⟩:=ownsRow_form hown4;have s5:=SchAt.enum (q:=(⟨nm,re[i].1.names.map tokT⟩,.slice nva ln nvc)) (HS2.out.below HBA.out) (by have h:=ownsRow_base (row_keep HBA.out HROW.out) (show S+1≤wr.heap.size+1 by omega);show World.ownsRow _ _ _ _ _ (re[i].1.names.map tokT).length (strsCells (re[i].1.names.map tokT));rw [List.length_map,HLN.out];exact h) hg4 hown4;have s4:W8.heap[S]?=some (.cells #[.slice none 0 0,.slice eva es.length evc,.int .i64 0] 30 (0,0)):=(hg4.block S (by simp;omega) (fun e=>by have:=(ownsRow_lt HS2.out.rows.enums _ e.symm).1;omega)).trans (HS2.out.below HBA.out).blk;obtain ⟨_,p0,p1,p2,q0,q1,q2⟩:=blk3 s4;have S5:=Lib.hid s5;have S6:=Lib.hid (bel_app HBA.out hbs hg4 (fun k hk=>by have:=(ownsRow_lt HS2.out.rows.enums k hk).1;omega) 1 (.slice a4 (es.length+1) m4));clear s5 s4 hown4 hg4)
   refine ⟨⟨i+1,_,_,by omega,⟨rfl,rfl,rfl,rfl,rfl,rfl⟩,HK2.out.below S6.out (by omega),S5.out,by rw [List.map_append,HES.out,HTK.out,HCO.out];rfl⟩,?_⟩
   show re.length-(intOf (.int .i64 ((i:Int)+1))).toNat<re.length-(intOf (.int .i64 (i:Int))).toNat
   simp [intOf];omega
 · obtain rfl:i=re.length:=by omega
   clear hlt
   go_wp2
   exact HQ.out _ _ _ _ ⟨rfl,rfl,rfl,rfl,rfl,rfl⟩ HK.out HS.out (by rw [HES.out,List.take_length,List.map_map];rfl)
end Go.Proofs.YtokhnoogkdlidaaGreatDoor
