/-
  The document's Make: the loop that finds the root. Conditions: those that each theorem names.
-/
import Derived.Test.YtokhnoogkdlidaaGreatDoorPkP44
import Derived.Test.YtokhnoogkdlidaaGreatDoorPkP48
namespace Go.Proofs.YtokhnoogkdlidaaGreatDoor
open Go.ChangeShapes Go.WideShapes Go.ChangeAt Go.RowKit Go.Shelf
theorem fieldM_kind {m:List NEnt}{es:List RCho}{f:RField}{ES SS:List ByteArray}(hN:Named m ES SS):fieldM m es f=match kindD ES SS (strOfNums f.ty.name) with
  | none=>.no 14 f.ty.place
  | some q=>match valueM es q.1 q.2 f.ty.lists f.dflt with
   | none=>.no 15 f.dflt.place
   | some d=>.ok ⟨strOfNums f.name,q.1,q.2,f.ty.lists,d⟩:=by
 rw [hN.kind]
 unfold fieldM
 cases lookN m (strOfNums f.ty.name) with
 | none=>rfl
 | some q =>
  by_cases h0:q.1=0
  · simp [h0]
  · simp [h0]
    rfl
theorem kind_good {ne:Nat}{m:List NEnt}{ES SS:List ByteArray}(hN:Named m ES SS)(hg:NGood ne m){s:ByteArray}{q:Nat × Nat}(h:kindD ES SS s=some q):(q.1=10→q.2<ne)∧q.1≤13:=by
 rw [hN.kind] at h
 cases hl:lookN m s with
 | none=>rw [hl] at h;cases h
 | some p =>
  rw [hl] at h
  by_cases h0:p.1=0
  · simp [h0] at h
  · simp [h0] at h
    subst h
    exact hg.look s p hl
theorem two_blk' (w:World)(a b:Array Value)(s t:TypeId):Below w.heap.size w ((w.alloc (.cells a s)).alloc (.cells b t))∧((w.alloc (.cells a s)).alloc (.cells b t)).heap[w.heap.size]?=some (.cells a s (0,0))∧((w.alloc (.cells a s)).alloc (.cells b t)).heap[w.heap.size+1]?=some (.cells b t (0,0)):=two_blk w a b s t
def put123 (W:World)(g:Nat)(x y z:Value):World:=((W.setCell ⟨g,1,none⟩ x).setCell ⟨g,2,none⟩ y).setCell ⟨g,3,none⟩ z
theorem put123_blk {W:World}{g:Nat}{a b c d e:Value}{t:TypeId}(h:W.heap[g]?=some (.cells #[a,b,c,d,e] t (0,0)))(x y z:Value):(put123 W g x y z).heap[g]?=some (.cells #[a,x,y,z,e] t (0,0)):=(blk_set (blk_set (blk_set h 1 x) 2 y) 3 z).trans rfl
theorem put123_far {W:World}{g k:Nat}{o:Obj}(h:W.heap[k]?=some o)(hk:g≠k)(x y z:Value):(put123 W g x y z).heap[k]?=some o:=blk_set_ne (blk_set_ne (blk_set_ne h hk _) hk _) hk _
theorem put123_below {B g:Nat}{a W:World}(h:Below B a W)(hg:B≤g)(x y z:Value):Below B a (put123 W g x y z):=((h.setCell (p:=⟨g,1,none⟩) hg _).setCell (p:=⟨g,2,none⟩) hg _).setCell (p:=⟨g,3,none⟩) hg _
theorem set4_blk {W:World}{g:Nat}{a b c d e:Value}{t:TypeId}(h:W.heap[g]?=some (.cells #[a,b,c,d,e] t (0,0)))(x:Value):(W.setCell ⟨g,4,none⟩ x).heap[g]?=some (.cells #[a,b,c,d,x] t (0,0)):=(blk_set h 4 x).trans rfl
def RmD2At (q S i T:Nat)(name:Value)(m:List NEnt)(es:List RCho)(l:List RField)(w0:World)(c':Act)(w':World):Prop:=
 ∃ (k:Nat) (acc:List SFld) (fv:Value),k≤l.length∧RmD2 q S i T k c'∧Below T w0 w'∧w'.heap[T]?=some (.cells #[name,fv] 52 (0,0))∧w'.ownsRow (T+1) 49 5 fv k (sfldsCells acc)∧acc.length=k∧fldsM m es l=(fldsM m es (l.drop k)).bind fun r=>.ok (acc++r)
set_option maxRecDepth 100000 in
set_option maxHeartbeats 8000000 in
theorem rmd2_wp {Q:Exit→Act→World→Prop}{c:Act}{w w0:World}{rb S i T:Nat}{name:Value}{m:List NEnt}{rs:List (RRec × Value)}{re:List (RCho × Value)}{rt:List Tok}{sv ev rv:Value}(h:RawRows rb w rs re rt sv ev rv)(hN:Named m (choNms re) (recNms rs))(hG:NGood re.length m)(hc:RmD2 w.heap.size S i T 0 c)(hk:RmKeep w sv ev rv w0)
  (hi:i<rs.length) (hT:w0.heap[T]?=some (.cells #[name,.slice none 0 0] 52 (0,0))) (hTq:w.heap.size+2≤T) (hlen:rs[i].1.fields.length≤100) (hsz:∀ f ∈ rs[i].1.fields,f.dflt.text.length≤281474976710656)
  (hQ:∀ c' w' fv acc,RmD2 w.heap.size S i T rs[i].1.fields.length c'→Below T w0 w'→w'.heap[T]?=some (.cells #[name,fv] 52 (0,0))→w'.ownsRow (T+1) 49 5 fv rs[i].1.fields.length (sfldsCells acc)→acc.length=rs[i].1.fields.length→fldsM m (re.map Prod.fst) rs[i].1.fields=.ok acc→Q (.exit 18) c' w')
  (hB:∀ c' w' (code:Int) (p:Nat),fldsM m (re.map Prod.fst) rs[i].1.fields=.no code p→RmR w.heap.size code p c'→noRes w' (w.heap.size+1)→Below w.heap.size w w'→Q .ret c' w') :
  Code.wp Tryz.prog (Code.loop (loopsRm 9)) Q c w0:=by
 have HRAW:=Lib.hid h
 have HNM:=Lib.hid hN
 have HGD:=Lib.hid hG
 obtain ⟨sa,sc,ea,ec,ra,rc,rfl,rfl,rfl⟩:=h.forms
 have hfs:=row_few h.structs
 obtain ⟨g,cc,hv,hcc,hg,hcell⟩:=row_el recCells 3 (fun _=>rfl) h.structs i hi
 obtain ⟨rfl,rfl⟩:=slice_inj hv
 have hn:=h.fields _ (List.getElem_mem hi)
 obtain ⟨na,nc,hnv⟩:=ownsRow_form hn
 have x2:w.cell? ⟨g,i * 3+2,none⟩=some (.slice na rs[i].1.fields.length nc):=by rw [←hnv];exact hcell 2 (by omega)
 rw [hnv] at hn
 generalize rs[i].1.fields=l at *
 have hii:(i:Int)<rs.length:=by omega
 have HX2:=Lib.hid x2
 have HN:=Lib.hid hn
 have HSZ:=Lib.hid hsz
 clear h hv hcell hnv x2 hn hN hG hsz
 refine wp_loop (RmD2At w.heap.size S i T name m (re.map Prod.fst) l w0) (fun c' _=>l.length-(intOf (c'.tmps.getD 20 undef)).toNat) ⟨0,[],_,Nat.zero_le _,hc,Below.refl _ _,hT,World.ownsRow_nil _ _ _ _,rfl,(bind_self _).symm⟩ ?_
 clear hc hT
 rintro c wr ⟨k,acc,nv,hkl,hc,hb,hC,hrow,hal,hfl⟩
 have HQ:=Lib.hid hQ
 have HBAD:=Lib.hid hB
 have HB:=Lib.hid hb
 have HCB:=Lib.hid hC
 have HROW:=Lib.hid hrow
 have HAL:=Lib.hid hal
 have HFL:=Lib.hid hfl
 have HKR:=Lib.hid (hk.below hb hTq)
 have hbw:=HKR.out.bel
 have x2:wr.cell? ⟨g,i * 3+2,none⟩=some (.slice na l.length nc):=(hbw.cell (p:=⟨g,i * 3+2,none⟩) hg).trans HX2.out
 have HNR:=Lib.hid (row_keep hbw HN.out)
 have HRW:=Lib.hid (HRAW.out.below hbw)
 obtain ⟨_,p0,p1,p2,_⟩:=blk3 HKR.out.raw
 obtain ⟨u,rfl⟩:=hc.lit
 obtain ⟨nva,nvc,rfl⟩:=ownsRow_form hrow
 have hCl:T<wr.heap.size:=blk_lt hC
 have hfn:=row_few HNR.out
 clear hc hQ hB hb hC hrow hbw hk hal hfl
 conv=>arg 2;whnf
 by_cases hlt:k<l.length
 · obtain ⟨gn,cn,hvn,hcn,hgn,hcelln⟩:=row_el fieldCells 8 (fun _=>rfl) HNR.out k hlt
   obtain ⟨rfl,rfl⟩:=slice_inj hvn
   obtain ⟨HS1,HS2⟩:Hid (∀ c p,fieldM m (re.map Prod.fst) l[k]=.no c p→fldsM m (re.map Prod.fst) l=.no c p)∧Hid (∀ f,fieldM m (re.map Prod.fst) l[k]=.ok f→fldsM m (re.map Prod.fst) l=(fldsM m (re.map Prod.fst) (l.drop (k+1))).bind fun r=>.ok (acc++[f]++r)):=
    ⟨Lib.hid (flds_step m (re.map Prod.fst) l acc k hlt HFL.out).1,Lib.hid (flds_step m (re.map Prod.fst) l acc k hlt HFL.out).2⟩
   have HSD:=Lib.hid (HSZ.out _ (List.getElem_mem hlt))
   generalize l[k]=f at *
   obtain ⟨fn,fp,⟨tn,tl,tp⟩,⟨dk,dt,dp⟩⟩:=f
   have hkd:=fieldM_kind (es:=re.map Prod.fst) (f:=⟨fn,fp,⟨tn,tl,tp⟩,⟨dk,dt,dp⟩⟩) HNM.out
   have HKG:=Lib.hid (fun q=>kind_good (s:=strOfNums tn) (q:=q) HNM.out HGD.out)
   have hts:(tokT ⟨dk,dt,dp⟩).size≤281474976710656:=by rw [tokT,strOfNums_size];exact HSD.out
   have x00:wr.cell? ⟨gn,k * 8,none⟩=some (.string (strOfNums fn)):=hcelln 0 (by omega)
   have x01:wr.cell? ⟨gn,k * 8+1,none⟩=some (.int .i64 fp):=hcelln 1 (by omega)
   have x02:wr.cell? ⟨gn,k * 8+2,none⟩=some (.string (strOfNums tn)):=hcelln 2 (by omega)
   have x03:wr.cell? ⟨gn,k * 8+3,none⟩=some (.int .i64 tl):=hcelln 3 (by omega)
   have x04:wr.cell? ⟨gn,k * 8+4,none⟩=some (.int .i64 tp):=hcelln 4 (by omega)
   have x05:wr.cell? ⟨gn,k * 8+5,none⟩=some (.int .i64 dk):=hcelln 5 (by omega)
   have x06:wr.cell? ⟨gn,k * 8+6,none⟩=some (.string (tokT ⟨dk,dt,dp⟩)):=hcelln 6 (by omega)
   have x07:wr.cell? ⟨gn,k * 8+7,none⟩=some (.int .i64 dp):=hcelln 7 (by omega)
   simp only at hkd
   have hki:(k:Int)<l.length:=by omega
   have HKIND:=Lib.hid (fun W (hW:Below wr.heap.size wr W)=>rkind_any W (HRW.out.below hW) ⟨tn,tl,tp⟩)
   have HDEF:=Lib.hid (fun W (hW:Below wr.heap.size wr W) (kk rr:Nat) (h0:dk≠0) h1 h2=>rdef_any W (HRW.out.below hW) kk rr tl ⟨dk,dt,dp⟩ h0 h1 h2 hts)
   simp only at HKIND HDEF
   generalize strOfNums fn=nm at *
   generalize strOfNums tn=tnm at *
   generalize tokT ⟨dk,dt,dp⟩=ds at *
   generalize hvm:(fun kk rr=>valueM (re.map Prod.fst) kk rr tl ⟨dk,dt,dp⟩)=vm at *
   have HV0:Hid (dk=0→∀ kk rr,vm kk rr=some 0):=Lib.hid (by intro h0 kk rr;rw [←hvm];simp [valueM,h0])
   have hkd':fieldM m (re.map Prod.fst) ⟨fn,fp,⟨tn,tl,tp⟩,⟨dk,dt,dp⟩⟩=match kindD (choNms re) (recNms rs) tnm with
    | none=>.no 14 tp
    | some q=>match vm q.1 q.2 with
     | none=>.no 15 dp
     | some d=>.ok ⟨nm,q.1,q.2,tl,d⟩:=by rw [hkd,←hvm]
   have HDEF2:Hid (∀ W (hW:Below wr.heap.size wr W) (kk rr:Nat) (h0:dk≠0),kk≤13→(kk=10→rr<re.length)→Calls Tryz.prog 45 #[.agg #[.slice (some ⟨g,0,none⟩) rs.length sc,.slice ea re.length ec,.slice ra rt.length rc],.agg #[.int .u8 (kk:Nat),.int .i64 (rr:Nat),.int .i64 (tl:Nat)],.agg #[.int .i64 dk,.string ds,.int .i64 dp]] W (DefPost (vm kk rr) W)):=Lib.hid (by
    intro W hW kk rr h0 h1 h2
    rw [←hvm]
    exact HDEF.out W hW kk rr h0 h1 h2)
   generalize fieldM m (re.map Prod.fst) ⟨fn,fp,⟨tn,tl,tp⟩,⟨dk,dt,dp⟩⟩=fm at *
   have HKD:=Lib.hid hkd'
   obtain ⟨hb2,hF,hX⟩:=two_blk' wr #[.string nm,.int .i64 fp,.string tnm,.int .i64 tl,.int .i64 tp,.int .i64 dk,.string ds,.int .i64 dp] #[.string nm,.int .u8 0,.int .i64 0,.int .i64 0,.int .u64 0] 114 49
   have HB2:=Lib.hid hb2
   have HF2:=Lib.hid hF
   have HX2':=Lib.hid hX
   clear hvn hcelln hkd hkd' hvm hb2 hF hX HDEF HSD HFL hts
   go_upto_region 55 with (fail)
   generalize ((wr.alloc (.cells #[.string nm,.int .i64 fp,.string tnm,.int .i64 tl,.int .i64 tp,.int .i64 dk,.string ds,.int .i64 dp] 114)).alloc (.cells #[.string nm,.int .u8 0,.int .i64 0,.int .i64 0,.int .u64 0] 49))=W2 at *
   clear x00 x01 x02 x03 x04 x05 x06 x07 x2 p0 p1 p2
   obtain ⟨hFl,x00,x01,x02,x03,x04,x05,x06,x07⟩:=blk8' HF2.out
   have HK2:=Lib.hid (HKR.out.below HB2.out (by omega))
   obtain ⟨_,p0,p1,p2,_⟩:=blk3 HK2.out.raw
   go_wp2_with fail
   refine (HKIND.out W2 HB2.out).mono ?_
   rintro e W3 ⟨rfl,hb3⟩
   have HB3:=Lib.hid (HB2.out.trans (hb3.mono HB2.out.size))
   have HF3:=Lib.hid (blk_below HF2.out hb3 (blk_lt HF2.out))
   have HX3:=Lib.hid (blk_below HX2'.out hb3 (blk_lt HX2'.out))
   have hFX:wr.heap.size+1<W3.heap.size:=blk_lt HX3.out
   clear hb3 x00 x01 x02 x03 x04 x05 x06 x07 p0 p1 p2 HF2 HX2' HK2 HB2 hFl
   rcases hkd:kindD (choNms re) (recNms rs) tnm with _|⟨kk,rr⟩
   · have HNO:=Lib.hid (HS1.out 14 tp (by rw [HKD.out,hkd]))
     clear hkd
     simp only [kindRes]
     go_upto_region 56 with (fail)
     have hb4:Below W3.heap.size W3 (W3.alloc (.cells #[.int .u8 0,.int .i64 0,.int .i64 0] 46)):=(Below.refl _ _).alloc (Nat.le_refl _) _
     have HB4:=Lib.hid (HB3.out.trans (hb4.mono HB3.out.size))
     have HF4:=Lib.hid (blk_below HF3.out hb4 (blk_lt HF3.out))
     have HK4:=Lib.hid (HKR.out.below HB4.out (by omega))
     generalize W3.alloc (.cells #[.int .u8 0,.int .i64 0,.int .i64 0] 46)=W4 at *
     obtain ⟨hFl,x00,x01,x02,x03,x04,x05,x06,x07⟩:=blk8' HF4.out
     obtain ⟨_,_,_,_,f0,f1,f2⟩:=blk3 HK4.out.res
     clear hb4
     go_wp2_with fail
     go_region
     all_goals
      simp only [Exit.then]
      apply_assumption
      go_wp2
      exact HBAD.out _ _ 14 tp HNO.out ⟨rfl,rfl,rfl,rfl,rfl⟩ HK4.out.res.put (bel_put HK4.out.bel (Nat.le_succ _) _ _ _).drew
   · have HKD2:=Lib.hid (show fm=match vm kk rr with
      | none=>.no 15 dp
      | some d=>.ok ⟨nm,kk,rr,tl,d⟩ by rw [HKD.out,hkd])
     obtain ⟨hk10,hk13⟩:=HKG.out _ hkd
     simp only at hk10 hk13
     have HK10:=Lib.hid hk10
     clear hkd hk10
     simp only [kindRes]
     generalize hls:tl=ls at *
     go_upto_region 56 with (fail)
     have hb4:Below W3.heap.size W3 (W3.alloc (.cells #[.int .u8 (kk:Nat),.int .i64 (rr:Nat),.int .i64 (ls:Nat)] 46)):=(Below.refl _ _).alloc (Nat.le_refl _) _
     have HTY:=Lib.hid (heap_alloc_new W3 (.cells #[.int .u8 (kk:Nat),.int .i64 (rr:Nat),.int .i64 (ls:Nat)] 46))
     have HB4:=Lib.hid (HB3.out.trans (hb4.mono HB3.out.size))
     have HF4:=Lib.hid (blk_below HF3.out hb4 (blk_lt HF3.out))
     have HX4:=Lib.hid (blk_below HX3.out hb4 (blk_lt HX3.out))
     generalize W3.alloc (.cells #[.int .u8 (kk:Nat),.int .i64 (rr:Nat),.int .i64 (ls:Nat)] 46)=W4 at *
     generalize hty:W3.heap.size=TY at *
     have hneX:wr.heap.size+1≠TY:=by omega
     have hneF:wr.heap.size+1≠wr.heap.size:=by omega
     obtain ⟨hTl,t0,t1,t2,_⟩:=blk3 HTY.out
     obtain ⟨_,y0,y1,y2,y3,y4,r0,r1,r2,r3,r4⟩:=blk5' HX4.out
     clear hb4 hls hty
     go_upto_region 59 with (fail)
     have HX5:=Lib.hid (put123_blk HX4.out (.int .u8 (kk:Nat)) (.int .i64 (rr:Nat)) (.int .i64 (ls:Nat)))
     have HF5:=Lib.hid (put123_far HF4.out hneF (.int .u8 (kk:Nat)) (.int .i64 (rr:Nat)) (.int .i64 (ls:Nat)))
     have HT5:=Lib.hid (put123_far HTY.out hneX (.int .u8 (kk:Nat)) (.int .i64 (rr:Nat)) (.int .i64 (ls:Nat)))
     have HB5:=Lib.hid (put123_below HB4.out (Nat.le_succ wr.heap.size) (.int .u8 (kk:Nat)) (.int .i64 (rr:Nat)) (.int .i64 (ls:Nat)))
     generalize hW5:put123 W4 (wr.heap.size+1) (.int .u8 (kk:Nat)) (.int .i64 (rr:Nat)) (.int .i64 (ls:Nat))=W5 at *
     unfold put123 at hW5
     rw [hW5]
     clear hW5 t0 t1 t2 y0 y1 y2 y3 y4 r0 r1 r2 r3 r4 hTl HX4 HF4 HTY HB4
     obtain ⟨hFl,x00,x01,x02,x03,x04,x05,x06,x07⟩:=blk8' HF5.out
     obtain ⟨i0,hi0,hzz0,hzz1,hzz2⟩:=info_parts sfld_info
     have I1:=Lib.hid hi0
     have I2:=Lib.hid hzz0
     have I3:=Lib.hid hzz1
     have I4:=Lib.hid hzz2
     clear hi0 hzz0 hzz1 hzz2
     by_cases hdk:dk=0
     · have HNX:=Lib.hid (HS2.out ⟨nm,kk,rr,ls,0⟩ (by rw [HKD2.out,HV0.out hdk]))
       subst hdk
       go_upto_region 64 with (fail)
       obtain ⟨_,y0,y1,y2,y3,y4,_⟩:=blk5' HX5.out
       obtain ⟨_,v0,v1,_⟩:=blk2 (blk_below HCB.out HB5.out hCl)
       have HBN:=Lib.hid (heap_alloc_new W5 (.cells #[.string nm,.int .u8 kk,.int .i64 rr,.int .i64 ls,.int .u64 0] 49))
       have HBA:=Lib.hid (HB5.out.alloc HB5.out.size (.cells #[.string nm,.int .u8 kk,.int .i64 rr,.int .i64 ls,.int .u64 0] 49))
       go_wp2_with (at_builtin;refine wpList_append_own _ rfl (.tmp 294) (.tmp 296) 50 rfl (T+1) 49 i0 _ 5 48 Tryz.underlying50 I1.out I2.out I3.out I4.out rfl (by decide) _ k (sfldsCells acc) rfl (row_keep HBA.out HROW.out) _ 1 1 [.string nm,.int .u8 kk,.int .i64 rr,.int .i64 ls,.int .u64 0] rfl rfl (World.news_of_block HBN.out) (by intro u hu;simp at hu;rcases hu with rfl|rfl|rfl|rfl|rfl<;>rfl) (by unfold maxLen;omega) (by omega) (by simp;omega) ?_;intro v4 W8 hown4 hg4 hx;clear hx;obtain ⟨a4,m4,rfl⟩:=ownsRow_form hown4;obtain ⟨s1,s2,s3,s4⟩:=step2 HB.out HCB.out HROW.out HBA.out hg4 hown4;obtain ⟨_,d0,d1,e0,e1⟩:=blk2 s4;have S1:=Lib.hid s1;have S2:=Lib.hid s2;have S3:=Lib.hid s3;clear s1 s2 s3 s4 hown4 hg4)
       refine ⟨⟨k+1,acc++[⟨nm,kk,rr,ls,0⟩],_,by omega,⟨rfl,rfl,rfl,rfl,rfl,rfl,rfl,rfl⟩,S1.out,S2.out,by rw [sfldsCells_snoc];exact S3.out,by rw [List.length_append,HAL.out];rfl,HNX.out⟩,?_⟩
       show l.length-(intOf (.int .i64 ((k:Int)+1))).toNat<l.length-(intOf (.int .i64 (k:Int))).toNat
       simp [intOf];omega
     · have td:(dk==0)=false:=by simpa using hdk
       have td2:(dk != 0)=true:=by simpa using hdk
       have HK5:=Lib.hid (HKR.out.below HB5.out (by omega))
       have HCD:=Lib.hid (HDEF2.out W5 HB5.out kk rr hdk hk13 HK10.out)
       obtain ⟨_,p0,p1,p2,_⟩:=blk3 HK5.out.raw
       obtain ⟨_,t0,t1,t2,_⟩:=blk3 HT5.out
       clear hdk
       go_wp2_with fail
       refine HCD.out.mono ?_
       rintro e W6 ⟨x,rfl,hx,hb6⟩
       have HXV:=Lib.hid hx
       have HB6:=Lib.hid (HB5.out.trans (hb6.mono HB5.out.size))
       have HF6:=Lib.hid (blk_below HF5.out hb6 (blk_lt HF5.out))
       have HX6:=Lib.hid (blk_below HX5.out hb6 (blk_lt HX5.out))
       have HK6:=Lib.hid (HKR.out.below HB6.out (by omega))
       clear hb6 hx x00 x01 x02 x03 x04 x05 x06 x07 p0 p1 p2 t0 t1 t2 hFl
       cases hvv:vm kk rr with
       | none =>
        have HNO:=Lib.hid (HS1.out 15 dp (by rw [HKD2.out,hvv]))
        clear hvv
        obtain ⟨hFl,x00,x01,x02,x03,x04,x05,x06,x07⟩:=blk8' HF6.out
        obtain ⟨_,_,_,_,f0,f1,f2⟩:=blk3 HK6.out.res
        simp only [Option.isSome]
        go_wp2_with fail
        go_region
        all_goals
         simp only [Exit.then]
         apply_assumption
         go_wp2
         exact HBAD.out _ _ 15 dp HNO.out ⟨rfl,rfl,rfl,rfl,rfl⟩ HK6.out.res.put (bel_put HK6.out.bel (Nat.le_succ _) _ _ _).drew
       | some d =>
        obtain rfl:=HXV.out d hvv
        have HNX:=Lib.hid (HS2.out ⟨nm,kk,rr,ls,d⟩ (by rw [HKD2.out,hvv]))
        obtain ⟨_,y0,y1,y2,y3,y4,r0,r1,r2,r3,r4⟩:=blk5' HX6.out
        clear hvv HXV
        simp only [Option.isSome]
        go_upto_region 64 with (fail)
        have HX7:=Lib.hid (set4_blk HX6.out (.int .u64 (d:Nat)))
        have HB7:=Lib.hid (HB6.out.setCell (p:=⟨wr.heap.size+1,4,none⟩) (Nat.le_succ _) (.int .u64 (d:Nat)))
        generalize W6.setCell ⟨wr.heap.size+1,4,none⟩ (.int .u64 (d:Nat))=W7 at *
        clear y0 y1 y2 y3 y4 r0 r1 r2 r3 r4
        obtain ⟨_,y0,y1,y2,y3,y4,_⟩:=blk5' HX7.out
        obtain ⟨_,v0,v1,_⟩:=blk2 (blk_below HCB.out HB7.out hCl)
        have HBN:=Lib.hid (heap_alloc_new W7 (.cells #[.string nm,.int .u8 kk,.int .i64 rr,.int .i64 ls,.int .u64 d] 49))
        have HBA:=Lib.hid (HB7.out.alloc HB7.out.size (.cells #[.string nm,.int .u8 kk,.int .i64 rr,.int .i64 ls,.int .u64 d] 49))
        go_wp2_with (at_builtin;refine wpList_append_own _ rfl (.tmp 294) (.tmp 296) 50 rfl (T+1) 49 i0 _ 5 48 Tryz.underlying50 I1.out I2.out I3.out I4.out rfl (by decide) _ k (sfldsCells acc) rfl (row_keep HBA.out HROW.out) _ 1 1 [.string nm,.int .u8 kk,.int .i64 rr,.int .i64 ls,.int .u64 d] rfl rfl (World.news_of_block HBN.out) (by intro u hu;simp at hu;rcases hu with rfl|rfl|rfl|rfl|rfl<;>rfl) (by unfold maxLen;omega) (by omega) (by simp;omega) ?_;intro v4 W8 hown4 hg4 hx;clear hx;obtain ⟨a4,m4,rfl⟩:=ownsRow_form hown4;obtain ⟨s1,s2,s3,s4⟩:=step2 HB.out HCB.out HROW.out HBA.out hg4 hown4;obtain ⟨_,d0,d1,e0,e1⟩:=blk2 s4;have S1:=Lib.hid s1;have S2:=Lib.hid s2;have S3:=Lib.hid s3;clear s1 s2 s3 s4 hown4 hg4)
        refine ⟨⟨k+1,acc++[⟨nm,kk,rr,ls,d⟩],_,by omega,⟨rfl,rfl,rfl,rfl,rfl,rfl,rfl,rfl⟩,S1.out,S2.out,by rw [sfldsCells_snoc];exact S3.out,by rw [List.length_append,HAL.out];rfl,HNX.out⟩,?_⟩
        show l.length-(intOf (.int .i64 ((k:Int)+1))).toNat<l.length-(intOf (.int .i64 (k:Int))).toNat
        simp [intOf];omega
 · obtain rfl:k=l.length:=by omega
   clear hlt
   go_wp2
   refine HQ.out _ _ _ acc ⟨rfl,rfl,rfl,rfl,rfl,rfl,rfl,rfl⟩ HB.out HCB.out HROW.out HAL.out ?_
   rw [HFL.out,List.drop_length,fldsM,mbind_ok,List.append_nil]
end Go.Proofs.YtokhnoogkdlidaaGreatDoor
namespace Go.Proofs.YtokhnoogkdlidaaGreatDoor
open Go.ChangeShapes Go.WideShapes Go.ChangeAt Go.RowKit Go.Shelf
def RmDAt (w:World)(sv ev rv:Value)(m:List NEnt)(ecs:List RCho)(rs:List (RRec × Value))(es:List (SCho × Value))(esv:Value)(S:Nat)(c':Act)(w':World):Prop:=
 ∃ (i:Nat) (ss:List (SRec × Value)) (ssv:Value),i≤rs.length∧RmD w.heap.size S i c'∧RmKeep w sv ev rv w'∧SchAt S w' ss es ssv esv 0∧ss.length=i∧bodiesM m ecs (rs.map Prod.fst)=(bodiesM m ecs ((rs.map Prod.fst).drop i)).bind fun r=>.ok (ss.map Prod.fst++r)
set_option maxRecDepth 100000 in
set_option maxHeartbeats 8000000 in
theorem rmd_wp {Q:Exit→Act→World→Prop}{c:Act}{w w0:World}{rb S:Nat}{m:List NEnt}{es:List (SCho × Value)}{esv:Value}{rs:List (RRec × Value)}{re:List (RCho × Value)}{rt:List Tok}{sv ev rv:Value}(h:RawRows rb w rs re rt sv ev rv)(hN:Named m (choNms re) (recNms rs))(hG:NGood re.length m)(hc:RmD w.heap.size S 0 c)(hk:RmKeep w sv ev rv w0)
  (hs:SchAt S w0 [] es (.slice none 0 0) esv 0) (hSq:w.heap.size+2≤S) (hlen:∀ p ∈ rs,p.1.fields.length≤100) (hl16:rs.length≤16) (hsz:∀ p ∈ rs,∀ f ∈ p.1.fields,f.dflt.text.length≤281474976710656)
  (hQ:∀ c' w' ss ssv,RmD w.heap.size S rs.length c'→RmKeep w sv ev rv w'→SchAt S w' ss es ssv esv 0→bodiesM m (re.map Prod.fst) (rs.map Prod.fst)=.ok (ss.map Prod.fst)→Q (.exit 16) c' w')
  (hB:∀ c' w' (code:Int) (p:Nat),bodiesM m (re.map Prod.fst) (rs.map Prod.fst)=.no code p→RmR w.heap.size code p c'→noRes w' (w.heap.size+1)→Below w.heap.size w w'→Q .ret c' w') :
  Code.wp Tryz.prog (Code.loop (loopsRm 8)) Q c w0:=by
 refine wp_loop (RmDAt w sv ev rv m (re.map Prod.fst) rs es esv S) (fun c' _=>rs.length-(intOf (c'.tmps.getD 18 undef)).toNat) ⟨0,[],_,Nat.zero_le _,hc,hk,hs,rfl,(bind_self _).symm⟩ ?_
 clear hc hk hs
 rintro c wr ⟨i,ss,ssv,hi,hc,hk,hs,hsl,hbd⟩
 have HRAW:=Lib.hid h
 have HQ:=Lib.hid hQ
 have HBAD:=Lib.hid hB
 have HK:=Lib.hid hk
 have HS:=Lib.hid hs
 have HBD:=Lib.hid hbd
 have HL:=Lib.hid hlen
 have HSZ:=Lib.hid hsz
 have HNM:=Lib.hid hN
 have HGD:=Lib.hid hG
 have HSL:=Lib.hid hsl
 have hesl:ss.length≤16:=by omega
 obtain ⟨sa,sc,ea,ec,ra,rc,rfl,rfl,rfl⟩:=h.forms
 have hfs:=row_few h.structs
 obtain ⟨u,rfl⟩:=hc.lit
 obtain ⟨_,p0,p1,p2,_⟩:=blk3 hk.raw
 have hbl:S<wr.heap.size:=blk_lt hs.blk
 clear hc hQ hB hk hs h hlen hsz hN hG hsl hbd
 conv=>arg 2;whnf
 by_cases hlt:i<rs.length
 · obtain ⟨g,cc,hv,hcc,hg,hcell⟩:=row_el recCells 3 (fun _=>rfl) (row_keep HK.out.bel HRAW.out.structs) i hlt
   obtain ⟨rfl,rfl⟩:=slice_inj hv
   have x0:wr.cell? ⟨g,i * 3,none⟩=some (.string (strOfNums rs[i].1.name)):=hcell 0 (by omega)
   have HLE:=Lib.hid (HL.out _ (List.getElem_mem hlt))
   have HSE:=Lib.hid (HSZ.out _ (List.getElem_mem hlt))
   have hii:(i:Int)<rs.length:=by omega
   have hst:=bodies_step m (re.map Prod.fst) (rs.map Prod.fst) (ss.map Prod.fst) i (by rw [List.length_map];exact hlt) HBD.out
   rw [List.getElem_map] at hst
   have HST1:=Lib.hid hst.1
   have HST2:=Lib.hid hst.2
   generalize hnm:strOfNums rs[i].1.name=nm at *
   have HNMQ:=Lib.hid hnm
   have hbt:Below wr.heap.size wr (wr.alloc (.cells #[.string nm,.slice none 0 0] 52)):=(Below.refl _ _).alloc (Nat.le_refl _) _
   have HBT:=Lib.hid hbt
   have HT:=Lib.hid (heap_alloc_new wr (.cells #[.string nm,.slice none 0 0] 52))
   have HKT:=Lib.hid (HK.out.below hbt (by omega))
   clear hv hcell hbt hnm hst
   go_upto_region 50 with (fail)
   generalize wr.alloc (.cells #[.string nm,.slice none 0 0] 52)=Wt at *
   clear x0 p0 p1 p2
   go_wp2_with fail
   refine rmd2_wp (i:=i) (T:=wr.heap.size) HRAW.out HNM.out HGD.out ⟨rfl,rfl,rfl,rfl,rfl,rfl,rfl,rfl⟩ HKT.out hlt HT.out (by omega) HLE.out HSE.out ?_ ?_
   · intro c2 w2 nv acc hf hbel hC2 hrow2 hal hflds
     generalize hln:rs[i].1.fields.length=ln at *
     have HLN:=Lib.hid hln
     have HAL:=Lib.hid hal
     have HFL:=Lib.hid (HST2.out acc hflds)
     obtain ⟨nva,nvc,rfl⟩:=ownsRow_form hrow2
     have hb3:Below wr.heap.size wr w2:=HBT.out.trans (hbel.mono (by have:=HBT.out.size;omega))
     have hs2:=HS.out.below hb3
     have HS2:=Lib.hid hs2
     have HK2:=Lib.hid (HK.out.below hb3 (by omega))
     have HROW:=Lib.hid hrow2
     obtain ⟨_,z0,z1,z2,f0,f1,f2⟩:=blk3 hs2.blk
     obtain ⟨hCl,d0,d1,_⟩:=blk2 hC2
     obtain ⟨sva,svc,rfl⟩:=ownsRow_form hs2.rows.structs
     obtain ⟨i0,hi0,hzz0,hzz1,hzz2⟩:=info_parts srec_info
     have I1:=Lib.hid hi0
     have I2:=Lib.hid hzz0
     have I3:=Lib.hid hzz1
     have I4:=Lib.hid hzz2
     have hbs:S<w2.heap.size:=blk_lt hs2.blk
     have HBN:=Lib.hid (heap_alloc_new w2 (.cells #[.string nm,.slice nva ln nvc] 52))
     have HBA:=Lib.hid ((Below.refl w2.heap.size w2).alloc (Nat.le_refl _) (.cells #[.string nm,.slice nva ln nvc] 52))
     obtain ⟨u2,rfl⟩:=hf.lit
     clear hf hbel hC2 hrow2 hb3 hs2 hi0 hzz0 hzz1 hzz2 HS HK hln hal hflds
     simp only [Exit.inBlock,Exit.then]
     apply_assumption
     go_wp2_with (at_builtin;refine wpList_append_own _ rfl (.tmp 300) (.tmp 302) 27 rfl (S+1) 52 i0 _ 2 40 Tryz.underlying27 I1.out I2.out I3.out I4.out rfl (by decide) _ ss.length (srecsCells ss) rfl (row_keep HBA.out HS2.out.rows.structs) _ 1 1 [.string nm,.slice nva ln nvc] rfl rfl (World.news_of_block HBN.out) (by intro u hu;simp at hu;rcases hu with rfl|rfl<;>rfl) (by unfold maxLen;omega) (by omega) (by simp;omega) ?_;intro v4 W8 hown4 hg4 hx;clear hx;obtain ⟨a4,m4,rfl⟩:=ownsRow_form hown4;have s5:=SchAt.strct (q:=(⟨nm,acc⟩,.slice nva ln nvc)) (HS2.out.below HBA.out) (by have h:=ownsRow_base (row_keep HBA.out HROW.out) (show S+1≤wr.heap.size+1 by omega);show World.ownsRow _ _ _ _ _ acc.length (sfldsCells acc);rw [HAL.out];exact h) hg4 hown4;have s4:W8.heap[S]?=some (.cells #[.slice sva ss.length svc,esv,.int .i64 0] 30 (0,0)):=(hg4.block S (by simp;omega) (fun e=>by have:=(ownsRow_lt HS2.out.rows.structs _ e.symm).1;omega)).trans (HS2.out.below HBA.out).blk;obtain ⟨_,p0,p1,p2,q0,q1,q2⟩:=blk3 s4;have S5:=Lib.hid s5;have S6:=Lib.hid (bel_app HBA.out hbs hg4 (fun k hk=>by have:=(ownsRow_lt HS2.out.rows.structs k hk).1;omega) 0 (.slice a4 (ss.length+1) m4));clear s5 s4 hown4 hg4)
     refine ⟨⟨i+1,_,_,by omega,⟨rfl,rfl,rfl,rfl,rfl,rfl⟩,HK2.out.below S6.out (by omega),S5.out,by rw [List.length_append,HSL.out];rfl,?_⟩,?_⟩
     · rw [List.map_append,HFL.out]
       rfl
     · show rs.length-(intOf (.int .i64 ((i:Int)+1))).toNat<rs.length-(intOf (.int .i64 (i:Int))).toNat
       simp [intOf];omega
   · intro c2 w2 code p hno hc2 hr2 hb2
     simp only [Exit.inBlock,Exit.then]
     exact HBAD.out _ _ code p (HST1.out code p hno) hc2 hr2 hb2
 · obtain rfl:i=rs.length:=by omega
   clear hlt
   go_wp2
   refine HQ.out _ _ ss _ ⟨rfl,rfl,rfl,rfl,rfl,rfl⟩ HK.out HS.out ?_
   rw [HBD.out,show (rs.map Prod.fst).drop rs.length=[] from List.drop_eq_nil_of_le (by simp),bodiesM,mbind_ok,List.append_nil]
end Go.Proofs.YtokhnoogkdlidaaGreatDoor
namespace Go.Proofs.YtokhnoogkdlidaaGreatDoor
open Go.ChangeShapes Go.WideShapes Go.ChangeAt Go.RowKit Go.Shelf
theorem SchRows.keep3 {base g i:Nat}{W:World}{ss:List (SRec × Value)}{es:List (SCho × Value)}{sv ev:Value}(h:SchRows base W ss es sv ev)(hg:g<base)(x:Value):SchRows base (W.setCell ⟨g,i,none⟩ x) ss es sv ev:=
 ⟨ownsRow_setCell_below h.structs hg x,ownsRow_setCell_below h.enums hg x,fun q hq=>ownsRow_setCell_below (h.fields q hq) hg x,fun q hq=>ownsRow_setCell_below (h.names q hq) hg x⟩
def RmEAt (w:World)(rs:List (RRec × Value))(s:ByteArray)(S:Nat)(w0:World)(c':Act)(w':World):Prop:=∃ i:Nat,i≤rs.length∧RmE w.heap.size S i c'∧Below w0.heap.size w0 w'∧hasS ((recNms rs).take i) s=false
set_option maxRecDepth 100000 in
set_option maxHeartbeats 8000000 in
theorem rme_wp {Q:Exit→Act→World→Prop}{c:Act}{w w0:World}{rb S:Nat}{ss:List (SRec × Value)}{es:List (SCho × Value)}{ssv esv:Value}{rs:List (RRec × Value)}{re:List (RCho × Value)}{t:Tok}{sv ev rv:Value}(h:RawRows rb w rs re [t] sv ev rv)(hc:RmE w.heap.size S 0 c)(hk:RmKeep w sv ev rv w0)
  (hs:SchAt S w0 ss es ssv esv 0) (hSq:w.heap.size+2≤S)
  (hQ:∀ c' w',idx (recNms rs) (tokT t)=none→RmE w.heap.size S rs.length c'→RmKeep w sv ev rv w'→Q (.exit 20) c' w')
  (hR:∀ c' w' (i:Nat),idx (recNms rs) (tokT t)=some i→RmR w.heap.size 0 0 c'→w'.heap[w.heap.size+1]?=some (.cells #[ssv,esv,.int .i64 i] 30 (0,0))→SchRows (w.heap.size+2) w' ss es ssv esv→Below w.heap.size w w'→Q .ret c' w') :
  Code.wp Tryz.prog (Code.loop (loopsRm 10)) Q c w0:=by
 refine wp_loop (RmEAt w rs (tokT t) S w0) (fun c' _=>rs.length-(intOf (c'.tmps.getD 27 undef)).toNat) ⟨0,Nat.zero_le _,hc,Below.refl _ _,rfl⟩ ?_
 clear hc
 rintro c wr ⟨i,hi,hc,hb,hn⟩
 have HRAW:=Lib.hid h
 have HQ:=Lib.hid hQ
 have HRT:=Lib.hid hR
 have HK:=Lib.hid (hk.below hb (by have:=blk_lt hk.res;omega))
 have HS:=Lib.hid (hs.below hb)
 have HN:=Lib.hid hn
 have HB:=Lib.hid hb
 obtain ⟨sa,sc,ea,ec,ra,rc,rfl,rfl,rfl⟩:=h.forms
 obtain ⟨a1,b1,a2,b2,rfl,rfl⟩:=hs.rows.forms
 have hfs:=row_few h.structs
 obtain ⟨u,rfl⟩:=hc.lit
 obtain ⟨_,p0,p1,p2,_⟩:=blk3 HK.out.raw
 clear hc hQ hR hk hs h hb hn
 conv=>arg 2;whnf
 by_cases hlt:i<rs.length
 · obtain ⟨g,cc,hv,hcc,hg,hcell⟩:=row_el recCells 3 (fun _=>rfl) (row_keep HK.out.bel HRAW.out.structs) i hlt
   obtain ⟨rfl,rfl⟩:=slice_inj hv
   obtain ⟨g2,cc2,hv2,hcc2,hg2,hcell2⟩:=row_el tokCells 3 (fun _=>rfl) (row_keep HK.out.bel HRAW.out.roots) 0 (by simp)
   obtain ⟨rfl,rfl⟩:=slice_inj hv2
   have x0:wr.cell? ⟨g,i * 3,none⟩=some (.string (strOfNums rs[i].1.name)):=hcell 0 (by omega)
   have y1:wr.cell? ⟨g2,1,none⟩=some (.string (tokT t)):=hcell2 1 (by omega)
   have hst:=has_take_succ (recNms rs) (tokT t) i (by rw [recNms_len];exact hlt)
   have HD:=Lib.hid (idx_at (recNms rs) (tokT t) i (by rw [recNms_len];exact hlt) HN.out)
   rw [recNms_at rs i hlt] at hst HD
   have hii:(i:Int)<rs.length:=by omega
   have hone:(0:Int)<(([t]:List Tok).length:Int):=by simp
   simp only [List.length_singleton] at *
   generalize strOfNums rs[i].1.name=nm at *
   generalize hs:tokT t=s at *
   by_cases hq:nm=s
   · have HE:=Lib.hid (HD.out hq)
     have t3:(nm.toList==s.toList)=true:=ba_yes hq
     clear hq hst hcell hcell2 hv hv2 HD
     go_wp2_with fail
     go_quiet (fail)
     have HW2:=Lib.hid (bel_drewN (Below.refl wr.heap.size wr) nq)
     have HK2:=Lib.hid (HK.out.below HW2.out (by have:=blk_lt HK.out.res;omega))
     have HS2:=Lib.hid (HS.out.below HW2.out)
     generalize wr.drewN nq=W2 at *
     clear p0 p1 p2 x0 y1
     obtain ⟨hSl,z0,z1,z2,f0,f1,f2⟩:=blk3 HS2.out.blk
     have hb3:=(blk_set HS2.out.blk 2 (.int .i64 (i:Nat))).trans rfl
     go_upto_region 75 with (fail)
     have HS3:Hid ((W2.setCell ⟨S,2,none⟩ (.int .i64 (i:Nat))).heap[S]?=some (.cells #[.slice a1 ss.length b1,.slice a2 es.length b2,.int .i64 (i:Nat)] 30 (0,0))):=Lib.hid hb3
     have HR3:Hid (noRes (W2.setCell ⟨S,2,none⟩ (.int .i64 (i:Nat))) (w.heap.size+1)):=Lib.hid (blk_set_ne HK2.out.res (by show S≠_;omega) _)
     have HB3:=Lib.hid (HK2.out.bel.setCell (p:=⟨S,2,none⟩) (by show _≤S;omega) (.int .i64 (i:Nat)))
     have HRO3:=Lib.hid (SchRows.keep3 (i:=2) HS2.out.rows (Nat.lt_succ_self S) (.int .i64 (i:Nat)))
     generalize W2.setCell ⟨S,2,none⟩ (.int .i64 (i:Nat))=W3 at *
     clear z0 z1 z2 f0 f1 f2 hb3
     obtain ⟨_,z0,z1,z2,_⟩:=blk3 HS3.out
     obtain ⟨_,_,_,_,f0,f1,f2⟩:=blk3 HR3.out
     go_wp2
     refine HRT.out _ _ i HE.out ⟨rfl,rfl,rfl,rfl,rfl⟩ (blk_set3 HR3.out _ _ _) ?_ (bel_put HB3.out (Nat.le_succ _) _ _ _)
     exact (SchRows.keep3 (SchRows.keep3 (SchRows.keep3 HRO3.out (by omega) _) (by omega) _) (by omega) _).base (by omega)
   · have HI:=Lib.hid (show hasS ((recNms rs).take (i+1)) s=false by rw [hst,HN.out,Bool.false_or];exact decide_eq_false fun e=>hq e.symm)
     have t3:(nm.toList==s.toList)=false:=ba_no hq
     clear hq hst hcell hcell2 hv hv2 HD
     go_wp2_with fail
     go_quiet (fail)
     go_wp2_with fail
     refine ⟨⟨i+1,by omega,⟨rfl,rfl,rfl,rfl,rfl,rfl⟩,bel_drewN HB.out _,HI.out⟩,?_⟩
     show rs.length-(intOf (.int .i64 ((i:Int)+1))).toNat<rs.length-(intOf (.int .i64 (i:Int))).toNat
     simp [intOf];omega
 · obtain rfl:i=rs.length:=by omega
   have HI:=Lib.hid (idx_no (recNms rs) (tokT t) (by have:=HN.out;rwa [←recNms_len,List.take_length] at this))
   clear hlt
   go_wp2
   exact HQ.out _ _ HI.out ⟨rfl,rfl,rfl,rfl,rfl,rfl⟩ HK.out
end Go.Proofs.YtokhnoogkdlidaaGreatDoor
