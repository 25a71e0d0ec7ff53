/-
  Package flatread: a new message of a schema. Conditions: those that each theorem names.
-/
import Derived.Test.YtcfjjocmiheiaaaDoorPkD52
import Derived.Test.YtcfjjocmiheiaaaDoorPkD3
import Derived.Test.YtcfjjocmiheiaaaDoorPkD5
import Derived.Test.YtcfjjocmiheiaaaDoorPkD9
import Derived.Test.YtcfjjocmiheiaaaDoorPkD30
namespace Go.Proofs.YtcfjjocmiheiaaaDoor
open Go.ChangeShapes Go.WideShapes Go.ChangeAt Go.RowKit Go.Shelf
def NiAt (K:Nat)(W3:World)(xs:List SFld)(x:Value)(W:World):Prop:=∃ i:Nat,i≤xs.length∧x=.int .i64 i∧Exc K W3.heap.size W3 W∧W.heap[K]?=some (.cells (f5s (((xs.map cF).take i).map mf5++List.replicate (xs.length-i) zero5)).toArray 164 (0,0))
def NsAt (D:Nat)(W1:World)(ss:List (SRec × Value))(bsl:Value)(x:Value)(W:World):Prop:=∃ (j:Nat) (A:Option Addr) (cap:Nat) (fs:List (List CFld × Value)),j≤ss.length∧x=.int .i64 j∧Exc D W1.heap.size W1 W∧W.heap[D]?=some (.cells #[bsl,.slice A j cap,.slice none 0 0] 160 (0,0)) ∧
 W.ownsRow W1.heap.size 161 1 (.slice A j cap) j (mrowsCells fs)∧fs.map Prod.fst=(ss.take j).map (fun q=>(cR q.1).fields)∧∀ q ∈ fs,W.ownsRow W1.heap.size 164 5 q.2 q.1.length (mfldsCells q.1)
def NeAt (D:Nat)(W1:World)(es:List (SCho × Value))(bsl sv:Value)(x:Value)(W:World):Prop:=∃ (j:Nat) (A:Option Addr) (cap:Nat),j≤es.length∧x=.int .i64 j∧Exc D W1.heap.size W1 W∧W.heap[D]?=some (.cells #[bsl,sv,.slice A j cap] 160 (0,0)) ∧
 W.ownsRow W1.heap.size 3 1 (.slice A j cap) j (cntsCells ((es.take j).map fun c=>c.1.names.length))
theorem rows_apart {W:World}{b1 b2 s1 s2 n1 n2:Nat}{e1 e2:TypeId}{v1 v2:Value}{x1 x2:List Value}(h1:W.ownsRow b1 e1 s1 v1 n1 x1)(h2:W.ownsRow b2 e2 s2 v2 n2 x2)(hne:e1≠e2)(k:Nat)(hk:v1.ownBlock=some k):v2.ownBlock≠some k:=by
 obtain ⟨_,h1'⟩:=h1
 rcases h1' with ⟨h3,_⟩|⟨g,cap,cur,rfl,_,hg,_⟩
 · rw [h3] at hk;cases hk
 · have e:g=k:=by injection hk
   subst e
   exact row_notblk h2 hg hne
theorem take_putS (fl:List SFld)(i:Nat)(hi:i<fl.length)(f:SFld)(hf:fl[i]=f):(((fl.map cF).take i).map mf5++List.replicate (fl.length-i) zero5).set i ⟨.int .u8 f.kind,.int .i64 f.ref,.int .i64 f.lists,.int .i64 (inlP ⟨f.name,f.kind,f.ref,f.lists,f.dflt⟩),.int .u64 f.dflt⟩=((fl.map cF).take (i+1)).map mf5++List.replicate (fl.length-(i+1)) zero5:=by
 have h:=take_put (fl.map cF) i (by rw [List.length_map];exact hi)
 simp only [List.length_map,List.getElem_map,hf] at h
 rw [←h]
 congr 1
 show _=F5.mk _ _ _ (.int .i64 (inlC f.kind (f.lists:Nat))) _
 rw [←inlC_inlP f]
 rfl
theorem row_grown {w w':World}{b1 b2 s1 s2 n1 n2:Nat}{e1 e2:TypeId}{v1 v2:Value}{x1 x2:List Value}(h1:w.ownsRow b1 e1 s1 v1 n1 x1)(hg:w.grownBy w' v1.ownBlock)(h2:w.ownsRow b2 e2 s2 v2 n2 x2)(hne:e1≠e2):w'.ownsRow b2 e2 s2 v2 n2 x2:=by
 cases hk:v1.ownBlock with
 | none=>exact ((Exc.refl w.heap.size w.heap.size w).grown hg (Nat.le_refl _) (fun k h=>by rw [hk] at h;cases h)).ownsRow h2 (fun e=>by have:=(ownsRow_lt h2 _ e).2;omega)
 | some k=>exact ((Exc.refl k w.heap.size w).grown hg (Nat.le_refl _) (fun k' h=>.inr (by rw [hk] at h;injection h with h;exact h.symm))).ownsRow h2 (rows_apart h1 h2 hne k hk)
theorem row_info:(Tryd.prog.info? 161).map (fun i=>(i.zero,i.size,i.bytes))=some (some (.slice none 0 0),1,24):=by kernel_rfl
theorem int_infoN:(Tryd.prog.info? 3).map (fun i=>(i.zero,i.size,i.bytes))=some (some (.int .i64 0),1,8):=by kernel_rfl
set_option maxRecDepth 100000 in
set_option maxHeartbeats 16000000 in
theorem fnew_any (w:World){base:Nat}{ss:List (SRec × Value)}{es:List (SCho × Value)}{sv ev:Value}(root:Int){bp:Option Addr}{bc:Nat}{zs:List Int}(h:SchRows base w ss es sv ev)(hS:SchM ss (es.map Prod.fst))(hE:es.length≤1000000∧∀ q ∈ es,q.1.names.length≤1000000)(hz:Bytes w bp zs)(hl:zs.length≤16384)(hc:zs.length≤bc) :
  Calls Tryd.prog 45 #[.agg #[sv,ev,.int .i64 root],.slice bp zs.length bc] w fun e w'=>(∃ m sv' ev' fs ns,e=.returned (.pointer (some ⟨m,0,none⟩))∧w.heap.size≤m∧MsgOf w.heap.size w' m bp bc sv' ev' zs ss (es.map Prod.fst) fs ns)∧Below w.heap.size w w':=by
 obtain ⟨sa,sc,hsv⟩:=ownsRow_form h.structs
 obtain ⟨ea,ec,hev⟩:=ownsRow_form h.enums
 subst hsv hev
 obtain ⟨hb,hq1,hq2⟩:=two_start w #[.slice sa ss.length sc,.slice ea es.length ec,.int .i64 root] #[.slice bp zs.length bc,.slice none 0 0,.slice none 0 0] 30 160
 have HB:=Lib.hid hb
 have HQ1:=Lib.hid hq1
 have HQ2:=Lib.hid hq2
 have HH:=Lib.hid h
 have HSM:=Lib.hid hS
 have HEE:=Lib.hid hE
 have HZ:=Lib.hid hz
 have HLC:=Lib.hid (And.intro hl hc)
 have HSZ:Hid (((w.alloc (.cells #[.slice sa ss.length sc,.slice ea es.length ec,.int .i64 root] 30)).alloc (.cells #[.slice bp zs.length bc,.slice none 0 0,.slice none 0 0] 160)).heap.size=w.heap.size+2):=Lib.hid (by simp)
 clear hb hq1 hq2 h hS hE hz hl hc
 go_enter Tryd.func45,Tryd.ntmps45
 go_upto_region 2 with (fail)
 generalize (w.alloc (.cells #[.slice sa ss.length sc,.slice ea es.length ec,.int .i64 root] 30)).alloc (.cells #[.slice bp zs.length bc,.slice none 0 0,.slice none 0 0] 160)=W1 at *
 have HSR:Hid (∀ W,Exc (w.heap.size+1) W1.heap.size W1 W→SchRows base W ss es (.slice sa ss.length sc) (.slice ea es.length ec)):=Lib.hid (fun W hx=>by
  have hh:=HH.out.below HB.out
  have hn:∀ {e:TypeId} {s:Nat} {v:Value} {n:Nat} {xs:List Value},w.ownsRow base e s v n xs→v.ownBlock≠some (w.heap.size+1):=fun h1 h2=>by have h3:=(ownsRow_lt h1 _ h2).2;omega
  exact ⟨hx.ownsRow hh.structs (hn HH.out.structs),hx.ownsRow hh.enums (hn HH.out.enums),fun q hq=>hx.ownsRow (hh.fields q hq) (hn (HH.out.fields q hq)),fun q hq=>hx.ownsRow (hh.names q hq) (hn (HH.out.names q hq))⟩)
 have HS1:Hid (∀ W,Exc (w.heap.size+1) W1.heap.size W1 W→W.heap[w.heap.size]?=some (.cells #[.slice sa ss.length sc,.slice ea es.length ec,.int .i64 root] 30 (0,0))):=Lib.hid (fun W hx=>blk_exc HQ1.out hx (blk_lt HQ1.out) (by omega))
 obtain ⟨D,hD⟩:∃ D,w.heap.size+1=D:=⟨_,rfl⟩
 rw [hD] at HQ2 HSR HS1 ⊢
 have HD:=Lib.hid hD
 have HST:Hid (NsAt D W1 ss (.slice bp zs.length bc) (.int .i64 ((0:Nat):Int)) W1):=Lib.hid ⟨0,none,0,[],Nat.zero_le _,rfl,Exc.refl _ _ _,HQ2.out,World.ownsRow_nil _ _ _ _,rfl,fun q hq=>by cases hq⟩
 obtain ⟨_,s0,s1,s2,_⟩:=blk3 HQ1.out
 have HDL:Hid (D<W1.heap.size):=Lib.hid (blk_lt HQ2.out)
 clear hD
 go_wp2_with fail
 clear s0 s1 s2
 go_loopw [19] (fun y wr=>NsAt D W1 ss (.slice bp zs.length bc) y wr) (fun y _=>ss.length-(intOf y).toNat)
 case atStart=>exact HST.out
 case round =>
  obtain ⟨j,A,cap,fs,hj,rfl,hex,hrow,hown,hfs,hfl⟩:=hrel
  have HEX:=Lib.hid hex
  have HRW:=Lib.hid hrow
  have HOWN:=Lib.hid hown
  have HFS:=Lib.hid hfs
  have HFL:=Lib.hid hfl
  clear hex hrow hown hfs hfl
  obtain ⟨WO,rfl⟩:∃ WO,WO=wr:=⟨_,rfl⟩
  by_cases hjl:j<ss.length
  · have hji:(j:Int)<ss.length:=by omega
    have hji0:(0:Int)≤(j:Int):=by omega
    obtain ⟨g,cc,hv,hcc,hgl,hcell⟩:=row_el srecCells 2 (fun _=>rfl) (HSR.out WO HEX.out).structs j hjl
    obtain ⟨rfl,rfl⟩:=slice_inj hv
    obtain ⟨q,hq⟩:∃ q,ss[j]=q:=⟨_,rfl⟩
    have HX:=Lib.hid hq
    rw [hq] at hcell
    have hqm:q ∈ ss:=by rw [←hq];exact List.getElem_mem hjl
    obtain ⟨fa,fc,hf⟩:=ownsRow_form ((HSR.out WO HEX.out).fields q hqm)
    have x0:WO.cell? ⟨g,j * 2,none⟩=some (.string q.1.name):=hcell 0 (by omega)
    have x1:WO.cell? ⟨g,j * 2+1,none⟩=some (q.2):=hcell 1 (by omega)
    rw [hf] at x1
    have hfew:q.1.fields.length≤1000000:=by have:=(HSM.out.2 q hqm).1;omega
    have HFW:=Lib.hid hfew
    have HQM:=Lib.hid (And.intro hqm hf)
    clear hcell hv hq hqm
    go_upto_region 5 with (fail)
    have hba:Below WO.heap.size WO (WO.alloc (.cells #[.string q.1.name,.slice fa q.1.fields.length fc] 55)):=(Below.refl _ _).alloc (Nat.le_refl _) _
    have HN2:=Lib.hid (heap_alloc_new WO (.cells #[.string q.1.name,.slice fa q.1.fields.length fc] 55))
    have HB2:=Lib.hid hba
    clear x0 x1 hba
    generalize WO.alloc (.cells #[.string q.1.name,.slice fa q.1.fields.length fc] 55)=W2 at *
    obtain ⟨_,y0,y1,_⟩:=blk2 HN2.out
    have hmk:=make_flds q.1.fields.length hfew W2
    go_upto_region 6 with (fail)
    have hba:Below W2.heap.size W2 (W2.alloc (.cells (f5s (List.replicate q.1.fields.length zero5)).toArray 164)):=(Below.refl _ _).alloc (Nat.le_refl _) _
    have HKB:=Lib.hid (heap_alloc_new W2 (.cells (f5s (List.replicate q.1.fields.length zero5)).toArray 164))
    have HB3:=Lib.hid hba
    have HN3:=Lib.hid (blk_below HN2.out hba (blk_lt HN2.out))
    clear hba hmk y0 y1
    generalize W2.alloc (.cells (f5s (List.replicate q.1.fields.length zero5)).toArray 164)=W3 at *
    have HKE:Hid (WO.heap.size<W2.heap.size):=Lib.hid (blk_lt HN2.out)
    have HBW:Hid (∀ W,Below W2.heap.size W2 W→Below WO.heap.size WO W):=Lib.hid (fun W hb=>HB2.out.trans (hb.mono HB2.out.size))
    obtain ⟨_,y0,y1,_⟩:=blk2 HN3.out
    have HST3:Hid (NiAt W2.heap.size W3 q.1.fields (.int .i64 ((0:Nat):Int)) W3):=Lib.hid ⟨0,Nat.zero_le _,rfl,Exc.refl _ _ _,HKB.out⟩
    go_wp2_with fail
    clear y0 y1
    go_loopw [30] (fun y wr=>NiAt W2.heap.size W3 q.1.fields y wr) (fun y _=>q.1.fields.length-(intOf y).toNat)
    case atStart=>exact HST3.out
    case round =>
     obtain ⟨i,hi,rfl,hx3,hk3⟩:=hrel
     have HX3:=Lib.hid hx3
     have HK3:=Lib.hid hk3
     have HB4:=Lib.hid (HB3.out.trans ((hx3.mono HB3.out.size).below (Nat.le_refl _)))
     clear hx3 hk3
     by_cases hil:i<q.1.fields.length
     · have hii:(i:Int)<q.1.fields.length:=by omega
       have hii0:(0:Int)≤(i:Int):=by omega
       have hfr:=(HSR.out wr (HEX.out.bel (Nat.le_refl _) (HBW.out wr HB4.out))).fields q HQM.out.1
       rw [HQM.out.2] at hfr
       obtain ⟨g2,cc2,hv2,hcc2,hgl2,hcell⟩:=row_el sfldCells 5 (fun _=>rfl) hfr i hil
       obtain ⟨rfl,rfl⟩:=slice_inj hv2
       obtain ⟨f,hf⟩:∃ f,q.1.fields[i]=f:=⟨_,rfl⟩
       have HFI:=Lib.hid hf
       have HTF:=Lib.hid ((HSM.out.2 q HQM.out.1).2 f (by rw [←hf];exact List.getElem_mem hil))
       rw [hf] at hcell
       have x0:wr.cell? ⟨g2,i * 5,none⟩=some (.string f.name):=hcell 0 (by omega)
       have x1:wr.cell? ⟨g2,i * 5+1,none⟩=some (.int .u8 f.kind):=hcell 1 (by omega)
       have x2:wr.cell? ⟨g2,i * 5+2,none⟩=some (.int .i64 f.ref):=hcell 2 (by omega)
       have x3:wr.cell? ⟨g2,i * 5+3,none⟩=some (.int .i64 f.lists):=hcell 3 (by omega)
       have x4:wr.cell? ⟨g2,i * 5+4,none⟩=some (.int .u64 f.dflt):=hcell 4 (by omega)
       clear hcell hv2 hfr hf
       go_upto_region 9 with (fail)
       have hba:Below wr.heap.size wr (wr.alloc (.cells #[.string f.name,.int .u8 f.kind,.int .i64 f.ref,.int .i64 f.lists,.int .u64 f.dflt] 52)):=(Below.refl _ _).alloc (Nat.le_refl _) _
       have HN5:=Lib.hid (heap_alloc_new wr (.cells #[.string f.name,.int .u8 f.kind,.int .i64 f.ref,.int .i64 f.lists,.int .u64 f.dflt] 52))
       have HB5:=Lib.hid hba
       have HK5:=Lib.hid (blk_below HK3.out hba (blk_lt HK3.out))
       clear x0 x1 x2 x3 x4 hba
       generalize wr.alloc (.cells #[.string f.name,.int .u8 f.kind,.int .i64 f.ref,.int .i64 f.lists,.int .u64 f.dflt] 52)=W5 at *
       obtain ⟨_,s0,s1,s2,s3,s4,_⟩:=blk5 HN5.out
       have HKL:Hid (W2.heap.size<wr.heap.size):=Lib.hid (blk_lt HK3.out)
       have HPL:Hid (wr.heap.size<W5.heap.size):=Lib.hid (blk_lt HN5.out)
       refine wp_region_noPanic ?_
       refine wp_region_held_drew (S:=(fun w'=>w'.cell? ⟨wr.heap.size,0,none⟩=some (.string f.name)∧w'.cell? ⟨wr.heap.size,1,none⟩=some (.int .u8 f.kind)∧w'.cell? ⟨wr.heap.size,2,none⟩=some (.int .i64 f.ref)∧w'.cell? ⟨wr.heap.size,3,none⟩=some (.int .i64 f.lists)∧w'.cell? ⟨wr.heap.size,4,none⟩=some (.int .u64 f.dflt))) (by kernel_rfl) ⟨s0,s1,s2,s3,s4⟩ ?_
       intro hS
       refine tk 0 (.slice (some ⟨W2.heap.size,0,none⟩) q.1.fields.length q.1.fields.length) hS ?_ ?_
       · rintro w' ⟨s0,s1,s2,s3,s4⟩
         go_simp
       simp only [td]
       refine tk 1 (.int .i64 i) hS ?_ ?_
       · rintro w' ⟨s0,s1,s2,s3,s4⟩
         go_simp
       simp only [td]
       refine tk 2 (.pointer (some ⟨wr.heap.size,1,none⟩)) hS ?_ ?_
       · rintro w' ⟨s0,s1,s2,s3,s4⟩
         go_simp
       simp only [td]
       refine tk 3 (.agg #[.int .u8 f.kind,.int .i64 f.ref,.int .i64 f.lists]) hS ?_ ?_
       · rintro w' ⟨s0,s1,s2,s3,s4⟩
         go_simp
       simp only [td]
       refine tk 4 (.agg #[.string f.name,.int .u8 f.kind,.int .i64 f.ref,.int .i64 f.lists,.int .u64 f.dflt]) hS ?_ ?_
       · rintro w' ⟨s0,s1,s2,s3,s4⟩
         go_simp
       simp only [td]
       refine tk 6 (.pointer (some ⟨wr.heap.size,4,none⟩)) hS ?_ ?_
       · rintro w' ⟨s0,s1,s2,s3,s4⟩
         go_simp
       simp only [td]
       refine tk 7 (.int .u64 f.dflt) hS ?_ ?_
       · rintro w' ⟨s0,s1,s2,s3,s4⟩
         go_simp
       simp only [td]
       refine wpAnyH_ready (rs:=[5]) (by kernel_rfl) (by decide) (AllReadyH.cons rfl (fun K hK=>?_) AllReadyH.nil)
       rw [if_pos (by kernel_rfl)]
       go_simp
       refine (linline_any f.name f.kind f.ref f.lists f.dflt W5.drew).mono ?_
       rintro e Wh1 ⟨rfl,hb1⟩
       have hx1:Below W5.heap.size W5 Wh1:=(Below.refl _ W5).drew.trans hb1
       have ns0:=cell_stays hx1 s0
       have ns1:=cell_stays hx1 s1
       have ns2:=cell_stays hx1 s2
       have ns3:=cell_stays hx1 s3
       have ns4:=cell_stays hx1 s4
       refine hK.out _ _ ⟨ns0,ns1,ns2,ns3,ns4⟩ (fun hS=>?_)
       clear ns0 ns1 ns2 ns3 ns4
       refine tk 8 (.agg #[.int .u8 f.kind,.int .i64 f.ref,.int .i64 f.lists,.int .i64 (inlP ⟨f.name,f.kind,f.ref,f.lists,f.dflt⟩),.int .u64 f.dflt]) hS ?_ ?_
       · rintro w' ⟨s0,s1,s2,s3,s4⟩
         go_simp
       simp only [td]
       refine tk 9 (.pointer (some ⟨W2.heap.size,i * 5,none⟩)) hS ?_ ?_
       · rintro w' ⟨s0,s1,s2,s3,s4⟩
         go_simp
       simp only [td]
       have hk6:=blk_below HK5.out hx1 (blk_lt HK5.out)
       have hll:i<((q.1.fields.map cF).take i).length+(q.1.fields.length-i):=by rw [List.length_take,List.length_map];omega
       have hthere:Wh1.there W2.heap.size (i * 5) 5:=fun k hk=>by
        refine ⟨?_,blk_frozen hk6 _⟩
        rw [blk_cell hk6,List.getElem?_toArray,List.getElem?_eq_getElem (by rw [f5s_len,List.length_append,List.length_map,List.length_replicate,List.length_take,List.length_map];omega)]
        rfl
       refine wpAnyH_ready (rs:=[10]) (by kernel_rfl) (by decide) (AllReadyH.cons rfl (fun K hK=>?_) AllReadyH.nil)
       rw [if_pos (by kernel_rfl)]
       refine wp_store_mid 164 (.tmp 44) (.tmp 43) rfl W2.heap.size (i * 5) #[.int .u8 f.kind,.int .i64 f.ref,.int .i64 f.lists,.int .i64 (inlP ⟨f.name,f.kind,f.ref,f.lists,f.dflt⟩),.int .u64 f.dflt] rfl rfl hthere (by kernel_rfl) (Array.all_eq_true_iff_forall_mem.2 (by intro x hx;simp at hx;rcases hx with rfl|rfl|rfl|rfl|rfl<;>rfl)) ?_
       change K _ (((((Wh1.setCell ⟨W2.heap.size,i * 5,none⟩ (.int .u8 f.kind)).setCell ⟨W2.heap.size,i * 5+1,none⟩ (.int .i64 f.ref)).setCell ⟨W2.heap.size,i * 5+2,none⟩ (.int .i64 f.lists)).setCell ⟨W2.heap.size,i * 5+3,none⟩ (.int .i64 (inlP ⟨f.name,f.kind,f.ref,f.lists,f.dflt⟩))).setCell ⟨W2.heap.size,i * 5+4,none⟩ (.int .u64 f.dflt))
       have hks:∀ (o:Nat) (cc:Value),W5.cell? ⟨wr.heap.size,o,none⟩=some cc→(((((Wh1.setCell ⟨W2.heap.size,i * 5,none⟩ (.int .u8 f.kind)).setCell ⟨W2.heap.size,i * 5+1,none⟩ (.int .i64 f.ref)).setCell ⟨W2.heap.size,i * 5+2,none⟩ (.int .i64 f.lists)).setCell ⟨W2.heap.size,i * 5+3,none⟩ (.int .i64 (inlP ⟨f.name,f.kind,f.ref,f.lists,f.dflt⟩))).setCell ⟨W2.heap.size,i * 5+4,none⟩ (.int .u64 f.dflt)).cell? ⟨wr.heap.size,o,none⟩=some cc:=fun o cc hcc=>by
        have hne:∀ (w:World) (i:Nat) (x:Value),(w.setCell ⟨W2.heap.size,i,none⟩ x).cell? ⟨wr.heap.size,o,none⟩=w.cell? ⟨wr.heap.size,o,none⟩:=fun w i x=>World.cell?_of_block (Below.heap_setCell _ _ _ _ (by have:=HKL.out;show wr.heap.size≠W2.heap.size;omega))
        rw [hne,hne,hne,hne,hne]
        exact cell_stays hx1 hcc
       refine hK.out _ _ ⟨hks _ _ s0,hks _ _ s1,hks _ _ s2,hks _ _ s3,hks _ _ s4⟩ (fun hS=>?_)
       refine wpAnyH_done (by kernel_rfl) ?_ _
       refine NoPanic.normal ?_
       try simp only [Exit.then]
       have HFIN:=Lib.hid (f5_put (j:=i) hk6 (by rw [List.length_append,List.length_map,List.length_replicate,List.length_take,List.length_map];omega) ⟨.int .u8 f.kind,.int .i64 f.ref,.int .i64 f.lists,.int .i64 (inlP ⟨f.name,f.kind,f.ref,f.lists,f.dflt⟩),.int .u64 f.dflt⟩)
       have HEXP:=Lib.hid (show Exc W2.heap.size W3.heap.size wr (((((Wh1.setCell ⟨W2.heap.size,i * 5,none⟩ (.int .u8 f.kind)).setCell ⟨W2.heap.size,i * 5+1,none⟩ (.int .i64 f.ref)).setCell ⟨W2.heap.size,i * 5+2,none⟩ (.int .i64 f.lists)).setCell ⟨W2.heap.size,i * 5+3,none⟩ (.int .i64 (inlP ⟨f.name,f.kind,f.ref,f.lists,f.dflt⟩))).setCell ⟨W2.heap.size,i * 5+4,none⟩ (.int .u64 f.dflt)) from ((((((Exc.of_below (R:=W2.heap.size) ((HB5.out.trans (hx1.mono HB5.out.size)).mono HX3.out.size)).setCell (p:=⟨W2.heap.size,i * 5,none⟩) (.inl rfl) _).setCell (p:=⟨W2.heap.size,i * 5+1,none⟩) (.inl rfl) _).setCell (p:=⟨W2.heap.size,i * 5+2,none⟩) (.inl rfl) _).setCell (p:=⟨W2.heap.size,i * 5+3,none⟩) (.inl rfl) _).setCell (p:=⟨W2.heap.size,i * 5+4,none⟩) (.inl rfl) _))
       clear hS hks hthere hk6 hll hx1 hb1 s0 s1 s2 s3 s4
       generalize (((((Wh1.setCell ⟨W2.heap.size,i * 5,none⟩ (.int .u8 f.kind)).setCell ⟨W2.heap.size,i * 5+1,none⟩ (.int .i64 f.ref)).setCell ⟨W2.heap.size,i * 5+2,none⟩ (.int .i64 f.lists)).setCell ⟨W2.heap.size,i * 5+3,none⟩ (.int .i64 (inlP ⟨f.name,f.kind,f.ref,f.lists,f.dflt⟩))).setCell ⟨W2.heap.size,i * 5+4,none⟩ (.int .u64 f.dflt))=W9 at *
       go_wp2
       go_roundw
       case rel =>
        refine ⟨i+1,by omega,by go_num,?_,?_⟩
        · exact HX3.out.trans HEXP.out
        · have h5:=HFIN.out
          rw [take_putS q.1.fields i hil f HFI.out] at h5
          exact h5
       case measure=>simp [intOf];omega
     · obtain rfl:i=q.1.fields.length:=by omega
       clear hi hil
       have HKR:Hid (wr.ownsRow W1.heap.size 164 5 (.slice (some ⟨W2.heap.size,0,none⟩) q.1.fields.length q.1.fields.length) q.1.fields.length (mfldsCells (cR q.1).fields)):=Lib.hid (by
        have h5:=HK3.out
        rw [Nat.sub_self,List.take_of_length_le (by rw [List.length_map];exact Nat.le_refl _),List.replicate_zero,List.append_nil,f5s_mf] at h5
        have hsz:(mfldsCells (q.1.fields.map cF)).toArray.size=q.1.fields.length * 5:=by rw [List.size_toArray,←f5s_mf,f5s_len,List.length_map,List.length_map]
        have h6:=own_blk (base:=W1.heap.size) (n:=q.1.fields.length) (size:=5) h5 (by have:=HEX.out.size;have:=HKE.out;omega) (by unfold maxLen;have:=HFW.out;omega) hsz
        exact h6)
       have HWR:=Lib.hid (HBW.out wr HB4.out)
       have HRR:=Lib.hid (row_keep HWR.out HOWN.out)
       have HRD:=Lib.hid (blk_below HRW.out HWR.out (blk_lt HRW.out))
       have HBN:=Lib.hid (heap_alloc_new wr (.cells #[.slice (some ⟨W2.heap.size,0,none⟩) q.1.fields.length q.1.fields.length] 161))
       have HBA:=Lib.hid ((Below.refl wr.heap.size wr).alloc (Nat.le_refl _) (.cells #[.slice (some ⟨W2.heap.size,0,none⟩) q.1.fields.length q.1.fields.length] 161))
       have HEW:=Lib.hid ((HEX.out.bel (Nat.le_refl _) HWR.out).bel (Nat.le_refl _) HBA.out)
       have hjj:j≤1000000:=by have:=HSM.out.1;omega
       have hws:=HEW.out.size
       obtain ⟨_,d0,d1,d2,_⟩:=blk3 HRD.out
       obtain ⟨i0,hi0,hzz0,hzz1,hzz2⟩:=info_parts row_info
       have I1:=Lib.hid hi0
       have I2:=Lib.hid hzz0
       have I3:=Lib.hid hzz1
       have I4:=Lib.hid hzz2
       clear hi0 hzz0 hzz1 hzz2
       go_wp2_with (at_builtin;refine wpList_append_own_at _ rfl (.tmp 50) (.tmp 52) 158 rfl W1.heap.size 161 i0 _ 1 24 Tryd.underlying158 I1.out I2.out I3.out I4.out rfl (by decide) _ j (mrowsCells fs) rfl (row_keep HBA.out HRR.out) _ 1 1 [.slice (some ⟨W2.heap.size,0,none⟩) q.1.fields.length q.1.fields.length] rfl rfl (World.news_of_block HBN.out) (by intro u hu;simp at hu;subst hu;rfl) (by unfold maxLen;omega) (by omega) (by simpa using hws) ?_;intro v4 W8 hown4 hg4 hx hat4;clear hx hat4;obtain ⟨a4,m4,rfl⟩:=ownsRow_form hown4;have hd8:=(hg4.block D (blk_lt (blk_below HRD.out HBA.out (blk_lt HRD.out))) (fun e=>by have h1:=(ownsRow_lt HOWN.out D e.symm).1;have:=HDL.out;omega)).trans (blk_below HRD.out HBA.out (blk_lt HRD.out));obtain ⟨_,d0,d1,d2,_⟩:=blk3 hd8;have e1:=blk_frozen hd8 1;have HG4:=Lib.hid hg4;have HO4:=Lib.hid hown4;have HD8:=Lib.hid hd8;clear hg4 hown4 hd8)
       have HKP:Hid (∀ (v:Value) (n:Nat) (ys:List Value) (u:Value),wr.ownsRow W1.heap.size 164 5 v n ys→(W8.setCell ⟨D,1,none⟩ u).ownsRow W1.heap.size 164 5 v n ys):=Lib.hid (fun v n ys u h=>ownsRow_setCell_below (a:=⟨D,1,none⟩) (row_grown (row_keep HBA.out HRR.out) HG4.out (row_keep HBA.out h) (by decide)) HDL.out u)
       go_roundw
       case rel =>
        refine ⟨j+1,a4,m4,fs++[((cR q.1).fields,.slice (some ⟨W2.heap.size,0,none⟩) q.1.fields.length q.1.fields.length)],by omega,by go_num,?_,?_,?_,?_,?_⟩
        · exact (HEW.out.grown HG4.out hws (fun k hk=>.inl (ownsRow_lt HOWN.out k hk).1)).setCell (p:=⟨D,1,none⟩) (.inl rfl) _
        · exact (blk_set HD8.out 1 _).trans rfl
        · have h7:=ownsRow_setCell_below (a:=⟨D,1,none⟩) HO4.out HDL.out (.slice a4 (j+1) m4)
          have e7:mrowsCells (fs++[((cR q.1).fields,Value.slice (some ⟨W2.heap.size,0,none⟩) q.1.fields.length q.1.fields.length)])=mrowsCells fs++[.slice (some ⟨W2.heap.size,0,none⟩) q.1.fields.length q.1.fields.length]:=by simp [mrowsCells,mrowCell]
          rw [e7]
          exact h7
        · rw [List.map_append,HFS.out,List.take_succ_eq_append_getElem hjl,HX.out,List.map_append]
          rfl
        · intro p hp
          rcases List.mem_append.1 hp with hp|hp
          · exact HKP.out _ _ _ _ (row_keep HWR.out (HFL.out p hp))
          · obtain rfl:=List.mem_singleton.1 hp
            have h8:=HKP.out _ _ _ (.slice a4 (j+1) m4) HKR.out
            show World.ownsRow _ _ _ _ _ (cR q.1).fields.length _
            rw [show (cR q.1).fields.length=q.1.fields.length from List.length_map _]
            exact h8
       case measure=>simp [intOf];omega
  · obtain rfl:j=ss.length:=by omega
    clear hj hjl
    have HRS:=Lib.hid (HS1.out WO HEX.out)
    obtain ⟨_,s0,s1,s2,_⟩:=blk3 HRS.out
    have HST5:Hid (NeAt D WO es (.slice bp zs.length bc) (.slice A ss.length cap) (.int .i64 ((0:Nat):Int)) WO):=Lib.hid ⟨0,none,0,Nat.zero_le _,rfl,Exc.refl _ _ _,HRW.out,World.ownsRow_nil _ _ _ _⟩
    go_wp2_with fail
    clear s0 s1 s2
    go_loopw [60] (fun y wr=>NeAt D WO es (.slice bp zs.length bc) (.slice A ss.length cap) y wr) (fun y _=>es.length-(intOf y).toNat)
    case atStart=>exact HST5.out
    case round =>
     obtain ⟨i,A2,cap2,hi,rfl,hx5,hr5,ho5⟩:=hrel
     have HX5:=Lib.hid hx5
     have HR5:=Lib.hid hr5
     have HO5:=Lib.hid ho5
     have HDO:Hid (D<WO.heap.size):=Lib.hid (by have:=HEX.out.size;have:=HDL.out;omega)
     clear hx5 hr5 ho5
     by_cases hil:i<es.length
     · have hii:(i:Int)<es.length:=by omega
       have hii0:(0:Int)≤(i:Int):=by omega
       have HSW:=Lib.hid (HSR.out wr (HEX.out.thenB (Nat.le_refl _) HX5.out))
       obtain ⟨g2,cc2,hv2,hcc2,hgl2,hcell⟩:=row_el schoCells 2 (fun _=>rfl) HSW.out.enums i hil
       obtain ⟨rfl,rfl⟩:=slice_inj hv2
       obtain ⟨c,hc⟩:∃ c,es[i]=c:=⟨_,rfl⟩
       have HCI:=Lib.hid hc
       have hcm:c ∈ es:=by rw [←hc];exact List.getElem_mem hil
       rw [hc] at hcell
       obtain ⟨na,nc,hn⟩:=ownsRow_form (HSW.out.names c hcm)
       have x0:wr.cell? ⟨g2,i * 2,none⟩=some (.string c.1.name):=hcell 0 (by omega)
       have x1:wr.cell? ⟨g2,i * 2+1,none⟩=some (c.2):=hcell 1 (by omega)
       rw [hn] at x1
       have HNB:Hid (c.1.names.length≤1000000):=Lib.hid (HEE.out.2 c hcm)
       obtain ⟨n,hnn⟩:∃ n,c.1.names.length=n:=⟨_,rfl⟩
       have HNN:=Lib.hid hnn
       rw [hnn] at x1 HNB
       clear hcell hv2 hn hc hnn
       go_upto_region 16 with (fail)
       have hba:Below wr.heap.size wr (wr.alloc (.cells #[.string c.1.name,.slice na n nc] 82)):=(Below.refl _ _).alloc (Nat.le_refl _) _
       have HN6:=Lib.hid (heap_alloc_new wr (.cells #[.string c.1.name,.slice na n nc] 82))
       have HB6:=Lib.hid hba
       clear x0 x1 hba
       generalize wr.alloc (.cells #[.string c.1.name,.slice na n nc] 82)=W6 at *
       have HC6:Hid (W6.cell? ⟨wr.heap.size,1,none⟩=some (.slice na n nc)):=Lib.hid (blk2 HN6.out).2.2.1
       have HCL:Hid (wr.heap.size<W6.heap.size):=Lib.hid (blk_lt HN6.out)
       have HD6:=Lib.hid (blk_below HR5.out HB6.out (blk_lt HR5.out))
       have HV6:Hid (W6.cell? ⟨D,2,none⟩=some (.slice A2 i cap2)):=Lib.hid (blk3 HD6.out).2.2.2.1
       have hci:i≤1000000:=by have:=HEE.out.1;omega
       obtain ⟨i0,hi0,hzz0,hzz1,hzz2⟩:=info_parts int_infoN
       have TAIL:=Lib.hid (show ∀ V Bk,Below W6.heap.size W6 V→V.heap[Bk]?=some (.cells #[.int .i64 n] 3 (0,0))→∃ (a4:Option Addr) (c4:Nat) (V':World),(Builtin.append_ #[63,63] 63 #[.slice A2 i cap2,.slice (some ⟨Bk,0,none⟩) 1 1]).run Tryd.prog V=.ok (.slice a4 (i+1) c4) V'∧Exc D WO.heap.size WO V'∧V'.heap[D]?=some (.cells #[.slice bp zs.length bc,.slice A ss.length cap,.slice A2 i cap2] 160 (0,0))∧V'.ownsRow WO.heap.size 3 1 (.slice a4 (i+1) c4) (i+1) (cntsCells ((es.take (i+1)).map fun c=>c.1.names.length))∧V'.cell? ⟨wr.heap.size,1,none⟩=some (.slice na n nc) from fun V Bk hb hnw=>by
        have hbw:Below wr.heap.size wr V:=HB6.out.trans (hb.mono HB6.out.size)
        have hew:=HX5.out.bel (Nat.le_refl _) hbw
        obtain ⟨v4,V',hrun,hown,hgrow,_⟩:=run_append_own (P:=Tryd.prog) V WO.heap.size 63 63 3 i0 _ 1 8 Tryd.underlying63 hi0 hzz0 hzz1 hzz2 rfl (by decide) _ i _ (row_keep hbw HO5.out) ⟨Bk,0,none⟩ 1 1 (cntCell n) rfl (World.news_of_block hnw) (by intro u hu;simp [cntCell] at hu;subst hu;rfl) (by unfold maxLen;omega) (by omega) hew.size
        obtain ⟨a4,c4,rfl⟩:=ownsRow_form hown
        have hew2:=hew.grown hgrow hew.size (fun k hk=>.inl (ownsRow_lt HO5.out k hk).1)
        refine ⟨a4,c4,V',hrun,hew2,?_,?_,?_⟩
        · have h1:=blk_below HD6.out hb (blk_lt HD6.out)
          exact (hgrow.block D (blk_lt h1) (fun e=>by have h2:=(ownsRow_lt HO5.out D e.symm).1;have:=HDO.out;omega)).trans h1
        · have e:cntsCells ((es.take (i+1)).map fun c=>c.1.names.length)=cntsCells ((es.take i).map fun c=>c.1.names.length)++cntCell n:=by
           rw [List.take_succ_eq_append_getElem hil,HCI.out,List.map_append,←HNN.out]
           simp [cntsCells]
          rw [e]
          exact hown
        · have h1:=cell_stays hb HC6.out
          exact (World.cell?_of_block (w:=V) (a:=⟨wr.heap.size,1,none⟩) (hgrow.block wr.heap.size (World.block_lt_of_cell? _ _ h1) (fun e=>by have h2:=(ownsRow_lt HO5.out _ e.symm).2;omega))).trans h1)
       have HCN:Hid (D≠wr.heap.size):=Lib.hid (by have h1:=blk_lt HR5.out;omega)
       clear hi0 hzz0 hzz1 hzz2
       refine wp_region_noPanic ?_
       refine till_start 12 (fun w'=>w'.cell? ⟨wr.heap.size,1,none⟩=some (.slice na n nc)) (fun w'=>w'.cell? ⟨D,2,none⟩=some (.slice A2 i cap2)) (by kernel_rfl) ?_
       have HB0:=Lib.hid ((Below.refl W6.heap.size W6).drew)
       generalize W6.drew=V0 at *
       have hU:=cell_stays HB0.out HC6.out
       have hV:=cell_stays HB0.out HV6.out
       refine tt 0 (.pointer (some ⟨D,0,none⟩)) hU hV ?_ ?_
       · rintro w' ⟨s0,t0⟩
         go_simp
       simp only [td]
       refine tt 1 (.pointer (some ⟨D,0,none⟩)) hU hV ?_ ?_
       · rintro w' ⟨s0,t0⟩
         go_simp
       simp only [td]
       refine tt 2 (.pointer (some ⟨D,0,none⟩)) hU hV ?_ ?_
       · rintro w' ⟨s0,t0⟩
         go_simp
       simp only [td]
       refine tt 3 (.pointer (some ⟨D,2,none⟩)) hU hV ?_ ?_
       · rintro w' ⟨s0,t0⟩
         go_simp
       simp only [td]
       refine tt 4 (.slice A2 i cap2) hU hV ?_ ?_
       · rintro w' ⟨s0,t0⟩
         go_simp
       simp only [td]
       refine tt 5 (.pointer (some ⟨wr.heap.size,1,none⟩)) hU hV ?_ ?_
       · rintro w' ⟨s0,t0⟩
         go_simp
       simp only [td]
       refine tt 6 (.slice na n nc) hU hV ?_ ?_
       · rintro w' ⟨s0,t0⟩
         go_simp
       simp only [td]
       refine tt 7 (.int .i64 n) hU hV ?_ ?_
       · rintro w' ⟨s0,t0⟩
         go_simp
       simp only [td]
       refine till_one (i:=8) (by kernel_rfl) rfl (fun K hK=>?_)
       rw [if_pos (by kernel_rfl)]
       go_simp
       have hs:Below V0.heap.size V0 (V0.alloc (.cells #[.int .i64 n] 3)):=(Below.refl _ _).alloc (Nat.le_refl _) _
       have HB2:=Lib.hid (HB0.out.trans (hs.mono HB0.out.size))
       have HN:=Lib.hid (heap_alloc_new V0 (.cells #[.int .i64 n] 3))
       refine hK.out _ _ (cell_stays HB2.out HC6.out) (cell_stays HB2.out HV6.out) ?_
       clear hs hU hV
       generalize V0.alloc (.cells #[.int .i64 n] 3)=V2 at *
       generalize V0.heap.size=Bk at *
       have hU:=cell_stays HB2.out HC6.out
       have hV:=cell_stays HB2.out HV6.out
       obtain ⟨a4,c4,V3,hrun,hex3,hrw3,hown3,hcl3⟩:=TAIL.out V2 Bk HB2.out HN.out
       have HEX3:=Lib.hid hex3
       have HRW3:=Lib.hid hrw3
       have HOWN3:=Lib.hid hown3
       obtain ⟨_,m0,m1,m2,_⟩:=blk3 hrw3
       have mf:=blk_frozen hrw3 2
       have hU4:∀ u,(V3.setCell ⟨D,2,none⟩ u).cell? ⟨wr.heap.size,1,none⟩=some (.slice na n nc):=fun u=>(cell_other HCN.out).trans hcl3
       clear hU hV hex3 hrw3 hown3 m0 m1
       refine till_one (i:=9) (by kernel_rfl) rfl (fun K hK=>?_)
       rw [if_pos (by kernel_rfl)]
       refine wp_append_run _ (.tmp 68) (.tmp 72) 63 rfl _ _ _ _ rfl rfl hrun ?_
       refine hK.out _ _ hcl3 m2 ?_
       clear hrun
       have hU:=hcl3
       have hV:=m2
       refine till_one (i:=10) (by kernel_rfl) rfl (fun K hK=>?_)
       rw [if_pos (by kernel_rfl)]
       go_simp
       refine hK.out _ _ hcl3 m2 ?_
       refine till_one (i:=11) (by kernel_rfl) rfl (fun K hK=>?_)
       rw [if_pos (by kernel_rfl)]
       go_simp
       refine hK.out _ _ hcl3 m2 ?_
       refine till_last (by kernel_rfl) rfl (fun K hK=>?_)
       rw [if_pos (by kernel_rfl)]
       go_simp
       refine hK.out _ _ (hU4 _) ?_
       refine till_done (by kernel_rfl) ?_ _
       refine NoPanic.normal ?_
       try simp only [Exit.inBlock,Exit.then]
       go_wp2
       go_roundw
       case rel =>
        refine ⟨i+1,a4,c4,by omega,by go_num,HEX3.out.setCell (p:=⟨D,2,none⟩) (.inl rfl) _,?_,?_⟩
        · exact (blk_set HRW3.out 2 (.slice a4 (i+1) c4)).trans rfl
        · exact ownsRow_setCell_below (a:=⟨D,2,none⟩) HOWN3.out (by have:=HDO.out;exact this) (.slice a4 (i+1) c4)
       case measure=>simp [intOf];omega
     · obtain rfl:i=es.length:=by omega
       clear hi hil
       have hlt:¬(es.length:Int)<es.length:=Int.lt_irrefl _
       go_wp2
       go_ret
       have hbel:Below w.heap.size w wr:=HB.out.trans ((((HEX.out.thenB (Nat.le_refl _) HX5.out).mono HB.out.size)).below (by have:=HD.out;omega))
       have hbs:w.heap.size≤W1.heap.size:=HB.out.size
       have hbs2:w.heap.size≤WO.heap.size:=Nat.le_trans hbs HEX.out.size
       have hnD:∀ {e:TypeId} {s:Nat} {v:Value} {n:Nat} {ys:List Value},WO.ownsRow W1.heap.size e s v n ys→v.ownBlock≠some D:=fun h1 h2=>by have h3:=(ownsRow_lt h1 _ h2).1;have:=HDL.out;omega
       have hfln:fs.length=ss.length:=by have h9:=congrArg List.length HFS.out;simpa using h9
       refine ⟨⟨D,rfl,by have:=HD.out;omega,_,_,fs,es.map (fun c=>c.1.names.length),⟨⟨HR5.out,HZ.out.below (Nat.le_refl _) hbel,HLC.out.1,HLC.out.2,?_,?_,?_⟩,?_,?_,?_⟩⟩,hbel⟩
       · rw [hfln]
         exact ownsRow_base (HX5.out.ownsRow HOWN.out (hnD HOWN.out)) hbs
       · intro p hp
         exact ownsRow_base (HX5.out.ownsRow (HFL.out p hp) (hnD (HFL.out p hp))) hbs
       · have h9:=ownsRow_base HO5.out hbs2
         rw [List.take_length] at h9
         rw [List.length_map]
         exact h9
       · have h9:=HFS.out
         rw [List.take_length] at h9
         exact h9
       · rw [List.map_map]
         rfl
       · intro n hn
         obtain ⟨c,hc,rfl⟩:=List.mem_map.1 hn
         exact HEE.out.2 c hc
end Go.Proofs.YtcfjjocmiheiaaaDoor
