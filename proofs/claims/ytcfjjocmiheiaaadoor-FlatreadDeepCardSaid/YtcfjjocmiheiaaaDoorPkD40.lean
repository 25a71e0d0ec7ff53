/-
  The document's own reading of tables: a table that is there. Conditions: those that each theorem names.
-/
import Derived.Test.YtcfjjocmiheiaaaDoorPkD52
import Derived.Test.YtcfjjocmiheiaaaDoorPkD37
namespace Go.Proofs.YtcfjjocmiheiaaaDoor
open Go.ChangeShapes Go.WideShapes Go.ChangeAt Go.RowKit Go.Shelf
variable {base B:Nat} {W W':World} {rk:Nat} {sv ev:Value} {root:Int} {bp:Option Addr} {bc:Nat} {zs:List Int} {ss:List (SRec × Value)} {es:List (SCho × Value)} {left l':Int}
set_option maxRecDepth 100000 in
set_option maxHeartbeats 16000000 in
theorem rdtab_yes (w:World)(h:DCtx base B w rk sv ev root bp bc zs ss es left)(r:Nat)(hr:r<ss.length)(to:Int)(room q:Nat)(hq:room=q+1)(hV:RdValAt q)(hto : -1000000000≤to∧to≤1000000000){la size own:Int}(hla:to-sg32 (ldO zs to 4)=la)(hsz:ldO zs la 2=size)(how:ldO zs (la+2) 2=own)(hok:TabOk zs room to left la size own)(hr100:room≤100) :
  Calls Tryd.prog 74 #[.pointer (some ⟨rk,0,none⟩),.int .i64 to,.int .i64 r,.int .i64 room] w (RdPost (structAtZ (sRecs ss) zs (nextZ (sRecs ss) (es.map Prod.fst) zs room) r to left) w rk sv ev root bp bc zs):=by
 have hnx:nextZ (sRecs ss) (es.map Prod.fst) zs room=some (flatZ (sRecs ss) (es.map Prod.fst) zs q):=by rw [hq];rfl
 have hres:=tab_yes (ss:=sRecs ss) (f:=flatZ (sRecs ss) (es.map Prod.fst) zs q) (ref:=r) hla hsz how hok
 rw [rec_fields hr] at hres
 rw [hnx]
 have hb:=(Below.refl w.heap.size w).alloc (Nat.le_refl _) (.cells #[.int .u64 0,.slice none 0 0,.slice none 0 0,.bool false] 36)
 have HB:=Lib.hid hb
 have HQ:=Lib.hid (heap_alloc_new w (.cells #[.int .u64 0,.slice none 0 0,.slice none 0 0,.bool false] 36))
 have H0:=Lib.hid (h.below hb)
 have HV:=Lib.hid h.rows.rowV
 have HH0:=Lib.hid h
 have HRK:Hid (rk<w.heap.size):=Lib.hid (blk_lt h.st.blk)
 have HLE:Hid (lenZ zs≤16384∧0≤left∧left≤lenZ zs):=Lib.hid ⟨h.len,h.hl⟩
 have hbd:0≤ldO zs to 4∧ldO zs to 4<4294967296:=by
  unfold ldO
  split
  · exact leAt_4 zs _ h.st.bytes.1
  · omega
 have hsg:=sg32_is hbd.1 hbd.2
 have hsb:=sg32_bd hbd.1 hbd.2
 obtain ⟨z,hz⟩:∃ z,ldO zs to 4=z:=⟨_,rfl⟩
 rw [hz] at hbd hsg hsb hla
 obtain ⟨s,hs⟩:∃ s,sg32 z=s:=⟨_,rfl⟩
 rw [hs] at hsg hsb hla
 have hws:=IntWalk.i64_in s ⟨by omega,by omega⟩
 have hwl:=IntWalk.i64_in (to-s) ⟨by omega,by omega⟩
 rw [hla] at hwl
 have hlb : -4000000000≤la∧la≤4000000000:=by omega
 have hwl2:=IntWalk.i64_in (la+2) ⟨by omega,by omega⟩
 have hszb:0≤size∧size<65536:=by rw [←hsz];exact ldO_2 zs la h.st.bytes.1
 have howb:0≤own∧own<65536:=by rw [←how];exact ldO_2 zs (la+2) h.st.bytes.1
 have hrem:=Int.tmod_eq_emod_of_nonneg (a:=size) (b:=2) hszb.1
 have HZ:=Lib.hid hz
 have HSZ:=Lib.hid hsz
 have HOW:=Lib.hid how
 have HVL:=Lib.hid hV
 obtain ⟨hb1,_,hla0,hb2,hb3,hs4,hev,how4,hok4,hok5⟩:=hok
 have htp:0≤to∧to≤16384:=by
  have h5:=hok5
  unfold reachOk at h5
  rw [Bool.and_eq_true] at h5
  have h6:=inZ_iff.1 h5.1
  have h7:=h.len
  omega
 have HTO:=Lib.hid htp
 clear htp
 have HB1:=Lib.hid hb1
 have HB2:=Lib.hid hb2
 have HB3:=Lib.hid hb3
 have HOK4:=Lib.hid hok4
 have HOK5:=Lib.hid hok5
 have HEV:=Lib.hid hev
 obtain ⟨sa,sc,rfl⟩:=ownsRow_form h.rows.structs
 obtain ⟨sg,scc,hv,_,hsgl,hcell⟩:=row_el srecCells 2 (fun _=>rfl) h.rows.structs r hr
 obtain ⟨rfl,rfl⟩:=slice_inj hv
 have hqm:ss[r] ∈ ss:=List.getElem_mem hr
 have hfr:=h.rows.fields _ hqm
 have hsm:=h.sch.2 _ hqm
 have hx1:=hcell 1 (by omega)
 have hnb:=row_notblk h.rows.structs h.st.blk (by decide)
 have hnf:=row_notblk hfr h.st.blk (by decide)
 obtain ⟨fa,fc,hf⟩:=ownsRow_form hfr
 rw [hf] at hfr hnf
 have hx1':w.cell? ⟨sg,r * 2+1,none⟩=some (.slice fa ss[r].1.fields.length fc):=by
  rw [←hf]
  exact hx1
 have HSC:Hid (∀ W,Exw rk rk w.heap.size w W→W.cell? ⟨sg,r * 2+1,none⟩=some (.slice fa ss[r].1.fields.length fc)):=Lib.hid (fun W hx=>cell_exw hx hx1' (fun e=>hnb (by rw [←show sg=rk from e];rfl)) (fun e=>hnb (by rw [←show sg=rk from e];rfl)))
 obtain ⟨xs,hxs⟩:∃ xs,ss[r].1.fields=xs:=⟨_,rfl⟩
 rw [hxs] at hfr hnf hsm HSC hres
 have HFR:=Lib.hid hfr
 have HNF:=Lib.hid hnf
 have HSM:=Lib.hid hsm
 have hxl:xs.length≤16:=hsm.1
 have hrs:(r:Int)<(ss.length:Int):=by omega
 have hr16:ss.length≤16:=h.sch.1
 rw [List.length_map] at hres
 obtain ⟨g,hg⟩:∃ g,fieldZ zs (flatZ (sRecs ss) (es.map Prod.fst) zs q) (xs.map cF) to ⟨own,la,size⟩=g:=⟨_,rfl⟩
 rw [hg] at hres
 have HRES:=Lib.hid hres
 have HG:Hid (∀ (j:Nat) (hj:j<xs.length) (l:Int),g j l=if offZ zs ⟨own,la,size⟩ j=0 then some (numV xs[j].dflt,l) else if offZ zs ⟨own,la,size⟩ j<4∨own<offZ zs ⟨own,la,size⟩ j+inlC xs[j].kind (xs[j].lists:Nat) then none else flatZ (sRecs ss) (es.map Prod.fst) zs q xs[j].kind (xs[j].ref:Nat) (xs[j].lists:Nat) (to+offZ zs ⟨own,la,size⟩ j) l):=Lib.hid (fun j hj l=>by rw [←hg];exact field_eq hj l)
 obtain ⟨P,hP⟩:∃ P,RdPost (structAtZ (sRecs ss) zs (some (flatZ (sRecs ss) (es.map Prod.fst) zs q)) r to left) w rk (.slice (some ⟨sg,0,none⟩) ss.length sc) ev root bp bc zs=P:=⟨_,rfl⟩
 rw [hP]
 have HP:=Lib.hid hP.symm
 have hroom:¬(room:Int)<1:=by omega
 have hlan:¬la<0:=by omega
 have hsz4:¬size<4:=by omega
 have how5:¬own<4:=by omega
 have hrw:(room:Int)-1=(q:Int):=by omega
 have hrw2:IntKind.i64.wrap (q:Int)=q:=IntWalk.i64_in _ (by omega)
 have HLA:=Lib.hid hla0
 have HSO:=Lib.hid (And.intro hszb howb)
 rw [hev] at hrem
 clear hb h hP hres hz hs hsz how hbd hsb hok4 hok5 hb1 hb2 hb3 hev hV hq hnx hg hcell hv hqm hfr hsm hx1 hx1' hnb hnf hf hxs hsgl hla0 hs4 how4
 go_enter Tryd.func74,Tryd.ntmps74
 go_upto_region 1 with (fail)
 generalize w.alloc (.cells #[.int .u64 0,.slice none 0 0,.slice none 0 0,.bool false] 36)=W0 at *
 go_wp2_with fail
 refine (num_ctx H0.out to 4 (.inr rfl) HB1.out HZ.out).mono ?_
 rintro e W1 ⟨rfl,hs1,hx1⟩
 have HX1:=Lib.hid (Exw.after HB.out hx1)
 have P1:=Lib.hid (blk_exw HQ.out hx1 (blk_lt HQ.out) (by have:=HRK.out;omega) (by have:=HRK.out;omega))
 have H1:=Lib.hid (H0.out.exw hx1 hs1 HLE.out.2)
 clear hs1 hx1
 obtain ⟨_,c0,c1,c2,c3,c4,c5⟩:=blk6 H1.out.st.blk
 go_wp2_with fail
 refine (num_ctx H1.out la 2 (.inl rfl) HB2.out HSZ.out).mono ?_
 rintro e W2 ⟨rfl,hs2,hx2⟩
 have HX2:=Lib.hid (HX1.out.then hx2)
 have P2:=Lib.hid (blk_exw P1.out hx2 (blk_lt P1.out) (by have:=HRK.out;omega) (by have:=HRK.out;omega))
 have H2:=Lib.hid (H1.out.exw hx2 hs2 HLE.out.2)
 clear hs2 hx2 c0 c1 c2 c3 c4 c5
 go_wp2_with fail
 refine (num_ctx H2.out (la+2) 2 (.inl rfl) HB3.out HOW.out).mono ?_
 rintro e W3 ⟨rfl,hs3,hx3⟩
 have HX3:=Lib.hid (HX2.out.then hx3)
 have P3:=Lib.hid (blk_exw P2.out hx3 (blk_lt P2.out) (by have:=HRK.out;omega) (by have:=HRK.out;omega))
 have H3:=Lib.hid (H2.out.exw hx3 hs3 HLE.out.2)
 clear hs3 hx3
 obtain ⟨_,c0,c1,c2,c3,c4,c5⟩:=blk6 H3.out.st.blk
 go_wp2_with fail
 refine (reach_ctx H3.out la size).mono ?_
 rintro e W4 ⟨hx4,hr4⟩
 have HX4:=Lib.hid (HX3.out.then hx4)
 have P4:=Lib.hid (blk_exw P3.out hx4 (blk_lt P3.out) (by have:=HRK.out;omega) (by have:=HRK.out;omega))
 clear c0 c1 c2 c3 c4 c5
 rcases hr4 with ⟨hok4,rfl,hs4'⟩|⟨hno4,rfl,rc,hrc0,hrc1,hs4'⟩
 case inr=>rw [HOK4.out] at hno4;cases hno4
 have hl4:0≤left-size:=by unfold reachOk at hok4;rw [Bool.and_eq_true,decide_eq_true_eq] at hok4;exact hok4.2
 have H4:=Lib.hid (H3.out.exw hx4 hs4' ⟨hl4,by have:=HLE.out;omega⟩)
 clear hx4 hs4' hok4 hl4
 go_wp2_with fail
 refine (reach_ctx H4.out to own).mono ?_
 rintro e W5 ⟨hx5,hr5⟩
 have HX5:=Lib.hid (HX4.out.then hx5)
 have P5:=Lib.hid (blk_exw P4.out hx5 (blk_lt P4.out) (by have:=HRK.out;omega) (by have:=HRK.out;omega))
 rcases hr5 with ⟨hok5,rfl,hs5⟩|⟨hno5,rfl,rc,hrc0,hrc1,hs5⟩
 case inr=>rw [HOK5.out] at hno5;cases hno5
 have hl5:0≤left-size-own:=by unfold reachOk at hok5;rw [Bool.and_eq_true,decide_eq_true_eq] at hok5;exact hok5.2
 have H5:=Lib.hid (H4.out.exw hx5 hs5 ⟨hl5,by have:=HLE.out;omega⟩)
 have HL5:Hid (0≤left-size-own∧left-size-own≤lenZ zs):=Lib.hid ⟨hl5,by have:=HLE.out;omega⟩
 clear hx5 hs5 hok5 hl5
 have hba:Below W5.heap.size W5 (W5.alloc (.cells #[.int .u64 0,.slice none 0 0,.slice none 0 0,.bool true] 36)):=(Below.refl _ _).alloc (Nat.le_refl _) _
 have HOB:=Lib.hid (heap_alloc_new W5 (.cells #[.int .u64 0,.slice none 0 0,.slice none 0 0,.bool true] 36))
 have HX6:=Lib.hid (HX5.out.bel hba)
 have S6:=Lib.hid (H5.out.st.below hba)
 have P6:=Lib.hid (blk_below P5.out hba (blk_lt P5.out))
 have HRO:Hid (w.heap.size<W5.heap.size):=Lib.hid (blk_lt P5.out)
 clear hba
 go_upto_region 13 with (fail)
 generalize W5.alloc (.cells #[.int .u64 0,.slice none 0 0,.slice none 0 0,.bool true] 36)=W6 at *
 generalize W5.heap.size=O at *
 obtain ⟨left1,hleft1⟩:∃ left1,left-size-own=left1:=⟨_,rfl⟩
 rw [hleft1] at HRES HL5 S6
 obtain ⟨sv,hsv⟩:∃ sv,Value.slice (some ⟨sg,0,none⟩) ss.length sc=sv:=⟨_,rfl⟩
 have HST:Hid (DTtAt w w.heap.size O rk (.slice (some ⟨sg,0,none⟩) ss.length sc) ev root bp bc zs g left1 xs.length (.int .i64 ((0:Nat):Int)) W6):=Lib.hid ⟨none,0,[],_,false,Nat.zero_le _,rfl,HOB.out,World.ownsRow_nil _ _ _ _,P6.out,HX6.out,S6.out,.inl ⟨rfl,left1,HL5.out.1,HL5.out.2,rfl,rfl,fun q hq=>by cases hq⟩⟩
 have HRE:Hid (rk<O):=Lib.hid (by have:=HRK.out;have:=HRO.out;omega)
 clear hleft1 hsv sv HOB S6 P6 HX6 H5 P5 HX5 H4 P4 HX4 H3 P3 HX3 H2 P2 HX2 H1 P1 HX1 HB HQ H0
 go_wp2_with fail
 go_loopw [14] (fun x wr=>DTtAt w w.heap.size O rk (.slice (some ⟨sg,0,none⟩) ss.length sc) ev root bp bc zs g left1 xs.length x wr) (fun x _=>xs.length-(intOf x).toNat)
 case atStart=>exact HST.out
 case round =>
  obtain ⟨A,cap,l,rc,bad,hln,rfl,hO,hrow,hR,hX,hS,hcase⟩:=hrel
  obtain ⟨j,hj⟩:∃ j,l.length=j:=⟨_,rfl⟩
  rw [hj] at hln hO hrow hcase
  try rw [hj]
  have HO:=Lib.hid hO
  have HROW:=Lib.hid hrow
  have HR:=Lib.hid hR
  have HX:=Lib.hid hX
  have HS:=Lib.hid hS
  clear hO hrow hR hX hS
  have HJL:=Lib.hid hj
  clear hj
  have hrow1:=HSC.out wr HX.out
  rcases hcase with ⟨rfl,l1,h0,h1,rfl,hseq,hkin⟩|⟨rfl,h0,h1,hseq⟩
  · have HL:=Lib.hid (And.intro h0 h1)
    have HSEQ:=Lib.hid hseq
    have HKI:=Lib.hid hkin
    clear h0 h1 hseq hkin
    obtain ⟨_,c0,c1,c2,c3,c4,c5⟩:=blk6 HS.out.blk
    by_cases hjl:j<xs.length
    · have hji:(j:Int)<(xs.length:Int):=by omega
      have hji0:(0:Int)≤(j:Int):=by omega
      obtain ⟨fg,fcc,hv,hfcc,hfgl,hcell⟩:=row_el sfldCells 5 (fun _=>rfl) HFR.out j hjl
      obtain ⟨rfl,rfl⟩:=slice_inj hv
      obtain ⟨f,hf⟩:∃ f,xs[j]=f:=⟨_,rfl⟩
      have hgj:=HG.out j hjl l1
      obtain ⟨hty,hdm,_⟩:=HSM.out.2 xs[j] (List.getElem_mem hjl)
      rw [hf] at hcell hgj hty hdm
      have hnf:fg≠rk:=fun e=>HNF.out (by rw [←e];rfl)
      have hkeep:∀ i u,w.cell? ⟨fg,i,none⟩=some u→wr.cell? ⟨fg,i,none⟩=some u:=fun i u hu=>cell_exw HX.out hu hnf hnf
      obtain ⟨xn,xk,xr,xl,xd⟩:=f
      have x0:wr.cell? ⟨fg,j * 5,none⟩=some (.string xn):=hkeep _ _ (hcell 0 (by omega))
      have x1:wr.cell? ⟨fg,j * 5+1,none⟩=some (.int .u8 xk):=hkeep _ _ (hcell 1 (by omega))
      have x2:wr.cell? ⟨fg,j * 5+2,none⟩=some (.int .i64 xr):=hkeep _ _ (hcell 2 (by omega))
      have x3:wr.cell? ⟨fg,j * 5+3,none⟩=some (.int .i64 xl):=hkeep _ _ (hcell 3 (by omega))
      have x4:wr.cell? ⟨fg,j * 5+4,none⟩=some (.int .u64 xd):=hkeep _ _ (hcell 4 (by omega))
      have HTY:=Lib.hid hty
      have HDM:=Lib.hid hdm
      have HXK:Hid (xk≤255):=Lib.hid (by have h5:=hty.hi;change xk≤13 at h5;omega)
      have hjj:(j:Int)≤16:=by omega
      have HDC:=Lib.hid (HH0.out.exw HX.out HS.out HL.out)
      have hba:Below wr.heap.size wr (wr.alloc (.cells #[.string xn,.int .u8 xk,.int .i64 xr,.int .i64 xl,.int .u64 xd] 52)):=(Below.refl _ _).alloc (Nat.le_refl _) _
      have HF1:=Lib.hid (heap_alloc_new wr (.cells #[.string xn,.int .u8 xk,.int .i64 xr,.int .i64 xl,.int .u64 xd] 52))
      have HD1:=Lib.hid (HDC.out.below hba)
      have HXW1:Hid (Exw rk rk wr.heap.size wr (wr.alloc (.cells #[.string xn,.int .u8 xk,.int .i64 xr,.int .i64 xl,.int .u64 xd] 52))):=Lib.hid (Exw.of_below hba)
      clear hcell hv hf hkeep hty hdm hba hnf
      go_upto_region 16 with (fail)
      clear x0 x1 x2 x3 x4 c0 c1 c2 c3 c4 c5 hrow1
      generalize wr.alloc (.cells #[.string xn,.int .u8 xk,.int .i64 xr,.int .i64 xl,.int .u64 xd] 52)=W1 at *
      obtain ⟨F,hF⟩:∃ F,wr.heap.size=F:=⟨_,rfl⟩
      have HFE:=Lib.hid hF
      rw [hF] at HF1 ⊢
      clear hF
      by_cases hfits:4+2 * (j:Int)+2≤size
      · have hwn1:=IntWalk.i64_in (la+4) ⟨by omega,by omega⟩
        have hwn2:=IntWalk.i64_in (la+4+2 * (j:Int)) ⟨by omega,by omega⟩
        have hib:inZ (lenZ zs) (la+4+2 * (j:Int)) 2=true:=inZ_iff.2 (by have h5:=HOK4.out;unfold reachOk at h5;rw [Bool.and_eq_true] at h5;have h6:=inZ_iff.1 h5.1;omega)
        have hof:=off_in (own:=own) HLA.out hfits hib
        obtain ⟨o,ho⟩:∃ o,ldO zs (la+4+2 * (j:Int)) 2=o:=⟨_,rfl⟩
        have hobd:=ldO_2 zs (la+4+2 * (j:Int)) HH0.out.st.bytes.1
        rw [ho] at hof hobd
        rw [hof] at hgj
        have HGJ:=Lib.hid hgj
        have HIB:=Lib.hid hib
        have HOO:=Lib.hid ho
        clear hgj hib hof ho
        go_wp2_with fail
        refine (num_ctx HD1.out (la+4+2 * (j:Int)) 2 (.inl rfl) HIB.out HOO.out).mono ?_
        rintro e W2 ⟨rfl,hs2,hx2⟩
        have HD2:=Lib.hid (HD1.out.exw hx2 hs2 HL.out)
        have HXW2:Hid (Exw rk rk wr.heap.size wr W2):=Lib.hid (HXW1.out.then hx2)
        have HF2:=Lib.hid (blk_exw HF1.out hx2 (blk_lt HF1.out) (by have:=HFE.out;have:=blk_lt HO.out;have:=HRE.out;omega) (by have:=HFE.out;have:=blk_lt HO.out;have:=HRE.out;omega))
        clear hs2 hx2
        by_cases ho0:o=0
        · subst ho0
          rw [if_pos rfl] at HGJ
          have HOW:=Lib.hid (blk_exw HO.out HXW2.out (blk_lt HO.out) (by have:=HRE.out;omega) (by have:=HRE.out;omega))
          obtain ⟨_,v0,v1,v2,v3⟩:=blk4p HOW.out
          obtain ⟨_,s0,s1,s2,s3,s4,_⟩:=blk5 HF2.out
          go_upto_region 20 with (fail)
          refine wp_region_noPanic ?_
          refine till_start 7 (fun _=>True) (fun w'=>w'.cell? ⟨O,2,none⟩=some (.slice A j cap)∧w'.cell? ⟨F,0,none⟩=some (.string xn)∧w'.cell? ⟨F,1,none⟩=some (.int .u8 xk)∧w'.cell? ⟨F,2,none⟩=some (.int .i64 xr)∧w'.cell? ⟨F,3,none⟩=some (.int .i64 xl)∧w'.cell? ⟨F,4,none⟩=some (.int .u64 xd)) (by kernel_rfl) ?_
          have HB0:=Lib.hid ((Below.refl W2.heap.size W2).drew)
          have HD0:=Lib.hid (HD2.out.below HB0.out)
          have HXV0:Hid (Exw rk rk wr.heap.size wr W2.drew):=Lib.hid HXW2.out.drew
          generalize W2.drew=V0 at *
          have hU:True:=trivial
          have hV:=And.intro (cell_stays HB0.out v2) (And.intro (cell_stays HB0.out s0) (And.intro (cell_stays HB0.out s1) (And.intro (cell_stays HB0.out s2) (And.intro (cell_stays HB0.out s3) (cell_stays HB0.out s4)))))
          clear v0 v1 v2 v3 s0 s1 s2 s3 s4
          refine tt 0 (.pointer (some ⟨O,2,none⟩)) hU hV ?_ ?_
          · intro w' hSw
            obtain ⟨_,⟨t0,t1,t2,t3,t4,t5⟩⟩:=hSw
            go_simp
          simp only [td]
          refine tt 1 (.slice A j cap) hU hV ?_ ?_
          · intro w' hSw
            obtain ⟨_,⟨t0,t1,t2,t3,t4,t5⟩⟩:=hSw
            go_simp
          simp only [td]
          refine tt 2 (.agg #[.string xn,.int .u8 xk,.int .i64 xr,.int .i64 xl,.int .u64 xd]) hU hV ?_ ?_
          · intro w' hSw
            obtain ⟨_,⟨t0,t1,t2,t3,t4,t5⟩⟩:=hSw
            go_simp
          simp only [td]
          refine till_one (i:=3) (by kernel_rfl) rfl (fun K hK=>?_)
          rw [if_pos (by kernel_rfl)]
          go_simp
          refine (nothing_any V0 xn xk xr xl xd).mono ?_
          rintro e V1 ⟨rfl,hb1⟩
          have HD9:=Lib.hid (HD0.out.below hb1)
          have HFO:Hid (VForm (.agg #[.int .u64 xd,.slice none 0 0,.slice none 0 0,.bool false])):=Lib.hid (vform _ _ _ _ _ _ _ _)
          have HXV:Hid (Exw rk rk wr.heap.size wr V1):=Lib.hid (HXV0.out.trans (Exw.of_below (hb1.mono HXV0.out.size)))
          have hV1:=And.intro (cell_stays hb1 hV.1) (And.intro (cell_stays hb1 hV.2.1) (And.intro (cell_stays hb1 hV.2.2.1) (And.intro (cell_stays hb1 hV.2.2.2.1) (And.intro (cell_stays hb1 hV.2.2.2.2.1) (cell_stays hb1 hV.2.2.2.2.2)))))
          refine hK.out _ _ trivial hV1 ?_
          clear hb1 hV hK K
          have hV:=hV1
          clear hV1
          refine till_one (i:=4) (by kernel_rfl) rfl (fun K hK=>?_)
          rw [if_pos (by kernel_rfl)]
          go_simp
          have hs:Below V1.heap.size V1 (V1.alloc (.cells #[.int .u64 xd,.slice none 0 0,.slice none 0 0,.bool false] 36)):=(Below.refl _ _).alloc (Nat.le_refl _) _
          have HBS:=Lib.hid hs
          have HN:=Lib.hid (heap_alloc_new V1 (.cells #[.int .u64 xd,.slice none 0 0,.slice none 0 0,.bool false] 36))
          have hV1:=And.intro (cell_stays hs hV.1) (And.intro (cell_stays hs hV.2.1) (And.intro (cell_stays hs hV.2.2.1) (And.intro (cell_stays hs hV.2.2.2.1) (And.intro (cell_stays hs hV.2.2.2.2.1) (cell_stays hs hV.2.2.2.2.2)))))
          refine hK.out _ _ trivial hV1 ?_
          clear hs hV hK K
          have hV:=hV1
          clear hV1
          generalize V1.alloc (.cells #[.int .u64 xd,.slice none 0 0,.slice none 0 0,.bool false] 36)=V2 at *
          have hka:=kid_app (has:=true) (rk:=rk) (O:=O) (Bk:=V1.heap.size) (l:=l) (A:=A) (cap:=cap) (by have:=HRE.out;omega) (by rw [HJL.out];exact HO.out) (by rw [HJL.out];exact HROW.out) HXV.out HBS.out HN.out HFO.out (by rw [HJL.out];omega)
          rw [HJL.out] at hka
          obtain ⟨a4,c4,V3,hrun,hO3,hX3,hrk3,hO9,hrow9,hcl3,hkin9⟩:=hka
          have hne:(Value.slice A j cap).ownBlock≠some F:=fun e=>by have h5:=(ownsRow_lt HROW.out _ e).2;have:=HFE.out;omega
          have hV3:=And.intro ((blk_cell hO3 2).trans rfl) (And.intro (hcl3 ⟨F,0,none⟩ _ hne hV.2.1) (And.intro (hcl3 ⟨F,1,none⟩ _ hne hV.2.2.1) (And.intro (hcl3 ⟨F,2,none⟩ _ hne hV.2.2.2.1) (And.intro (hcl3 ⟨F,3,none⟩ _ hne hV.2.2.2.2.1) (hcl3 ⟨F,4,none⟩ _ hne hV.2.2.2.2.2)))))
          have m2f:=blk_frozen hO3 2
          have HX3:=Lib.hid hX3
          have HRK3:=Lib.hid hrk3
          have HO9:=Lib.hid hO9
          have HROW9:=Lib.hid hrow9
          have HKIN9:=Lib.hid hkin9
          clear hO3 hX3 hrk3 hO9 hrow9 hcl3 hkin9 hne hV
          refine till_one (i:=5) (by kernel_rfl) rfl (fun K hK=>?_)
          rw [if_pos (by kernel_rfl)]
          refine wp_append_run _ (.tmp 135) (.tmp 138) 34 rfl _ _ _ _ rfl rfl hrun ?_
          refine hK.out _ _ trivial hV3 ?_
          clear hK K hrun
          have hV:=hV3
          clear hV3
          refine tt 6 (.pointer (some ⟨O,2,none⟩)) hU hV ?_ ?_
          · intro w' hSw
            obtain ⟨_,⟨t0,t1,t2,t3,t4,t5⟩⟩:=hSw
            go_simp
          simp only [td]
          have m2:=hV.1
          refine till_last (by kernel_rfl) rfl (fun K hK=>?_)
          rw [if_pos (by kernel_rfl)]
          go_simp
          refine hK.out _ _ trivial ?_
          clear hK K hV m2 m2f
          refine till_done (by kernel_rfl) ?_ _
          refine NoPanic.normal ?_
          try simp only [Exit.then]
          go_wp2
          go_roundw
          case rel =>
           have hjn:j+1≤xs.length:=by omega
           have hXn:Exw rk rk w.heap.size w (V3.setCell ⟨O,2,none⟩ (.slice a4 (j+1) c4)):=HX.out.trans (HX3.out.mono (by have:=HRO.out;omega))
           have hRn:=(HX3.out.block w.heap.size HRO.out (by have:=HRK.out;omega) (by have:=HRK.out;omega)).trans HR.out
           have e1:(l++[(⟨numV xd,.int .u64 xd,.slice none 0 0,.slice none 0 0,.bool false⟩:KV)]).length=j+1:=by rw [List.length_append,HJL.out];rfl
           refine ⟨a4,c4,l++[⟨numV xd,.int .u64 xd,.slice none 0 0,.slice none 0 0,.bool false⟩],_,false,by rw [e1];exact hjn,by rw [e1];go_num,by rw [e1];exact HO9.out,by rw [e1];exact HROW9.out (numV xd),hRn,hXn,HH0.out.st.keep HV.out hXn (HRK3.out.trans HD9.out.st.blk),.inl ⟨rfl,l1,HL.out.1,HL.out.2,rfl,?_,by rw [e1];exact HKIN9.out (numV xd) HKI.out (vh_num _ _ xd HDM.out)⟩⟩
           rw [e1,seqD_succ HSEQ.out,HGJ.out,List.map_append]
           rfl
          case measure=>simp [intOf];omega
        · rw [if_neg ho0] at HGJ
          have hob:((o:Int)==0)=false:=by simp;omega
          by_cases ho4:o<4
          · rw [if_pos (.inl ho4)] at HGJ
            have HOW:=Lib.hid (blk_exw HO.out HXW2.out (blk_lt HO.out) (by have:=HRE.out;omega) (by have:=HRE.out;omega))
            have HRW:=Lib.hid (blk_exw HR.out HXW2.out (blk_lt HR.out) (by have:=HRK.out;omega) (by have:=HRK.out;omega))
            have HXA:=Lib.hid (HX.out.trans (HXW2.out.mono HX.out.size))
            obtain ⟨_,c0,c1,c2,c3,c4,c5⟩:=blk6 HD2.out.st.blk
            have f5:=blk_frozen HD2.out.st.blk 5
            have HS8:=Lib.hid ((blk_set HD2.out.st.blk 5 (.bool true)).trans rfl)
            have HX8:=Lib.hid (HXA.out.setCell (p:=⟨rk,5,none⟩) (.inl rfl) (.bool true))
            have HO8:=Lib.hid (blk_set_ne HOW.out (p:=⟨rk,5,none⟩) (by have:=HRE.out;show rk≠_;omega) (.bool true))
            have HR8:=Lib.hid (blk_set_ne HRW.out (p:=⟨rk,5,none⟩) (by have:=HRK.out;show rk≠_;omega) (.bool true))
            have HNO:Hid (seqD g left1 xs.length=none):=Lib.hid (seqD_le (show j+1≤xs.length by omega) (by rw [seqD_succ HSEQ.out,HGJ.out]))
            have HRC:Hid (0≤lenZ zs-l1∧lenZ zs-l1≤1000000000000):=Lib.hid (by have:=HL.out;have:=HLE.out;omega)
            go_upto_region 24 with (fail)
            clear c0 c1 c2 c3 c4 c5 f5
            generalize W2.setCell ⟨rk,5,none⟩ (.bool true)=W8 at *
            obtain ⟨_,v0,v1,v2,v3⟩:=blk4p HO8.out
            obtain ⟨_,u0,u1,u2,u3⟩:=blk4p HR8.out
            have p0:=blk_frozen HR8.out 0
            have p1:=blk_frozen HR8.out 1
            have p2:=blk_frozen HR8.out 2
            have p3:=blk_frozen HR8.out 3
            go_wp2
            refine post_gen (fun Wf=>Wf.heap[w.heap.size]?=some (.cells #[.int .u64 0,.slice none 0 0,.slice A j cap,.bool true] 36 (0,0))∧P (.returned (.agg #[.int .u64 0,.slice none 0 0,.slice A j cap,.bool true])) Wf) ⟨?_,?_⟩ ?_
            · exact blk_set4 HR8.out _ _ _ _
            · rw [HP.out]
              have hx4:=((((HX8.out).setCell (p:=⟨w.heap.size,0,none⟩) (.inr (.inr (show w.heap.size≤w.heap.size by omega))) (.int .u64 0)).setCell (p:=⟨w.heap.size,1,none⟩) (.inr (.inr (show w.heap.size≤w.heap.size by omega))) (.slice none 0 0)).setCell (p:=⟨w.heap.size,2,none⟩) (.inr (.inr (show w.heap.size≤w.heap.size by omega))) (.slice A j cap)).setCell (p:=⟨w.heap.size,3,none⟩) (.inr (.inr (show w.heap.size≤w.heap.size by omega))) (.bool true)
              exact rdpost_bad (by rw [HRES.out,HNO.out]) hx4 (vform _ _ _ _ _ _ _ _) HRC.out.1 HRC.out.2 (HH0.out.st.keep HV.out hx4 ((set4_blk W8 (by have:=HRK.out;omega) _ _ _ _).trans HS8.out))
            · rintro Wf ⟨e1,e2⟩
              obtain ⟨_,d0,d1,d2,d3⟩:=blk4p e1
              exact bodyPost_ret (v:=.agg #[.int .u64 0,.slice none 0 0,.slice A j cap,.bool true]) (by simp [results,Tryd.results74,go_sem,d0,d1,d2,d3]) rfl e2
          · have HO4:=Lib.hid ho4
            have hil:=inlC_inlP ⟨xn,xk,xr,xl,xd⟩
            have hilb:=inlP_bd ⟨xn,xk,xr,xl,xd⟩
            have HIN:=Lib.hid (fun W=>rinline_any xn xk xr xl xd W HXK.out)
            obtain ⟨il,hil2⟩:∃ il,inlP ⟨xn,xk,xr,xl,xd⟩=il:=⟨_,rfl⟩
            rw [hil2] at hil hilb HIN
            rw [show inlC (SFld.mk xn xk xr xl xd).kind ((SFld.mk xn xk xr xl xd).lists:Nat)=il from hil.symm] at HGJ
            have hwo:=IntWalk.i64_in (o+il) ⟨by omega,by omega⟩
            obtain ⟨_,f0,f1,f2,f3,f4,_⟩:=blk5 HF2.out
            clear hil hil2
            go_wp2_with fail
            refine (HIN.out _).mono ?_
            rintro e W3 ⟨rfl,hb3⟩
            have HD3:=Lib.hid (HD2.out.below hb3)
            have HXW3:Hid (Exw rk rk wr.heap.size wr W3):=Lib.hid (HXW2.out.trans (Exw.of_below (hb3.mono HXW2.out.size)))
            have HF3:=Lib.hid (blk_below HF2.out hb3 (blk_lt HF2.out))
            clear hb3 f0 f1 f2 f3 f4 HIN
            by_cases hown:own<o+il
            · rw [if_pos (.inr hown)] at HGJ
              have HOW:=Lib.hid (blk_exw HO.out HXW3.out (blk_lt HO.out) (by have:=HRE.out;omega) (by have:=HRE.out;omega))
              have HRW:=Lib.hid (blk_exw HR.out HXW3.out (blk_lt HR.out) (by have:=HRK.out;omega) (by have:=HRK.out;omega))
              have HXA:=Lib.hid (HX.out.trans (HXW3.out.mono HX.out.size))
              obtain ⟨_,c0,c1,c2,c3,c4,c5⟩:=blk6 HD3.out.st.blk
              have f5:=blk_frozen HD3.out.st.blk 5
              have HS8:=Lib.hid ((blk_set HD3.out.st.blk 5 (.bool true)).trans rfl)
              have HX8:=Lib.hid (HXA.out.setCell (p:=⟨rk,5,none⟩) (.inl rfl) (.bool true))
              have HO8:=Lib.hid (blk_set_ne HOW.out (p:=⟨rk,5,none⟩) (by have:=HRE.out;show rk≠_;omega) (.bool true))
              have HR8:=Lib.hid (blk_set_ne HRW.out (p:=⟨rk,5,none⟩) (by have:=HRK.out;show rk≠_;omega) (.bool true))
              have HNO:Hid (seqD g left1 xs.length=none):=Lib.hid (seqD_le (show j+1≤xs.length by omega) (by rw [seqD_succ HSEQ.out,HGJ.out]))
              have HRC:Hid (0≤lenZ zs-l1∧lenZ zs-l1≤1000000000000):=Lib.hid (by have:=HL.out;have:=HLE.out;omega)
              go_upto_region 24 with (fail)
              clear c0 c1 c2 c3 c4 c5 f5
              generalize W3.setCell ⟨rk,5,none⟩ (.bool true)=W8 at *
              obtain ⟨_,v0,v1,v2,v3⟩:=blk4p HO8.out
              obtain ⟨_,u0,u1,u2,u3⟩:=blk4p HR8.out
              have p0:=blk_frozen HR8.out 0
              have p1:=blk_frozen HR8.out 1
              have p2:=blk_frozen HR8.out 2
              have p3:=blk_frozen HR8.out 3
              go_wp2
              refine post_gen (fun Wf=>Wf.heap[w.heap.size]?=some (.cells #[.int .u64 0,.slice none 0 0,.slice A j cap,.bool true] 36 (0,0))∧P (.returned (.agg #[.int .u64 0,.slice none 0 0,.slice A j cap,.bool true])) Wf) ⟨?_,?_⟩ ?_
              · exact blk_set4 HR8.out _ _ _ _
              · rw [HP.out]
                have hx4:=((((HX8.out).setCell (p:=⟨w.heap.size,0,none⟩) (.inr (.inr (show w.heap.size≤w.heap.size by omega))) (.int .u64 0)).setCell (p:=⟨w.heap.size,1,none⟩) (.inr (.inr (show w.heap.size≤w.heap.size by omega))) (.slice none 0 0)).setCell (p:=⟨w.heap.size,2,none⟩) (.inr (.inr (show w.heap.size≤w.heap.size by omega))) (.slice A j cap)).setCell (p:=⟨w.heap.size,3,none⟩) (.inr (.inr (show w.heap.size≤w.heap.size by omega))) (.bool true)
                exact rdpost_bad (by rw [HRES.out,HNO.out]) hx4 (vform _ _ _ _ _ _ _ _) HRC.out.1 HRC.out.2 (HH0.out.st.keep HV.out hx4 ((set4_blk W8 (by have:=HRK.out;omega) _ _ _ _).trans HS8.out))
              · rintro Wf ⟨e1,e2⟩
                obtain ⟨_,d0,d1,d2,d3⟩:=blk4p e1
                exact bodyPost_ret (v:=.agg #[.int .u64 0,.slice none 0 0,.slice A j cap,.bool true]) (by simp [results,Tryd.results74,go_sem,d0,d1,d2,d3]) rfl e2
            · rw [if_neg (fun h=>by have:=HO4.out;omega)] at HGJ
              have HOW:=Lib.hid (blk_exw HO.out HXW3.out (blk_lt HO.out) (by have:=HRE.out;omega) (by have:=HRE.out;omega))
              obtain ⟨_,v0,v1,v2,v3⟩:=blk4p HOW.out
              obtain ⟨_,s0,s1,s2,s3,s4,_⟩:=blk5 HF3.out
              have hwt:=IntWalk.i64_in (to+o) ⟨by have:=HTO.out;omega,by have:=HTO.out;omega⟩
              obtain ⟨_,c0,c1,c2,c3,c4,c5⟩:=blk6 HD3.out.st.blk
              go_upto_region 23 with (fail)
              clear c0 c1 c2 c3 c4 c5
              refine wp_region_noPanic ?_
              refine till_start 14 (fun _=>True) (fun w'=>w'.cell? ⟨O,2,none⟩=some (.slice A j cap)∧w'.cell? ⟨F,0,none⟩=some (.string xn)∧w'.cell? ⟨F,1,none⟩=some (.int .u8 xk)∧w'.cell? ⟨F,2,none⟩=some (.int .i64 xr)∧w'.cell? ⟨F,3,none⟩=some (.int .i64 xl)∧w'.cell? ⟨F,4,none⟩=some (.int .u64 xd)) (by kernel_rfl) ?_
              have HB0:=Lib.hid ((Below.refl W3.heap.size W3).drew)
              have HD0:=Lib.hid (HD3.out.below HB0.out)
              have HXV0:Hid (Exw rk rk wr.heap.size wr W3.drew):=Lib.hid HXW3.out.drew
              generalize W3.drew=V0 at *
              have hU:True:=trivial
              have hV:=And.intro (cell_stays HB0.out v2) (And.intro (cell_stays HB0.out s0) (And.intro (cell_stays HB0.out s1) (And.intro (cell_stays HB0.out s2) (And.intro (cell_stays HB0.out s3) (cell_stays HB0.out s4)))))
              clear v0 v1 v2 v3 s0 s1 s2 s3 s4
              refine tt 0 (.pointer (some ⟨O,2,none⟩)) hU hV ?_ ?_
              · intro w' hSw
                obtain ⟨_,⟨t0,t1,t2,t3,t4,t5⟩⟩:=hSw
                go_simp
              simp only [td]
              refine tt 1 (.slice A j cap) hU hV ?_ ?_
              · intro w' hSw
                obtain ⟨_,⟨t0,t1,t2,t3,t4,t5⟩⟩:=hSw
                go_simp
              simp only [td]
              refine tt 2 (.pointer (some ⟨rk,0,none⟩)) hU hV ?_ ?_
              · intro w' hSw
                obtain ⟨_,⟨t0,t1,t2,t3,t4,t5⟩⟩:=hSw
                go_simp
              simp only [td]
              refine tt 3 (.pointer (some ⟨F,1,none⟩)) hU hV ?_ ?_
              · intro w' hSw
                obtain ⟨_,⟨t0,t1,t2,t3,t4,t5⟩⟩:=hSw
                go_simp
              simp only [td]
              refine tt 4 (.agg #[.int .u8 xk,.int .i64 xr,.int .i64 xl]) hU hV ?_ ?_
              · intro w' hSw
                obtain ⟨_,⟨t0,t1,t2,t3,t4,t5⟩⟩:=hSw
                go_simp
              simp only [td]
              refine tt 5 (.int .i64 to) hU hV ?_ ?_
              · intro w' hSw
                obtain ⟨_,⟨t0,t1,t2,t3,t4,t5⟩⟩:=hSw
                go_simp
              simp only [td]
              refine tt 6 (.int .i64 o) hU hV ?_ ?_
              · intro w' hSw
                obtain ⟨_,⟨t0,t1,t2,t3,t4,t5⟩⟩:=hSw
                go_simp
              simp only [td]
              refine tt 7 (.int .i64 (to+o)) hU hV ?_ ?_
              · intro w' hSw
                obtain ⟨_,⟨t0,t1,t2,t3,t4,t5⟩⟩:=hSw
                go_simp
              simp only [td]
              refine tt 8 (.int .i64 room) hU hV ?_ ?_
              · intro w' hSw
                obtain ⟨_,⟨t0,t1,t2,t3,t4,t5⟩⟩:=hSw
                go_simp
              simp only [td]
              refine tt 9 (.int .i64 q) hU hV ?_ ?_
              · intro w' hSw
                obtain ⟨_,⟨t0,t1,t2,t3,t4,t5⟩⟩:=hSw
                go_simp
              simp only [td]
              refine till_one (i:=10) (by kernel_rfl) rfl (fun K hK=>?_)
              rw [if_pos (by kernel_rfl)]
              go_simp
              refine (HVL.out.run HD0.out xk xr xl (to+o) HTY.out (by have:=HTO.out;omega)).mono ?_
              intro e V1 hpost
              obtain ⟨x0,x1,x2,x3,rfl,hform,hx1,hdj⟩:=hpost.form
              have HFO:=Lib.hid hform
              have HXV:Hid (Exw rk rk wr.heap.size wr V1):=Lib.hid (HXV0.out.then hx1)
              have HNW:Hid (∀ v,VH (newS V0.heap.size) V1 v (.agg #[x0,x1,x2,x3])→VH (newS wr.heap.size) V1 v (.agg #[x0,x1,x2,x3])):=Lib.hid (fun v hv=>vh_new hv HXV0.out.size (Nat.le_refl _) (fun _ _ _=>rfl))
              have HDJ:=Lib.hid hdj
              have hV1:=And.intro (cell_exw hx1 hV.1 (by have:=HRE.out;show O≠rk;omega) (by have:=HRE.out;show O≠rk;omega)) (And.intro (cell_exw hx1 hV.2.1 (by have:=HFE.out;have:=blk_lt HO.out;have:=HRE.out;show F≠rk;omega) (by have:=HFE.out;have:=blk_lt HO.out;have:=HRE.out;show F≠rk;omega)) (And.intro (cell_exw hx1 hV.2.2.1 (by have:=HFE.out;have:=blk_lt HO.out;have:=HRE.out;show F≠rk;omega) (by have:=HFE.out;have:=blk_lt HO.out;have:=HRE.out;show F≠rk;omega)) (And.intro (cell_exw hx1 hV.2.2.2.1 (by have:=HFE.out;have:=blk_lt HO.out;have:=HRE.out;show F≠rk;omega) (by have:=HFE.out;have:=blk_lt HO.out;have:=HRE.out;show F≠rk;omega)) (And.intro (cell_exw hx1 hV.2.2.2.2.1 (by have:=HFE.out;have:=blk_lt HO.out;have:=HRE.out;show F≠rk;omega) (by have:=HFE.out;have:=blk_lt HO.out;have:=HRE.out;show F≠rk;omega)) (cell_exw hx1 hV.2.2.2.2.2 (by have:=HFE.out;have:=blk_lt HO.out;have:=HRE.out;show F≠rk;omega) (by have:=HFE.out;have:=blk_lt HO.out;have:=HRE.out;show F≠rk;omega))))))
              refine hK.out _ _ trivial hV1 ?_
              clear hpost hform hdj hV hK K hx1
              have hV:=hV1
              clear hV1
              refine till_one (i:=11) (by kernel_rfl) rfl (fun K hK=>?_)
              rw [if_pos (by kernel_rfl)]
              go_simp
              have hs:Below V1.heap.size V1 (V1.alloc (.cells #[x0,x1,x2,x3] 36)):=(Below.refl _ _).alloc (Nat.le_refl _) _
              have HBS:=Lib.hid hs
              have HN:=Lib.hid (heap_alloc_new V1 (.cells #[x0,x1,x2,x3] 36))
              have hV1:=And.intro (cell_stays hs hV.1) (And.intro (cell_stays hs hV.2.1) (And.intro (cell_stays hs hV.2.2.1) (And.intro (cell_stays hs hV.2.2.2.1) (And.intro (cell_stays hs hV.2.2.2.2.1) (cell_stays hs hV.2.2.2.2.2)))))
              refine hK.out _ _ trivial hV1 ?_
              clear hs hV hK K
              have hV:=hV1
              clear hV1
              generalize V1.alloc (.cells #[x0,x1,x2,x3] 36)=V2 at *
              have hka:=kid_app (has:=true) (rk:=rk) (O:=O) (Bk:=V1.heap.size) (l:=l) (A:=A) (cap:=cap) (by have:=HRE.out;omega) (by rw [HJL.out];exact HO.out) (by rw [HJL.out];exact HROW.out) HXV.out HBS.out HN.out HFO.out (by rw [HJL.out];omega)
              rw [HJL.out] at hka
              obtain ⟨a4,c4,V3,hrun,hO3,hX3,hrk3,hO9,hrow9,hcl3,hkin9⟩:=hka
              have hne:(Value.slice A j cap).ownBlock≠some F:=fun e=>by have h5:=(ownsRow_lt HROW.out _ e).2;have:=HFE.out;omega
              have hV3:=And.intro ((blk_cell hO3 2).trans rfl) (And.intro (hcl3 ⟨F,0,none⟩ _ hne hV.2.1) (And.intro (hcl3 ⟨F,1,none⟩ _ hne hV.2.2.1) (And.intro (hcl3 ⟨F,2,none⟩ _ hne hV.2.2.2.1) (And.intro (hcl3 ⟨F,3,none⟩ _ hne hV.2.2.2.2.1) (hcl3 ⟨F,4,none⟩ _ hne hV.2.2.2.2.2)))))
              have m2f:=blk_frozen hO3 2
              have HX3:=Lib.hid hX3
              have HRK3:=Lib.hid hrk3
              have HO9:=Lib.hid hO9
              have HROW9:=Lib.hid hrow9
              have HKIN9:=Lib.hid hkin9
              clear hO3 hX3 hrk3 hO9 hrow9 hcl3 hkin9 hne hV
              refine till_one (i:=12) (by kernel_rfl) rfl (fun K hK=>?_)
              rw [if_pos (by kernel_rfl)]
              refine wp_append_run _ (.tmp 155) (.tmp 165) 34 rfl _ _ _ _ rfl rfl hrun ?_
              refine hK.out _ _ trivial hV3 ?_
              clear hK K hrun
              have hV:=hV3
              clear hV3
              refine tt 13 (.pointer (some ⟨O,2,none⟩)) hU hV ?_ ?_
              · intro w' hSw
                obtain ⟨_,⟨t0,t1,t2,t3,t4,t5⟩⟩:=hSw
                go_simp
              simp only [td]
              have m2:=hV.1
              refine till_last (by kernel_rfl) rfl (fun K hK=>?_)
              rw [if_pos (by kernel_rfl)]
              go_simp
              refine hK.out _ _ trivial ?_
              clear hK K hV m2 m2f
              refine till_done (by kernel_rfl) ?_ _
              refine NoPanic.normal ?_
              try simp only [Exit.inBlock,Exit.then]
              go_wp2
              go_roundw
              case rel =>
               have hjn:j+1≤xs.length:=by omega
               have hXn:Exw rk rk w.heap.size w (V3.setCell ⟨O,2,none⟩ (.slice a4 (j+1) c4)):=HX.out.trans (HX3.out.mono (by have:=HRO.out;omega))
               have hRn:=(HX3.out.block w.heap.size HRO.out (by have:=HRK.out;omega) (by have:=HRK.out;omega)).trans HR.out
               rcases HDJ.out with ⟨v,l2,hres,hl2,hvh,hst⟩|⟨hres,rc,hr0,hr1,hst⟩
               · have e1:(l++[(⟨v,x0,x1,x2,x3⟩:KV)]).length=j+1:=by rw [List.length_append,HJL.out];rfl
                 refine ⟨a4,c4,l++[⟨v,x0,x1,x2,x3⟩],_,false,by rw [e1];exact hjn,by rw [e1];go_num,by rw [e1];exact HO9.out,by rw [e1];exact HROW9.out v,hRn,hXn,HH0.out.st.keep HV.out hXn (HRK3.out.trans hst.blk),.inl ⟨rfl,l2,hl2.1,hl2.2,rfl,?_,by rw [e1];exact HKIN9.out v HKI.out (HNW.out v hvh)⟩⟩
                 rw [e1,seqD_succ HSEQ.out,HGJ.out,hres,List.map_append]
                 rfl
               · have e1:(l++[(⟨nilV,x0,x1,x2,x3⟩:KV)]).length=j+1:=by rw [List.length_append,HJL.out];rfl
                 exact ⟨a4,c4,l++[⟨nilV,x0,x1,x2,x3⟩],rc,true,by rw [e1];exact hjn,by rw [e1];go_num,by rw [e1];exact HO9.out,by rw [e1];exact HROW9.out nilV,hRn,hXn,HH0.out.st.keep HV.out hXn (HRK3.out.trans hst.blk),.inr ⟨rfl,hr0,hr1,seqD_le hjn (by rw [seqD_succ HSEQ.out,HGJ.out,hres])⟩⟩
              case measure=>simp [intOf];omega
      · have hof:=off_out (zs:=zs) (own:=own) (la:=la) HEV.out hfits
        rw [hof,if_pos rfl] at hgj
        have HGJ:=Lib.hid hgj
        have HD2:=HD1
        have HXW2:=HXW1
        have HF2:=HF1
        clear hgj hof
        have HOW:=Lib.hid (blk_exw HO.out HXW2.out (blk_lt HO.out) (by have:=HRE.out;omega) (by have:=HRE.out;omega))
        obtain ⟨_,v0,v1,v2,v3⟩:=blk4p HOW.out
        obtain ⟨_,s0,s1,s2,s3,s4,_⟩:=blk5 HF2.out
        go_upto_region 20 with (fail)
        refine wp_region_noPanic ?_
        refine till_start 7 (fun _=>True) (fun w'=>w'.cell? ⟨O,2,none⟩=some (.slice A j cap)∧w'.cell? ⟨F,0,none⟩=some (.string xn)∧w'.cell? ⟨F,1,none⟩=some (.int .u8 xk)∧w'.cell? ⟨F,2,none⟩=some (.int .i64 xr)∧w'.cell? ⟨F,3,none⟩=some (.int .i64 xl)∧w'.cell? ⟨F,4,none⟩=some (.int .u64 xd)) (by kernel_rfl) ?_
        have HB0:=Lib.hid ((Below.refl W1.heap.size W1).drew)
        have HD0:=Lib.hid (HD2.out.below HB0.out)
        have HXV0:Hid (Exw rk rk wr.heap.size wr W1.drew):=Lib.hid HXW2.out.drew
        generalize W1.drew=V0 at *
        have hU:True:=trivial
        have hV:=And.intro (cell_stays HB0.out v2) (And.intro (cell_stays HB0.out s0) (And.intro (cell_stays HB0.out s1) (And.intro (cell_stays HB0.out s2) (And.intro (cell_stays HB0.out s3) (cell_stays HB0.out s4)))))
        clear v0 v1 v2 v3 s0 s1 s2 s3 s4
        refine tt 0 (.pointer (some ⟨O,2,none⟩)) hU hV ?_ ?_
        · intro w' hSw
          obtain ⟨_,⟨t0,t1,t2,t3,t4,t5⟩⟩:=hSw
          go_simp
        simp only [td]
        refine tt 1 (.slice A j cap) hU hV ?_ ?_
        · intro w' hSw
          obtain ⟨_,⟨t0,t1,t2,t3,t4,t5⟩⟩:=hSw
          go_simp
        simp only [td]
        refine tt 2 (.agg #[.string xn,.int .u8 xk,.int .i64 xr,.int .i64 xl,.int .u64 xd]) hU hV ?_ ?_
        · intro w' hSw
          obtain ⟨_,⟨t0,t1,t2,t3,t4,t5⟩⟩:=hSw
          go_simp
        simp only [td]
        refine till_one (i:=3) (by kernel_rfl) rfl (fun K hK=>?_)
        rw [if_pos (by kernel_rfl)]
        go_simp
        refine (nothing_any V0 xn xk xr xl xd).mono ?_
        rintro e V1 ⟨rfl,hb1⟩
        have HD9:=Lib.hid (HD0.out.below hb1)
        have HFO:Hid (VForm (.agg #[.int .u64 xd,.slice none 0 0,.slice none 0 0,.bool false])):=Lib.hid (vform _ _ _ _ _ _ _ _)
        have HXV:Hid (Exw rk rk wr.heap.size wr V1):=Lib.hid (HXV0.out.trans (Exw.of_below (hb1.mono HXV0.out.size)))
        have hV1:=And.intro (cell_stays hb1 hV.1) (And.intro (cell_stays hb1 hV.2.1) (And.intro (cell_stays hb1 hV.2.2.1) (And.intro (cell_stays hb1 hV.2.2.2.1) (And.intro (cell_stays hb1 hV.2.2.2.2.1) (cell_stays hb1 hV.2.2.2.2.2)))))
        refine hK.out _ _ trivial hV1 ?_
        clear hb1 hV hK K
        have hV:=hV1
        clear hV1
        refine till_one (i:=4) (by kernel_rfl) rfl (fun K hK=>?_)
        rw [if_pos (by kernel_rfl)]
        go_simp
        have hs:Below V1.heap.size V1 (V1.alloc (.cells #[.int .u64 xd,.slice none 0 0,.slice none 0 0,.bool false] 36)):=(Below.refl _ _).alloc (Nat.le_refl _) _
        have HBS:=Lib.hid hs
        have HN:=Lib.hid (heap_alloc_new V1 (.cells #[.int .u64 xd,.slice none 0 0,.slice none 0 0,.bool false] 36))
        have hV1:=And.intro (cell_stays hs hV.1) (And.intro (cell_stays hs hV.2.1) (And.intro (cell_stays hs hV.2.2.1) (And.intro (cell_stays hs hV.2.2.2.1) (And.intro (cell_stays hs hV.2.2.2.2.1) (cell_stays hs hV.2.2.2.2.2)))))
        refine hK.out _ _ trivial hV1 ?_
        clear hs hV hK K
        have hV:=hV1
        clear hV1
        generalize V1.alloc (.cells #[.int .u64 xd,.slice none 0 0,.slice none 0 0,.bool false] 36)=V2 at *
        have hka:=kid_app (has:=true) (rk:=rk) (O:=O) (Bk:=V1.heap.size) (l:=l) (A:=A) (cap:=cap) (by have:=HRE.out;omega) (by rw [HJL.out];exact HO.out) (by rw [HJL.out];exact HROW.out) HXV.out HBS.out HN.out HFO.out (by rw [HJL.out];omega)
        rw [HJL.out] at hka
        obtain ⟨a4,c4,V3,hrun,hO3,hX3,hrk3,hO9,hrow9,hcl3,hkin9⟩:=hka
        have hne:(Value.slice A j cap).ownBlock≠some F:=fun e=>by have h5:=(ownsRow_lt HROW.out _ e).2;have:=HFE.out;omega
        have hV3:=And.intro ((blk_cell hO3 2).trans rfl) (And.intro (hcl3 ⟨F,0,none⟩ _ hne hV.2.1) (And.intro (hcl3 ⟨F,1,none⟩ _ hne hV.2.2.1) (And.intro (hcl3 ⟨F,2,none⟩ _ hne hV.2.2.2.1) (And.intro (hcl3 ⟨F,3,none⟩ _ hne hV.2.2.2.2.1) (hcl3 ⟨F,4,none⟩ _ hne hV.2.2.2.2.2)))))
        have m2f:=blk_frozen hO3 2
        have HX3:=Lib.hid hX3
        have HRK3:=Lib.hid hrk3
        have HO9:=Lib.hid hO9
        have HROW9:=Lib.hid hrow9
        have HKIN9:=Lib.hid hkin9
        clear hO3 hX3 hrk3 hO9 hrow9 hcl3 hkin9 hne hV
        refine till_one (i:=5) (by kernel_rfl) rfl (fun K hK=>?_)
        rw [if_pos (by kernel_rfl)]
        refine wp_append_run _ (.tmp 135) (.tmp 138) 34 rfl _ _ _ _ rfl rfl hrun ?_
        refine hK.out _ _ trivial hV3 ?_
        clear hK K hrun
        have hV:=hV3
        clear hV3
        refine tt 6 (.pointer (some ⟨O,2,none⟩)) hU hV ?_ ?_
        · intro w' hSw
          obtain ⟨_,⟨t0,t1,t2,t3,t4,t5⟩⟩:=hSw
          go_simp
        simp only [td]
        have m2:=hV.1
        refine till_last (by kernel_rfl) rfl (fun K hK=>?_)
        rw [if_pos (by kernel_rfl)]
        go_simp
        refine hK.out _ _ trivial ?_
        clear hK K hV m2 m2f
        refine till_done (by kernel_rfl) ?_ _
        refine NoPanic.normal ?_
        try simp only [Exit.then]
        go_wp2
        go_roundw
        case rel =>
         have hjn:j+1≤xs.length:=by omega
         have hXn:Exw rk rk w.heap.size w (V3.setCell ⟨O,2,none⟩ (.slice a4 (j+1) c4)):=HX.out.trans (HX3.out.mono (by have:=HRO.out;omega))
         have hRn:=(HX3.out.block w.heap.size HRO.out (by have:=HRK.out;omega) (by have:=HRK.out;omega)).trans HR.out
         have e1:(l++[(⟨numV xd,.int .u64 xd,.slice none 0 0,.slice none 0 0,.bool false⟩:KV)]).length=j+1:=by rw [List.length_append,HJL.out];rfl
         refine ⟨a4,c4,l++[⟨numV xd,.int .u64 xd,.slice none 0 0,.slice none 0 0,.bool false⟩],_,false,by rw [e1];exact hjn,by rw [e1];go_num,by rw [e1];exact HO9.out,by rw [e1];exact HROW9.out (numV xd),hRn,hXn,HH0.out.st.keep HV.out hXn (HRK3.out.trans HD9.out.st.blk),.inl ⟨rfl,l1,HL.out.1,HL.out.2,rfl,?_,by rw [e1];exact HKIN9.out (numV xd) HKI.out (vh_num _ _ xd HDM.out)⟩⟩
         rw [e1,seqD_succ HSEQ.out,HGJ.out,List.map_append]
         rfl
        case measure=>simp [intOf];omega
    · have hji:¬(j:Int)<(xs.length:Int):=by omega
      have hjn:j=xs.length:=by omega
      have HJN:=Lib.hid hjn
      clear hjl hjn
      obtain ⟨_,v0,v1,v2,v3⟩:=blk4p HO.out
      obtain ⟨_,u0,u1,u2,u3⟩:=blk4p HR.out
      have p0:=blk_frozen HR.out 0
      have p1:=blk_frozen HR.out 1
      have p2:=blk_frozen HR.out 2
      have p3:=blk_frozen HR.out 3
      go_wp2
      refine post_gen (fun Wf=>Wf.heap[w.heap.size]?=some (.cells #[.int .u64 0,.slice none 0 0,.slice A j cap,.bool true] 36 (0,0))∧P (.returned (.agg #[.int .u64 0,.slice none 0 0,.slice A j cap,.bool true])) Wf) ⟨?_,?_⟩ ?_
      · exact blk_set4 HR.out _ _ _ _
      · rw [HP.out]
        have hx4:=((((HX.out).setCell (p:=⟨w.heap.size,0,none⟩) (.inr (.inr (show w.heap.size≤w.heap.size by omega))) (.int .u64 0)).setCell (p:=⟨w.heap.size,1,none⟩) (.inr (.inr (show w.heap.size≤w.heap.size by omega))) (.slice none 0 0)).setCell (p:=⟨w.heap.size,2,none⟩) (.inr (.inr (show w.heap.size≤w.heap.size by omega))) (.slice A j cap)).setCell (p:=⟨w.heap.size,3,none⟩) (.inr (.inr (show w.heap.size≤w.heap.size by omega))) (.bool true)
        have hRO:=HRO.out
        have hvh:=vh_kids (S':=newS w.heap.size) (l:=l) (A:=A) (cap:=cap) (own_set4 (R:=w.heap.size) HROW.out (by omega) (.int .u64 0) (.slice none 0 0) (.slice A j cap) (.bool true)) (HKI.out.step (by unfold set4;simp [World.setCell]) (fun k hk hS=>⟨hS,set4_blk wr (by have:=(rowS_no.1 hS).1;omega) _ _ _ _⟩)) (fun k hS=>by have:=(rowS_no.1 hS).1;unfold newS;simp;omega) (fun k hk=>by unfold newS;simp;omega) true
        exact ⟨hx4,.inl ⟨_,l1,_,by rw [HRES.out,←HJN.out,HSEQ.out],HL.out,rfl,hvh,HH0.out.st.keep HV.out hx4 ((set4_blk wr (by have:=HRK.out;omega) _ _ _ _).trans HS.out.blk)⟩⟩
      · rintro Wf ⟨e1,e2⟩
        obtain ⟨_,d0,d1,d2,d3⟩:=blk4p e1
        exact bodyPost_ret (v:=.agg #[.int .u64 0,.slice none 0 0,.slice A j cap,.bool true]) (by simp [results,Tryd.results74,go_sem,d0,d1,d2,d3]) rfl e2
  · have HL:=Lib.hid (And.intro h0 h1)
    have HSEQ:=Lib.hid hseq
    clear h0 h1 hseq
    obtain ⟨_,c0,c1,c2,c3,c4,c5⟩:=blk6 HS.out.blk
    by_cases hjl:j<xs.length
    · have hji:(j:Int)<(xs.length:Int):=by omega
      clear hjl
      obtain ⟨_,v0,v1,v2,v3⟩:=blk4p HO.out
      obtain ⟨_,u0,u1,u2,u3⟩:=blk4p HR.out
      have p0:=blk_frozen HR.out 0
      have p1:=blk_frozen HR.out 1
      have p2:=blk_frozen HR.out 2
      have p3:=blk_frozen HR.out 3
      go_wp2
      refine post_gen (fun Wf=>Wf.heap[w.heap.size]?=some (.cells #[.int .u64 0,.slice none 0 0,.slice A j cap,.bool true] 36 (0,0))∧P (.returned (.agg #[.int .u64 0,.slice none 0 0,.slice A j cap,.bool true])) Wf) ⟨?_,?_⟩ ?_
      · exact blk_set4 HR.out _ _ _ _
      · rw [HP.out]
        have hx4:=((((HX.out).setCell (p:=⟨w.heap.size,0,none⟩) (.inr (.inr (show w.heap.size≤w.heap.size by omega))) (.int .u64 0)).setCell (p:=⟨w.heap.size,1,none⟩) (.inr (.inr (show w.heap.size≤w.heap.size by omega))) (.slice none 0 0)).setCell (p:=⟨w.heap.size,2,none⟩) (.inr (.inr (show w.heap.size≤w.heap.size by omega))) (.slice A j cap)).setCell (p:=⟨w.heap.size,3,none⟩) (.inr (.inr (show w.heap.size≤w.heap.size by omega))) (.bool true)
        exact rdpost_bad (by rw [HRES.out,HSEQ.out]) hx4 (vform _ _ _ _ _ _ _ _) HL.out.1 HL.out.2 (HH0.out.st.keep HV.out hx4 ((set4_blk wr (by have:=HRK.out;omega) _ _ _ _).trans HS.out.blk))
      · rintro Wf ⟨e1,e2⟩
        obtain ⟨_,d0,d1,d2,d3⟩:=blk4p e1
        exact bodyPost_ret (v:=.agg #[.int .u64 0,.slice none 0 0,.slice A j cap,.bool true]) (by simp [results,Tryd.results74,go_sem,d0,d1,d2,d3]) rfl e2
    · have hji:¬(j:Int)<(xs.length:Int):=by omega
      clear hjl
      obtain ⟨_,v0,v1,v2,v3⟩:=blk4p HO.out
      obtain ⟨_,u0,u1,u2,u3⟩:=blk4p HR.out
      have p0:=blk_frozen HR.out 0
      have p1:=blk_frozen HR.out 1
      have p2:=blk_frozen HR.out 2
      have p3:=blk_frozen HR.out 3
      go_wp2
      refine post_gen (fun Wf=>Wf.heap[w.heap.size]?=some (.cells #[.int .u64 0,.slice none 0 0,.slice A j cap,.bool true] 36 (0,0))∧P (.returned (.agg #[.int .u64 0,.slice none 0 0,.slice A j cap,.bool true])) Wf) ⟨?_,?_⟩ ?_
      · exact blk_set4 HR.out _ _ _ _
      · rw [HP.out]
        have hx4:=((((HX.out).setCell (p:=⟨w.heap.size,0,none⟩) (.inr (.inr (show w.heap.size≤w.heap.size by omega))) (.int .u64 0)).setCell (p:=⟨w.heap.size,1,none⟩) (.inr (.inr (show w.heap.size≤w.heap.size by omega))) (.slice none 0 0)).setCell (p:=⟨w.heap.size,2,none⟩) (.inr (.inr (show w.heap.size≤w.heap.size by omega))) (.slice A j cap)).setCell (p:=⟨w.heap.size,3,none⟩) (.inr (.inr (show w.heap.size≤w.heap.size by omega))) (.bool true)
        exact rdpost_bad (by rw [HRES.out,HSEQ.out]) hx4 (vform _ _ _ _ _ _ _ _) HL.out.1 HL.out.2 (HH0.out.st.keep HV.out hx4 ((set4_blk wr (by have:=HRK.out;omega) _ _ _ _).trans HS.out.blk))
      · rintro Wf ⟨e1,e2⟩
        obtain ⟨_,d0,d1,d2,d3⟩:=blk4p e1
        exact bodyPost_ret (v:=.agg #[.int .u64 0,.slice none 0 0,.slice A j cap,.bool true]) (by simp [results,Tryd.results74,go_sem,d0,d1,d2,d3]) rfl e2
end Go.Proofs.YtcfjjocmiheiaaaDoor
