/-
  The law SchemaPrints: of every plan it returns true, and nothing that was there is written. Conditions: those that each theorem names; the library's tables hold what the row lists, its error lies there.
-/
import Derived.Test.YtokhnoogkdlidaaGreatDoorPkP5
import Derived.Test.YtokhnoogkdlidaaGreatDoorPkP35
import Derived.Test.YtokhnoogkdlidaaGreatDoorPkP39
import Derived.Test.YtokhnoogkdlidaaGreatDoorPkP41
import Derived.Test.YtokhnoogkdlidaaGreatDoorPkP51
namespace Go.Proofs.YtokhnoogkdlidaaGreatDoor
open Go.ChangeShapes Go.WideShapes Go.ChangeAt Go.RowKit Go.Shelf
def exA:ByteArray:=⟨#[101,110,117,109,32,69,32,123,32,97,44,32,98,32,125,32,115,116,114,117,99,116,32,83,32,123,32,120,58,32,69,32,61,32,98,59,32,125,32,114,111,111,116,32,83,59]⟩
def exB:ByteArray:=⟨#[115,116,114,117,99,116,32,83,32,123,32,120,58,32,117,56,32,61,32,50,53,54,59,32,125,32,114,111,111,116,32,83,59]⟩
def exC:ByteArray:=⟨#[115,116,114,117,99,116,32,83,32,123,32,120,58,32,84,59,32,125,32,114,111,111,116,32,83,59]⟩
theorem read_a:readM exA=.ok ⟨[⟨⟨#[83]⟩,[⟨⟨#[120]⟩,10,0,0,1⟩]⟩],[⟨⟨#[69]⟩,[⟨#[97]⟩,⟨#[98]⟩]⟩],0⟩:=by kernel_rfl
theorem read_b:readM exB=.no 15 19:=by kernel_rfl
theorem read_c:readM exC=.no 14 14:=by kernel_rfl
theorem one_of {α β:Type}{l:List (α × β)}{a:α}(h:l.map Prod.fst=[a]):∃ b,l=[(a,b)]:=by
 cases l with
 | nil=>cases h
 | cons p r =>
  cases r with
  | nil =>
   obtain ⟨x,y⟩:=p
   cases h
   exact ⟨y,rfl⟩
  | cons q r=>cases (List.cons.inj h).2
set_option maxRecDepth 100000 in
set_option maxHeartbeats 4000000 in
theorem awake5_any (w:World)(hT:Tabs w)(hE:ErrV w):Calls Tryz.prog 4 #[] w fun e w'=>e=.returned (.bool true)∧Below w.heap.size w w':=by
 have HT:=Lib.hid hT
 have HE:=Lib.hid hE
 clear hT hE
 go_enter Tryz.func4,Tryz.ntmps4
 go_wp2_with fail
 refine (read_any exA w HT.out HE.out (by decide)).mono ?_
 rintro e W1 hp
 obtain ⟨ss,es,sa,sc,ea,ec,rt,code,pl,rfl,hr1,hs1,hb1⟩:=sch_form hp
 rw [read_a] at hs1
 obtain ⟨h1,h2,rfl,rfl,rfl⟩:=hs1
 obtain ⟨fv,rfl⟩:=one_of h1
 have HB1:=Lib.hid hb1
 have HR1:=Lib.hid hr1
 clear hp hr1 hb1 h1 h2
 simp only [List.length_singleton] at *
 go_upto_region 2 with (fail)
 obtain ⟨hbb,hq1,hq2⟩:=two_blk W1 #[.slice sa 1 sc,.slice ea es.length ec,.int .i64 0] #[.int .i64 0,.int .i64 0] 30 38
 generalize ((W1.alloc (.cells #[.slice sa 1 sc,.slice ea es.length ec,.int .i64 0] 30)).alloc (.cells #[.int .i64 0,.int .i64 0] 38))=W2 at *
 have HB2:=Lib.hid (HB1.out.trans (hbb.mono HB1.out.size))
 have HR2:=Lib.hid (HR1.out.below hbb)
 have HQ1:=Lib.hid hq1
 have HQ2:=Lib.hid hq2
 generalize W1.heap.size=A1 at *
 clear hbb hq1 hq2 HB1 HR1
 go_wp2_with fail
 refine (read_any exB W2 (HT.out.below (Nat.le_refl _) HB2.out) (HE.out.later HB2.out) (by decide)).mono ?_
 rintro e W3 hp
 obtain ⟨ss2,es2,sa2,sc2,ea2,ec2,rt2,code,pl,rfl,_,hs1,hb3⟩:=sch_form hp
 rw [read_b] at hs1
 obtain ⟨_,_,rfl,rfl,rfl⟩:=hs1
 have HB3:=Lib.hid (HB2.out.trans (hb3.mono HB2.out.size))
 have HR3:=Lib.hid (HR2.out.below hb3)
 have HQ3:=Lib.hid (blk_below HQ1.out hb3 (blk_lt HQ1.out))
 have HQ4:=Lib.hid (blk_below HQ2.out hb3 (blk_lt HQ2.out))
 clear hp hb3 HB2 HR2 HQ1 HQ2
 go_upto_region 3 with (fail)
 obtain ⟨hbb,_,hq2⟩:=two_blk W3 #[.slice sa2 ss2.length sc2,.slice ea2 es2.length ec2,.int .i64 0] #[.int .i64 15,.int .i64 19] 30 38
 generalize ((W3.alloc (.cells #[.slice sa2 ss2.length sc2,.slice ea2 es2.length ec2,.int .i64 0] 30)).alloc (.cells #[.int .i64 15,.int .i64 19] 38))=W4 at *
 have HB4:=Lib.hid (HB3.out.trans (hbb.mono HB3.out.size))
 have HR4:=Lib.hid (HR3.out.below hbb)
 have HQ5:=Lib.hid (blk_below HQ3.out hbb (blk_lt HQ3.out))
 have HQ6:=Lib.hid (blk_below HQ4.out hbb (blk_lt HQ4.out))
 have HQ7:=Lib.hid hq2
 generalize W3.heap.size=A3 at *
 clear hbb hq2 HB3 HR3 HQ3 HQ4
 go_wp2_with fail
 refine (read_any exC W4 (HT.out.below (Nat.le_refl _) HB4.out) (HE.out.later HB4.out) (by decide)).mono ?_
 rintro e W5 hp
 obtain ⟨ss3,es3,sa3,sc3,ea3,ec3,rt3,code,pl,rfl,_,hs1,hb5⟩:=sch_form hp
 rw [read_c] at hs1
 obtain ⟨_,_,rfl,rfl,rfl⟩:=hs1
 have HB5:=Lib.hid (HB4.out.trans (hb5.mono HB4.out.size))
 have HR5:=Lib.hid (HR4.out.below hb5)
 have HQ1:=Lib.hid (blk_below HQ5.out hb5 (blk_lt HQ5.out))
 have HQ2:=Lib.hid (blk_below HQ6.out hb5 (blk_lt HQ6.out))
 have HQ3:=Lib.hid (blk_below HQ7.out hb5 (blk_lt HQ7.out))
 clear hp hb5 HB4 HR4 HQ5 HQ6 HQ7
 go_upto_region 4 with (fail)
 obtain ⟨hbb,_,hq2⟩:=two_blk W5 #[.slice sa3 ss3.length sc3,.slice ea3 es3.length ec3,.int .i64 0] #[.int .i64 14,.int .i64 14] 30 38
 generalize ((W5.alloc (.cells #[.slice sa3 ss3.length sc3,.slice ea3 es3.length ec3,.int .i64 0] 30)).alloc (.cells #[.int .i64 14,.int .i64 14] 38))=W6 at *
 have HB6:=Lib.hid (HB5.out.trans (hbb.mono HB5.out.size))
 have HR6:=HR5.out.below hbb
 obtain ⟨_,p0,p1,p2,_⟩:=blk3 (blk_below HQ1.out hbb (blk_lt HQ1.out))
 obtain ⟨_,f0,f1,_⟩:=blk2 (blk_below HQ2.out hbb (blk_lt HQ2.out))
 obtain ⟨_,g0,g1,_⟩:=blk2 (blk_below HQ3.out hbb (blk_lt HQ3.out))
 obtain ⟨_,k0,k1,_⟩:=blk2 hq2
 obtain ⟨g,c,a,n,hv,hc,hg,x0,x1,hz⟩:=HR6.strct 0 Nat.zero_lt_one
 obtain ⟨g2,c2,hv2,hc2,hg2,y0,y1,y2,y3,y4⟩:=HR6.field 0 Nat.zero_lt_one 0 Nat.zero_lt_one
 obtain ⟨rfl,rfl⟩:=slice_inj hv
 have hz':fv=.slice a 1 n:=hz
 have hv2':fv=.slice (some ⟨g2,0,none⟩) 1 c2:=hv2
 rw [hz'] at hv2'
 obtain ⟨rfl,rfl⟩:=slice_inj hv2'
 have x1':W6.cell? ⟨g,1,none⟩=some (.slice (some ⟨g2,0,none⟩) 1 n):=x1
 have y4':W6.cell? ⟨g2,4,none⟩=some (.int .u64 1):=y4
 have h01:(0:Int)<1:=by decide
 clear hbb hq2 hv hv2 hv2' hz hz' x0 x1 y0 y1 y2 y3 y4 HR6
 go_wp2
 go_ret
 exact ⟨rfl,HB6.out⟩
end Go.Proofs.YtokhnoogkdlidaaGreatDoor
namespace Go.Proofs.YtokhnoogkdlidaaGreatDoor
open Go.ChangeShapes Go.WideShapes Go.ChangeAt Go.RowKit Go.Shelf
theorem made_few1 {p:Plan}{ss:List (SRec × Value)}(h:Few (schP p))(hss:ss.map Prod.fst=recsP p p.structs.length):∀ q ∈ ss.map (fun q=>(cR q.1,q.2)),q.1.name.size≤281474976710656∧∀ f ∈ q.1.fields,FldFit f:=by
 intro q hq
 obtain ⟨x,hx,rfl⟩:=List.mem_map.1 hq
 have hm:x.1 ∈ (schP p).structs:=by
  show x.1 ∈ recsP p p.structs.length
  rw [←hss]
  exact List.mem_map.2 ⟨x,hx,rfl⟩
 have h1:=(h.sn _ hm).1
 refine ⟨by show x.1.name.size≤_;omega,fun f hf=>?_⟩
 obtain ⟨g,hg,rfl⟩:=List.mem_map.1 (show f ∈ x.1.fields.map cF from hf)
 obtain ⟨f1,_,_,f4,f5,_⟩:=h.fl _ hm g hg
 exact ⟨by show g.kind≤255;omega,by show g.dflt≤_;omega,by show g.name.size≤_;omega⟩
theorem made_few2 {p:Plan}{es:List (SCho × Value)}(h:Few (schP p))(hes:es.map Prod.fst=chosP p p.enums.length):∀ q ∈ es,q.1.name.size≤281474976710656∧∀ s ∈ q.1.names,s.size≤281474976710656:=by
 intro q hq
 have hm:q.1 ∈ (schP p).enums:=by
  show q.1 ∈ chosP p p.enums.length
  rw [←hes]
  exact List.mem_map.2 ⟨q,hq,rfl⟩
 obtain ⟨h1,_,h3⟩:=h.en _ hm
 exact ⟨by omega,fun s hs=>by have:=h3 s hs;omega⟩
set_option maxRecDepth 100000 in
set_option maxHeartbeats 8000000 in
theorem schemaPrints_walk (p:Plan){a0 a1:Option Addr}{n0 e0 n1 c1:Nat}(w:World)(hp:IsPlan w p a0 n0 e0 a1 n1 c1)(hT:Tabs w)(hE:ErrV w) :
  Calls Tryz.prog 3 #[.agg #[.slice a0 n0 e0,.slice a1 n1 c1,.int .u8 p.root,.bool p.tree]] w fun e w'=>e=.returned (.bool true)∧Below w.heap.size w w':=by
 have hb1:=(Below.refl w.heap.size w).alloc (Nat.le_refl _) (.cells #[.slice a0 n0 e0,.slice a1 n1 c1,.int .u8 p.root,.bool p.tree] 25)
 have HP:=Lib.hid (hp.below hb1)
 have HT:=Lib.hid (hT.below (Nat.le_refl _) hb1)
 have HE:=Lib.hid (hE.later hb1)
 have HB0:=Lib.hid hb1
 have HQ1:=Lib.hid (heap_alloc_new w (.cells #[.slice a0 n0 e0,.slice a1 n1 c1,.int .u8 p.root,.bool p.tree] 25))
 clear hp hT hE hb1
 go_enter Tryz.func3,Tryz.ntmps3
 go_upto_region 1 with (fail)
 generalize w.alloc (.cells #[.slice a0 n0 e0,.slice a1 n1 c1,.int .u8 p.root,.bool p.tree] 25)=W0 at *
 go_wp2_with fail
 refine (awake5_any W0 HT.out HE.out).mono ?_
 rintro e W1 ⟨rfl,hb1⟩
 have HB1:=Lib.hid (HB0.out.trans (hb1.mono HB0.out.size))
 have HB01:=Lib.hid hb1
 have HQ11:=Lib.hid (blk_below HQ1.out hb1 (blk_lt HQ1.out))
 clear hb1 HB0 HQ1
 obtain ⟨_,y0',y1',y2',y3'⟩:=blk4p HQ11.out
 go_wp2_with fail
 refine (made_any p W1 (HP.out.below HB01.out)).mono ?_
 rintro e W2 ⟨hb2,hpost⟩
 have HB2:=Lib.hid (HB1.out.trans (hb2.mono HB1.out.size))
 have HB02:=Lib.hid (HB01.out.trans (hb2.mono HB01.out.size))
 clear hb2 y0' y1' y2' y3' HQ11 HB1 HB01
 rcases hpost with ⟨hok,ss,es,sv,ev,rfl,hss,hes,hr⟩|⟨hno,rfl⟩
 · obtain ⟨sa,sc,ea,ec,rfl,rfl⟩:=hr.forms
   have HPR:=Lib.hid (prints_made hok (plan_nums HP.out))
   have HFEW:=Lib.hid (few_of hok (plan_nums HP.out))
   have hS:schP p=⟨ss.map Prod.fst,es.map Prod.fst,p.root % p.structs.length⟩:=by rw [hss,hes];rfl
   have HSS:=Lib.hid hss
   have HES:=Lib.hid hes
   have HS:=Lib.hid hS
   have HR:=Lib.hid hr
   obtain ⟨T,hTT⟩:∃ T,textS (schP p)=T:=⟨_,rfl⟩
   have HTT:=Lib.hid hTT
   have hsz:=textS_size HFEW.out
   rw [hTT] at hsz
   have HSZ:=Lib.hid hsz
   clear hok hss hes hr hS hTT hsz
   obtain ⟨rt,hrt⟩:∃ rt,p.root % p.structs.length=rt:=⟨_,rfl⟩
   rw [hrt] at HS ⊢
   have HRT:=Lib.hid hrt
   clear hrt
   go_upto_region 4 with (fail)
   have hba:Below W2.heap.size W2 (W2.alloc (.cells #[.slice sa ss.length sc,.slice ea es.length ec,.int .i64 rt] 30)):=(Below.refl _ _).alloc (Nat.le_refl _) _
   have HZ:=Lib.hid (heap_alloc_new W2 (.cells #[.slice sa ss.length sc,.slice ea es.length ec,.int .i64 rt] 30))
   have HB3:=Lib.hid (HB2.out.trans (hba.mono HB2.out.size))
   have HB03:=Lib.hid (HB02.out.trans (hba.mono HB02.out.size))
   have HR3:=Lib.hid (HR.out.below hba)
   clear hba HR HB2 HB02
   generalize W2.alloc (.cells #[.slice sa ss.length sc,.slice ea es.length ec,.int .i64 rt] 30)=W3 at *
   generalize W2.heap.size=Z at *
   obtain ⟨_,z0,z1,z2,_⟩:=blk3 HZ.out
   go_wp2_with fail
   refine (text_any W3 rt HR3.out (schP p) HS.out HFEW.out).mono ?_
   rintro e W4 ⟨he4,hb4⟩
   rw [HTT.out] at he4
   subst he4
   have HB4:=Lib.hid (HB3.out.trans (hb4.mono HB3.out.size))
   have HB04:=Lib.hid (HB03.out.trans (hb4.mono HB03.out.size))
   have HR4:=Lib.hid (HR3.out.below hb4)
   have HZ4:=Lib.hid (blk_below HZ.out hb4 (blk_lt HZ.out))
   clear hb4 HB3 HB03 HR3 HZ z0 z1 z2
   have HT4:=Lib.hid (HT.out.below (Nat.le_refl _) HB04.out)
   have HE4:=Lib.hid (HE.out.later HB04.out)
   go_wp2_with fail
   refine (rref_any T W4 HT4.out (by have:=HSZ.out.2;omega)).mono ?_
   rintro e W5 ⟨ss5,es5,sa5,sc5,ea5,ec5,rt5,c5,p5,rfl,hr5,hsay,hb5⟩
   have HB5:=Lib.hid (HB4.out.trans (hb5.mono HB4.out.size))
   have HB05:=Lib.hid (HB04.out.trans (hb5.mono HB04.out.size))
   have HR5:=Lib.hid (HR4.out.below hb5)
   have HZ5:=Lib.hid (blk_below HZ4.out hb5 (blk_lt HZ4.out))
   have HSAY:=Lib.hid hsay
   clear hb5 hr5 hsay HB4 HB04 HR4 HZ4 HT4 HE4
   go_upto_region 8 with (fail)
   have hba:Below W5.heap.size W5 (W5.alloc (.cells #[.slice sa5 ss5.length sc5,.slice ea5 es5.length ec5,.int .i64 rt5] 30)):=(Below.refl _ _).alloc (Nat.le_refl _) _
   have HB6:=Lib.hid (HB5.out.trans (hba.mono HB5.out.size))
   have HB06:=Lib.hid (HB05.out.trans (hba.mono HB05.out.size))
   have HR6:=Lib.hid (HR5.out.below hba)
   have HZ6:=Lib.hid (blk_below HZ5.out hba (blk_lt HZ5.out))
   clear hba HB5 HB05 HR5 HZ5
   generalize W5.alloc (.cells #[.slice sa5 ss5.length sc5,.slice ea5 es5.length ec5,.int .i64 rt5] 30)=W6 at *
   have HT6:=Lib.hid (HT.out.below (Nat.le_refl _) HB06.out)
   have HE6:=Lib.hid (HE.out.later HB06.out)
   by_cases hbig:8192<T.size
   · have hbi:(8192:Int)<(T.size:Int):=by omega
     go_wp2
     go_ret
     exact ⟨rfl,HB6.out⟩
   have hbi:¬(8192:Int)<(T.size:Int):=by omega
   by_cases h16:c5=16
   · subst h16
     go_wp2
     go_ret
     exact ⟨rfl,HB6.out⟩
   have hc16:(c5==16)=false:=by simpa using h16
   have hread:readM T=.ok (schP p):=by
    unfold readM
    rcases HPR.out.1 with ⟨h1,h2⟩|h1
    · rw [HTT.out] at h1 h2
      rw [if_pos h1,h2]
    · rw [HTT.out] at h1
      exfalso
      have h3:=HSAY.out
      unfold readM at h3
      rw [if_neg (by rw [h1];decide),h1] at h3
      exact h16 h3.2.2.2.1
   have HREAD:=Lib.hid hread
   clear hread h16 HSAY
   go_wp2_with fail
   refine (read_any T W6 HT6.out HE6.out (by have:=HSZ.out.2;omega)).mono ?_
   rintro e W7 ⟨hb7,hpost⟩
   rw [HREAD.out] at hpost
   obtain ⟨ss7,es7,sv7,ev7,rfl,hss7,hes7,hr7⟩:=hpost
   obtain ⟨sa7,sc7,ea7,ec7,rfl,rfl⟩:=hr7.forms
   have hroot:(schP p).root=rt:=HRT.out
   rw [hroot]
   have HB7:=Lib.hid (HB6.out.trans (hb7.mono HB6.out.size))
   have HB07:=Lib.hid (HB06.out.trans (hb7.mono HB06.out.size))
   have HR7:=Lib.hid (HR6.out.below hb7)
   have HZ7:=Lib.hid (blk_below HZ6.out hb7 (blk_lt HZ6.out))
   have HN7:=Lib.hid hr7
   have HSS7:Hid (ss7.map Prod.fst=ss.map Prod.fst):=Lib.hid (by rw [←hss7,HSS.out];rfl)
   have HES7:Hid (es7.map Prod.fst=es.map Prod.fst):=Lib.hid (by rw [←hes7,HES.out];rfl)
   clear hb7 hr7 hss7 hes7 hroot HB6 HB06 HR6 HZ6 HT6 HE6
   have HCK:Hid (∀ W,Below W7.heap.size W7 W→Calls Tryz.prog 10 #[.agg #[.slice sa ss.length sc,.slice ea es.length ec,.int .i64 rt]] W fun e w'=>e=.returned (.bool true)∧Below W.heap.size W w'):=Lib.hid (fun W hb=>by
    have h:=check_any W (rt:Int) ((HR7.out.below hb).crows) (made_few1 HFEW.out HSS.out) (made_few2 HFEW.out HES.out) (HT.out.below (Nat.le_refl _) (HB07.out.trans (hb.mono HB07.out.size)))
    have e:(⟨(ss.map fun q=>(cR q.1,q.2)).map Prod.fst,es.map Prod.fst,(rt:Int)⟩:CSch)=cS (schP p):=by
     unfold cS
     rw [HS.out,List.map_map]
     show _=(⟨(ss.map Prod.fst).map cR,es.map Prod.fst,_⟩:CSch)
     rw [List.map_map]
     rfl
    rw [e,HPR.out.2] at h
    exact h)
   have HSA:Hid (∀ W,Below W7.heap.size W7 W→Calls Tryz.prog 9 #[.agg #[.slice sa7 ss7.length sc7,.slice ea7 es7.length ec7,.int .i64 rt],.agg #[.slice sa ss.length sc,.slice ea es.length ec,.int .i64 rt]] W fun e w'=>e=.returned (.bool true)∧Below W.heap.size W w'):=Lib.hid (fun W hb=>samesch_any W (HN7.out.below hb) (HR7.out.below hb) HSS7.out HES7.out)
   go_upto_region 11 with (fail)
   obtain ⟨hbb,hq1,hq2⟩:=two_blk W7 #[.slice sa7 ss7.length sc7,.slice ea7 es7.length ec7,.int .i64 rt] #[.int .i64 0,.int .i64 0] 30 38
   have HB8:=Lib.hid (HB7.out.trans (hbb.mono HB7.out.size))
   have HX8:=Lib.hid hbb
   have HZ8:=Lib.hid (blk_below HZ7.out hbb (blk_lt HZ7.out))
   have HQ8:=Lib.hid hq1
   have HF8:=Lib.hid hq2
   clear hbb hq1 hq2
   generalize ((W7.alloc (.cells #[.slice sa7 ss7.length sc7,.slice ea7 es7.length ec7,.int .i64 rt] 30)).alloc (.cells #[.int .i64 0,.int .i64 0] 38))=W8 at *
   obtain ⟨_,z0,z1,z2,_⟩:=blk3 HZ8.out
   obtain ⟨_,p0,p1,p2,_⟩:=blk3 HQ8.out
   obtain ⟨_,f0,f1,_⟩:=blk2 HF8.out
   go_wp2_with fail
   refine (HSA.out W8 HX8.out).mono ?_
   rintro e W9 ⟨rfl,hb9⟩
   have HB9:=Lib.hid (HB8.out.trans (hb9.mono HB8.out.size))
   have HX9:=Lib.hid (HX8.out.trans (hb9.mono HX8.out.size))
   have HZ9:=Lib.hid (blk_below HZ8.out hb9 (blk_lt HZ8.out))
   clear hb9 z0 z1 z2 p0 p1 p2 f0 f1
   obtain ⟨_,z0,z1,z2,_⟩:=blk3 HZ9.out
   go_wp2_with fail
   refine (HCK.out W9 HX9.out).mono ?_
   rintro e W10 ⟨rfl,hb10⟩
   have HB10:=Lib.hid (HB9.out.trans (hb10.mono HB9.out.size))
   clear hb10
   go_wp2
   go_ret
   exact ⟨rfl,HB10.out⟩
 · go_wp2
   go_ret
   exact ⟨rfl,HB2.out.alloc (by have:=HB2.out.size;omega) _⟩
end Go.Proofs.YtokhnoogkdlidaaGreatDoor
