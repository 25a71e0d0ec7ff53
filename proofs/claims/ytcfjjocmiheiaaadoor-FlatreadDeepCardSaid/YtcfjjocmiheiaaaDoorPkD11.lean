/-
  Package flatread: a kid's number; a struct's fields; where a kid points to a struct. Conditions: those that each theorem names.
-/
import Derived.Test.YtcfjjocmiheiaaaDoorPkD2
import Derived.Test.YtcfjjocmiheiaaaDoorPkD7
import Derived.Test.YtcfjjocmiheiaaaDoorPkD8
namespace Go.Proofs.YtcfjjocmiheiaaaDoor
open Go.ChangeShapes Go.WideShapes Go.ChangeAt Go.RowKit Go.Shelf
def numAt (zs:List Int)(k:Nat)(at':Int):Int:=if kSign k=true then sgnOf (ldO zs at' (kSize k).toNat) (kSize k) else ldO zs at' (kSize k).toNat
theorem ksize_is {k:Nat}(h:0<kSize k):∃ s:Nat,kSize k=s∧(s=1∨s=2∨s=4∨s=8):=by
 unfold kSize at h ⊢
 split
 · exact ⟨1,rfl,.inl rfl⟩
 split
 · exact ⟨2,rfl,.inr (.inl rfl)⟩
 split
 · exact ⟨4,rfl,.inr (.inr (.inl rfl))⟩
 split
 · exact ⟨8,rfl,.inr (.inr (.inr rfl))⟩
 · rename_i h1 h2 h3 h4
   rw [if_neg h1,if_neg h2,if_neg h3,if_neg h4] at h
   exact absurd h (by decide)
set_option maxRecDepth 100000 in
set_option maxHeartbeats 8000000 in
theorem fnumber_any (w:World){base m:Nat}{bp:Option Addr}{bc:Nat}{sv ev:Value}{zs:List Int}{fs:List (List CFld × Value)}{ns:List Nat}(h:IsMsg base w m bp bc sv ev zs fs ns)(k:Nat)(ref lists at':Int)(d:Nat)(there:Bool)(hk:0<kSize k) :
  Calls Tryd.prog 143 #[.pointer (some ⟨m,0,none⟩),kidV k ref lists at' d there] w fun e w'=>e=.returned (.int .u64 (if there=true then numAt zs k at' else d))∧Below w.heap.size w w':=by
 have hb:=(Below.refl w.heap.size w).alloc (Nat.le_refl _) (.cells #[.int .u8 k,.int .i64 ref,.int .i64 lists,.int .i64 at',.int .u64 d,.bool there] 166)
 have HB:=Lib.hid hb
 have HM:=Lib.hid (h.below hb)
 have HX:=Lib.hid (heap_alloc_new w (.cells #[.int .u8 k,.int .i64 ref,.int .i64 lists,.int .i64 at',.int .u64 d,.bool there] 166))
 obtain ⟨_,x0,x1,x2,x3,x4,x5⟩:=blk6 HX.out
 have hlen:=h.len
 clear hb h
 unfold kidV
 cases there with
 | false =>
  go_enter Tryd.func143,Tryd.ntmps143
  go_wp2
  go_ret
  exact ⟨rfl,HB.out⟩
 | true =>
  obtain ⟨s,hs,hs4⟩:=ksize_is hk
  have HV:Hid (numAt zs k at'=if kSign k=true then sgnOf (ldO zs at' s) s else ldO zs at' s):=Lib.hid (by unfold numAt;rw [hs];rfl)
  obtain ⟨r,hr⟩:∃ r,numAt zs k at'=r:=⟨_,rfl⟩
  rw [hr] at HV
  rw [if_pos rfl,hr]
  have HBY:=Lib.hid HM.out.bytes
  have HL:=Lib.hid (fun W (hb:Below (w.alloc (.cells #[.int .u8 k,.int .i64 ref,.int .i64 lists,.int .i64 at',.int .u64 d,.bool true] 166)).heap.size (w.alloc (.cells #[.int .u8 k,.int .i64 ref,.int .i64 lists,.int .i64 at',.int .u64 d,.bool true] 166)) W)=>load_opt bp bc zs at' s W (HBY.out.below (Nat.le_refl _) hb) hlen hs4)
  have HSZ:Hid (∀ W,Calls Tryd.prog 50 #[.int .u8 k] W fun e w'=>e=.returned (.int .i64 s)∧W=w'):=Lib.hid (fun W=>by have h:=wsize_any (k:Int) W;rw [hs] at h;exact h)
  have HSG:=Lib.hid (fun W=>wsign_any (k:Int) W)
  generalize ldO zs at' s=z at *
  have HSD:=Lib.hid (fun W=>wsigned_any z s W)
  clear hr hs hs4 hk
  generalize inZ (lenZ zs) at' s=b at *
  generalize sgnOf z s=sg at *
  go_enter Tryd.func143,Tryd.ntmps143
  go_upto_region 1 with (fail)
  generalize w.alloc (.cells #[.int .u8 k,.int .i64 ref,.int .i64 lists,.int .i64 at',.int .u64 d,.bool true] 166)=W0 at *
  obtain ⟨_,m0,m1,m2,_⟩:=blk3 HM.out.blk
  go_wp2_with fail
  refine (HSZ.out _).mono ?_
  rintro e _ ⟨rfl,rfl⟩
  go_upto_region 4 with (fail)
  go_quiet (first|(go_at_call 123;exact quiet_same (HL.out _ (bel_drewN (Below.refl _ _) _))))
  go_wp2_with fail
  refine (HSG.out _).mono ?_
  rintro e _ ⟨rfl,rfl⟩
  cases hsg:kSign (k:Int) with
  | true =>
   have HV2:Hid (sg=r):=Lib.hid (by rw [HV.out,if_pos hsg])
   clear hsg HV
   go_wp2_with fail
   refine (HSD.out _).mono ?_
   rintro e _ ⟨rfl,rfl⟩
   go_wp2
   go_ret
   exact ⟨ret_int HV2.out,bel_drewN HB.out _⟩
  | false =>
   have HV2:Hid (z=r):=Lib.hid (by rw [HV.out,hsg];rfl)
   clear hsg HV
   go_wp2
   go_ret
   exact ⟨ret_int HV2.out,bel_drewN HB.out _⟩
def FFieldsPost (fs:List (List CFld × Value))(rec:Int)(e:Ending):Prop:=
 (¬(0≤rec∧rec<fs.length)∧e=.returned (.slice none 0 0))∨(∃ (i:Nat) (hi:i<fs.length),rec=i∧e=.returned (fs[i]'hi).2)
set_option maxHeartbeats 4000000 in
theorem ffields_any (w:World){base m:Nat}{bp:Option Addr}{bc:Nat}{sv ev:Value}{zs:List Int}{fs:List (List CFld × Value)}{ns:List Nat}(h:IsMsg base w m bp bc sv ev zs fs ns)(rec:Int) :
  Calls Tryd.prog 98 #[.pointer (some ⟨m,0,none⟩),.int .i64 rec] w fun e w'=>FFieldsPost fs rec e∧w=w':=by
 obtain ⟨sa,sc,rfl⟩:=ownsRow_form h.structs
 obtain ⟨_,m0,m1,m2,_⟩:=blk3 h.blk
 have hfew:=row_few h.structs
 have HM:=Lib.hid h
 clear h
 by_cases hlo:rec<0
 · go_enter Tryd.func98,Tryd.ntmps98
   go_wp2
   go_ret
   exact ⟨.inl ⟨by omega,rfl⟩,rfl⟩
 obtain ⟨i,rfl⟩:=Int.eq_ofNat_of_zero_le (by omega:0≤rec)
 by_cases hhi:fs.length≤i
 · have t0:(fs.length:Int)≤(i:Int):=by omega
   go_enter Tryd.func98,Tryd.ntmps98
   go_wp2
   go_ret
   exact ⟨.inl ⟨by omega,rfl⟩,rfl⟩
 · have hil:i<fs.length:=by omega
   have t0:¬(fs.length:Int)≤(i:Int):=by omega
   have hib:(i:Int)<fs.length:=by omega
   have hib0:(0:Int)≤(i:Int):=by omega
   obtain ⟨g,cc,hv,hcc,hgl,hcell⟩:=row_el mrowCell 1 (fun _=>rfl) HM.out.structs i hil
   obtain ⟨rfl,rfl⟩:=slice_inj hv
   have y1:w.cell? ⟨g,i,none⟩=some fs[i].2:=by have:=hcell 0 (by omega);rw [Nat.mul_one] at this;exact this
   obtain ⟨fa,fc,hf⟩:=ownsRow_form (HM.out.fields _ (List.getElem_mem hil))
   have HF:=Lib.hid hf
   rw [hf] at y1
   clear hcell hv hf
   generalize fs[i].1.length=fl at *
   go_enter Tryd.func98,Tryd.ntmps98
   go_wp2
   go_ret
   exact ⟨.inr ⟨i,hil,rfl,by rw [HF.out];rfl⟩,rfl⟩
def strV (m:Nat)(ref:Int)(t:TabZ)(p:Int):Value:=.agg #[.pointer (some ⟨m,0,none⟩),.int .i64 ref,.int .i64 p,.int .i64 t.own,.int .i64 t.la,.int .i64 t.size]
def PtdPost (zs:List Int)(m:Nat)(ref at':Int)(there:Bool)(e:Ending):Prop:=
 (∃ to t,there=true∧jumpZ zs at'=some to∧tabZ zs to=some t∧e=.returned (.tuple #[strV m ref t to,.bool true])) ∨
 ((there=true→∀ to,jumpZ zs at'=some to→tabZ zs to=none)∧∃ p r a b c d,e=.returned (.tuple #[.agg #[.pointer p,.int .i64 r,.int .i64 a,.int .i64 b,.int .i64 c,.int .i64 d],.bool false]))
theorem jump_bd {zs:List Int}{at' to:Int}(hz:∀ i,0≤zs.getD i 0∧zs.getD i 0≤255)(h:jumpZ zs at'=some to):0≤at'∧at'≤to∧to≤lenZ zs∧inZ (lenZ zs) at' 4=true:=by
 unfold jumpZ at h
 split at h
 · rename_i h1
   have h2:=inZ_iff.1 h1
   have h3:=leAt_4 zs at'.toNat hz
   split at h
   · injection h with h
     subst h
     exact ⟨h2.1,by omega,by assumption,h1⟩
   · cases h
 · cases h
set_option maxRecDepth 100000 in
set_option maxHeartbeats 8000000 in
theorem fpointed_any (w:World){base m:Nat}{bp:Option Addr}{bc:Nat}{sv ev:Value}{zs:List Int}{fs:List (List CFld × Value)}{ns:List Nat}(h:IsMsg base w m bp bc sv ev zs fs ns)(k:Nat)(ref lists at':Int)(d:Nat)(there:Bool) :
  Calls Tryd.prog 72 #[.pointer (some ⟨m,0,none⟩),kidV k ref lists at' d there] w fun e w'=>PtdPost zs m ref at' there e∧Below w.heap.size w w':=by
 obtain ⟨hb,hq1,hq2⟩:=two_start w #[.int .u8 k,.int .i64 ref,.int .i64 lists,.int .i64 at',.int .u64 d,.bool there] #[.pointer none,.int .i64 0,.int .i64 0,.int .i64 0,.int .i64 0,.int .i64 0] 166 120
 have HB:=Lib.hid hb
 have HM:=Lib.hid (h.below hb)
 have HQ1:=Lib.hid hq1
 have HQ2:=Lib.hid hq2
 have hzb:=h.bytes.1
 have hlen:=h.len
 have HT:=Lib.hid (ftarget_any _ (h.below hb) k ref lists at' d there)
 unfold kidV at *
 clear hb hq1 hq2 h
 obtain ⟨tgt,htgt⟩:∃ tgt,(if there=true then jumpZ zs at' else none)=tgt:=⟨_,rfl⟩
 rw [htgt] at HT
 have HTG:=Lib.hid htgt
 have hbd:∀ to,tgt=some to→0≤to∧to≤16384:=fun to e=>by
  subst e
  cases there with
  | false=>simp at htgt
  | true =>
   have h1:=jump_bd hzb (by simpa using htgt)
   unfold lenZ at h1
   omega
 clear htgt hzb hlen
 obtain ⟨P,hP⟩:∃ P,PtdPost zs m ref at' there=P:=⟨_,rfl⟩
 rw [hP]
 have HP:=Lib.hid hP.symm
 clear hP
 go_enter Tryd.func72,Tryd.ntmps72
 go_upto_region 1 with (fail)
 generalize (w.alloc (.cells #[.int .u8 k,.int .i64 ref,.int .i64 lists,.int .i64 at',.int .u64 d,.bool there] 166)).alloc (.cells #[.pointer none,.int .i64 0,.int .i64 0,.int .i64 0,.int .i64 0,.int .i64 0] 120)=W0 at *
 obtain ⟨_,x0,x1,x2,x3,x4,x5⟩:=blk6 HQ1.out
 go_wp2_with fail
 refine HT.out.mono ?_
 rintro e W1 ⟨rfl,hb1⟩
 have HB1:=Lib.hid (HB.out.trans (hb1.mono HB.out.size))
 have P1:=Lib.hid (blk_below HQ1.out hb1 (blk_lt HQ1.out))
 have P2:=Lib.hid (blk_below HQ2.out hb1 (blk_lt HQ2.out))
 have HM1:=Lib.hid (HM.out.below hb1)
 clear hb1 x0 x1 x2 x3 x4 x5 HQ1 HQ2 HB HM HT
 cases tgt with
 | none =>
  have HPV:=Lib.hid (show ∀ e,(∃ p r a b c d,e=.returned (.tuple #[.agg #[.pointer p,.int .i64 r,.int .i64 a,.int .i64 b,.int .i64 c,.int .i64 d],.bool false]))→P e from fun e he=>by
   rw [HP.out]
   refine .inr ⟨fun ht to hj=>?_,he⟩
   have h1:=HTG.out
   rw [if_pos ht,hj] at h1
   cases h1)
  unfold optV
  clear hbd
  obtain ⟨_,u0,u1,u2,u3,u4,u5⟩:=blk6 P2.out
  have p0:=blk_frozen P2.out 0
  have p1:=blk_frozen P2.out 1
  have p2:=blk_frozen P2.out 2
  have p3:=blk_frozen P2.out 3
  have p4:=blk_frozen P2.out 4
  have p5:=blk_frozen P2.out 5
  go_wp2
  refine post_gen (fun Wf=>Wf.heap[w.heap.size+1]?=some (.cells #[.pointer none,.int .i64 0,.int .i64 0,.int .i64 0,.int .i64 0,.int .i64 0] 120 (0,0))∧Below w.heap.size w Wf) ⟨?_,?_⟩ ?_
  · exact blk_set6 P2.out _ _ _ _ _ _
  · exact below_set6 HB1.out (Nat.le_succ _) _ _ _ _ _ _
  · rintro Wf ⟨e1,e2⟩
    obtain ⟨_,d0,d1,d2,d3,d4,d5⟩:=blk6 e1
    exact bodyPost_ret (v:=.tuple #[.agg #[.pointer none,.int .i64 0,.int .i64 0,.int .i64 0,.int .i64 0,.int .i64 0],.bool false]) (by simp [results,Tryd.results72,go_sem,d0,d1,d2,d3,d4,d5]) rfl ⟨HPV.out _ ⟨_,_,_,_,_,_,rfl⟩,e2⟩
 | some to =>
  have hto:=hbd to rfl
  have HTB:=Lib.hid (ftab_any W1 HM1.out to (by omega))
  unfold optV
  clear hbd
  go_wp2_with fail
  refine HTB.out.mono ?_
  rintro e W2 ⟨htp,hb2⟩
  have HB2:=Lib.hid (HB1.out.trans (hb2.mono HB1.out.size))
  have P3:=Lib.hid (blk_below P1.out hb2 (blk_lt P1.out))
  have P4:=Lib.hid (blk_below P2.out hb2 (blk_lt P2.out))
  obtain ⟨a,b,c,d',ok,rfl,hok⟩:∃ a b c d' ok,e=.returned (.tuple #[.agg #[.int .i64 a,.int .i64 b,.int .i64 c,.int .i64 d'],.bool ok])∧((ok=true∧tabZ zs to=some ⟨b,c,d'⟩∧a=to)∨(ok=false∧tabZ zs to=none)):=by
   rcases htp with ⟨t,ht,rfl⟩|⟨ht,a,b,c,d',rfl⟩
   · exact ⟨to,t.own,t.la,t.size,true,rfl,.inl ⟨rfl,ht,rfl⟩⟩
   · exact ⟨a,b,c,d',false,rfl,.inr ⟨rfl,ht⟩⟩
  have HPV:Hid (P (.returned (.tuple #[.agg #[.pointer (some ⟨m,0,none⟩),.int .i64 ref,.int .i64 a,.int .i64 b,.int .i64 c,.int .i64 d'],.bool ok]))):=Lib.hid (by
   rw [HP.out]
   have h1:=HTG.out
   cases there with
   | false=>cases h1
   | true =>
    rw [if_pos rfl] at h1
    rcases hok with ⟨rfl,ht,rfl⟩|⟨rfl,ht⟩
    · exact .inl ⟨a,⟨b,c,d'⟩,rfl,h1,ht,rfl⟩
    · exact .inr ⟨fun _ to' hj=>by rw [h1] at hj;injection hj with hj;subst hj;exact ht,_,_,_,_,_,_,rfl⟩)
  clear htp hb2 hok HTB
  go_upto_region 5 with (fail)
  have hba:Below W2.heap.size W2 (W2.alloc (.cells #[.int .i64 a,.int .i64 b,.int .i64 c,.int .i64 d'] 118)):=(Below.refl _ _).alloc (Nat.le_refl _) _
  have hn:=heap_alloc_new W2 (.cells #[.int .i64 a,.int .i64 b,.int .i64 c,.int .i64 d'] 118)
  have HB3:=Lib.hid (HB2.out.trans (hba.mono HB2.out.size))
  have P5:=Lib.hid (blk_below P3.out hba (blk_lt P3.out))
  have P6:=Lib.hid (blk_below P4.out hba (blk_lt P4.out))
  clear hba
  generalize W2.alloc (.cells #[.int .i64 a,.int .i64 b,.int .i64 c,.int .i64 d'] 118)=W3 at *
  generalize W2.heap.size=T at *
  obtain ⟨_,y0,y1,y2,y3⟩:=blk4p hn
  obtain ⟨_,x0,x1,x2,x3,x4,x5⟩:=blk6 P5.out
  obtain ⟨_,u0,u1,u2,u3,u4,u5⟩:=blk6 P6.out
  have p0:=blk_frozen P6.out 0
  have p1:=blk_frozen P6.out 1
  have p2:=blk_frozen P6.out 2
  have p3:=blk_frozen P6.out 3
  have p4:=blk_frozen P6.out 4
  have p5:=blk_frozen P6.out 5
  clear hn
  go_wp2
  refine post_gen (fun Wf=>Wf.heap[w.heap.size+1]?=some (.cells #[.pointer (some ⟨m,0,none⟩),.int .i64 ref,.int .i64 a,.int .i64 b,.int .i64 c,.int .i64 d'] 120 (0,0))∧Below w.heap.size w Wf) ⟨?_,?_⟩ ?_
  · exact blk_set6 P6.out _ _ _ _ _ _
  · exact below_set6 HB3.out (Nat.le_succ _) _ _ _ _ _ _
  · rintro Wf ⟨e1,e2⟩
    obtain ⟨_,d0,d1,d2,d3,d4,d5⟩:=blk6 e1
    exact bodyPost_ret (v:=.tuple #[.agg #[.pointer (some ⟨m,0,none⟩),.int .i64 ref,.int .i64 a,.int .i64 b,.int .i64 c,.int .i64 d'],.bool ok]) (by simp [results,Tryd.results72,go_sem,d0,d1,d2,d3,d4,d5]) rfl ⟨HPV.out,e2⟩
end Go.Proofs.YtcfjjocmiheiaaaDoor
