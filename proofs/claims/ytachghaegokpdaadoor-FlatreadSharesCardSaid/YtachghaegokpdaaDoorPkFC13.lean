/-
  Package flatread: the list at a place. Conditions: those that each theorem names.
-/
import Derived.Test.YtachghaegokpdaaDoorPkFC4
import Derived.Test.YtachghaegokpdaaDoorPkFC6
import Derived.Test.YtachghaegokpdaaDoorPkFC10
import Derived.Test.YtachghaegokpdaaDoorPkFC11
namespace Go.Proofs.YtachghaegokpdaaDoor
open Go.ChangeShapes Go.WideShapes Go.ChangeAt Go.RowKit Go.Shelf
def numAt (zs:List Int)(k:Nat)(at':Int):Int:=if kSign k=true then sgnOf (ldO zs at' (kSize k).toNat) (kSize k) else ldO zs at' (kSize k).toNat
theorem ksize_is {k:Nat}(h:0<kSize k):∃ s:Nat,kSize k=s∧(s=1∨s=2∨s=4∨s=8):=by
 unfold kSize at h ⊢
 split
 · exact ⟨1,rfl,.inl rfl⟩
 split
 · exact ⟨2,rfl,.inr (.inl rfl)⟩
 split
 · exact ⟨4,rfl,.inr (.inr (.inl rfl))⟩
 split
 · exact ⟨8,rfl,.inr (.inr (.inr rfl))⟩
 · rename_i h1 h2 h3 h4
   rw [if_neg h1,if_neg h2,if_neg h3,if_neg h4] at h
   exact absurd h (by decide)
set_option maxRecDepth 100000 in
set_option maxHeartbeats 8000000 in
theorem fnumber_any (w:World){base m:Nat}{bp:Option Addr}{bc:Nat}{sv ev:Value}{zs:List Int}{fs:List (List CFld × Value)}{ns:List Nat}(h:IsMsg base w m bp bc sv ev zs fs ns)(k:Nat)(ref lists at':Int)(d:Nat)(there:Bool)(hk:0<kSize k) :
  Calls Tryd.prog 121 #[.pointer (some ⟨m,0,none⟩),kidV k ref lists at' d there] w fun e w'=>e=.returned (.int .u64 (if there=true then numAt zs k at' else d))∧Below w.heap.size w w':=by
 have hb:=(Below.refl w.heap.size w).alloc (Nat.le_refl _) (.cells #[.int .u8 k,.int .i64 ref,.int .i64 lists,.int .i64 at',.int .u64 d,.bool there] 170)
 have HB:=Lib.hid hb
 have HM:=Lib.hid (h.below hb)
 have HX:=Lib.hid (heap_alloc_new w (.cells #[.int .u8 k,.int .i64 ref,.int .i64 lists,.int .i64 at',.int .u64 d,.bool there] 170))
 obtain ⟨_,x0,x1,x2,x3,x4,x5⟩:=blk6 HX.out
 have hlen:=h.len
 clear hb h
 unfold kidV
 cases there with
 | false =>
  go_enter Tryd.func121,Tryd.ntmps121
  go_wp2
  go_ret
  exact ⟨rfl,HB.out⟩
 | true =>
  obtain ⟨s,hs,hs4⟩:=ksize_is hk
  have HV:Hid (numAt zs k at'=if kSign k=true then sgnOf (ldO zs at' s) s else ldO zs at' s):=Lib.hid (by unfold numAt;rw [hs];rfl)
  obtain ⟨r,hr⟩:∃ r,numAt zs k at'=r:=⟨_,rfl⟩
  rw [hr] at HV
  rw [if_pos rfl,hr]
  have HBY:=Lib.hid HM.out.bytes
  have HL:=Lib.hid (fun W (hb:Below (w.alloc (.cells #[.int .u8 k,.int .i64 ref,.int .i64 lists,.int .i64 at',.int .u64 d,.bool true] 170)).heap.size (w.alloc (.cells #[.int .u8 k,.int .i64 ref,.int .i64 lists,.int .i64 at',.int .u64 d,.bool true] 170)) W)=>load_opt bp bc zs at' s W (HBY.out.below (Nat.le_refl _) hb) hlen hs4)
  have HSZ:Hid (∀ W,Calls Tryd.prog 44 #[.int .u8 k] W fun e w'=>e=.returned (.int .i64 s)∧W=w'):=Lib.hid (fun W=>by have h:=wsize_any (k:Int) W;rw [hs] at h;exact h)
  have HSG:=Lib.hid (fun W=>wsign_any (k:Int) W)
  generalize ldO zs at' s=z at *
  have HSD:=Lib.hid (fun W=>wsigned_any z s W)
  clear hr hs hs4 hk
  generalize inZ (lenZ zs) at' s=b at *
  generalize sgnOf z s=sg at *
  go_enter Tryd.func121,Tryd.ntmps121
  go_upto_region 1 with (fail)
  generalize w.alloc (.cells #[.int .u8 k,.int .i64 ref,.int .i64 lists,.int .i64 at',.int .u64 d,.bool true] 170)=W0 at *
  obtain ⟨_,m0,m1,m2,_⟩:=blk3 HM.out.blk
  go_wp2_with fail
  refine (HSZ.out _).mono ?_
  rintro e _ ⟨rfl,rfl⟩
  go_upto_region 4 with (fail)
  go_quiet (first|(go_at_call 111;exact quiet_same (HL.out _ (bel_drewN (Below.refl _ _) _))))
  go_wp2_with fail
  refine (HSG.out _).mono ?_
  rintro e _ ⟨rfl,rfl⟩
  cases hsg:kSign (k:Int) with
  | true =>
   have HV2:Hid (sg=r):=Lib.hid (by rw [HV.out,if_pos hsg])
   clear hsg HV
   go_wp2_with fail
   refine (HSD.out _).mono ?_
   rintro e _ ⟨rfl,rfl⟩
   go_wp2
   go_ret
   exact ⟨ret_int HV2.out,bel_drewN HB.out _⟩
  | false =>
   have HV2:Hid (z=r):=Lib.hid (by rw [HV.out,hsg];rfl)
   clear hsg HV
   go_wp2
   go_ret
   exact ⟨ret_int HV2.out,bel_drewN HB.out _⟩
def FFieldsPost (fs:List (List CFld × Value))(rec:Int)(e:Ending):Prop:=
 (¬(0≤rec∧rec<fs.length)∧e=.returned (.slice none 0 0))∨(∃ (i:Nat) (hi:i<fs.length),rec=i∧e=.returned (fs[i]'hi).2)
set_option maxHeartbeats 4000000 in
theorem ffields_any (w:World){base m:Nat}{bp:Option Addr}{bc:Nat}{sv ev:Value}{zs:List Int}{fs:List (List CFld × Value)}{ns:List Nat}(h:IsMsg base w m bp bc sv ev zs fs ns)(rec:Int) :
  Calls Tryd.prog 100 #[.pointer (some ⟨m,0,none⟩),.int .i64 rec] w fun e w'=>FFieldsPost fs rec e∧w=w':=by
 obtain ⟨sa,sc,rfl⟩:=ownsRow_form h.structs
 obtain ⟨_,m0,m1,m2,_⟩:=blk3 h.blk
 have hfew:=row_few h.structs
 have HM:=Lib.hid h
 clear h
 by_cases hlo:rec<0
 · go_enter Tryd.func100,Tryd.ntmps100
   go_wp2
   go_ret
   exact ⟨.inl ⟨by omega,rfl⟩,rfl⟩
 obtain ⟨i,rfl⟩:=Int.eq_ofNat_of_zero_le (by omega:0≤rec)
 by_cases hhi:fs.length≤i
 · have t0:(fs.length:Int)≤(i:Int):=by omega
   go_enter Tryd.func100,Tryd.ntmps100
   go_wp2
   go_ret
   exact ⟨.inl ⟨by omega,rfl⟩,rfl⟩
 · have hil:i<fs.length:=by omega
   have t0:¬(fs.length:Int)≤(i:Int):=by omega
   have hib:(i:Int)<fs.length:=by omega
   have hib0:(0:Int)≤(i:Int):=by omega
   obtain ⟨g,cc,hv,hcc,hgl,hcell⟩:=row_el mrowCell 1 (fun _=>rfl) HM.out.structs i hil
   obtain ⟨rfl,rfl⟩:=slice_inj hv
   have y1:w.cell? ⟨g,i,none⟩=some fs[i].2:=by have:=hcell 0 (by omega);rw [Nat.mul_one] at this;exact this
   obtain ⟨fa,fc,hf⟩:=ownsRow_form (HM.out.fields _ (List.getElem_mem hil))
   have HF:=Lib.hid hf
   rw [hf] at y1
   clear hcell hv hf
   generalize fs[i].1.length=fl at *
   go_enter Tryd.func100,Tryd.ntmps100
   go_wp2
   go_ret
   exact ⟨.inr ⟨i,hil,rfl,by rw [HF.out];rfl⟩,rfl⟩
def strV (m:Nat)(ref:Int)(t:TabZ)(p:Int):Value:=.agg #[.pointer (some ⟨m,0,none⟩),.int .i64 ref,.int .i64 p,.int .i64 t.own,.int .i64 t.la,.int .i64 t.size]
def PtdPost (zs:List Int)(m:Nat)(ref at':Int)(there:Bool)(e:Ending):Prop:=
 (∃ to t,there=true∧jumpZ zs at'=some to∧tabZ zs to=some t∧e=.returned (.tuple #[strV m ref t to,.bool true])) ∨
 ((there=true→∀ to,jumpZ zs at'=some to→tabZ zs to=none)∧∃ p r a b c d,e=.returned (.tuple #[.agg #[.pointer p,.int .i64 r,.int .i64 a,.int .i64 b,.int .i64 c,.int .i64 d],.bool false]))
theorem jump_bd {zs:List Int}{at' to:Int}(hz:∀ i,0≤zs.getD i 0∧zs.getD i 0≤255)(h:jumpZ zs at'=some to):0≤at'∧at'≤to∧to≤lenZ zs∧inZ (lenZ zs) at' 4=true:=by
 unfold jumpZ at h
 split at h
 · rename_i h1
   have h2:=inZ_iff.1 h1
   have h3:=leAt_4 zs at'.toNat hz
   split at h
   · injection h with h
     subst h
     exact ⟨h2.1,by omega,by assumption,h1⟩
   · cases h
 · cases h
set_option maxRecDepth 100000 in
set_option maxHeartbeats 8000000 in
theorem fpointed_any (w:World){base m:Nat}{bp:Option Addr}{bc:Nat}{sv ev:Value}{zs:List Int}{fs:List (List CFld × Value)}{ns:List Nat}(h:IsMsg base w m bp bc sv ev zs fs ns)(k:Nat)(ref lists at':Int)(d:Nat)(there:Bool) :
  Calls Tryd.prog 82 #[.pointer (some ⟨m,0,none⟩),kidV k ref lists at' d there] w fun e w'=>PtdPost zs m ref at' there e∧Below w.heap.size w w':=by
 obtain ⟨hb,hq1,hq2⟩:=two_start w #[.int .u8 k,.int .i64 ref,.int .i64 lists,.int .i64 at',.int .u64 d,.bool there] #[.pointer none,.int .i64 0,.int .i64 0,.int .i64 0,.int .i64 0,.int .i64 0] 170 135
 have HB:=Lib.hid hb
 have HM:=Lib.hid (h.below hb)
 have HQ1:=Lib.hid hq1
 have HQ2:=Lib.hid hq2
 have hzb:=h.bytes.1
 have hlen:=h.len
 have HT:=Lib.hid (ftarget_any _ (h.below hb) k ref lists at' d there)
 unfold kidV at *
 clear hb hq1 hq2 h
 obtain ⟨tgt,htgt⟩:∃ tgt,(if there=true then jumpZ zs at' else none)=tgt:=⟨_,rfl⟩
 rw [htgt] at HT
 have HTG:=Lib.hid htgt
 have hbd:∀ to,tgt=some to→0≤to∧to≤16384:=fun to e=>by
  subst e
  cases there with
  | false=>simp at htgt
  | true =>
   have h1:=jump_bd hzb (by simpa using htgt)
   unfold lenZ at h1
   omega
 clear htgt hzb hlen
 obtain ⟨P,hP⟩:∃ P,PtdPost zs m ref at' there=P:=⟨_,rfl⟩
 rw [hP]
 have HP:=Lib.hid hP.symm
 clear hP
 go_enter Tryd.func82,Tryd.ntmps82
 go_upto_region 1 with (fail)
 generalize (w.alloc (.cells #[.int .u8 k,.int .i64 ref,.int .i64 lists,.int .i64 at',.int .u64 d,.bool there] 170)).alloc (.cells #[.pointer none,.int .i64 0,.int .i64 0,.int .i64 0,.int .i64 0,.int .i64 0] 135)=W0 at *
 obtain ⟨_,x0,x1,x2,x3,x4,x5⟩:=blk6 HQ1.out
 go_wp2_with fail
 refine HT.out.mono ?_
 rintro e W1 ⟨rfl,hb1⟩
 have HB1:=Lib.hid (HB.out.trans (hb1.mono HB.out.size))
 have P1:=Lib.hid (blk_below HQ1.out hb1 (blk_lt HQ1.out))
 have P2:=Lib.hid (blk_below HQ2.out hb1 (blk_lt HQ2.out))
 have HM1:=Lib.hid (HM.out.below hb1)
 clear hb1 x0 x1 x2 x3 x4 x5 HQ1 HQ2 HB HM HT
 cases tgt with
 | none =>
  have HPV:=Lib.hid (show ∀ e,(∃ p r a b c d,e=.returned (.tuple #[.agg #[.pointer p,.int .i64 r,.int .i64 a,.int .i64 b,.int .i64 c,.int .i64 d],.bool false]))→P e from fun e he=>by
   rw [HP.out]
   refine .inr ⟨fun ht to hj=>?_,he⟩
   have h1:=HTG.out
   rw [if_pos ht,hj] at h1
   cases h1)
  unfold optV
  clear hbd
  obtain ⟨_,u0,u1,u2,u3,u4,u5⟩:=blk6 P2.out
  have p0:=blk_frozen P2.out 0
  have p1:=blk_frozen P2.out 1
  have p2:=blk_frozen P2.out 2
  have p3:=blk_frozen P2.out 3
  have p4:=blk_frozen P2.out 4
  have p5:=blk_frozen P2.out 5
  go_wp2
  refine post_gen (fun Wf=>Wf.heap[w.heap.size+1]?=some (.cells #[.pointer none,.int .i64 0,.int .i64 0,.int .i64 0,.int .i64 0,.int .i64 0] 135 (0,0))∧Below w.heap.size w Wf) ⟨?_,?_⟩ ?_
  · exact blk_set6 P2.out _ _ _ _ _ _
  · exact below_set6 HB1.out (Nat.le_succ _) _ _ _ _ _ _
  · rintro Wf ⟨e1,e2⟩
    obtain ⟨_,d0,d1,d2,d3,d4,d5⟩:=blk6 e1
    exact bodyPost_ret (v:=.tuple #[.agg #[.pointer none,.int .i64 0,.int .i64 0,.int .i64 0,.int .i64 0,.int .i64 0],.bool false]) (by simp [results,Tryd.results82,go_sem,d0,d1,d2,d3,d4,d5]) rfl ⟨HPV.out _ ⟨_,_,_,_,_,_,rfl⟩,e2⟩
 | some to =>
  have hto:=hbd to rfl
  have HTB:=Lib.hid (ftab_any W1 HM1.out to (by omega))
  unfold optV
  clear hbd
  go_wp2_with fail
  refine HTB.out.mono ?_
  rintro e W2 ⟨htp,hb2⟩
  have HB2:=Lib.hid (HB1.out.trans (hb2.mono HB1.out.size))
  have P3:=Lib.hid (blk_below P1.out hb2 (blk_lt P1.out))
  have P4:=Lib.hid (blk_below P2.out hb2 (blk_lt P2.out))
  obtain ⟨a,b,c,d',ok,rfl,hok⟩:∃ a b c d' ok,e=.returned (.tuple #[.agg #[.int .i64 a,.int .i64 b,.int .i64 c,.int .i64 d'],.bool ok])∧((ok=true∧tabZ zs to=some ⟨b,c,d'⟩∧a=to)∨(ok=false∧tabZ zs to=none)):=by
   rcases htp with ⟨t,ht,rfl⟩|⟨ht,a,b,c,d',rfl⟩
   · exact ⟨to,t.own,t.la,t.size,true,rfl,.inl ⟨rfl,ht,rfl⟩⟩
   · exact ⟨a,b,c,d',false,rfl,.inr ⟨rfl,ht⟩⟩
  have HPV:Hid (P (.returned (.tuple #[.agg #[.pointer (some ⟨m,0,none⟩),.int .i64 ref,.int .i64 a,.int .i64 b,.int .i64 c,.int .i64 d'],.bool ok]))):=Lib.hid (by
   rw [HP.out]
   have h1:=HTG.out
   cases there with
   | false=>cases h1
   | true =>
    rw [if_pos rfl] at h1
    rcases hok with ⟨rfl,ht,rfl⟩|⟨rfl,ht⟩
    · exact .inl ⟨a,⟨b,c,d'⟩,rfl,h1,ht,rfl⟩
    · exact .inr ⟨fun _ to' hj=>by rw [h1] at hj;injection hj with hj;subst hj;exact ht,_,_,_,_,_,_,rfl⟩)
  clear htp hb2 hok HTB
  go_upto_region 5 with (fail)
  have hba:Below W2.heap.size W2 (W2.alloc (.cells #[.int .i64 a,.int .i64 b,.int .i64 c,.int .i64 d'] 133)):=(Below.refl _ _).alloc (Nat.le_refl _) _
  have hn:=heap_alloc_new W2 (.cells #[.int .i64 a,.int .i64 b,.int .i64 c,.int .i64 d'] 133)
  have HB3:=Lib.hid (HB2.out.trans (hba.mono HB2.out.size))
  have P5:=Lib.hid (blk_below P3.out hba (blk_lt P3.out))
  have P6:=Lib.hid (blk_below P4.out hba (blk_lt P4.out))
  clear hba
  generalize W2.alloc (.cells #[.int .i64 a,.int .i64 b,.int .i64 c,.int .i64 d'] 133)=W3 at *
  generalize W2.heap.size=T at *
  obtain ⟨_,y0,y1,y2,y3⟩:=blk4p hn
  obtain ⟨_,x0,x1,x2,x3,x4,x5⟩:=blk6 P5.out
  obtain ⟨_,u0,u1,u2,u3,u4,u5⟩:=blk6 P6.out
  have p0:=blk_frozen P6.out 0
  have p1:=blk_frozen P6.out 1
  have p2:=blk_frozen P6.out 2
  have p3:=blk_frozen P6.out 3
  have p4:=blk_frozen P6.out 4
  have p5:=blk_frozen P6.out 5
  clear hn
  go_wp2
  refine post_gen (fun Wf=>Wf.heap[w.heap.size+1]?=some (.cells #[.pointer (some ⟨m,0,none⟩),.int .i64 ref,.int .i64 a,.int .i64 b,.int .i64 c,.int .i64 d'] 135 (0,0))∧Below w.heap.size w Wf) ⟨?_,?_⟩ ?_
  · exact blk_set6 P6.out _ _ _ _ _ _
  · exact below_set6 HB3.out (Nat.le_succ _) _ _ _ _ _ _
  · rintro Wf ⟨e1,e2⟩
    obtain ⟨_,d0,d1,d2,d3,d4,d5⟩:=blk6 e1
    exact bodyPost_ret (v:=.tuple #[.agg #[.pointer (some ⟨m,0,none⟩),.int .i64 ref,.int .i64 a,.int .i64 b,.int .i64 c,.int .i64 d'],.bool ok]) (by simp [results,Tryd.results82,go_sem,d0,d1,d2,d3,d4,d5]) rfl ⟨HPV.out,e2⟩
end Go.Proofs.YtachghaegokpdaaDoor
namespace Go.Proofs.YtachghaegokpdaaDoor
open Go.ChangeShapes Go.WideShapes Go.ChangeAt Go.RowKit Go.Shelf
def listV (m k:Nat)(ref lists at' count size:Int):Value:=.agg #[.pointer (some ⟨m,0,none⟩),.int .u8 k,.int .i64 ref,.int .i64 lists,.int .i64 at',.int .i64 count,.int .i64 size]
def noList:Value:=.agg #[.pointer none,.int .u8 0,.int .i64 0,.int .i64 0,.int .i64 0,.int .i64 0,.int .i64 0]
def itemsOk (zs:List Int)(k:Nat)(lists at':Int):Bool:=inZ (lenZ zs) at' 4&&inZ (lenZ zs) (at'+4) (leAt zs at'.toNat 4 * stepZ k lists)
def FItemsPost (zs:List Int)(m k:Nat)(ref lists at':Int)(e:Ending):Prop:=
 (itemsOk zs k lists at'=true∧e=.returned (.tuple #[listV m k ref lists (at'+4) (leAt zs at'.toNat 4) (stepZ k lists),.bool true]))∨(itemsOk zs k lists at'=false∧e=.returned (.tuple #[noList,.bool false]))
theorem sort_num (k:Nat)(lists:Int):sortP k lists=1 ↔ numTB k lists=true:=by
 unfold sortP numTB
 rw [Bool.and_eq_true,decide_eq_true_iff,decide_eq_true_iff]
 constructor
 · intro h
   split at h
   · cases h
   split at h
   · cases h
   split at h
   · exact ⟨by omega,by assumption⟩
   split at h
   · cases h
   split at h<;>cases h
 · rintro ⟨h1,h2⟩
   rw [if_neg (by omega),if_neg (by omega),if_pos h2]
theorem step_bd (k:Nat)(lists:Int):1≤stepZ k lists∧stepZ k lists≤8:=by
 unfold stepZ
 split
 · rename_i h
   unfold numTB at h
   rw [Bool.and_eq_true,decide_eq_true_iff,decide_eq_true_iff] at h
   obtain ⟨s,h1,h2⟩:=ksize_is h.2
   omega
 · omega
set_option maxRecDepth 100000 in
set_option maxHeartbeats 8000000 in
theorem fitems_any (w:World){base m:Nat}{bp:Option Addr}{bc:Nat}{sv ev:Value}{zs:List Int}{fs:List (List CFld × Value)}{ns:List Nat}(h:IsMsg base w m bp bc sv ev zs fs ns)(k:Nat)(ref lists at':Int) :
  Calls Tryd.prog 123 #[.pointer (some ⟨m,0,none⟩),.int .i64 at',.agg #[.int .u8 k,.int .i64 ref,.int .i64 lists]] w fun e w'=>FItemsPost zs m k ref lists at' e∧Below w.heap.size w w':=by
 obtain ⟨hb,hq1,hq2⟩:=two_start w #[.int .u8 k,.int .i64 ref,.int .i64 lists] #[.pointer none,.int .u8 0,.int .i64 0,.int .i64 0,.int .i64 0,.int .i64 0,.int .i64 0] 58 211
 have HB:=Lib.hid hb
 have HM:=Lib.hid (h.below hb)
 have HQ1:=Lib.hid hq1
 have HQ2:=Lib.hid hq2
 have hlen:=h.len
 have hzb:=h.bytes.1
 clear hb hq1 hq2 h
 by_cases hin:inZ (lenZ zs) at' 4=true
 case neg =>
  have HV:Hid (itemsOk zs k lists at'=false):=Lib.hid (by unfold itemsOk;rw [Bool.not_eq_true _ |>.mp hin];rfl)
  have HL:Hid (∀ W,Calls Tryd.prog 111 #[.slice bp zs.length bc,.int .i64 at',.int .i64 4] W fun e w'=>e=.returned (.tuple #[.int .u64 0,.bool false])∧W=w'):=Lib.hid (fun W=>load_out bp bc zs at' 4 W hlen hin)
  clear hin hzb
  go_enter Tryd.func123,Tryd.ntmps123
  go_upto_region 1 with (fail)
  generalize (w.alloc (.cells #[.int .u8 k,.int .i64 ref,.int .i64 lists] 58)).alloc (.cells #[.pointer none,.int .u8 0,.int .i64 0,.int .i64 0,.int .i64 0,.int .i64 0,.int .i64 0] 211)=W0 at *
  obtain ⟨_,m0,m1,m2,_⟩:=blk3 HM.out.blk
  obtain ⟨_,u0,u1,u2,u3,u4,u5,u6⟩:=blk7 HQ2.out
  have p0:=blk_frozen HQ2.out 0
  have p1:=blk_frozen HQ2.out 1
  have p2:=blk_frozen HQ2.out 2
  have p3:=blk_frozen HQ2.out 3
  have p4:=blk_frozen HQ2.out 4
  have p5:=blk_frozen HQ2.out 5
  have p6:=blk_frozen HQ2.out 6
  go_wp2_with fail
  refine (HL.out _).mono ?_
  rintro e _ ⟨rfl,rfl⟩
  go_wp2
  refine post_gen (fun Wf=>Wf.heap[w.heap.size+1]?=some (.cells #[.pointer none,.int .u8 0,.int .i64 0,.int .i64 0,.int .i64 0,.int .i64 0,.int .i64 0] 211 (0,0))∧Below w.heap.size w Wf) ⟨?_,?_⟩ ?_
  · exact blk_set7 HQ2.out _ _ _ _ _ _ _
  · exact below_set7 HB.out (Nat.le_succ _) _ _ _ _ _ _ _
  · rintro Wf ⟨e1,e2⟩
    obtain ⟨_,d0,d1,d2,d3,d4,d5,d6⟩:=blk7 e1
    exact bodyPost_ret (v:=.tuple #[.agg #[.pointer none,.int .u8 0,.int .i64 0,.int .i64 0,.int .i64 0,.int .i64 0,.int .i64 0],.bool false]) (by simp [results,Tryd.results123,go_sem,d0,d1,d2,d3,d4,d5,d6]) rfl ⟨.inr ⟨HV.out,rfl⟩,e2⟩
 have h1:=inZ_iff.1 hin
 have hz:lenZ zs=(zs.length:Int):=rfl
 rw [hz] at h1
 have hld:=leAt_4 zs at'.toNat hzb
 have HL:Hid (∀ W,Below ((w.alloc (.cells #[.int .u8 k,.int .i64 ref,.int .i64 lists] 58)).alloc (.cells #[.pointer none,.int .u8 0,.int .i64 0,.int .i64 0,.int .i64 0,.int .i64 0,.int .i64 0] 211)).heap.size ((w.alloc (.cells #[.int .u8 k,.int .i64 ref,.int .i64 lists] 58)).alloc (.cells #[.pointer none,.int .u8 0,.int .i64 0,.int .i64 0,.int .i64 0,.int .i64 0,.int .i64 0] 211)) W→Calls Tryd.prog 111 #[.slice bp zs.length bc,.int .i64 at',.int .i64 4] W fun e w'=>e=.returned (.tuple #[.int .u64 (leAt zs at'.toNat 4),.bool true])∧W=w'):=Lib.hid (fun W hb=>load_in _ bc zs at' 4 W (HM.out.bytes.below (Nat.le_refl _) hb) hlen hin (by decide))
 have hw4:=IntWalk.i64_in (at'+4) ⟨by omega,by omega⟩
 obtain ⟨P,hP⟩:∃ P,FItemsPost zs m k ref lists at'=P:=⟨_,rfl⟩
 rw [hP]
 have HP:=Lib.hid hP.symm
 clear hP
 unfold FItemsPost itemsOk listV noList at HP
 rw [hin,Bool.true_and] at HP
 generalize leAt zs at'.toNat 4=n at *
 have hcv:=IntWalk.i64_in n ⟨by omega,by omega⟩
 have hsb:=step_bd k lists
 obtain ⟨st,hst⟩:∃ st,stepZ k lists=st:=⟨_,rfl⟩
 rw [hst] at HP hsb
 have hns:0≤n * st∧n * st≤4294967296 * 8:=⟨Int.mul_nonneg hld.1 (by omega),Int.le_trans (Int.mul_le_mul_of_nonneg_right (Int.le_of_lt hld.2) (by omega)) (Int.mul_le_mul_of_nonneg_left hsb.2 (by decide))⟩
 have hwm:=IntWalk.i64_in (n * st) ⟨by omega,by omega⟩
 have HWI:=Lib.hid (fun W=>within_opt bp zs bc (at'+4) (n * st) W hlen)
 generalize inZ (lenZ zs) (at'+4) (n * st)=ok at *
 have HSO:=Lib.hid (fun W=>sorts_any k ref lists W)
 clear hin hzb hld hns
 by_cases hs:sortP k lists=1
 case' pos =>
  obtain rfl:kSize k=st:=by rw [←hst];unfold stepZ;rw [if_pos ((sort_num k lists).1 hs)]
  have HSZ:=Lib.hid (fun W=>wsize_any (k:Int) W)
  rw [hs] at HSO
  generalize kSize k=st at *
 case' neg =>
  obtain rfl:4=st:=by rw [←hst];unfold stepZ;rw [if_neg (fun h=>hs ((sort_num k lists).2 h))]
  have t1:((sortP k lists:Nat):Int)≠1:=by omega
  have t1':(((sortP k lists:Nat):Int)==1)=false:=by simpa using t1
  generalize ((sortP k lists:Nat):Int)=so at *
 all_goals
  clear hs hst
  go_enter Tryd.func123,Tryd.ntmps123
  go_upto_region 1 with (fail)
  generalize (w.alloc (.cells #[.int .u8 k,.int .i64 ref,.int .i64 lists] 58)).alloc (.cells #[.pointer none,.int .u8 0,.int .i64 0,.int .i64 0,.int .i64 0,.int .i64 0,.int .i64 0] 211)=W0 at *
  obtain ⟨_,m0,m1,m2,_⟩:=blk3 HM.out.blk
  obtain ⟨_,t0,t1,t2,_⟩:=blk3 HQ1.out
  go_wp2_with fail
  refine (HL.out _ (Below.refl _ _)).mono ?_
  rintro e _ ⟨rfl,rfl⟩
  go_upto_region 5 with (fail)
  have hba:Below W0.heap.size W0 (W0.alloc (.cells #[.pointer (some ⟨m,0,none⟩),.int .u8 k,.int .i64 ref,.int .i64 lists,.int .i64 (at'+4),.int .i64 n,.int .i64 4] 211)):=(Below.refl _ _).alloc (Nat.le_refl _) _
  have hn:=heap_alloc_new W0 (.cells #[.pointer (some ⟨m,0,none⟩),.int .u8 k,.int .i64 ref,.int .i64 lists,.int .i64 (at'+4),.int .i64 n,.int .i64 4] 211)
  have HB1:=Lib.hid (HB.out.trans (hba.mono HB.out.size))
  have HQ3:=Lib.hid (blk_below HQ2.out hba (blk_lt HQ2.out))
  have HQ4:=Lib.hid (blk_below HQ1.out hba (blk_lt HQ1.out))
  have HM1:=Lib.hid (HM.out.below hba)
  have HT0:Hid (w.heap.size+1<W0.heap.size):=Lib.hid (blk_lt HQ2.out)
  have HMT:Hid (m<W0.heap.size):=Lib.hid (blk_lt HM.out.blk)
  have HNB:=Lib.hid hn
  clear hba hn m0 m1 m2 t0 t1 t2
  generalize W0.alloc (.cells #[.pointer (some ⟨m,0,none⟩),.int .u8 k,.int .i64 ref,.int .i64 lists,.int .i64 (at'+4),.int .i64 n,.int .i64 4] 211)=W1 at *
  generalize W0.heap.size=L at *
  obtain ⟨_,t0,t1,t2,_⟩:=blk3 HQ4.out
  go_wp2_with fail
  refine (HSO.out _).mono ?_
  rintro e W2 ⟨rfl,hb2⟩
  have HB2:=Lib.hid (HB1.out.trans (hb2.mono HB1.out.size))
  have HQ5:=Lib.hid (blk_below HQ3.out hb2 (blk_lt HQ3.out))
  have HQ6:=Lib.hid (blk_below HQ4.out hb2 (blk_lt HQ4.out))
  have HM2:=Lib.hid (HM1.out.below hb2)
  have HN2:=Lib.hid (blk_below HNB.out hb2 (blk_lt HNB.out))
  clear hb2 t0 t1 t2
 · obtain ⟨_,m0,m1,m2,_⟩:=blk3 HM2.out.blk
   obtain ⟨_,l0,l1,l2,l3,l4,l5,l6⟩:=blk7 HN2.out
   obtain ⟨_,u0,u1,u2,u3,u4,u5,u6⟩:=blk7 HQ5.out
   have p0:=blk_frozen HQ5.out 0
   have p1:=blk_frozen HQ5.out 1
   have p2:=blk_frozen HQ5.out 2
   have p3:=blk_frozen HQ5.out 3
   have p4:=blk_frozen HQ5.out 4
   have p5:=blk_frozen HQ5.out 5
   have p6:=blk_frozen HQ5.out 6
   go_upto_region 7 with (fail)
   go_quiet (first|(go_at_call 114;exact quiet_same (HWI.out _)))
   cases ok with
   | false =>
    have HPV:Hid (P (.returned (.tuple #[.agg #[.pointer none,.int .u8 0,.int .i64 0,.int .i64 0,.int .i64 0,.int .i64 0,.int .i64 0],.bool false]))):=Lib.hid (by rw [HP.out];exact .inr ⟨rfl,rfl⟩)
    go_wp2
    refine post_gen (fun Wf=>Wf.heap[w.heap.size+1]?=some (.cells #[.pointer none,.int .u8 0,.int .i64 0,.int .i64 0,.int .i64 0,.int .i64 0,.int .i64 0] 211 (0,0))∧Below w.heap.size w Wf) ⟨?_,?_⟩ ?_
    · exact blk_set7 (w:=W2.drewN _) HQ5.out _ _ _ _ _ _ _
    · exact below_set7 (bel_drewN HB2.out _) (Nat.le_succ _) _ _ _ _ _ _ _
    · rintro Wf ⟨e1,e2⟩
      obtain ⟨_,d0,d1,d2,d3,d4,d5,d6⟩:=blk7 e1
      exact bodyPost_ret (v:=.tuple #[.agg #[.pointer none,.int .u8 0,.int .i64 0,.int .i64 0,.int .i64 0,.int .i64 0,.int .i64 0],.bool false]) (by simp [results,Tryd.results123,go_sem,d0,d1,d2,d3,d4,d5,d6]) rfl ⟨HPV.out,e2⟩
   | true =>
    have HPV:Hid (P (.returned (.tuple #[.agg #[.pointer (some ⟨m,0,none⟩),.int .u8 k,.int .i64 ref,.int .i64 lists,.int .i64 (at'+4),.int .i64 n,.int .i64 4],.bool true]))):=Lib.hid (by rw [HP.out];exact .inl ⟨rfl,rfl⟩)
    go_wp2
    refine post_gen (fun Wf=>Wf.heap[w.heap.size+1]?=some (.cells #[.pointer (some ⟨m,0,none⟩),.int .u8 k,.int .i64 ref,.int .i64 lists,.int .i64 (at'+4),.int .i64 n,.int .i64 4] 211 (0,0))∧Below w.heap.size w Wf) ⟨?_,?_⟩ ?_
    · exact blk_set7 (w:=W2.drewN _) HQ5.out _ _ _ _ _ _ _
    · exact below_set7 (bel_drewN HB2.out _) (Nat.le_succ _) _ _ _ _ _ _ _
    · rintro Wf ⟨e1,e2⟩
      obtain ⟨_,d0,d1,d2,d3,d4,d5,d6⟩:=blk7 e1
      exact bodyPost_ret (v:=.tuple #[.agg #[.pointer (some ⟨m,0,none⟩),.int .u8 k,.int .i64 ref,.int .i64 lists,.int .i64 (at'+4),.int .i64 n,.int .i64 4],.bool true]) (by simp [results,Tryd.results123,go_sem,d0,d1,d2,d3,d4,d5,d6]) rfl ⟨HPV.out,e2⟩
 · obtain ⟨_,t0,t1,t2,_⟩:=blk3 HQ6.out
   go_wp2_with fail
   refine (HSZ.out _).mono ?_
   rintro e _ ⟨rfl,rfl⟩
   have HB3:=Lib.hid (HB2.out.setCell (p:=⟨L,6,none⟩) (by have:=HT0.out;show w.heap.size≤L;omega) (.int .i64 st))
   have HQ7:=Lib.hid (blk_set_ne HQ5.out (p:=⟨L,6,none⟩) (by have:=HT0.out;show L≠_;omega) (.int .i64 st))
   have HM3:=Lib.hid (blk_set_ne HM2.out.blk (p:=⟨L,6,none⟩) (by have:=HMT.out;show L≠_;omega) (.int .i64 st))
   have HN3:=Lib.hid ((blk_set HN2.out 6 (.int .i64 st)).trans rfl)
   obtain ⟨_,l0,l1,l2,l3,l4,l5,l6⟩:=blk7 HN2.out
   have lf:=blk_frozen HN2.out 6
   go_upto_region 7 with (fail)
   generalize W2.setCell ⟨L,6,none⟩ (.int .i64 st)=W3 at *
   clear l0 l1 l2 l3 l4 l5 l6 lf t0 t1 t2
   obtain ⟨_,m0,m1,m2,_⟩:=blk3 HM3.out
   obtain ⟨_,l0,l1,l2,l3,l4,l5,l6⟩:=blk7 HN3.out
   obtain ⟨_,u0,u1,u2,u3,u4,u5,u6⟩:=blk7 HQ7.out
   have p0:=blk_frozen HQ7.out 0
   have p1:=blk_frozen HQ7.out 1
   have p2:=blk_frozen HQ7.out 2
   have p3:=blk_frozen HQ7.out 3
   have p4:=blk_frozen HQ7.out 4
   have p5:=blk_frozen HQ7.out 5
   have p6:=blk_frozen HQ7.out 6
   go_quiet (first|(go_at_call 114;exact quiet_same (HWI.out _)))
   cases ok with
   | false =>
    have HPV:Hid (P (.returned (.tuple #[.agg #[.pointer none,.int .u8 0,.int .i64 0,.int .i64 0,.int .i64 0,.int .i64 0,.int .i64 0],.bool false]))):=Lib.hid (by rw [HP.out];exact .inr ⟨rfl,rfl⟩)
    go_wp2
    refine post_gen (fun Wf=>Wf.heap[w.heap.size+1]?=some (.cells #[.pointer none,.int .u8 0,.int .i64 0,.int .i64 0,.int .i64 0,.int .i64 0,.int .i64 0] 211 (0,0))∧Below w.heap.size w Wf) ⟨?_,?_⟩ ?_
    · exact blk_set7 (w:=W3.drewN _) HQ7.out _ _ _ _ _ _ _
    · exact below_set7 (bel_drewN HB3.out _) (Nat.le_succ _) _ _ _ _ _ _ _
    · rintro Wf ⟨e1,e2⟩
      obtain ⟨_,d0,d1,d2,d3,d4,d5,d6⟩:=blk7 e1
      exact bodyPost_ret (v:=.tuple #[.agg #[.pointer none,.int .u8 0,.int .i64 0,.int .i64 0,.int .i64 0,.int .i64 0,.int .i64 0],.bool false]) (by simp [results,Tryd.results123,go_sem,d0,d1,d2,d3,d4,d5,d6]) rfl ⟨HPV.out,e2⟩
   | true =>
    have HPV:Hid (P (.returned (.tuple #[.agg #[.pointer (some ⟨m,0,none⟩),.int .u8 k,.int .i64 ref,.int .i64 lists,.int .i64 (at'+4),.int .i64 n,.int .i64 st],.bool true]))):=Lib.hid (by rw [HP.out];exact .inl ⟨rfl,rfl⟩)
    go_wp2
    refine post_gen (fun Wf=>Wf.heap[w.heap.size+1]?=some (.cells #[.pointer (some ⟨m,0,none⟩),.int .u8 k,.int .i64 ref,.int .i64 lists,.int .i64 (at'+4),.int .i64 n,.int .i64 st] 211 (0,0))∧Below w.heap.size w Wf) ⟨?_,?_⟩ ?_
    · exact blk_set7 (w:=W3.drewN _) HQ7.out _ _ _ _ _ _ _
    · exact below_set7 (bel_drewN HB3.out _) (Nat.le_succ _) _ _ _ _ _ _ _
    · rintro Wf ⟨e1,e2⟩
      obtain ⟨_,d0,d1,d2,d3,d4,d5,d6⟩:=blk7 e1
      exact bodyPost_ret (v:=.tuple #[.agg #[.pointer (some ⟨m,0,none⟩),.int .u8 k,.int .i64 ref,.int .i64 lists,.int .i64 (at'+4),.int .i64 n,.int .i64 st],.bool true]) (by simp [results,Tryd.results123,go_sem,d0,d1,d2,d3,d4,d5,d6]) rfl ⟨HPV.out,e2⟩
end Go.Proofs.YtachghaegokpdaaDoor
