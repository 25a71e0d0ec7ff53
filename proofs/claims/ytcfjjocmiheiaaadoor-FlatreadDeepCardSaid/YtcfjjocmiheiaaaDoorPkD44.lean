/-
  Package flatread: what a message's views show is what its bytes denote. Conditions: those that each theorem names.
-/
import Derived.Test.YtcfjjocmiheiaaaDoorPkD52
import Derived.Test.YtcfjjocmiheiaaaDoorPkD2
import Derived.Test.YtcfjjocmiheiaaaDoorPkD9
import Derived.Test.YtcfjjocmiheiaaaDoorPkD14
import Derived.Test.YtcfjjocmiheiaaaDoorPkD18
import Derived.Test.YtcfjjocmiheiaaaDoorPkD25
import Derived.Test.YtcfjjocmiheiaaaDoorPkD42
import Derived.Test.YtcfjjocmiheiaaaDoorPkD43
import Derived.BigRegion
import Derived.Deep.RegionLaw
import Derived.Deep.RegionHeld3
import Derived.Lib.AppendStr
import Derived.RegionTactic
import Derived.Test.YtcfjjocmiheiaaaDoorRows
import Derived.WalkKit
import Derived.ProofKit
import Derived.OpenShut
import Derived.ShutString
import Derived.ChangeOld
import Derived.Below
import Derived.WalkLawsBesides
import Derived.WalkSpells
import Derived.Lib.Hide
import Derived.Outline
import Derived.Handy
import Derived.BigQuiet
import Derived.Deep.Cut
namespace Go.Proofs.YtcfjjocmiheiaaaDoor
open Go.ChangeShapes Go.WideShapes Go.ChangeAt Go.RowKit Go.Shelf
theorem enc_all:∀ r,EncAt r
 | 0=>enc_step 0 (enc_list 0 (fun q h=>by cases h)) (enc_tab 0 (fun q h=>by cases h))
 | r+1=>enc_step (r+1) (enc_list (r+1) (fun q h=>by injection h with h;exact h▸enc_all r)) (enc_tab (r+1) (fun q h=>by injection h with h;exact h▸enc_all r))
theorem made_u8 (n:Nat):madeCells (Value.int .u8 0).cells (n * 1)=(u8s (zeros n)).toArray:=by
 apply Array.ext'
 rw [Nat.mul_one,made_zeros]
theorem make_u8 (n:Nat)(hn:n≤1000000)(W:World):(Instr.makeSlice 22 (.int .i64 (n:Int)) (.int .i64 (n:Int))).run Tryd.prog W=.ok (.slice (some ⟨W.heap.size,0,none⟩) n n) (W.alloc (.cells (u8s (zeros n)).toArray 5)):=by
 obtain ⟨i,hi,hz,hs,hb⟩:=info_parts u8_infoW
 have h:=run_make W 22 5 i (.int .u8 0) Tryd.underlying22 hi hz .i64 .i64 n n (by omega) (Int.le_refl _) (by rw [hb];omega) (by omega)
 rw [hs,Int.toNat_natCast,made_u8] at h
 exact h
theorem own_u8 {W:World}{g base:Nat}{zs:List Int}(h:W.heap[g]?=some (.cells (u8s zs).toArray 5 (0,0)))(hb:base≤g)(hl:zs.length≤1000000):OwnV W base 5 (some ⟨g,0,none⟩) zs.length zs:=by
 refine ⟨by simp [u8s],.inr ⟨g,zs.length,_,rfl,hb,h,Nat.le_refl _,by unfold maxLen;omega,by simp [u8s],?_⟩⟩
 simp only [Nat.mul_one]
 exact List.take_of_length_le (by simp [u8s])
def EncPost (zs:List Int)(w:World)(e:Ending)(w':World):Prop:=Below w.heap.size w w'∧(∀ z ∈ zs,0≤z∧z≤255)∧∃ A cap,e=.returned (.slice A zs.length cap)∧OwnV w' w.heap.size 5 A cap zs
set_option maxRecDepth 100000 in
set_option maxHeartbeats 8000000 in
theorem encode_room (r:Nat)(w:World){b:Nat}{ss:List (SRec × Value)}{es:List (SCho × Value)}{sv ev:Value}(root:Nat)(h:SchRows b w ss es sv ev)(hS:SchM ss (es.map Prod.fst))(hD:∀ q ∈ ss,DfltsOk (es.map Prod.fst) (cR q.1).fields)(v:PV)(val:Value)(hv:IsV w v val)(hf:fitsP (sRecs ss) (es.map Prod.fst) r 13 root 0 v=true)(hh:v.has=true)(hl:(encZ (ss.map Prod.fst) r root v).length≤70368744177664) :
  Calls Tryd.prog 16 #[.agg #[sv,ev,.int .i64 root],val] w (EncPost (encZ (ss.map Prod.fst) r root v) w):=by
 obtain ⟨ba,ka,bc,kc,rfl,_,_,_,_,_,_,_⟩:=hv.form
 obtain ⟨hb,hq1,hq2⟩:=two_start w #[sv,ev,.int .i64 root] #[.int .u64 v.num,.slice ba v.bytes.length bc,.slice ka v.kids.length kc,.bool v.has] 30 36
 have HB:=Lib.hid hb
 have HQ1:=Lib.hid hq1
 have HQ2:=Lib.hid hq2
 have HT:=Lib.hid (fun W wk A cap (hc:ECtx b w W wk A cap sv ev root (zeros 4) ss es)=>enc_tab r (fun q _=>enc_all q) b w W wk A cap sv ev root (zeros 4) ss es root v _ 0 hc hv hf hh (by decide) hl)
 have HR:=Lib.hid h
 have HS:=Lib.hid hS
 have HD:=Lib.hid hD
 obtain ⟨P,hP⟩:∃ P,EncPost (encZ (ss.map Prod.fst) r root v) w=P:=⟨_,rfl⟩
 rw [hP]
 have HP:=Lib.hid hP.symm
 have HMK:Hid (∀ W:World,(Instr.makeSlice 22 (.int .i64 4) (.int .i64 4)).run Tryd.prog W=.ok (.slice (some ⟨W.heap.size,0,none⟩) 4 4) (W.alloc (.cells (u8s (zeros 4)).toArray 5))):=Lib.hid (fun W=>make_u8 4 (by decide) W)
 clear hb hq1 hq2 h hS hD hv hf hh hl hP
 go_enter Tryd.func16,Tryd.ntmps16
 go_upto_region 1 with (fail)
 generalize (w.alloc (.cells #[sv,ev,.int .i64 root] 30)).alloc (.cells #[.int .u64 v.num,.slice ba v.bytes.length bc,.slice ka v.kids.length kc,.bool v.has] 36)=W0 at *
 obtain ⟨_,s0,s1,s2,_⟩:=blk3 HQ1.out
 refine wp_region_noPanic ?_
 refine wp_region_held_drew (S:=(fun w'=>w'.cell? ⟨w.heap.size,0,none⟩=some (sv)∧w'.cell? ⟨w.heap.size,1,none⟩=some (ev)∧w'.cell? ⟨w.heap.size,2,none⟩=some (.int .i64 root))) (by kernel_rfl) ⟨s0,s1,s2⟩ ?_
 intro hS
 refine tk 0 (.agg #[sv,ev,.int .i64 root]) hS ?_ ?_
 · rintro w' ⟨s0,s1,s2⟩
   go_simp
 simp only [td]
 refine wpAnyH_ready (rs:=[1]) (by kernel_rfl) (by decide) (AllReadyH.cons rfl (fun K hK=>?_) AllReadyH.nil)
 rw [if_pos (by kernel_rfl)]
 have hmk:=HMK.out W0.drew
 go_simp
 have hb0:Below W0.heap.size W0 (W0.alloc (.cells (u8s (zeros 4)).toArray 5)):=(Below.refl _ W0).alloc (Nat.le_refl _) _
 have hb0d:Below W0.heap.size W0 (W0.alloc (.cells (u8s (zeros 4)).toArray 5)).drew:=hb0.drew
 have HB0:=Lib.hid hb0
 have HN0:=Lib.hid (heap_alloc_new W0 (.cells (u8s (zeros 4)).toArray 5))
 refine hK.out _ _ ⟨cell_stays hb0d s0,cell_stays hb0d s1,cell_stays hb0d s2⟩ (fun hS=>?_)
 clear hmk hK K hb0d
 refine tk 2 (.agg #[sv,ev,.int .i64 root,.slice (some ⟨W0.heap.size,0,none⟩) 4 4]) hS ?_ ?_
 · rintro w' ⟨s0,s1,s2⟩
   go_simp
 simp only [td]
 refine wpAnyH_ready (rs:=[3]) (by kernel_rfl) (by decide) (AllReadyH.cons rfl (fun K hK=>?_) AllReadyH.nil)
 rw [if_pos (by kernel_rfl)]
 go_simp
 have hb1:Below (W0.alloc (.cells (u8s (zeros 4)).toArray 5)).heap.size (W0.alloc (.cells (u8s (zeros 4)).toArray 5)) ((W0.alloc (.cells (u8s (zeros 4)).toArray 5)).alloc (.cells #[sv,ev,.int .i64 root,.slice (some ⟨W0.heap.size,0,none⟩) 4 4] 110)):=(Below.refl _ _).alloc (Nat.le_refl _) _
 have hbA:=hb0.trans (hb1.mono hb0.size)
 have hbAd:=hbA.drew
 refine hK.out _ _ ⟨cell_stays hbAd s0,cell_stays hbAd s1,cell_stays hbAd s2⟩ (fun hS=>?_)
 have P1:=Lib.hid (blk_below HQ1.out hbAd (blk_lt HQ1.out))
 have P2:=Lib.hid (blk_below HQ2.out hbAd (blk_lt HQ2.out))
 have hbw:=HB.out.trans (hbAd.mono HB.out.size)
 have hwk:((W0.alloc (.cells (u8s (zeros 4)).toArray 5)).alloc (.cells #[sv,ev,.int .i64 root,.slice (some ⟨W0.heap.size,0,none⟩) 4 4] 110)).drew.heap[W0.heap.size+1]?=some (.cells #[sv,ev,.int .i64 root,.slice (some ⟨W0.heap.size,0,none⟩) 4 4] 110 (0,0)):=by
  have h5:=heap_alloc_new (W0.alloc (.cells (u8s (zeros 4)).toArray 5)) (.cells #[sv,ev,.int .i64 root,.slice (some ⟨W0.heap.size,0,none⟩) 4 4] 110)
  rw [World.size_alloc] at h5
  exact h5
 have hgk:((W0.alloc (.cells (u8s (zeros 4)).toArray 5)).alloc (.cells #[sv,ev,.int .i64 root,.slice (some ⟨W0.heap.size,0,none⟩) 4 4] 110)).drew.heap[W0.heap.size]?=some (.cells (u8s (zeros 4)).toArray 5 (0,0)):=blk_below HN0.out hb1.drew (blk_lt' HN0.out)
 have H2:Hid (ECtx b w ((W0.alloc (.cells (u8s (zeros 4)).toArray 5)).alloc (.cells #[sv,ev,.int .i64 root,.slice (some ⟨W0.heap.size,0,none⟩) 4 4] 110)).drew (W0.heap.size+1) (some ⟨W0.heap.size,0,none⟩) 4 sv ev root (zeros 4) ss es):=Lib.hid ⟨⟨hwk,own_u8 hgk HB.out.size (by decide),fun z hz=>by rw [zeros_mem hz];decide,Nat.le_succ_of_le HB.out.size⟩,HR.out,hbw,HS.out,HD.out⟩
 clear hb1 hb0 hbA hbAd hbw hK K hS hwk hgk s0 s1 s2
 generalize ((W0.alloc (.cells (u8s (zeros 4)).toArray 5)).alloc (.cells #[sv,ev,.int .i64 root,.slice (some ⟨W0.heap.size,0,none⟩) 4 4] 110)).drew=W2 at *
 have hS:=And.intro (blk3 P1.out).2.1 (And.intro (blk3 P1.out).2.2.1 (blk3 P1.out).2.2.2.1)
 refine tk 4 (.pointer (some ⟨W0.heap.size+1,0,none⟩)) hS ?_ ?_
 · rintro w' ⟨s0,s1,s2⟩
   go_simp
 simp only [td]
 refine wpAnyH_done (by kernel_rfl) ?_ _
 refine NoPanic.normal ?_
 try simp only [Exit.then]
 obtain ⟨_,s0,s1,s2,_⟩:=blk3 P1.out
 obtain ⟨_,u0,u1,u2,u3⟩:=blk4p P2.out
 clear HQ1 HQ2 HB
 go_wp2_with fail
 refine (HT.out W2 _ _ _ H2.out).mono ?_
 rintro e W3 hp
 obtain ⟨A3,c3,rfl,h3,hx3⟩:=H2.out.post hp
 obtain ⟨_,c0,c1,c2,c3'⟩:=blk4p h3.st.blk
 have H3:=Lib.hid h3
 clear hp h3 hx3 s0 s1 s2 u0 u1 u2 u3
 go_wp2
 rw [HP.out]
 exact ⟨H3.out.bel,H3.out.st.rng,A3,c3,rfl,H3.out.st.own⟩
end Go.Proofs.YtcfjjocmiheiaaaDoor
namespace Go.Proofs.YtcfjjocmiheiaaaDoor
open Go.ChangeShapes Go.WideShapes Go.ChangeAt Go.RowKit Go.Shelf
theorem bytes_ownv {W:World}{base cap:Nat}{A:Option Addr}{zs:List Int}(h:OwnV W base 5 A cap zs)(hz:∀ z ∈ zs,0≤z∧z≤255):Bytes W A zs∧zs.length≤cap:=by
 have hc:=row_cap (show W.ownsRow base 5 1 (.slice A zs.length cap) zs.length (u8s zs) from h)
 refine ⟨⟨fun i=>?_,fun hne=>?_⟩,hc⟩
 · rcases Nat.lt_or_ge i zs.length with h1|h1
   · rw [List.getD,List.getElem?_eq_getElem h1,Option.getD_some];exact hz _ (List.getElem_mem h1)
   · rw [List.getD,List.getElem?_eq_none h1];decide
 · have hl:0<zs.length:=List.length_pos_iff.2 hne
   obtain ⟨g,c,hv,_,_,hg,hcell⟩:=row_at h hl
   injection hv with hA _ _
   refine ⟨g,0,hA,hg,fun i hi=>?_⟩
   rw [Nat.zero_add,hcell i (by omega),show u8s zs=zs.map (.int .u8) from rfl,List.getElem?_map,List.getElem?_eq_getElem hi,List.getD,List.getElem?_eq_getElem hi]
   rfl
end Go.Proofs.YtcfjjocmiheiaaaDoor
namespace Go.Proofs.YtcfjjocmiheiaaaDoor
open Go.ChangeShapes Go.WideShapes Go.ChangeAt Go.RowKit Go.Shelf
set_option maxHeartbeats 4000000 in
theorem flLen0 (w:World):Calls Tryd.prog 180 #[noList] w fun e w'=>e=.returned (.int .i64 0)∧Below w.heap.size w w':=by
 unfold noList
 have HB:=Lib.hid ((Below.refl w.heap.size w).alloc (Nat.le_refl _) (.cells #[.pointer none,.int .u8 0,.int .i64 0,.int .i64 0,.int .i64 0,.int .i64 0,.int .i64 0] 238))
 obtain ⟨_,s0,s1,s2,s3,s4,s5,s6⟩:=blk7 (heap_alloc_new w (.cells #[.pointer none,.int .u8 0,.int .i64 0,.int .i64 0,.int .i64 0,.int .i64 0,.int .i64 0] 238))
 go_enter Tryd.func180,Tryd.ntmps180
 go_wp2
 go_ret
 exact ⟨rfl,HB.out⟩
set_option maxRecDepth 100000 in
theorem meth_sNum (r:Value):Meth 2 120 r "Num" 174 r:=
 ⟨fun N W=>by kernel_rfl,enters_of Tryd.func174 (by kernel_rfl) rfl⟩
set_option maxRecDepth 100000 in
theorem meth_sBytes (r:Value):Meth 2 120 r "Bytes" 172 r:=
 ⟨fun N W=>by kernel_rfl,enters_of Tryd.func172 (by kernel_rfl) rfl⟩
set_option maxRecDepth 100000 in
theorem meth_sList (r:Value):Meth 2 120 r "List" 173 r:=
 ⟨fun N W=>by kernel_rfl,enters_of Tryd.func173 (by kernel_rfl) rfl⟩
set_option maxRecDepth 100000 in
theorem meth_sSub (r:Value):Meth 2 120 r "Sub" 175 r:=
 ⟨fun N W=>by kernel_rfl,enters_of Tryd.func175 (by kernel_rfl) rfl⟩
set_option maxRecDepth 100000 in
theorem meth_lNum (r:Value):Meth 1 238 r "Num" 182 r:=
 ⟨fun N W=>by kernel_rfl,enters_of Tryd.func182 (by kernel_rfl) rfl⟩
set_option maxRecDepth 100000 in
theorem meth_lBytes (r:Value):Meth 1 238 r "Bytes" 179 r:=
 ⟨fun N W=>by kernel_rfl,enters_of Tryd.func179 (by kernel_rfl) rfl⟩
set_option maxRecDepth 100000 in
theorem meth_lList (r:Value):Meth 1 238 r "List" 181 r:=
 ⟨fun N W=>by kernel_rfl,enters_of Tryd.func181 (by kernel_rfl) rfl⟩
set_option maxRecDepth 100000 in
theorem meth_lSub (r:Value):Meth 1 238 r "Sub" 183 r:=
 ⟨fun N W=>by kernel_rfl,enters_of Tryd.func183 (by kernel_rfl) rfl⟩
set_option maxRecDepth 100000 in
theorem meth_lLen (r:Value):Meth 1 238 r "Len" 180 r:=
 ⟨fun N W=>by kernel_rfl,enters_of Tryd.func180 (by kernel_rfl) rfl⟩
structure ShowAt (room:Nat):Prop where
 list:∀ {base:Nat} {w:World} {m:Nat} {bp:Option Addr} {bc:Nat} {sv ev:Value} {zs:List Int} {ss:List (SRec × Value)} {es:List SCho} {fs:List (List CFld × Value)} {ns:List Nat},MsgOf base w m bp bc sv ev zs ss es fs ns→SchM ss es→(∀ q ∈ ss,DfltsOk es (cR q.1).fields) →
  ∀ (k r l:Nat) (to left l':Int) (q:PV),TyM ss.length es k r (l+1)→0≤to∧to≤100000→listAtZ zs (nextZ (sRecs ss) es zs room) k r l to left=some (q,l') →
  Shown (sRecs ss) room w (.iface 238 (listV m k r l (to+4) (leAt zs to.toNat 4) (stepZ k l))) k r ((l+1:Nat):Int) q
 struct:∀ {base:Nat} {w:World} {m:Nat} {bp:Option Addr} {bc:Nat} {sv ev:Value} {zs:List Int} {ss:List (SRec × Value)} {es:List SCho} {fs:List (List CFld × Value)} {ns:List Nat},MsgOf base w m bp bc sv ev zs ss es fs ns→SchM ss es→(∀ q ∈ ss,DfltsOk es (cR q.1).fields) →
  ∀ (r:Nat) (t:TabZ) (to left l':Int) (q:PV),r<ss.length→tabZ zs to=some t→0≤to∧to≤100000→structT (sRecs ss) zs (nextZ (sRecs ss) es zs room) r to t left=some (q,l') →
  Shown (sRecs ss) room w (.iface 120 (strV m r t to)) 13 r 0 q
theorem itemsOk_of {zs:List Int}{nx:Option NextD}{k:Nat}{ref lists to left:Int}{q:PV × Int}(hz:∀ i,0≤zs.getD i 0∧zs.getD i 0≤255)(h:listAtZ zs nx k ref lists to left=some q):itemsOk zs k lists to=true:=by
 cases hb:itemsOk zs k lists to with
 | true=>rfl
 | false=>rw [listAt_no hz hb] at h;cases h
theorem bytesOk_of {zs:List Int}{k:Nat}{to left:Int}{q:PV × Int}(hz:∀ i,0≤zs.getD i 0∧zs.getD i 0≤255)(h:bytesAtZ zs k to left=some q):bytesOk zs k to=true∧q.1=.mk 0 (partZ zs (to.toNat+4) (leAt zs to.toNat 4).toNat) [] false:=by
 cases hb:bytesOk zs k to with
 | true =>
  rw [bytesAt_ok hz hb] at h
  generalize (if k=11 then 1 else 0:Int)=c at h
  split at h
  · injection h with h
    subst h
    exact ⟨rfl,rfl⟩
  · cases h
 | false=>rw [bytesAt_no hz hb] at h;cases h
theorem partZ_few (zs:List Int)(a n:Nat)(h:zs.length≤16384):(partZ zs a n).length≤1000000:=by
 unfold partZ
 rw [List.length_take,List.length_drop]
 omega
theorem bytesOk_len {zs:List Int}{k:Nat}{to:Int}(hz:∀ i,0≤zs.getD i 0∧zs.getD i 0≤255)(hok:bytesOk zs k to=true):(partZ zs (to.toNat+4) (leAt zs to.toNat 4).toNat).length=(leAt zs to.toNat 4).toNat:=partZ_length (by
  have hbk:=hok
  unfold bytesOk at hbk
  rw [Bool.and_eq_true,Bool.and_eq_true] at hbk
  have h2:=inZ_iff.1 hbk.2.1
  have h4:=inZ_iff.1 hbk.1
  have h3:=leAt_4 zs to.toNat hz
  unfold lenZ at h2
  omega)
theorem point_some {zs:List Int}{at':Int}{g:Int→Option (PV × Int)}{q:PV × Int}(h:pointZ zs at' g=some q):∃ to,jumpZ zs at'=some to∧g to=some q:=by
 unfold pointZ at h
 cases hj:jumpZ zs at' with
 | none=>rw [hj] at h;cases h
 | some to=>rw [hj] at h;exact ⟨to,rfl,h⟩
set_option maxRecDepth 100000 in
set_option maxHeartbeats 4000000 in
theorem fAskS {room:Nat}(ih:ShowAt room){base:Nat}{w:World}{m:Nat}{bp:Option Addr}{bc:Nat}{sv ev:Value}{zs:List Int}{ss:List (SRec × Value)}{es:List SCho}{fs:List (List CFld × Value)}{ns:List Nat}(hM:MsgOf base w m bp bc sv ev zs ss es fs ns)(hS:SchM ss es)(hD:∀ q ∈ ss,DfltsOk es (cR q.1).fields)(r p b c dd:Int)(j:Nat)(k rr l d:Nat)(at' left l':Int)(q:PV)(hty:TyM ss.length es k rr l)
  (hk:∀ o:Nat,sortP k l=o→∀ W,Below w.heap.size w W→Calls Tryd.prog 101 #[.agg #[.pointer (some ⟨m,0,none⟩),.int .i64 r,.int .i64 p,.int .i64 b,.int .i64 c,.int .i64 dd],.int .i64 j,.int .i64 o] W fun e w'=>e=.returned (kidV k rr l at' d true)∧Below W.heap.size W w')
  (hv:flatZ (sRecs ss) es zs room k rr l at' left=some (q,l')) :
  AskOk (Shown (sRecs ss) room) true w (.iface 120 (.agg #[.pointer (some ⟨m,0,none⟩),.int .i64 r,.int .i64 p,.int .i64 b,.int .i64 c,.int .i64 dd])) j k rr l q:=by
 have hz:=hM.msg.bytes.1
 have hlen:=hM.msg.len
 rw [flatZ_eq] at hv
 unfold valZ at hv
 rcases tyM_sort hty with ⟨h0,hs⟩|⟨h0,hsz,_,hs⟩|⟨h0,_,hs⟩|⟨h0,hk13,hs⟩
 · rw [if_neg (by rw [hs];decide),if_neg (by rw [hs];decide),if_pos hs] at hv
   obtain ⟨to,hj,hg⟩:=point_some hv
   have hjb:=jump_bd hz hj
   have hok:=itemsOk_of hz hg
   obtain ⟨l0,rfl⟩:∃ l0,l=l0+1:=⟨l-1,by omega⟩
   have e1:((l0+1:Nat):Int)-1=(l0:Int):=by omega
   rw [e1] at hg hok
   refine ⟨by rw [hs];decide,fun h=>absurd (hs.symm.trans h) (by decide),fun h=>absurd (hs.symm.trans h) (by decide),fun _=>?_,fun h=>absurd (hs.symm.trans h) (by decide)⟩
   refine ⟨_,_,173,_,rfl,meth_sList _,fun W hW=>?_⟩
   refine (fsList W m r p b c dd j k d rr ((l0+1:Nat):Int) at' true (fun v w'=>v=listV m k rr l0 (to+4) (leAt zs to.toNat 4) (stepZ k l0)∧Below W.heap.size W w') (fun W2 h2=>hk 3 hs W2 (hW.trans (h2.mono hW.size))) (fun W2 h2=>?_)).mono ?_
   · have h3:=flisted_ok W2 ((hM.msg.below hW).below h2) k rr ((l0+1:Nat):Int) at' d to hj (by rw [e1];exact hok) (by have:=hty.li;omega)
     rw [e1] at h3
     exact h3.mono fun e w' ⟨he,hb⟩=>⟨⟨_,he,rfl,h2.trans (hb.mono h2.size)⟩,hb⟩
   · rintro e w' ⟨⟨v,he,rfl,hb⟩,hb2⟩
     exact ⟨⟨_,he,ih.list ((hM.below hW).below hb) hS hD k rr l0 to left l' q hty (by unfold lenZ at hjb;omega) hg⟩,hb2⟩
 · subst h0
   rw [if_pos hs] at hv
   have hin:inZ (lenZ zs) at' (kSize k)=true:=by
    cases hi:inZ (lenZ zs) at' (kSize k) with
    | true=>rfl
    | false=>unfold numZ at hv;rw [hi,if_neg (by decide)] at hv;cases hv
   rw [numZ_eq hsz hin] at hv
   have hnb:=numAt_bd (at':=at') hz hsz
   have hq:q=numV (numAt zs k at').toNat:=by
    split at hv
    · injection hv with hv
      injection hv with hv _
      exact hv.symm
    · cases hv
   have hqn:((q.num:Nat):Int)=numAt zs k at':=by rw [hq];show (((numAt zs k at').toNat:Nat):Int)=_;omega
   refine ⟨by rw [hs];decide,fun _=>⟨by rw [hq];rfl,by rw [hqn];exact hnb.2,?_⟩,fun h=>absurd (hs.symm.trans h) (by decide),fun h=>absurd (hs.symm.trans h) (by decide),fun h=>absurd (hs.symm.trans h) (by decide)⟩
   refine ⟨_,_,174,_,rfl,meth_sNum _,fun W hW=>?_⟩
   refine (fsNum W m r p b c dd j k d rr 0 at' true (fun v _=>v=.int .u64 q.num) (fun W2 h2=>hk 1 hs W2 (hW.trans (h2.mono hW.size))) (fun W2 h2=>?_)).mono ?_
   · have h3:=fnumber_any W2 ((hM.msg.below hW).below h2) k rr 0 at' d true hsz
     rw [if_pos rfl,←hqn] at h3
     exact h3.mono fun e w' ⟨he,hb⟩=>⟨⟨_,he,rfl⟩,hb⟩
   · rintro e w' ⟨⟨v,he,rfl⟩,hb2⟩
     exact ⟨he,hb2⟩
 · subst h0
   rw [if_neg (by rw [hs];decide),if_pos hs] at hv
   obtain ⟨to,hj,hg⟩:=point_some hv
   obtain ⟨hok,hq⟩:=bytesOk_of hz hg
   change q=_ at hq
   have hqb:q.bytes=partZ zs (to.toNat+4) (leAt zs to.toNat 4).toNat:=by rw [hq];rfl
   have hql:=bytesOk_len hz hok
   refine ⟨by rw [hs];decide,fun h=>absurd (hs.symm.trans h) (by decide),fun _=>⟨by rw [hqb];exact hq,by rw [hqb];exact partZ_few _ _ _ hlen,?_⟩,fun h=>absurd (hs.symm.trans h) (by decide),fun h=>absurd (hs.symm.trans h) (by decide)⟩
   refine ⟨_,_,172,_,rfl,meth_sBytes _,fun W hW=>?_⟩
   refine (fsBytes W m r p b c dd j k d rr 0 at' true (fun v w'=>∃ A c,v=.slice A (leAt zs to.toNat 4).toNat c∧Bytes w' A (partZ zs (to.toNat+4) (leAt zs to.toNat 4).toNat)) (fun W2 h2=>hk 2 hs W2 (hW.trans (h2.mono hW.size))) (fun W2 h2=>fcopied_ok W2 ((hM.msg.below hW).below h2) k rr 0 at' d to hj hok)).mono ?_
   rintro e w' ⟨⟨v,he,A,c,rfl,hb⟩,hb2⟩
   exact ⟨⟨A,c,by rw [hqb,hql];exact he,by rw [hqb];exact hb⟩,hb2⟩
 · subst h0
   rw [if_neg (by rw [hs];decide),if_neg (by rw [hs];decide),if_neg (by rw [hs];decide),if_pos hs] at hv
   obtain ⟨to,hj,hg⟩:=point_some hv
   have hjb:=jump_bd hz hj
   cases ht:tabZ zs to with
   | none=>rw [structAt_none ht] at hg;cases hg
   | some t =>
   rw [structAt_some ht] at hg
   refine ⟨by rw [hs];decide,fun h=>absurd (hs.symm.trans h) (by decide),fun h=>absurd (hs.symm.trans h) (by decide),fun h=>absurd (hs.symm.trans h) (by decide),fun _=>?_⟩
   refine ⟨_,_,175,_,rfl,meth_sSub _,fun W hW=>?_⟩
   refine (fsSub_ok W (hM.msg.below hW) r p b c dd j k d rr 0 at' to t hj ht (fun W2 h2=>hk 4 hs W2 (hW.trans (h2.mono hW.size)))).mono ?_
   rintro e w' ⟨rfl,hb2⟩
   refine ⟨.inl ⟨_,rfl,?_⟩,hb2⟩
   obtain rfl:=hk13
   exact ih.struct ((hM.below hW).below hb2) hS hD rr t to left l' q (hty.st rfl) ht (by unfold lenZ at hjb;omega) hg
set_option maxRecDepth 100000 in
set_option maxHeartbeats 4000000 in
theorem fAskL {room:Nat}(ih:ShowAt room){base:Nat}{w:World}{m:Nat}{bp:Option Addr}{bc:Nat}{sv ev:Value}{zs:List Int}{ss:List (SRec × Value)}{es:List SCho}{fs:List (List CFld × Value)}{ns:List Nat}(hM:MsgOf base w m bp bc sv ev zs ss es fs ns)(hS:SchM ss es)(hD:∀ q ∈ ss,DfltsOk es (cR q.1).fields)(lk:Nat)(lr ll la ln ls:Int)(j:Nat)(k rr l d:Nat)(at' left l':Int)(q:PV)(hty:TyM ss.length es k rr l)
  (hk:∀ o:Nat,sortP k l=o→∀ W,Below w.heap.size w W→Calls Tryd.prog 146 #[.agg #[.pointer (some ⟨m,0,none⟩),.int .u8 lk,.int .i64 lr,.int .i64 ll,.int .i64 la,.int .i64 ln,.int .i64 ls],.int .i64 j,.int .i64 o] W fun e w'=>e=.returned (kidV k rr l at' d true)∧Below W.heap.size W w')
  (hv:flatZ (sRecs ss) es zs room k rr l at' left=some (q,l')) :
  AskOk (Shown (sRecs ss) room) false w (.iface 238 (.agg #[.pointer (some ⟨m,0,none⟩),.int .u8 lk,.int .i64 lr,.int .i64 ll,.int .i64 la,.int .i64 ln,.int .i64 ls])) j k rr l q:=by
 have hz:=hM.msg.bytes.1
 have hlen:=hM.msg.len
 rw [flatZ_eq] at hv
 unfold valZ at hv
 rcases tyM_sort hty with ⟨h0,hs⟩|⟨h0,hsz,_,hs⟩|⟨h0,_,hs⟩|⟨h0,hk13,hs⟩
 · rw [if_neg (by rw [hs];decide),if_neg (by rw [hs];decide),if_pos hs] at hv
   obtain ⟨to,hj,hg⟩:=point_some hv
   have hjb:=jump_bd hz hj
   have hok:=itemsOk_of hz hg
   obtain ⟨l0,rfl⟩:∃ l0,l=l0+1:=⟨l-1,by omega⟩
   have e1:((l0+1:Nat):Int)-1=(l0:Int):=by omega
   rw [e1] at hg hok
   refine ⟨by rw [hs];decide,fun h=>absurd (hs.symm.trans h) (by decide),fun h=>absurd (hs.symm.trans h) (by decide),fun _=>?_,fun h=>absurd (hs.symm.trans h) (by decide)⟩
   refine ⟨_,_,181,_,rfl,meth_lList _,fun W hW=>?_⟩
   refine (flList W m lk lr ll la ln ls j k d rr ((l0+1:Nat):Int) at' true (fun v w'=>v=listV m k rr l0 (to+4) (leAt zs to.toNat 4) (stepZ k l0)∧Below W.heap.size W w') (fun W2 h2=>hk 3 hs W2 (hW.trans (h2.mono hW.size))) (fun W2 h2=>?_)).mono ?_
   · have h3:=flisted_ok W2 ((hM.msg.below hW).below h2) k rr ((l0+1:Nat):Int) at' d to hj (by rw [e1];exact hok) (by have:=hty.li;omega)
     rw [e1] at h3
     exact h3.mono fun e w' ⟨he,hb⟩=>⟨⟨_,he,rfl,h2.trans (hb.mono h2.size)⟩,hb⟩
   · rintro e w' ⟨⟨v,he,rfl,hb⟩,hb2⟩
     exact ⟨⟨_,he,ih.list ((hM.below hW).below hb) hS hD k rr l0 to left l' q hty (by unfold lenZ at hjb;omega) hg⟩,hb2⟩
 · subst h0
   rw [if_pos hs] at hv
   have hin:inZ (lenZ zs) at' (kSize k)=true:=by
    cases hi:inZ (lenZ zs) at' (kSize k) with
    | true=>rfl
    | false=>unfold numZ at hv;rw [hi,if_neg (by decide)] at hv;cases hv
   rw [numZ_eq hsz hin] at hv
   have hnb:=numAt_bd (at':=at') hz hsz
   have hq:q=numV (numAt zs k at').toNat:=by
    split at hv
    · injection hv with hv
      injection hv with hv _
      exact hv.symm
    · cases hv
   have hqn:((q.num:Nat):Int)=numAt zs k at':=by rw [hq];show (((numAt zs k at').toNat:Nat):Int)=_;omega
   refine ⟨by rw [hs];decide,fun _=>⟨by rw [hq];rfl,by rw [hqn];exact hnb.2,?_⟩,fun h=>absurd (hs.symm.trans h) (by decide),fun h=>absurd (hs.symm.trans h) (by decide),fun h=>absurd (hs.symm.trans h) (by decide)⟩
   refine ⟨_,_,182,_,rfl,meth_lNum _,fun W hW=>?_⟩
   refine (flNum W m lk lr ll la ln ls j k d rr 0 at' true (fun v _=>v=.int .u64 q.num) (fun W2 h2=>hk 1 hs W2 (hW.trans (h2.mono hW.size))) (fun W2 h2=>?_)).mono ?_
   · have h3:=fnumber_any W2 ((hM.msg.below hW).below h2) k rr 0 at' d true hsz
     rw [if_pos rfl,←hqn] at h3
     exact h3.mono fun e w' ⟨he,hb⟩=>⟨⟨_,he,rfl⟩,hb⟩
   · rintro e w' ⟨⟨v,he,rfl⟩,hb2⟩
     exact ⟨he,hb2⟩
 · subst h0
   rw [if_neg (by rw [hs];decide),if_pos hs] at hv
   obtain ⟨to,hj,hg⟩:=point_some hv
   obtain ⟨hok,hq⟩:=bytesOk_of hz hg
   change q=_ at hq
   have hqb:q.bytes=partZ zs (to.toNat+4) (leAt zs to.toNat 4).toNat:=by rw [hq];rfl
   have hql:=bytesOk_len hz hok
   refine ⟨by rw [hs];decide,fun h=>absurd (hs.symm.trans h) (by decide),fun _=>⟨by rw [hqb];exact hq,by rw [hqb];exact partZ_few _ _ _ hlen,?_⟩,fun h=>absurd (hs.symm.trans h) (by decide),fun h=>absurd (hs.symm.trans h) (by decide)⟩
   refine ⟨_,_,179,_,rfl,meth_lBytes _,fun W hW=>?_⟩
   refine (flBytes W m lk lr ll la ln ls j k d rr 0 at' true (fun v w'=>∃ A c,v=.slice A (leAt zs to.toNat 4).toNat c∧Bytes w' A (partZ zs (to.toNat+4) (leAt zs to.toNat 4).toNat)) (fun W2 h2=>hk 2 hs W2 (hW.trans (h2.mono hW.size))) (fun W2 h2=>fcopied_ok W2 ((hM.msg.below hW).below h2) k rr 0 at' d to hj hok)).mono ?_
   rintro e w' ⟨⟨v,he,A,c,rfl,hb⟩,hb2⟩
   exact ⟨⟨A,c,by rw [hqb,hql];exact he,by rw [hqb];exact hb⟩,hb2⟩
 · subst h0
   rw [if_neg (by rw [hs];decide),if_neg (by rw [hs];decide),if_neg (by rw [hs];decide),if_pos hs] at hv
   obtain ⟨to,hj,hg⟩:=point_some hv
   have hjb:=jump_bd hz hj
   cases ht:tabZ zs to with
   | none=>rw [structAt_none ht] at hg;cases hg
   | some t =>
   rw [structAt_some ht] at hg
   refine ⟨by rw [hs];decide,fun h=>absurd (hs.symm.trans h) (by decide),fun h=>absurd (hs.symm.trans h) (by decide),fun h=>absurd (hs.symm.trans h) (by decide),fun _=>?_⟩
   refine ⟨_,_,183,_,rfl,meth_lSub _,fun W hW=>?_⟩
   refine (flSub_ok W (hM.msg.below hW) lk lr ll la ln ls j k d rr 0 at' to t hj ht (fun W2 h2=>hk 4 hs W2 (hW.trans (h2.mono hW.size)))).mono ?_
   rintro e w' ⟨rfl,hb2⟩
   refine ⟨.inl ⟨_,rfl,?_⟩,hb2⟩
   obtain rfl:=hk13
   exact ih.struct ((hM.below hW).below hb2) hS hD rr t to left l' q (hty.st rfl) ht (by unfold lenZ at hjb;omega) hg
theorem shown_noList (ss:List CRec)(room:Nat)(w:World)(k:Nat)(ref lists:Int)(hs:sortP k lists=3):Shown ss room w (.iface 238 noList) k ref lists nilV:=by
 have hh:ListHead w (.iface 238 noList) nilV:=⟨⟨rfl,rfl,rfl⟩,by show (0:Nat)≤_;decide,.inr ⟨_,_,180,_,rfl,meth_lLen _,fun W hW=>flLen0 W⟩⟩
 cases room with
 | zero=>exact ⟨hs,hh,rfl⟩
 | succ n=>exact .inl ⟨hs,hh,fun j hj=>absurd hj (Nat.not_lt_zero _)⟩
set_option maxRecDepth 100000 in
set_option maxHeartbeats 4000000 in
theorem fAskS0 {room:Nat}{base:Nat}{w:World}{m:Nat}{bp:Option Addr}{bc:Nat}{sv ev:Value}{zs:List Int}{ss:List (SRec × Value)}{es:List SCho}{fs:List (List CFld × Value)}{ns:List Nat}(hM:MsgOf base w m bp bc sv ev zs ss es fs ns)(r p b c dd:Int)(j:Nat)(k rr l d:Nat)(at':Int)(hty:TyM ss.length es k rr l)
  (hd:sortP k l≠1→d=0) (hdm:(d:Int)≤18446744073709551615)
  (hk:∀ o:Nat,sortP k l=o→∀ W,Below w.heap.size w W→Calls Tryd.prog 101 #[.agg #[.pointer (some ⟨m,0,none⟩),.int .i64 r,.int .i64 p,.int .i64 b,.int .i64 c,.int .i64 dd],.int .i64 j,.int .i64 o] W fun e w'=>e=.returned (kidV k rr l at' d false)∧Below W.heap.size W w') :
  AskOk (Shown (sRecs ss) room) true w (.iface 120 (.agg #[.pointer (some ⟨m,0,none⟩),.int .i64 r,.int .i64 p,.int .i64 b,.int .i64 c,.int .i64 dd])) j k rr l (numV d):=by
 rcases tyM_sort hty with ⟨h0,hs⟩|⟨h0,hsz,_,hs⟩|⟨h0,_,hs⟩|⟨h0,hk13,hs⟩
 · obtain rfl:=hd (by rw [hs];decide)
   refine ⟨by rw [hs];decide,fun h=>absurd (hs.symm.trans h) (by decide),fun h=>absurd (hs.symm.trans h) (by decide),fun _=>?_,fun h=>absurd (hs.symm.trans h) (by decide)⟩
   refine ⟨_,_,173,_,rfl,meth_sList _,fun W hW=>?_⟩
   refine (fsList W m r p b c dd j k 0 rr l at' false (fun v _=>v=noList) (fun W2 h2=>hk 3 hs W2 (hW.trans (h2.mono hW.size))) (fun W2 h2=>(flisted_no W2 ((hM.msg.below hW).below h2) k rr l at' 0).mono fun e w' ⟨he,hb⟩=>⟨⟨_,he,rfl⟩,hb⟩)).mono ?_
   rintro e w' ⟨⟨v,he,rfl⟩,hb2⟩
   exact ⟨⟨_,he,shown_noList _ _ _ _ _ _ hs⟩,hb2⟩
 · refine ⟨by rw [hs];decide,fun _=>⟨rfl,hdm,?_⟩,fun h=>absurd (hs.symm.trans h) (by decide),fun h=>absurd (hs.symm.trans h) (by decide),fun h=>absurd (hs.symm.trans h) (by decide)⟩
   refine ⟨_,_,174,_,rfl,meth_sNum _,fun W hW=>?_⟩
   refine (fsNum W m r p b c dd j k d rr l at' false (fun v _=>v=.int .u64 d) (fun W2 h2=>hk 1 hs W2 (hW.trans (h2.mono hW.size))) (fun W2 h2=>?_)).mono ?_
   · have h3:=fnumber_any W2 ((hM.msg.below hW).below h2) k rr l at' d false hsz
     rw [if_neg (by decide)] at h3
     exact h3.mono fun e w' ⟨he,hb⟩=>⟨⟨_,he,rfl⟩,hb⟩
   · rintro e w' ⟨⟨v,he,rfl⟩,hb2⟩
     exact ⟨he,hb2⟩
 · obtain rfl:=hd (by rw [hs];decide)
   refine ⟨by rw [hs];decide,fun h=>absurd (hs.symm.trans h) (by decide),fun _=>⟨rfl,by show (0:Nat)≤_;decide,?_⟩,fun h=>absurd (hs.symm.trans h) (by decide),fun h=>absurd (hs.symm.trans h) (by decide)⟩
   refine ⟨_,_,172,_,rfl,meth_sBytes _,fun W hW=>?_⟩
   refine (fsBytes W m r p b c dd j k 0 rr l at' false (fun v _=>v=.slice none 0 0) (fun W2 h2=>hk 2 hs W2 (hW.trans (h2.mono hW.size))) (fun W2 h2=>(fcopied_no W2 ((hM.msg.below hW).below h2) k rr l at' 0).mono fun e w' ⟨he,hb⟩=>⟨⟨_,he,rfl⟩,hb⟩)).mono ?_
   rintro e w' ⟨⟨v,he,rfl⟩,hb2⟩
   exact ⟨⟨none,0,he,bytes_nil _⟩,hb2⟩
 · obtain rfl:=hd (by rw [hs];decide)
   refine ⟨by rw [hs];decide,fun h=>absurd (hs.symm.trans h) (by decide),fun h=>absurd (hs.symm.trans h) (by decide),fun h=>absurd (hs.symm.trans h) (by decide),fun _=>?_⟩
   refine ⟨_,_,175,_,rfl,meth_sSub _,fun W hW=>?_⟩
   refine (fsSub_no W (hM.msg.below hW) r p b c dd j k 0 rr l at' (fun W2 h2=>hk 4 hs W2 (hW.trans (h2.mono hW.size)))).mono ?_
   rintro e w' ⟨rfl,hb2⟩
   exact ⟨.inr ⟨rfl,rfl,rfl⟩,hb2⟩
set_option maxRecDepth 100000 in
set_option maxHeartbeats 4000000 in
theorem fshowStep (room:Nat)(ih:∀ n,room=n+1→ShowAt n):ShowAt room where
 list:=by
  intro base w m bp bc sv ev zs ss es fs ns hM hS hD k r l to left l' q hty hto hg
  have hz:=hM.msg.bytes.1
  have hlen:=hM.msg.len
  have hok:=itemsOk_of hz hg
  have hst:=step_bd k l
  have hn4:=leAt_4 zs to.toNat hz
  have hs:sortP k ((l+1:Nat):Int)=3:=by
   rcases tyM_sort hty with ⟨_,h⟩|⟨h,_⟩|⟨h,_⟩|⟨h,_⟩
   · exact h
   all_goals omega
  have e1:((l+1:Nat):Int)-1=(l:Int):=by omega
  have hfew:leAt zs to.toNat 4≤16384:=by
   unfold itemsOk at hok
   rw [Bool.and_eq_true] at hok
   have h2:=inZ_iff.1 hok.2
   unfold lenZ at h2
   have h5:leAt zs to.toNat 4 * 1≤leAt zs to.toNat 4 * stepZ k l:=Int.mul_le_mul_of_nonneg_left hst.1 hn4.1
   omega
  have hlenk:∀ kk:List PV,q=.mk 0 [] kk false→kk.length=(leAt zs to.toNat 4).toNat→ListHead w (.iface 238 (listV m k r l (to+4) (leAt zs to.toNat 4) (stepZ k l))) q:=fun kk hq hkk=>by
   have hlk:((q.kids.length:Nat):Int)=leAt zs to.toNat 4:=by rw [hq];show ((kk.length:Nat):Int)=_;omega
   refine ⟨by rw [hq];exact ⟨rfl,rfl,rfl⟩,by omega,.inr ⟨_,_,180,_,rfl,meth_lLen _,fun W hW=>?_⟩⟩
   rw [hlk]
   exact flLen W m k r l (to+4) (leAt zs to.toNat 4) (stepZ k l)
  rw [listAt_ok hok] at hg
  split at hg
  case isFalse=>cases hg
  rename_i hle
  cases room with
  | zero =>
   change (if leAt zs to.toNat 4=0 then some (PV.mk 0 [] [] false,left-(4+leAt zs to.toNat 4 * stepZ k l)) else none)=some (q,l') at hg
   split at hg
   case isFalse=>cases hg
   rename_i h0
   injection hg with hg
   injection hg with hg _
   exact ⟨hs,hlenk [] hg.symm (by rw [h0];rfl),by rw [←hg];rfl⟩
  | succ n =>
   have ihn:=ih n rfl
   change (match seqD (fun j l1=>flatZ (sRecs ss) es zs n k r l (to+4+j * stepZ k l) l1) (left-(4+leAt zs to.toNat 4 * stepZ k l)) (leAt zs to.toNat 4).toNat with|none=>none|some (ks,l)=>some (PV.mk 0 [] ks false,l))=some (q,l') at hg
   cases hsq:seqD (fun j l1=>flatZ (sRecs ss) es zs n k r l (to+4+j * stepZ k l) l1) (left-(4+leAt zs to.toNat 4 * stepZ k l)) (leAt zs to.toNat 4).toNat with
   | none=>rw [hsq] at hg;cases hg
   | some pr =>
   obtain ⟨ks,l1⟩:=pr
   rw [hsq] at hg
   injection hg with hg
   injection hg with hg _
   refine .inl ⟨hs,hlenk ks hg.symm (seqD_length hsq),fun j hj=>?_⟩
   rw [e1]
   subst hg
   change j<ks.length at hj
   obtain ⟨l2,l3,hjv⟩:=seqD_at hsq j hj
   have hj2:(j:Int)<leAt zs to.toNat 4:=by have:=seqD_length hsq;omega
   exact fAskL ihn hM hS hD k r l (to+4) (leAt zs to.toNat 4) (stepZ k l) j k r l 0 (to+4+j * stepZ k l) l2 l3 ks[j] ⟨hty.lo,hty.hi,by have:=hty.li;omega,hty.en,hty.st⟩ (fun o ho W hW=>flkid_any W m k r l (to+4) (leAt zs to.toNat 4) (stepZ k l) j o hj2 (by omega) hst (by omega) ho) hjv
 struct:=by
  intro base w m bp bc sv ev zs ss es fs ns hM hS hD r t to left l' q hr ht hto hg
  have hz:=hM.msg.bytes.1
  cases room with
  | zero=>cases hg
  | succ n =>
  have ihn:=ih n rfl
  have htf:=tab_facts hz ht
  obtain ⟨hrf,hxs⟩:=fs_at hM.structs hr
  have hsm:=hS.2 _ (List.getElem_mem hr)
  have hxm:(recC (sRecs ss) r).fields=ss[r].1.fields.map cF:=by rw [recC_at hr];rfl
  change (if left-(t.size+t.own)<0 then none else match seqD (fieldZ zs (flatZ (sRecs ss) es zs n) (recC (sRecs ss) r).fields to t) (left-(t.size+t.own)) (recC (sRecs ss) r).fields.length with|none=>none|some (ks,l)=>some (PV.mk 0 [] ks true,l))=some (q,l') at hg
  split at hg
  · cases hg
  cases hsq:seqD (fieldZ zs (flatZ (sRecs ss) es zs n) (recC (sRecs ss) r).fields to t) (left-(t.size+t.own)) (recC (sRecs ss) r).fields.length with
  | none=>rw [hsq] at hg;cases hg
  | some pr =>
  obtain ⟨ks,l1⟩:=pr
  rw [hsq] at hg
  injection hg with hg
  injection hg with hg _
  subst hg
  refine .inr ⟨by decide,⟨⟨_,_,rfl⟩,⟨rfl,rfl,rfl⟩,⟨by omega,by unfold sRecs;rw [List.length_map,crow_length];omega⟩,seqD_length hsq⟩,fun j hj hf=>?_⟩
  change j<ks.length at hj
  change j<(recC (sRecs ss) r).fields.length at hf
  change AskOk _ _ _ _ _ ((recC (sRecs ss) r).fields[j]'hf).kind ((recC (sRecs ss) r).fields[j]'hf).ref ((recC (sRecs ss) r).fields[j]'hf).lists (ks[j]'hj)
  obtain ⟨l2,l3,hjv⟩:=seqD_at hsq j hj
  obtain ⟨x,hx⟩:∃ x,(recC (sRecs ss) r).fields[j]'hf=x:=⟨_,rfl⟩
  have hj2:j<ss[r].1.fields.length:=by rw [hxm,List.length_map] at hf;exact hf
  obtain ⟨k,rr,l,d,nm,hxe,hty,hdm,hdz⟩:∃ (k rr l d:Nat) (nm:ByteArray),x=⟨nm,k,rr,l,d⟩∧TyM ss.length es k rr l∧(d:Int)≤18446744073709551615∧(sortP k l≠1→d=0):=by
   have h1:=hsm.2 _ (List.getElem_mem hj2)
   have hxc:x=cF ss[r].1.fields[j]:=by rw [←hx];simp only [hxm,List.getElem_map]
   refine ⟨ss[r].1.fields[j].kind,ss[r].1.fields[j].ref,ss[r].1.fields[j].lists,ss[r].1.fields[j].dflt,ss[r].1.fields[j].name,hxc,h1.1,h1.2.1,?_⟩
   have h2:=(hD _ (List.getElem_mem hr) x (by rw [hxc];exact List.mem_map.2 ⟨_,List.getElem_mem hj2,rfl⟩)).2.2
   rw [hxc] at h2
   exact h2
  have hkid:∀ o:Nat,sortP x.kind x.lists=o→∀ W,Below w.heap.size w W→Calls Tryd.prog 101 #[strV m r t to,.int .i64 j,.int .i64 o] W fun e w'=>e=.returned (kidV x.kind x.ref x.lists (to+offZ zs t j) x.dflt (decide (offZ zs t j≠0)))∧Below W.heap.size W w':=fun o ho W hW =>
   fskid_any W (hM.msg.below hW) r hrf t to (by omega) j o (by rw [hxs];exact hf) (by have:=hsm.1;omega) htf.1 x (by rw [←hx];simp only [hxs]) ho
  rw [hx]
  have hxq:(recC (sRecs ss) r).fields[j]?=some x:=by rw [List.getElem?_eq_getElem hf,hx]
  unfold fieldZ at hjv
  rw [hxq] at hjv
  clear hx hxq hxs
  subst hxe
  change (if offZ zs t j=0 then some (numV d,l2) else if offZ zs t j<4∨t.own<offZ zs t j+inlC k l then none else flatZ (sRecs ss) es zs n k rr l (to+offZ zs t j) l2)=some (ks[j],l3) at hjv
  split at hjv
  · rename_i h0
    injection hjv with hjv
    injection hjv with hjv _
    rw [←hjv]
    exact fAskS0 hM r to t.own t.la t.size j k rr l d (to+offZ zs t j) hty hdz hdm (fun o ho W hW=>by
     have h5:=hkid o ho W hW
     rw [show decide (offZ zs t j≠0)=false from by rw [h0];rfl] at h5
     exact h5)
  · rename_i h0
    split at hjv
    · cases hjv
    exact fAskS ihn hM hS hD r to t.own t.la t.size j k rr l d (to+offZ zs t j) l2 l3 ks[j] hty (fun o ho W hW=>by
     have h5:=hkid o ho W hW
     rw [show decide (offZ zs t j≠0)=true from decide_eq_true h0] at h5
     exact h5) hjv
theorem fshow_all:∀ room,ShowAt room
 | 0=>fshowStep 0 (fun n e=>by omega)
 | n+1=>fshowStep (n+1) (fun q e=>by
  obtain rfl:n=q:=by omega
  exact fshow_all n)
end Go.Proofs.YtcfjjocmiheiaaaDoor
