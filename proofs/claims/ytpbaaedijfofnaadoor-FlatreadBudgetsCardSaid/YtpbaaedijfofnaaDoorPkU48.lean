/-
  What the document's Encode hands back, as bytes: of a value that the hand makes. Conditions: those that each theorem names.
-/
import Derived.Test.YtpbaaedijfofnaaDoorPkU51
import Derived.Test.YtpbaaedijfofnaaDoorPkU39
import Derived.Test.YtpbaaedijfofnaaDoorPkU44
namespace Go.Proofs.YtpbaaedijfofnaaDoor
open Go.ChangeShapes Go.WideShapes Go.ChangeAt Go.RowKit Go.Shelf
theorem enc_all:∀ r,EncAt r
 | 0=>enc_step 0 (enc_list 0 (fun q h=>by cases h)) (enc_tab 0 (fun q h=>by cases h))
 | r+1=>enc_step (r+1) (enc_list (r+1) (fun q h=>by injection h with h;exact h▸enc_all r)) (enc_tab (r+1) (fun q h=>by injection h with h;exact h▸enc_all r))
theorem made_u8 (n:Nat):madeCells (Value.int .u8 0).cells (n * 1)=(u8s (zeros n)).toArray:=by
 apply Array.ext'
 rw [Nat.mul_one,made_zeros]
theorem make_u8 (n:Nat)(hn:n≤1000000)(W:World):(Instr.makeSlice 22 (.int .i64 (n:Int)) (.int .i64 (n:Int))).run Tryd.prog W=.ok (.slice (some ⟨W.heap.size,0,none⟩) n n) (W.alloc (.cells (u8s (zeros n)).toArray 5)):=by
 obtain ⟨i,hi,hz,hs,hb⟩:=info_parts u8_infoW
 have h:=run_make W 22 5 i (.int .u8 0) Tryd.underlying22 hi hz .i64 .i64 n n (by omega) (Int.le_refl _) (by rw [hb];omega) (by omega)
 rw [hs,Int.toNat_natCast,made_u8] at h
 exact h
theorem own_u8 {W:World}{g base:Nat}{zs:List Int}(h:W.heap[g]?=some (.cells (u8s zs).toArray 5 (0,0)))(hb:base≤g)(hl:zs.length≤1000000):OwnV W base 5 (some ⟨g,0,none⟩) zs.length zs:=by
 refine ⟨by simp [u8s],.inr ⟨g,zs.length,_,rfl,hb,h,Nat.le_refl _,by unfold maxLen;omega,by simp [u8s],?_⟩⟩
 simp only [Nat.mul_one]
 exact List.take_of_length_le (by simp [u8s])
def EncPost (zs:List Int)(w:World)(e:Ending)(w':World):Prop:=Below w.heap.size w w'∧(∀ z ∈ zs,0≤z∧z≤255)∧∃ A cap,e=.returned (.slice A zs.length cap)∧OwnV w' w.heap.size 5 A cap zs
set_option maxRecDepth 100000 in
set_option maxHeartbeats 8000000 in
theorem encode_any (w:World){b:Nat}{ss:List (SRec × Value)}{es:List (SCho × Value)}{sv ev:Value}(root:Nat)(h:SchRows b w ss es sv ev)(hS:SchM ss (es.map Prod.fst))(hD:∀ q ∈ ss,DfltsOk (es.map Prod.fst) (cR q.1).fields)(v:PV)(val:Value)(hv:IsV w v val)(hf:fitsP (sRecs ss) (es.map Prod.fst) 12 13 root 0 v=true)(hh:v.has=true)(hl:(encZ (ss.map Prod.fst) 12 root v).length≤70368744177664) :
  Calls Tryd.prog 21 #[.agg #[sv,ev,.int .i64 root],val] w (EncPost (encZ (ss.map Prod.fst) 12 root v) w):=by
 obtain ⟨ba,ka,bc,kc,rfl,_,_,_,_,_,_,_⟩:=hv.form
 obtain ⟨hb,hq1,hq2⟩:=two_start w #[sv,ev,.int .i64 root] #[.int .u64 v.num,.slice ba v.bytes.length bc,.slice ka v.kids.length kc,.bool v.has] 30 36
 have HB:=Lib.hid hb
 have HQ1:=Lib.hid hq1
 have HQ2:=Lib.hid hq2
 have HT:=Lib.hid (fun W wk A cap (hc:ECtx b w W wk A cap sv ev root (zeros 4) ss es)=>enc_tab 12 (fun q _=>enc_all q) b w W wk A cap sv ev root (zeros 4) ss es root v _ 0 hc hv hf hh (by decide) hl)
 have HR:=Lib.hid h
 have HS:=Lib.hid hS
 have HD:=Lib.hid hD
 obtain ⟨P,hP⟩:∃ P,EncPost (encZ (ss.map Prod.fst) 12 root v) w=P:=⟨_,rfl⟩
 rw [hP]
 have HP:=Lib.hid hP.symm
 have HMK:Hid (∀ W:World,(Instr.makeSlice 22 (.int .i64 4) (.int .i64 4)).run Tryd.prog W=.ok (.slice (some ⟨W.heap.size,0,none⟩) 4 4) (W.alloc (.cells (u8s (zeros 4)).toArray 5))):=Lib.hid (fun W=>make_u8 4 (by decide) W)
 clear hb hq1 hq2 h hS hD hv hf hh hl hP
 go_enter Tryd.func21,Tryd.ntmps21
 go_upto_region 1 with (fail)
 generalize (w.alloc (.cells #[sv,ev,.int .i64 root] 30)).alloc (.cells #[.int .u64 v.num,.slice ba v.bytes.length bc,.slice ka v.kids.length kc,.bool v.has] 36)=W0 at *
 obtain ⟨_,s0,s1,s2,_⟩:=blk3 HQ1.out
 refine wp_region_noPanic ?_
 refine wp_region_held_drew (S:=(fun w'=>w'.cell? ⟨w.heap.size,0,none⟩=some (sv)∧w'.cell? ⟨w.heap.size,1,none⟩=some (ev)∧w'.cell? ⟨w.heap.size,2,none⟩=some (.int .i64 root))) (by kernel_rfl) ⟨s0,s1,s2⟩ ?_
 intro hS
 refine tk 0 (.agg #[sv,ev,.int .i64 root]) hS ?_ ?_
 · rintro w' ⟨s0,s1,s2⟩
   go_simp
 simp only [Act.put,List.getElem_toArray,List.getElem_cons_zero,List.setIfInBounds_toArray,List.set_cons_zero,List.set_cons_succ]
 refine wpAnyH_ready (rs:=[1]) (by kernel_rfl) (by decide) (AllReadyH.cons rfl (fun K hK=>?_) AllReadyH.nil)
 rw [if_pos (by kernel_rfl)]
 have hmk:=HMK.out W0.drew
 go_simp
 have hb0:Below W0.heap.size W0 (W0.alloc (.cells (u8s (zeros 4)).toArray 5)):=(Below.refl _ W0).alloc (Nat.le_refl _) _
 have hb0d:Below W0.heap.size W0 (W0.alloc (.cells (u8s (zeros 4)).toArray 5)).drew:=hb0.drew
 have HB0:=Lib.hid hb0
 have HN0:=Lib.hid (heap_alloc_new W0 (.cells (u8s (zeros 4)).toArray 5))
 refine hK.out _ _ ⟨cell_stays hb0d s0,cell_stays hb0d s1,cell_stays hb0d s2⟩ (fun hS=>?_)
 clear hmk hK K hb0d
 refine tk 2 (.agg #[sv,ev,.int .i64 root,.slice (some ⟨W0.heap.size,0,none⟩) 4 4]) hS ?_ ?_
 · rintro w' ⟨s0,s1,s2⟩
   go_simp
 simp only [Act.put,List.getElem_toArray,List.getElem_cons_succ,List.getElem_cons_zero,List.setIfInBounds_toArray,List.set_cons_zero,List.set_cons_succ]
 refine wpAnyH_ready (rs:=[3]) (by kernel_rfl) (by decide) (AllReadyH.cons rfl (fun K hK=>?_) AllReadyH.nil)
 rw [if_pos (by kernel_rfl)]
 go_simp
 have hb1:Below (W0.alloc (.cells (u8s (zeros 4)).toArray 5)).heap.size (W0.alloc (.cells (u8s (zeros 4)).toArray 5)) ((W0.alloc (.cells (u8s (zeros 4)).toArray 5)).alloc (.cells #[sv,ev,.int .i64 root,.slice (some ⟨W0.heap.size,0,none⟩) 4 4] 118)):=(Below.refl _ _).alloc (Nat.le_refl _) _
 have hbA:=hb0.trans (hb1.mono hb0.size)
 have hbAd:=hbA.drew
 refine hK.out _ _ ⟨cell_stays hbAd s0,cell_stays hbAd s1,cell_stays hbAd s2⟩ (fun hS=>?_)
 have P1:=Lib.hid (blk_below HQ1.out hbAd (blk_lt HQ1.out))
 have P2:=Lib.hid (blk_below HQ2.out hbAd (blk_lt HQ2.out))
 have hbw:=HB.out.trans (hbAd.mono HB.out.size)
 have hwk:((W0.alloc (.cells (u8s (zeros 4)).toArray 5)).alloc (.cells #[sv,ev,.int .i64 root,.slice (some ⟨W0.heap.size,0,none⟩) 4 4] 118)).drew.heap[W0.heap.size+1]?=some (.cells #[sv,ev,.int .i64 root,.slice (some ⟨W0.heap.size,0,none⟩) 4 4] 118 (0,0)):=by
  have h5:=heap_alloc_new (W0.alloc (.cells (u8s (zeros 4)).toArray 5)) (.cells #[sv,ev,.int .i64 root,.slice (some ⟨W0.heap.size,0,none⟩) 4 4] 118)
  rw [World.size_alloc] at h5
  exact h5
 have hgk:((W0.alloc (.cells (u8s (zeros 4)).toArray 5)).alloc (.cells #[sv,ev,.int .i64 root,.slice (some ⟨W0.heap.size,0,none⟩) 4 4] 118)).drew.heap[W0.heap.size]?=some (.cells (u8s (zeros 4)).toArray 5 (0,0)):=blk_below HN0.out hb1.drew (blk_lt' HN0.out)
 have H2:Hid (ECtx b w ((W0.alloc (.cells (u8s (zeros 4)).toArray 5)).alloc (.cells #[sv,ev,.int .i64 root,.slice (some ⟨W0.heap.size,0,none⟩) 4 4] 118)).drew (W0.heap.size+1) (some ⟨W0.heap.size,0,none⟩) 4 sv ev root (zeros 4) ss es):=Lib.hid ⟨⟨hwk,own_u8 hgk HB.out.size (by decide),fun z hz=>by rw [zeros_mem hz];decide,Nat.le_succ_of_le HB.out.size⟩,HR.out,hbw,HS.out,HD.out⟩
 clear hb1 hb0 hbA hbAd hbw hK K hS hwk hgk s0 s1 s2
 generalize ((W0.alloc (.cells (u8s (zeros 4)).toArray 5)).alloc (.cells #[sv,ev,.int .i64 root,.slice (some ⟨W0.heap.size,0,none⟩) 4 4] 118)).drew=W2 at *
 have hS:=And.intro (blk3 P1.out).2.1 (And.intro (blk3 P1.out).2.2.1 (blk3 P1.out).2.2.2.1)
 refine tk 4 (.pointer (some ⟨W0.heap.size+1,0,none⟩)) hS ?_ ?_
 · rintro w' ⟨s0,s1,s2⟩
   go_simp
 simp only [Act.put,List.getElem_toArray,List.getElem_cons_succ,List.getElem_cons_zero,List.setIfInBounds_toArray,List.set_cons_zero,List.set_cons_succ]
 refine wpAnyH_done (by kernel_rfl) ?_ _
 refine NoPanic.normal ?_
 try simp only [Exit.then]
 obtain ⟨_,s0,s1,s2,_⟩:=blk3 P1.out
 obtain ⟨_,u0,u1,u2,u3⟩:=blk4p P2.out
 clear HQ1 HQ2 HB
 go_wp2_with fail
 refine (HT.out W2 _ _ _ H2.out).mono ?_
 rintro e W3 hp
 obtain ⟨A3,c3,rfl,h3,hx3⟩:=H2.out.post hp
 obtain ⟨_,c0,c1,c2,c3'⟩:=blk4p h3.st.blk
 have H3:=Lib.hid h3
 clear hp h3 hx3 s0 s1 s2 u0 u1 u2 u3
 go_wp2
 rw [HP.out]
 exact ⟨H3.out.bel,H3.out.st.rng,A3,c3,rfl,H3.out.st.own⟩
end Go.Proofs.YtpbaaedijfofnaaDoor
namespace Go.Proofs.YtpbaaedijfofnaaDoor
open Go.ChangeShapes Go.WideShapes Go.ChangeAt Go.RowKit Go.Shelf
theorem bytes_ownv {W:World}{base cap:Nat}{A:Option Addr}{zs:List Int}(h:OwnV W base 5 A cap zs)(hz:∀ z ∈ zs,0≤z∧z≤255):Bytes W A zs∧zs.length≤cap:=by
 have hc:=row_cap (show W.ownsRow base 5 1 (.slice A zs.length cap) zs.length (u8s zs) from h)
 refine ⟨⟨fun i=>?_,fun hne=>?_⟩,hc⟩
 · rcases Nat.lt_or_ge i zs.length with h1|h1
   · rw [List.getD,List.getElem?_eq_getElem h1,Option.getD_some];exact hz _ (List.getElem_mem h1)
   · rw [List.getD,List.getElem?_eq_none h1];decide
 · have hl:0<zs.length:=List.length_pos_iff.2 hne
   obtain ⟨g,c,hv,_,_,hg,hcell⟩:=row_at h hl
   injection hv with hA _ _
   refine ⟨g,0,hA,hg,fun i hi=>?_⟩
   rw [Nat.zero_add,hcell i (by omega),show u8s zs=zs.map (.int .u8) from rfl,List.getElem?_map,List.getElem?_eq_getElem hi,List.getD,List.getElem?_eq_getElem hi]
   rfl
theorem hand_len {ss:List (SRec × Value)}{es:List SCho}{rt n:Nat}{v:PV}(hm:SchM ss es)(hD:∀ q ∈ ss,DfltsOk es (cR q.1).fields)(hf:fitsP ((crow ss).map Prod.fst) es 12 13 rt 0 v=true)(hh:v.has=true)(hw:Wt v (1700 * (n+1)))(hn:n≤30000):(encZ (ss.map Prod.fst) 12 rt v).length≤140000000000:=by
 have hf':fitsP ((ss.map Prod.fst).map cR) es 12 13 rt 0 v=true:=by rw [←sRecs_map];exact hf
 have h:=encZ_len (S:=ss.map Prod.fst) (es:=es) (fun q hq=>by obtain ⟨p,hp,rfl⟩:=List.mem_map.1 hq;exact (hm.2 p hp).1) (fun q hq=>by obtain ⟨p,hp,rfl⟩:=List.mem_map.1 hq;exact hD p hp) hf' hh hw
 refine Nat.le_trans h ?_
 clear h hf hf' hw hm hD hh
 omega
theorem hand_encode (w:World){b n bc root:Nat}{a:Option Addr}{bs:List Int}{ss:List (SRec × Value)}{es:List (SCho × Value)}{sv ev:Value}(h:SchRows b w ss es sv ev)(hm:SchM ss (es.map Prod.fst))(hD:∀ q ∈ ss,DfltsOk (es.map Prod.fst) (cR q.1).fields)(hr:root<ss.length)(hb:Bytes w a bs)(hn:bs.length=n)(hl:n≤30000)(hc:n≤bc) :
  Calls Tryd.prog 15 #[.agg #[sv,ev,.int .i64 root],.slice a n bc] w fun e w1=>Below w.heap.size w w1∧∃ (v:PV) (val:Value),e=.returned val∧IsV w1 v val∧v.has=true∧fitsP (sRecs ss) (es.map Prod.fst) 12 13 root 0 v=true∧(encZ (ss.map Prod.fst) 12 root v).length≤140000000000∧SmallV v ∧
   ∀ w2,Below w1.heap.size w1 w2→Calls Tryd.prog 21 #[.agg #[sv,ev,.int .i64 root],val] w2 (EncPost (encZ (ss.map Prod.fst) 12 root v) w2):=by
 refine (hvalue_wt w h hm hr hb hn (by omega) hc).mono ?_
 rintro e w1 ⟨⟨v,val,rfl,hv,_,hh,hf,hs,hw⟩,hbel⟩
 have hlen:=hand_len hm hD hf hh hw hl
 exact ⟨hbel,v,val,rfl,hv,hh,hf,hlen,hs,fun w2 hw2=>encode_any w2 root (h.below (hbel.trans (hw2.mono hbel.size))) hm hD v val (hv.later hw2) hf hh (by omega)⟩
end Go.Proofs.YtpbaaedijfofnaaDoor
