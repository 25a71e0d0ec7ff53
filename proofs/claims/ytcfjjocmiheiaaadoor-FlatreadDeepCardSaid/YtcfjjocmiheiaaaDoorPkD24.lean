/-
  The document's writer of tables: a value at its place: a number, bytes, a list, a struct. Conditions: those that each theorem names.
-/
import Derived.Test.YtcfjjocmiheiaaaDoorPkD52
import Derived.Test.YtcfjjocmiheiaaaDoorPkD2
import Derived.Test.YtcfjjocmiheiaaaDoorPkD4
import Derived.Test.YtcfjjocmiheiaaaDoorPkD14
import Derived.Test.YtcfjjocmiheiaaaDoorPkD20
namespace Go.Proofs.YtcfjjocmiheiaaaDoor
open Go.ChangeShapes Go.WideShapes Go.ChangeAt Go.RowKit Go.Shelf
def Loc (W:World)(wk:Nat)(A:Option Addr)(p:Nat)(o:Obj):Prop:=W.heap[p]?=some o∧p≠wk∧some p≠rowOf A
theorem blk_lt' {w:World}{g:Nat}{o:Obj}(h:w.heap[g]?=some o):g<w.heap.size:=by
 rcases Nat.lt_or_ge g w.heap.size with h1|h1
 · exact h1
 · rw [Array.getElem?_eq_none h1] at h;cases h
theorem Wx.notrow {wk p:Nat}{A A':Option Addr}{w w':World}(h:Wx wk A A' w w')(hp:p<w.heap.size)(hne:some p≠rowOf A):some p≠rowOf A':=by
 rcases h.row with e|⟨k,e,hk⟩
 · rw [e];exact hne
 · rw [e];intro e2;injection e2 with e2;omega
theorem Loc.wx {W W':World}{wk p:Nat}{A A':Option Addr}{o:Obj}(h:Loc W wk A p o)(hx:Wx wk A A' W W'):Loc W' wk A' p o:=
 ⟨(hx.block p (blk_lt' h.1) h.2.1 h.2.2).trans h.1,h.2.1,hx.notrow (blk_lt' h.1) h.2.2⟩
theorem Loc.bel {W W':World}{wk p:Nat}{A:Option Addr}{o:Obj}(h:Loc W wk A p o)(hb:Below W.heap.size W W'):Loc W' wk A p o:=⟨(hb.block p (blk_lt' h.1)).trans h.1,h.2.1,h.2.2⟩
theorem Loc.new {W W':World}{base wk p cap:Nat}{A:Option Addr}{sv ev:Value}{root:Int}{zs:List Int}{o:Obj}(h:WrSt W base wk A cap sv ev root zs)(hp:W.heap.size≤p)(hb:W'.heap[p]?=some o):Loc W' wk A p o:=
 ⟨hb,by have:=blk_lt h.blk;omega,fun e=>by have:=(h.row p e.symm).2;omega⟩
structure ECtx (b:Nat)(w0 W:World)(wk:Nat)(A:Option Addr)(cap:Nat)(sv ev:Value)(root:Int)(zs:List Int)(ss:List (SRec × Value))(es:List (SCho × Value)):Prop where
 st:WrSt W w0.heap.size wk A cap sv ev root zs
 rows:SchRows b w0 ss es sv ev
 bel:Below w0.heap.size w0 W
 sch:SchM ss (es.map Prod.fst)
 dfl:∀ q ∈ ss,DfltsOk (es.map Prod.fst) (cR q.1).fields
section
variable {b:Nat} {w0 W W':World} {wk:Nat} {A A':Option Addr} {cap cap':Nat} {sv ev:Value} {root:Int} {zs zs':List Int} {ss:List (SRec × Value)} {es:List (SCho × Value)}
theorem ECtx.step (h:ECtx b w0 W wk A cap sv ev root zs ss es)(hs:WrSt W' w0.heap.size wk A' cap' sv ev root zs')(hx:Wx wk A A' W W'):ECtx b w0 W' wk A' cap' sv ev root zs' ss es:=
 ⟨hs,h.rows,h.bel.trans (hx.below h.st.hb (fun k hk=>(h.st.row k hk).1) h.bel.size),h.sch,h.dfl⟩
theorem ECtx.below (h:ECtx b w0 W wk A cap sv ev root zs ss es)(hb:Below W.heap.size W W'):ECtx b w0 W' wk A cap sv ev root zs ss es:=h.step (h.st.below hb) (Wx.of_below A hb)
theorem ECtx.post (h:ECtx b w0 W wk A cap sv ev root zs ss es){r:Value}{e:Ending}(hp:WrPost r w0.heap.size wk A sv ev root zs' W e W'):∃ A' cap',e=.returned r∧ECtx b w0 W' wk A' cap' sv ev root zs' ss es∧Wx wk A A' W W':=by
 obtain ⟨h1,A',cap',h2,h3⟩:=hp
 exact ⟨A',cap',h1,h.step h2 h3,h3⟩
theorem sRecs_map (ss:List (SRec × Value)):sRecs ss=(ss.map Prod.fst).map cR:=by
 unfold sRecs crow
 rw [List.map_map,List.map_map]
 rfl
end
def EncAt (r:Nat):Prop:=∀ (b:Nat) (w0 W:World) (wk:Nat) (A:Option Addr) (cap:Nat) (sv ev:Value) (root:Int) (zs:List Int) (ss:List (SRec × Value)) (es:List (SCho × Value)) (k ref lists:Nat) (v:PV) (val:Value) (a:Nat),
 ECtx b w0 W wk A cap sv ev root zs ss es→IsV w0 v val→1≤k→k≤13→lists≤3→fitsP (sRecs ss) (es.map Prod.fst) r k ref lists v=true→(k=13→lists=0→v.has=true)→a+(inlC k lists).toNat≤zs.length→(valE (ss.map Prod.fst) (encE (ss.map Prod.fst) r) k ref lists v a zs).length≤70368744177664 →
 Calls Tryd.prog 70 #[.pointer (some ⟨wk,0,none⟩),.agg #[.int .u8 k,.int .i64 ref,.int .i64 lists],val,.int .i64 a] W (WrPost (.tuple #[]) w0.heap.size wk A sv ev root (valE (ss.map Prod.fst) (encE (ss.map Prod.fst) r) k ref lists v a zs) W)
def EncListAt (r:Nat):Prop:=∀ (b:Nat) (w0 W:World) (wk:Nat) (A:Option Addr) (cap:Nat) (sv ev:Value) (root:Int) (zs:List Int) (ss:List (SRec × Value)) (es:List (SCho × Value)) (k ref lists:Nat) (v:PV) (val:Value) (a:Nat),
 ECtx b w0 W wk A cap sv ev root zs ss es→IsV w0 v val→1≤k→k≤13→1≤lists→lists≤3→fitsP (sRecs ss) (es.map Prod.fst) r k ref lists v=true→a+4≤zs.length→(listE (encE (ss.map Prod.fst) r) k ref ((lists:Int)-1) v a zs).length≤70368744177664 →
 Calls Tryd.prog 95 #[.pointer (some ⟨wk,0,none⟩),.agg #[.int .u8 k,.int .i64 ref,.int .i64 lists],val,.int .i64 a] W (WrPost (.tuple #[]) w0.heap.size wk A sv ev root (listE (encE (ss.map Prod.fst) r) k ref ((lists:Int)-1) v a zs) W)
def EncTabAt (r:Nat):Prop:=∀ (b:Nat) (w0 W:World) (wk:Nat) (A:Option Addr) (cap:Nat) (sv ev:Value) (root:Int) (zs:List Int) (ss:List (SRec × Value)) (es:List (SCho × Value)) (i:Nat) (v:PV) (val:Value) (a:Nat),
 ECtx b w0 W wk A cap sv ev root zs ss es→IsV w0 v val→fitsP (sRecs ss) (es.map Prod.fst) r 13 i 0 v=true→v.has=true→a+4≤zs.length→(tableE (ss.map Prod.fst) (encE (ss.map Prod.fst) r) i v a zs).length≤70368744177664 →
 Calls Tryd.prog 44 #[.pointer (some ⟨wk,0,none⟩),.int .i64 i,val,.int .i64 a] W (WrPost (.tuple #[]) w0.heap.size wk A sv ev root (tableE (ss.map Prod.fst) (encE (ss.map Prod.fst) r) i v a zs) W)
end Go.Proofs.YtcfjjocmiheiaaaDoor
namespace Go.Proofs.YtcfjjocmiheiaaaDoor
open Go.ChangeShapes Go.WideShapes Go.ChangeAt Go.RowKit Go.Shelf
variable {b:Nat} {w0 W:World} {wk:Nat} {A:Option Addr} {cap:Nat} {sv ev:Value} {root:Int} {zs:List Int} {ss:List (SRec × Value)} {es:List (SCho × Value)}
theorem rng_of {ys:List Int}(h:∀ i,0≤ys.getD i 0∧ys.getD i 0≤255):∀ z ∈ ys,0≤z∧z≤255:=fun z hz=>by
 obtain ⟨i,hi,rfl⟩:=List.getElem_of_mem hz
 have h1:=h i
 rw [List.getD,List.getElem?_eq_getElem hi,Option.getD_some] at h1
 exact h1
set_option maxRecDepth 100000 in
set_option maxHeartbeats 8000000 in
theorem weval_num (h:ECtx b w0 W wk A cap sv ev root zs ss es)(k ref:Nat)(v:PV)(val:Value)(a:Nat)(hv:IsV w0 v val)(hk:0<kSize k)(hk10:k≤10)(ha:a+(kSize k).toNat≤zs.length)(hl:zs.length≤70368744177664) :
  Calls Tryd.prog 70 #[.pointer (some ⟨wk,0,none⟩),.agg #[.int .u8 k,.int .i64 ref,.int .i64 0],val,.int .i64 a] W (WrPost (.tuple #[]) w0.heap.size wk A sv ev root (setE a (kSize k).toNat v.num zs) W):=by
 obtain ⟨ba,ka,bc,kc,rfl,hn,hby,hbl,hbm,hkl,hkm,_⟩:=hv.form
 have hb0:=h.bel.size
 obtain ⟨hb,hq1,hq2⟩:=two_start W #[.int .u8 k,.int .i64 ref,.int .i64 0] #[.int .u64 v.num,.slice ba v.bytes.length bc,.slice ka v.kids.length kc,.bool v.has] 50 36
 have HB:=Lib.hid hb
 have L1:=Lib.hid (Loc.new h.st (Nat.le_refl _) hq1)
 have L2:=Lib.hid (Loc.new h.st (Nat.le_succ _) hq2)
 have H0:=Lib.hid (h.below hb)
 have HX0:=Lib.hid (Wx.of_below (wk:=wk) A hb)
 have HN0:=Lib.hid (fun W'=>rnumI_any k (by omega) ref 0 W')
 have HBY:=Lib.hid hby
 have HBL:=Lib.hid hbl
 have HB0:=Lib.hid hb0
 obtain ⟨P,hP⟩:∃ P,WrPost (.tuple #[]) w0.heap.size wk A sv ev root (setE a (kSize k).toNat v.num zs) W=P:=⟨_,rfl⟩
 rw [hP]
 have HP:=Lib.hid hP.symm
 have hnum:numTB k 0=true:=by unfold numTB;rw [decide_eq_true hk];rfl
 rw [hnum] at HN0
 obtain ⟨s,hs,hs8⟩:∃ s:Nat,kSize k=s∧s≤8:=by
  obtain ⟨s,h1,h2⟩:=ksize_is hk
  exact ⟨s,h1,by omega⟩
 have HSZ:=Lib.hid (fun W'=>rsize_any k W')
 rw [hs] at HSZ HP ha
 rw [Int.toNat_natCast] at HP ha
 have hw8:=IntWalk.i64_in (k:Int) ⟨by omega,by omega⟩
 have HA:=Lib.hid ha
 have HL:=Lib.hid hl
 have HS8:=Lib.hid hs8
 clear hb hq1 hq2 hP h hv hby hbl hbm hkl hkm hs hs8 ha hl hk hnum hb0
 go_enter Tryd.func70,Tryd.ntmps70
 go_upto_region 7 with (fail)
 generalize (W.alloc (.cells #[.int .u8 k,.int .i64 ref,.int .i64 0] 50)).alloc (.cells #[.int .u64 v.num,.slice ba v.bytes.length bc,.slice ka v.kids.length kc,.bool v.has] 36)=W1 at *
 obtain ⟨_,t0,t1,t2,_⟩:=blk3 L1.out.1
 go_wp2_with fail
 refine (HN0.out _).mono ?_
 rintro e W2 ⟨rfl,hb2⟩
 have H2:=Lib.hid (H0.out.below hb2)
 have HX2:=Lib.hid (HX0.out.trans (Wx.of_below A hb2))
 have M1:=Lib.hid (L1.out.bel hb2)
 have M2:=Lib.hid (L2.out.bel hb2)
 clear hb2 t0 t1 t2
 obtain ⟨_,t0,t1,t2,_⟩:=blk3 M1.out.1
 obtain ⟨_,u0,u1,u2,u3⟩:=blk4p M2.out.1
 go_upto_region 8 with (fail)
 have s0:=t0
 have s1:=u0
 clear t0 t1 t2 u0 u1 u2 u3
 refine wp_region_noPanic ?_
 refine wp_region_held_drew (S:=(fun w'=>w'.cell? ⟨W.heap.size,0,none⟩=some (.int .u8 k)∧w'.cell? ⟨W.heap.size+1,0,none⟩=some (.int .u64 v.num))) (by kernel_rfl) ⟨s0,s1⟩ ?_
 intro hS
 refine tk 0 (.pointer (some ⟨wk,0,none⟩)) hS ?_ ?_
 · rintro w' ⟨s0,s1⟩
   go_simp
 simp only [td]
 refine tk 1 (.int .i64 a) hS ?_ ?_
 · rintro w' ⟨s0,s1⟩
   go_simp
 simp only [td]
 refine tk 2 (.pointer (some ⟨W.heap.size,0,none⟩)) hS ?_ ?_
 · rintro w' ⟨s0,s1⟩
   go_simp
 simp only [td]
 refine tk 3 (.int .u8 k) hS ?_ ?_
 · rintro w' ⟨s0,s1⟩
   go_simp
 simp only [td]
 refine tk 4 (.int .i64 k) hS ?_ ?_
 · rintro w' ⟨s0,s1⟩
   go_simp
 simp only [td]
 refine tk 6 (.pointer (some ⟨W.heap.size+1,0,none⟩)) hS ?_ ?_
 · rintro w' ⟨s0,s1⟩
   go_simp
 simp only [td]
 refine tk 7 (.int .u64 v.num) hS ?_ ?_
 · rintro w' ⟨s0,s1⟩
   go_simp
 simp only [td]
 refine wpAnyH_ready (rs:=[5]) (by kernel_rfl) (by decide) (AllReadyH.cons rfl (fun K hK=>?_) AllReadyH.nil)
 rw [if_pos (by kernel_rfl)]
 go_simp
 refine (HSZ.out W2.drew).mono ?_
 rintro e _ ⟨rfl,rfl⟩
 have ns0:=cell_stays ((Below.refl _ W2).drew) s0
 have ns1:=cell_stays ((Below.refl _ W2).drew) s1
 refine hK.out _ _ ⟨ns0,ns1⟩ (fun hS=>?_)
 clear ns0 ns1
 refine wpAnyH_ready (rs:=[8]) (by kernel_rfl) (by decide) (AllReadyH.cons rfl (fun K hK=>?_) AllReadyH.nil)
 rw [if_pos (by kernel_rfl)]
 go_simp
 refine (wset_any W2.drew (H2.out.below (Below.refl _ _).drew).st a s v.num HS8.out HA.out HL.out (Nat.le_trans HB0.out (Nat.le_trans HX2.out.size (Nat.le_refl _)))).mono ?_
 rintro e W3 hp
 obtain ⟨A3,c3,rfl,h3,hx3⟩:=(H2.out.below (Below.refl _ _).drew).post hp
 have hxx:=(Wx.of_below (wk:=wk) A (Below.refl W2.heap.size W2).drew).trans hx3
 have N1:=M1.out.wx hxx
 have N2:=M2.out.wx hxx
 have H3:=Lib.hid h3
 have HX3:=Lib.hid (HX2.out.trans hxx)
 refine hK.out _ _ ⟨(blk3 N1.1).2.1,(blk4p N2.1).2.1⟩ (fun hS=>?_)
 clear N1 N2 hxx hp h3 hx3
 refine wpAnyH_done (by kernel_rfl) ?_ _
 refine NoPanic.normal ?_
 try simp only [Exit.then]
 go_wp2
 first|refine bodyPost_end (v:=.tuple #[]) (by simp [results,Tryd.results70,go_sem]) rfl ?_|refine bodyPost_ret (v:=.tuple #[]) (by simp [results,Tryd.results70,go_sem]) rfl ?_
 rw [HP.out]
 exact ⟨rfl,A3,c3,H3.out.st,HX3.out⟩
set_option maxRecDepth 100000 in
set_option maxHeartbeats 8000000 in
theorem weval_bytes (h:ECtx b w0 W wk A cap sv ev root zs ss es)(k ref:Nat)(v:PV)(val:Value)(a:Nat)(hv:IsV w0 v val)(hk:k=11∨k=12)(ha:a+4≤zs.length)(hl:(bytesE k v a zs).length≤70368744177664) :
  Calls Tryd.prog 70 #[.pointer (some ⟨wk,0,none⟩),.agg #[.int .u8 k,.int .i64 ref,.int .i64 0],val,.int .i64 a] W (WrPost (.tuple #[]) w0.heap.size wk A sv ev root (bytesE k v a zs) W):=by
 have hk255:k≤255:=by omega
 obtain ⟨ba,ka,bc,kc,rfl,hn,hby,hbl,hbm,hkl,hkm,_⟩:=hv.form
 have hb0:=h.bel.size
 obtain ⟨hb,hq1,hq2⟩:=two_start W #[.int .u8 k,.int .i64 ref,.int .i64 0] #[.int .u64 v.num,.slice ba v.bytes.length bc,.slice ka v.kids.length kc,.bool v.has] 50 36
 have HB:=Lib.hid hb
 have L1:=Lib.hid (Loc.new h.st (Nat.le_refl _) hq1)
 have L2:=Lib.hid (Loc.new h.st (Nat.le_succ _) hq2)
 have H0:=Lib.hid (h.below hb)
 have HX0:=Lib.hid (Wx.of_below (wk:=wk) A hb)
 have HN0:=Lib.hid (fun W'=>rnumI_any k (by omega) ref 0 W')
 have HBY:=Lib.hid hby
 have HBL:=Lib.hid hbl
 have HB0:=Lib.hid hb0
 obtain ⟨P,hP⟩:∃ P,WrPost (.tuple #[]) w0.heap.size wk A sv ev root (bytesE k v a zs) W=P:=⟨_,rfl⟩
 rw [hP]
 have HP:=Lib.hid hP.symm
 have hnum:numTB k 0=false:=by rcases hk with rfl|rfl<;>decide
 rw [hnum] at HN0
 have hk13:((k:Int)==13)=false:=by simp;omega
 have hpl:=padE_le 4 zs
 have hlen:(padE 4 zs).length+4+v.bytes.length+1≤70368744177664+1:=by
  unfold bytesE at hl
  rw [List.length_append,List.length_append,setE_length,putE_length] at hl
  omega
 have HLEN:=Lib.hid hlen
 have HPL:=Lib.hid hpl
 have HA:=Lib.hid ha
 have HKK:=Lib.hid hk
 have hwl:=IntWalk.u64_in (v.bytes.length:Int) ⟨by omega,by omega⟩
 obtain ⟨pl,hpl2⟩:∃ pl,(padE 4 zs).length=pl:=⟨_,rfl⟩
 have HPL2:=Lib.hid hpl2
 rw [hpl2] at hpl hlen
 have hws:=IntWalk.i64_in ((pl:Int)-a) ⟨by omega,by omega⟩
 have hwu:=IntWalk.u64_in ((pl:Int)-a) ⟨by omega,by omega⟩
 clear hb hq1 hq2 hP h hv hby hbl hbm hkl hkm ha hl hk hnum hb0 hpl hlen hpl2
 go_enter Tryd.func70,Tryd.ntmps70
 go_upto_region 7 with (fail)
 generalize (W.alloc (.cells #[.int .u8 k,.int .i64 ref,.int .i64 0] 50)).alloc (.cells #[.int .u64 v.num,.slice ba v.bytes.length bc,.slice ka v.kids.length kc,.bool v.has] 36)=W1 at *
 obtain ⟨_,t0,t1,t2,_⟩:=blk3 L1.out.1
 go_wp2_with fail
 refine (HN0.out _).mono ?_
 rintro e W2 ⟨rfl,hb2⟩
 have H2:=Lib.hid (H0.out.below hb2)
 have HX2:=Lib.hid (HX0.out.trans (Wx.of_below A hb2))
 have M1:=Lib.hid (L1.out.bel hb2)
 have M2:=Lib.hid (L2.out.bel hb2)
 clear hb2 t0 t1 t2
 obtain ⟨_,t0,t1,t2,_⟩:=blk3 M1.out.1
 obtain ⟨_,u0,u1,u2,u3⟩:=blk4p M2.out.1
 go_wp2_with fail
 refine (walign_any W2 H2.out.st 4 (.inr (.inl rfl)) (by have:=HLEN.out;have:=HPL.out;omega) H2.out.bel.size).mono ?_
 rintro e W3 hp
 obtain ⟨A3,c3,rfl,h3,hx3⟩:=H2.out.post hp
 have H3:=Lib.hid h3
 have HX3:=Lib.hid (HX2.out.trans hx3)
 have M13:=Lib.hid (M1.out.wx hx3)
 have M23:=Lib.hid (M2.out.wx hx3)
 clear hp h3 hx3 t0 t1 t2 u0 u1 u2 u3
 obtain ⟨_,u0,u1,u2,u3⟩:=blk4p M23.out.1
 go_wp2_with fail
 refine (wput_any W3 H3.out.st 4 (v.bytes.length:Int) (by decide) (by have:=HLEN.out;omega) H3.out.bel.size).mono ?_
 rintro e W4 hp
 obtain ⟨A4,c4,rfl,h4,hx4⟩:=H3.out.post hp
 rw [HPL2.out]
 have H4:=Lib.hid h4
 have HX4:=Lib.hid (HX3.out.trans hx4)
 have M14:=Lib.hid (M13.out.wx hx4)
 have M24:=Lib.hid (M23.out.wx hx4)
 clear hp h4 hx4 u0 u1 u2 u3
 go_wp2_with fail
 refine (wset_any W4 H4.out.st a 4 ((pl:Int)-a) (by decide) (by rw [putE_length];have:=HA.out;have:=HPL.out;omega) (by rw [putE_length];have:=HLEN.out;omega) H4.out.bel.size).mono ?_
 rintro e W5 hp
 obtain ⟨A5,c5,rfl,h5,hx5⟩:=H4.out.post hp
 have H5:=Lib.hid h5
 have HX5:=Lib.hid (HX4.out.trans hx5)
 have M15:=Lib.hid (M14.out.wx hx5)
 have M25:=Lib.hid (M24.out.wx hx5)
 clear hp h5 hx5
 have hl5:(setE a 4 ((pl:Int)-a) (putE 4 (v.bytes.length:Nat) (padE 4 zs))).length=pl+4:=by rw [setE_length,putE_length,HPL2.out]
 have HL5:=Lib.hid hl5
 obtain ⟨_,_,_,_,c53⟩:=blk4p H5.out.st.blk
 obtain ⟨_,u0,u1,u2,u3⟩:=blk4p M25.out.1
 rw [hl5] at c53
 have HRES:Hid (bytesE k v a zs=setE a 4 ((pl:Int)-a) (putE 4 (v.bytes.length:Nat) (padE 4 zs))++v.bytes++(if k=11 then [0] else [])):=Lib.hid (by rw [←HPL2.out];rfl)
 generalize setE a 4 ((pl:Int)-a) (putE 4 (v.bytes.length:Nat) (padE 4 zs))=z5 at *
 clear hl5
 go_upto_region 4 with (fail)
 have s0:=c53
 have s1:=u1
 clear c53 u0 u1 u2 u3
 refine wp_region_noPanic ?_
 refine till_start 10 (fun _=>True) (fun w'=>w'.cell? ⟨wk,3,none⟩=some (.slice A5 (pl+4) c5)∧w'.cell? ⟨W.heap.size+1,1,none⟩=some (.slice ba v.bytes.length bc)) (by kernel_rfl) ?_
 have HB0':=Lib.hid ((Below.refl W5.heap.size W5).drew)
 have HD5:=Lib.hid (H5.out.below HB0'.out)
 have HXD:=Lib.hid (HX5.out.trans (Wx.of_below A5 HB0'.out))
 have M15d:=Lib.hid (M15.out.bel HB0'.out)
 have M25d:=Lib.hid (M25.out.bel HB0'.out)
 have hV:=And.intro (cell_stays HB0'.out s0) (cell_stays HB0'.out s1)
 generalize W5.drew=V0 at *
 have hU:True:=trivial
 refine tt 0 (.pointer (some ⟨wk,0,none⟩)) hU hV ?_ ?_
 · intro w' hSw
   obtain ⟨_,⟨t0,t1⟩⟩:=hSw
   go_simp
 simp only [td]
 refine tt 1 (.pointer (some ⟨wk,0,none⟩)) hU hV ?_ ?_
 · intro w' hSw
   obtain ⟨_,⟨t0,t1⟩⟩:=hSw
   go_simp
 simp only [td]
 refine tt 2 (.pointer (some ⟨wk,0,none⟩)) hU hV ?_ ?_
 · intro w' hSw
   obtain ⟨_,⟨t0,t1⟩⟩:=hSw
   go_simp
 simp only [td]
 refine tt 3 (.pointer (some ⟨wk,3,none⟩)) hU hV ?_ ?_
 · intro w' hSw
   obtain ⟨_,⟨t0,t1⟩⟩:=hSw
   go_simp
 simp only [td]
 refine tt 4 (.slice A5 (pl+4) c5) hU hV ?_ ?_
 · intro w' hSw
   obtain ⟨_,⟨t0,t1⟩⟩:=hSw
   go_simp
 simp only [td]
 refine tt 5 (.pointer (some ⟨W.heap.size+1,1,none⟩)) hU hV ?_ ?_
 · intro w' hSw
   obtain ⟨_,⟨t0,t1⟩⟩:=hSw
   go_simp
 simp only [td]
 refine tt 6 (.slice ba v.bytes.length bc) hU hV ?_ ?_
 · intro w' hSw
   obtain ⟨_,⟨t0,t1⟩⟩:=hSw
   go_simp
 simp only [td]
 obtain ⟨i0,hi0,hzz0,hzz1,hzz2⟩:=info_parts u8_infoW
 have hsrc:=src_bytes (HBY.out.below (Nat.le_refl _) HD5.out.bel) (fun _ _ h=>h) bc
 have hown:=HD5.out.st.own
 unfold OwnV at hown
 rw [HL5.out] at hown
 obtain ⟨v4,V2,hrun,hown4,hg4,hat4⟩:=run_append_any (P:=Tryd.prog) (w:=V0) w0.heap.size 22 22 22 5 i0 (.int .u8 0) 1 Tryd.underlying22 hi0 hzz0 hzz1 rfl (.slice A5 (pl+4) c5) (pl+4) (u8s z5) hown _ v.bytes.length _ hsrc (by have:=HLEN.out;have:=HPL2.out;unfold maxLen;omega) (by rw [hzz2];have:=HLEN.out;have:=HPL2.out;omega) HD5.out.bel.size
 have hap:=wr_app2 (news:=v.bytes) (A:=A5) (cap:=c5) (n:=pl+4) (n4:=pl+4+v.bytes.length) HD5.out.st (Below.refl _ _) rfl hg4 (by rw [HL5.out]) (by simpa [u8s,u8Cells] using hown4) hat4 (rng_of HBY.out.1)
 obtain ⟨A4,cap4,rfl,h8,hs4,hx4⟩:=hap
 have H6:=Lib.hid (HD5.out.step hs4 hx4)
 have HX6:=Lib.hid (HXD.out.trans hx4)
 have M16:=Lib.hid (M15d.out.wx hx4)
 rw [HL5.out] at h8
 have hV2:=And.intro ((blk4p h8).2.2.2.2) (show V2.cell? ⟨W.heap.size+1,1,none⟩=some (.slice ba v.bytes.length bc) from by
  have h1:=(hg4.block (W.heap.size+1) (blk_lt' M25d.out.1) (by have h2:=M25d.out.2.2;rw [ownBlock_rowOf];exact h2)).trans M25d.out.1
  exact (blk4p h1).2.2.1)
 have m3f:=blk_frozen h8 3
 clear hown4 hg4 hat4 h8 hs4 hx4 hsrc hi0 hzz0 hzz1 hzz2 i0 hown
 refine till_one (i:=7) (by kernel_rfl) rfl (fun K hK=>?_)
 rw [if_pos (by kernel_rfl)]
 refine wp_append_run _ (.tmp 28) (.tmp 30) 22 rfl _ _ _ _ rfl rfl hrun ?_
 refine hK.out _ _ trivial hV2 ?_
 clear hK K hrun
 have hV:=hV2
 clear hV2
 refine till_one (i:=8) (by kernel_rfl) rfl (fun K hK=>?_)
 rw [if_pos (by kernel_rfl)]
 go_simp
 refine hK.out _ _ trivial hV ?_
 clear hK K
 refine tt 9 (.pointer (some ⟨wk,3,none⟩)) hU hV ?_ ?_
 · intro w' hSw
   obtain ⟨_,⟨t0,t1⟩⟩:=hSw
   go_simp
 simp only [td]
 have m3:=hV.1
 refine till_last (by kernel_rfl) rfl (fun K hK=>?_)
 rw [if_pos (by kernel_rfl)]
 go_simp
 refine hK.out _ _ trivial ?_
 clear hK K hV m3 m3f
 refine till_done (by kernel_rfl) ?_ _
 refine NoPanic.normal ?_
 try simp only [Exit.then]
 generalize V2.setCell ⟨wk,3,none⟩ (.slice A4 (pl+4+v.bytes.length) cap4)=W6 at *
 obtain ⟨_,t0,t1,t2,_⟩:=blk3 M16.out.1
 have hl6:(z5++v.bytes).length=pl+4+v.bytes.length:=by rw [List.length_append,HL5.out]
 have HL6:=Lib.hid hl6
 rcases HKK.out with rfl|rfl
 · obtain ⟨_,_,_,_,c3⟩:=blk4p H6.out.st.blk
   have f3:=blk_frozen H6.out.st.blk 3
   rw [hl6] at c3
   have hcp:=H6.out.st.few
   rw [hl6] at hcp
   have hbig:pl+4+v.bytes.length≤70368744177680:=by have:=HLEN.out;have:=HPL2.out;omega
   obtain ⟨i0,hi0,hzz0,hzz1,hzz2⟩:=info_parts u8_infoW
   have I1:=Lib.hid hi0
   have I2:=Lib.hid hzz0
   have I3:=Lib.hid hzz1
   have I4:=Lib.hid hzz2
   have HBN:=Lib.hid (heap_alloc_new W6 (.cells #[.int .u8 0] 5))
   have HBA:=Lib.hid ((Below.refl W6.heap.size W6).alloc (Nat.le_refl _) (.cells #[.int .u8 0] 5))
   have hown:=H6.out.st.own
   unfold OwnV at hown
   rw [hl6] at hown
   have HUA:=Lib.hid (row_keep HBA.out hown)
   clear hi0 hzz0 hzz1 hzz2 hown hl6
   obtain ⟨n,hn⟩:∃ n,pl+4+v.bytes.length=n:=⟨_,rfl⟩
   rw [hn] at HUA HL6 c3 hcp hbig
   clear hn
   go_wp2_with (at_builtin;refine wpList_append_own_at _ rfl (.tmp 41) (.tmp 42) 22 rfl w0.heap.size 5 i0 _ 1 1 Tryd.underlying22 I1.out I2.out I3.out I4.out rfl (by decide) _ n (u8s (z5++v.bytes)) rfl HUA.out _ 1 1 [.int .u8 0] rfl rfl (World.news_of_block HBN.out) (by intro u hu;rw [List.mem_singleton.1 hu];rfl) (by unfold maxLen;omega) (by omega) (by have:=H6.out.bel.size;simp;omega) ?_;intro v4 W8 hown4 hg4 hx hat4;clear hx;have hap:=wr_app2 (news:=[0]) (A:=A4) (cap:=cap4) (n:=n) H6.out.st HBA.out rfl hg4 (show (z5++v.bytes).length+1=n+1 by rw [HL6.out]) (by simpa [u8s] using hown4) hat4 (by intro z hz;rw [List.mem_singleton.1 hz];decide);clear hown4 hg4 hat4;obtain ⟨A7,cap7,rfl,h8,hs7,hx7⟩:=hap;obtain ⟨_,d0,d1,d2,d3⟩:=blk4p h8;have e3:=blk_frozen h8 3;have S7:=Lib.hid hs7;have X7:=Lib.hid hx7;clear h8 hs7 hx7)
   first|refine bodyPost_end (v:=.tuple #[]) (by simp [results,Tryd.results70,go_sem]) rfl ?_|refine bodyPost_ret (v:=.tuple #[]) (by simp [results,Tryd.results70,go_sem]) rfl ?_
   rw [HP.out]
   exact ⟨rfl,A7,cap7,by rw [HRES.out];exact S7.out,HX6.out.trans X7.out⟩
 · have hk12:((12:Int)==11)=false:=by decide
   go_wp2
   first|refine bodyPost_end (v:=.tuple #[]) (by simp [results,Tryd.results70,go_sem]) rfl ?_|refine bodyPost_ret (v:=.tuple #[]) (by simp [results,Tryd.results70,go_sem]) rfl ?_
   rw [HP.out]
   exact ⟨rfl,A4,cap4,by rw [HRES.out];simpa using H6.out.st,HX6.out⟩
set_option maxRecDepth 100000 in
set_option maxHeartbeats 8000000 in
theorem weval_list (h:ECtx b w0 W wk A cap sv ev root zs ss es)(k ref:Nat)(v:PV)(val:Value)(a:Nat)(hv:IsV w0 v val)(lists r:Nat)(hnx:EncListAt r)(hk1:1≤k)(hk:k≤13)(hl1:1≤lists)(hl3:lists≤3)(hf:fitsP (sRecs ss) (es.map Prod.fst) r k ref lists v=true)(ha:a+4≤zs.length)(hl:(listE (encE (ss.map Prod.fst) r) k ref ((lists:Int)-1) v a zs).length≤70368744177664) :
  Calls Tryd.prog 70 #[.pointer (some ⟨wk,0,none⟩),.agg #[.int .u8 k,.int .i64 ref,.int .i64 lists],val,.int .i64 a] W (WrPost (.tuple #[]) w0.heap.size wk A sv ev root (listE (encE (ss.map Prod.fst) r) k ref ((lists:Int)-1) v a zs) W):=by
 obtain ⟨ba,ka,bc,kc,rfl,hn,hby,hbl,hbm,hkl,hkm,_⟩:=hv.form
 have hb0:=h.bel.size
 obtain ⟨hb,hq1,hq2⟩:=two_start W #[.int .u8 k,.int .i64 ref,.int .i64 lists] #[.int .u64 v.num,.slice ba v.bytes.length bc,.slice ka v.kids.length kc,.bool v.has] 50 36
 have HB:=Lib.hid hb
 have L1:=Lib.hid (Loc.new h.st (Nat.le_refl _) hq1)
 have L2:=Lib.hid (Loc.new h.st (Nat.le_succ _) hq2)
 have H0:=Lib.hid (h.below hb)
 have HX0:=Lib.hid (Wx.of_below (wk:=wk) A hb)
 have HN0:=Lib.hid (fun W'=>rnumI_any k (by omega) ref lists W')
 have HBY:=Lib.hid hby
 have HBL:=Lib.hid hbl
 have HB0:=Lib.hid hb0
 obtain ⟨P,hP⟩:∃ P,WrPost (.tuple #[]) w0.heap.size wk A sv ev root (listE (encE (ss.map Prod.fst) r) k ref ((lists:Int)-1) v a zs) W=P:=⟨_,rfl⟩
 rw [hP]
 have HP:=Lib.hid hP.symm
 have hnum:numTB k lists=false:=by unfold numTB;rw [decide_eq_false (by omega)];rfl
 rw [hnum] at HN0
 have hl0:(0:Int)<(lists:Int):=by omega
 have HNX:=Lib.hid (fun W' A' c' (h':ECtx b w0 W' wk A' c' sv ev root zs ss es)=>hnx b w0 W' wk A' c' sv ev root zs ss es k ref lists v _ a h' hv hk1 hk hl1 hl3 hf ha hl)
 clear hb hq1 hq2 hP h hv hby hbl hbm hkl hkm hb0 hnum hnx hf ha hl
 go_enter Tryd.func70,Tryd.ntmps70
 go_upto_region 7 with (fail)
 generalize (W.alloc (.cells #[.int .u8 k,.int .i64 ref,.int .i64 lists] 50)).alloc (.cells #[.int .u64 v.num,.slice ba v.bytes.length bc,.slice ka v.kids.length kc,.bool v.has] 36)=W1 at *
 obtain ⟨_,t0,t1,t2,_⟩:=blk3 L1.out.1
 go_wp2_with fail
 refine (HN0.out _).mono ?_
 rintro e W2 ⟨rfl,hb2⟩
 have H2:=Lib.hid (H0.out.below hb2)
 have HX2:=Lib.hid (HX0.out.trans (Wx.of_below A hb2))
 have M1:=Lib.hid (L1.out.bel hb2)
 have M2:=Lib.hid (L2.out.bel hb2)
 clear hb2 t0 t1 t2
 obtain ⟨_,t0,t1,t2,_⟩:=blk3 M1.out.1
 obtain ⟨_,u0,u1,u2,u3⟩:=blk4p M2.out.1
 go_wp2_with fail
 refine (HNX.out W2 A cap H2.out).mono ?_
 rintro e W3 hp
 obtain ⟨A3,c3,rfl,h3,hx3⟩:=H2.out.post hp
 have H3:=Lib.hid h3
 have HX3:=Lib.hid (HX2.out.trans hx3)
 clear hp h3 hx3
 go_wp2
 first|refine bodyPost_end (v:=.tuple #[]) (by simp [results,Tryd.results70,go_sem]) rfl ?_|refine bodyPost_ret (v:=.tuple #[]) (by simp [results,Tryd.results70,go_sem]) rfl ?_
 rw [HP.out]
 exact ⟨rfl,A3,c3,H3.out.st,HX3.out⟩
set_option maxRecDepth 100000 in
set_option maxHeartbeats 8000000 in
theorem weval_struct (h:ECtx b w0 W wk A cap sv ev root zs ss es)(ref:Nat)(v:PV)(val:Value)(a:Nat)(hv:IsV w0 v val)(r:Nat)(hnx:EncTabAt r)(hf:fitsP (sRecs ss) (es.map Prod.fst) r 13 ref 0 v=true)(hh:v.has=true)(ha:a+4≤zs.length)(hl:(tableE (ss.map Prod.fst) (encE (ss.map Prod.fst) r) ref v a zs).length≤70368744177664) :
  Calls Tryd.prog 70 #[.pointer (some ⟨wk,0,none⟩),.agg #[.int .u8 13,.int .i64 ref,.int .i64 0],val,.int .i64 a] W (WrPost (.tuple #[]) w0.heap.size wk A sv ev root (tableE (ss.map Prod.fst) (encE (ss.map Prod.fst) r) ref v a zs) W):=by
 obtain ⟨ba,ka,bc,kc,rfl,hn,hby,hbl,hbm,hkl,hkm,_⟩:=hv.form
 have hb0:=h.bel.size
 obtain ⟨hb,hq1,hq2⟩:=two_start W #[.int .u8 13,.int .i64 ref,.int .i64 0] #[.int .u64 v.num,.slice ba v.bytes.length bc,.slice ka v.kids.length kc,.bool v.has] 50 36
 have HB:=Lib.hid hb
 have L1:=Lib.hid (Loc.new h.st (Nat.le_refl _) hq1)
 have L2:=Lib.hid (Loc.new h.st (Nat.le_succ _) hq2)
 have H0:=Lib.hid (h.below hb)
 have HX0:=Lib.hid (Wx.of_below (wk:=wk) A hb)
 have HN0:=Lib.hid (fun W'=>rnumI_any 13 (by decide) ref 0 W')
 have HBY:=Lib.hid hby
 have HBL:=Lib.hid hbl
 have HB0:=Lib.hid hb0
 obtain ⟨P,hP⟩:∃ P,WrPost (.tuple #[]) w0.heap.size wk A sv ev root (tableE (ss.map Prod.fst) (encE (ss.map Prod.fst) r) ref v a zs) W=P:=⟨_,rfl⟩
 rw [hP]
 have HP:=Lib.hid hP.symm
 rw [show numTB 13 0=false from by decide] at HN0
 have HNX:=Lib.hid (fun W' A' c' (h':ECtx b w0 W' wk A' c' sv ev root zs ss es)=>hnx b w0 W' wk A' c' sv ev root zs ss es ref v _ a h' hv hf hh ha hl)
 clear hb hq1 hq2 hP h hv hby hbl hbm hkl hkm hb0 hnx hf hh ha hl
 go_enter Tryd.func70,Tryd.ntmps70
 go_upto_region 7 with (fail)
 generalize (W.alloc (.cells #[.int .u8 13,.int .i64 ref,.int .i64 0] 50)).alloc (.cells #[.int .u64 v.num,.slice ba v.bytes.length bc,.slice ka v.kids.length kc,.bool v.has] 36)=W1 at *
 obtain ⟨_,t0,t1,t2,_⟩:=blk3 L1.out.1
 go_wp2_with fail
 refine (HN0.out _).mono ?_
 rintro e W2 ⟨rfl,hb2⟩
 have H2:=Lib.hid (H0.out.below hb2)
 have HX2:=Lib.hid (HX0.out.trans (Wx.of_below A hb2))
 have M1:=Lib.hid (L1.out.bel hb2)
 have M2:=Lib.hid (L2.out.bel hb2)
 clear hb2 t0 t1 t2
 obtain ⟨_,t0,t1,t2,_⟩:=blk3 M1.out.1
 obtain ⟨_,u0,u1,u2,u3⟩:=blk4p M2.out.1
 go_wp2_with fail
 refine (HNX.out W2 A cap H2.out).mono ?_
 rintro e W3 hp
 obtain ⟨A3,c3,rfl,h3,hx3⟩:=H2.out.post hp
 have H3:=Lib.hid h3
 have HX3:=Lib.hid (HX2.out.trans hx3)
 clear hp h3 hx3
 go_wp2
 first|refine bodyPost_end (v:=.tuple #[]) (by simp [results,Tryd.results70,go_sem]) rfl ?_|refine bodyPost_ret (v:=.tuple #[]) (by simp [results,Tryd.results70,go_sem]) rfl ?_
 rw [HP.out]
 exact ⟨rfl,A3,c3,H3.out.st,HX3.out⟩
theorem enc_step (r:Nat)(hL:EncListAt r)(hT:EncTabAt r):EncAt r:=by
 intro b w0 W wk A cap sv ev root zs ss es k ref lists v val a h hv hk1 hk hl3 hf hh ha hl
 unfold valE at hl ⊢
 by_cases hn:numTB k lists=true
 · rw [if_pos hn] at hl ⊢
   obtain ⟨h1,h2⟩:(lists:Int)=0∧0<kSize k:=by
    unfold numTB at hn
    rw [Bool.and_eq_true] at hn
    exact ⟨of_decide_eq_true hn.1,of_decide_eq_true hn.2⟩
   obtain rfl:lists=0:=by omega
   have hk10:k≤10:=by
    rcases Nat.lt_or_ge 10 k with h3|h3
    · have:=kSize_else (k:Int) (.inr (by omega));omega
    · exact h3
   have hi:inlC k (0:Nat)=kSize k:=by unfold inlC;rw [if_pos hn]
   rw [hi] at ha
   rw [setE_length] at hl
   exact weval_num h k ref v val a hv h2 hk10 ha hl
 · have hi:inlC k lists=4:=by unfold inlC;rw [if_neg hn]
   rw [hi] at ha
   have ha4:a+4≤zs.length:=ha
   rw [if_neg hn] at hl ⊢
   by_cases hl0:(0:Int)<(lists:Int)
   · rw [if_pos hl0] at hl ⊢
     exact weval_list h k ref v val a hv lists r hL hk1 hk (by omega) hl3 hf ha4 hl
   · rw [if_neg hl0] at hl ⊢
     obtain rfl:lists=0:=by omega
     by_cases h13:k=13
     · rw [if_pos h13] at hl ⊢
       subst h13
       exact weval_struct h ref v val a hv r hT hf (hh rfl rfl) ha4 hl
     · rw [if_neg h13] at hl ⊢
       have h11:k=11∨k=12:=by
        have h3:¬k≤10:=fun h3=>hn (by
         unfold numTB
         rw [decide_eq_true (show ((0:Nat):Int)=0 from rfl),decide_eq_true (k_size hk1 h3)]
         rfl)
        omega
       exact weval_bytes h k ref v val a hv h11 ha4 hl
end Go.Proofs.YtcfjjocmiheiaaaDoor
