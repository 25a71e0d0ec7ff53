/-
  Own rows of which a cell is written; bytes without the first. Conditions: those that each theorem names.
-/
import Derived.Test.YtcfjjocmiheiaaaDoorPkD52
import Derived.Test.YtcfjjocmiheiaaaDoorPkD2
import Derived.Test.YtcfjjocmiheiaaaDoorPkD3
import Derived.Test.YtcfjjocmiheiaaaDoorPkD5
import Derived.Test.YtcfjjocmiheiaaaDoorPkD6
import Derived.Test.YtcfjjocmiheiaaaDoorPkD9
import Derived.Test.YtcfjjocmiheiaaaDoorPkD10
import Derived.RegionTactic
import Derived.Test.YtcfjjocmiheiaaaDoorRows
import Derived.WalkKit
import Derived.ProofKit
import Derived.OpenShut
import Derived.ShutString
import Derived.ChangeOld
import Derived.Below
import Derived.WalkLawsBesides
import Derived.WalkSpells
import Derived.Lib.Hide
import Derived.Outline
import Derived.Handy
import Derived.Maps.AppendAt
import Derived.Deep.RegionHeld3
namespace Go.Proofs.YtcfjjocmiheiaaaDoor
open Go.ChangeShapes Go.WideShapes Go.ChangeAt Go.RowKit Go.Shelf
theorem u8_infoW:(Tryd.prog.info? 5).map (fun i=>(i.zero,i.size,i.bytes))=some (some (.int .u8 0),1,1):=by kernel_rfl
def slLen:Option Value→Nat
 | some (.slice _ n _)=>n
 | _=>0
def WaAt (w:World)(base wk:Nat)(A:Option Addr)(sv ev:Value)(root:Int)(zs:List Int)(K:Nat)(wr:World):Prop:=∃ (j:Nat) (A':Option Addr) (cap':Nat),j≤K∧WrSt wr base wk A' cap' sv ev root (zs++zeros j)∧Wx wk A A' w wr
theorem zeros_snoc (zs:List Int)(j:Nat):zs++zeros j++[0]=zs++zeros (j+1):=by
 rw [List.append_assoc]
 congr 1
 unfold zeros
 rw [List.replicate_succ']
set_option maxRecDepth 100000 in
set_option maxHeartbeats 8000000 in
theorem walign_any (w:World){base wk:Nat}{A:Option Addr}{cap:Nat}{sv ev:Value}{root:Int}{zs:List Int}(h:WrSt w base wk A cap sv ev root zs)(m:Nat)(hm:m=2∨m=4∨m=8)(hl:zs.length≤70368744177664)(hB:base≤w.heap.size) :
  Calls Tryd.prog 67 #[.pointer (some ⟨wk,0,none⟩),.int .i64 m] w (WrPost (.tuple #[]) base wk A sv ev root (padE m zs) w):=by
 obtain ⟨K,hK⟩:∃ K,(m-zs.length % m) % m=K:=⟨_,rfl⟩
 have hpad:padE m zs=zs++zeros K:=by unfold padE;rw [hK]
 have hK8:K<8∧(∀ j,j<K→¬(zs.length+j) % m=0)∧(zs.length+K) % m=0:=by
  refine ⟨?_,fun j hj=>?_,?_⟩
  · rcases hm with rfl|rfl|rfl<;>omega
  · rcases hm with rfl|rfl|rfl<;>omega
  · rcases hm with rfl|rfl|rfl<;>omega
 have hm0:¬m=0:=by omega
 have hmI:¬(m:Int)=0:=by omega
 have HK8:=Lib.hid hK8
 obtain ⟨P,hP⟩:∃ P,WrPost (.tuple #[]) base wk A sv ev root (padE m zs) w=P:=⟨_,rfl⟩
 rw [hP]
 have HP:=Lib.hid hP.symm
 have HPAD:=Lib.hid hpad
 have HST:Hid (WaAt w base wk A sv ev root zs K w):=Lib.hid ⟨0,A,cap,Nat.zero_le _,by rw [show zs++zeros 0=zs from List.append_nil _];exact h,Wx.refl _ _ _⟩
 have HB:=Lib.hid hB
 have HL:=Lib.hid hl
 clear hK hpad hK8 hm hP h hB hl
 go_enter Tryd.func67,Tryd.ntmps67
 go_wp2_with fail
 go_loopw [] (fun wr=>WaAt w base wk A sv ev root zs K wr) (fun wr=>zs.length+K-slLen (wr.cell? ⟨wk,3,none⟩))
 case atStart=>exact HST.out
 case round =>
  obtain ⟨j,A',cap',hj,hs,hx⟩:=hrel
  have HS:=Lib.hid hs
  have HX:=Lib.hid hx
  have hlen:(zs++zeros j).length=zs.length+j:=by simp [zeros]
  obtain ⟨_,c0,c1,c2,c3⟩:=blk4p hs.blk
  have f3:=blk_frozen hs.blk 3
  rw [hlen] at c3
  have hcp:=hs.few
  rw [hlen] at hcp
  have HLEN:=Lib.hid hlen
  clear hs hx c0 c1 c2 hlen
  have hbig:zs.length+j≤70368744177680:=by have:=HL.out;have:=HK8.out.1;omega
  obtain ⟨n,hn⟩:∃ n,zs.length+j=n:=⟨_,rfl⟩
  rw [hn] at c3 hcp hbig
  have HN:=Lib.hid hn
  by_cases hjK:j<K
  · obtain ⟨r,hr⟩:∃ r:Nat,n % m=r:=⟨_,rfl⟩
    have hmod:(n:Int).tmod m=r:=by rw [Int.tmod_eq_emod_of_nonneg (by omega),←hr];rfl
    have hr0:((r:Int)==0)=false:=by
     have h1:=HK8.out.2.1 j hjK
     rw [hn,hr] at h1
     simp
     omega
    have HJK:=Lib.hid hjK
    obtain ⟨i0,hi0,hzz0,hzz1,hzz2⟩:=info_parts u8_infoW
    have I1:=Lib.hid hi0
    have I2:=Lib.hid hzz0
    have I3:=Lib.hid hzz1
    have I4:=Lib.hid hzz2
    have HBN:=Lib.hid (heap_alloc_new wr (.cells #[.int .u8 0] 5))
    have HBA:=Lib.hid ((Below.refl wr.heap.size wr).alloc (Nat.le_refl _) (.cells #[.int .u8 0] 5))
    have HOWN:Hid (wr.ownsRow base 5 1 (.slice A' n cap') n (u8s (zs++zeros j))):=Lib.hid (by have h1:=HS.out.own;unfold OwnV at h1;rw [HLEN.out,hn] at h1;exact h1)
    have HUA:=Lib.hid (row_keep HBA.out HOWN.out)
    clear hr hn hi0 hzz0 hzz1 hzz2 hjK
    go_wp2_with (at_builtin;refine wpList_append_own_at _ rfl (.tmp 16) (.tmp 17) 22 rfl base 5 i0 _ 1 1 Tryd.underlying22 I1.out I2.out I3.out I4.out rfl (by decide) _ n (u8s (zs++zeros j)) rfl HUA.out _ 1 1 [.int .u8 0] rfl rfl (World.news_of_block HBN.out) (by intro u hu;rw [List.mem_singleton.1 hu];rfl) (by unfold maxLen;omega) (by omega) (by have:=HB.out;have:=HX.out.size;simp;omega) ?_;intro v4 W8 hown4 hg4 hx hat4;clear hx;have hap:=wr_app2 (news:=[0]) (A:=A') (cap:=cap') (n:=n) HS.out HBA.out rfl hg4 (show (zs++zeros j).length+1=n+1 by rw [HLEN.out,HN.out]) (by simpa [u8s] using hown4) hat4 (by intro z hz;rw [List.mem_singleton.1 hz];decide);clear hown4 hg4 hat4;obtain ⟨A4,cap4,rfl,h8,hs4,hx4⟩:=hap;obtain ⟨_,d0,d1,d2,d3⟩:=blk4p h8;have e3:=blk_frozen h8 3;have S4:=Lib.hid hs4;have X4:=Lib.hid hx4;clear h8 hs4 hx4)
    go_roundw
    case rel =>
     exact ⟨j+1,A4,cap4,HJK.out,by rw [←zeros_snoc];exact S4.out,HX.out.trans X4.out⟩
    case measure =>
     have h1:=(blk4p S4.out.blk).2.2.2.2
     have h2:=(blk4p HS.out.blk).2.2.2.2
     rw [h1,h2]
     simp only [slLen]
     have h3:=HLEN.out
     have h4:=HJK.out
     have h5:(zs++zeros j++[0]).length=zs.length+j+1:=by rw [List.length_append,h3];rfl
     omega
  · obtain rfl:j=K:=by omega
    have hmod:(n:Int).tmod m=0:=by
     have h1:=HK8.out.2.2
     rw [hn] at h1
     rw [Int.tmod_eq_emod_of_nonneg (by omega)]
     omega
    clear hn hjK
    go_wp2
    first|refine bodyPost_end (v:=.tuple #[]) (by simp [results,Tryd.results67,go_sem]) rfl ?_|refine bodyPost_ret (v:=.tuple #[]) (by simp [results,Tryd.results67,go_sem]) rfl ?_
    rw [HP.out]
    exact ⟨rfl,A',cap',by rw [HPAD.out];exact HS.out,HX.out⟩
set_option maxRecDepth 100000 in
set_option maxHeartbeats 8000000 in
theorem wput_any (w:World){base wk:Nat}{A:Option Addr}{cap:Nat}{sv ev:Value}{root:Int}{zs:List Int}(h:WrSt w base wk A cap sv ev root zs)(s:Nat)(n:Int)(hs8:s≤8)(hl:zs.length≤70368744177664)(hB:base≤w.heap.size) :
  Calls Tryd.prog 68 #[.pointer (some ⟨wk,0,none⟩),.int .i64 s,.int .u64 n] w (WrPost (.int .i64 zs.length) base wk A sv ev root (putE s n zs) w):=by
 obtain ⟨P,hP⟩:∃ P,WrPost (.int .i64 zs.length) base wk A sv ev root (putE s n zs) w=P:=⟨_,rfl⟩
 rw [hP]
 have HP:=Lib.hid hP.symm
 have HC:=Lib.hid (fun W (hW:base≤W.heap.size)=>rput_any W.heap.size n s W (Nat.le_refl _) hs8)
 obtain ⟨_,c0,c1,c2,c3⟩:=blk4p h.blk
 have HS:=Lib.hid h
 have HB:=Lib.hid hB
 have HL:=Lib.hid hl
 have hcp:=h.few
 have hbig:zs.length≤140737488355328:=by omega
 clear hP h hB hl c0 c1 c2
 go_enter Tryd.func68,Tryd.ntmps68
 go_upto_region 2 with (fail)
 have s0:=c3
 clear c3
 refine wp_region_noPanic ?_
 refine till_start 11 (fun _=>True) (fun w'=>w'.cell? ⟨wk,3,none⟩=some (.slice A zs.length cap)) (by kernel_rfl) ?_
 have HB0:=Lib.hid ((Below.refl w.heap.size w).drew)
 have HS0:=Lib.hid (HS.out.below HB0.out)
 have hsz0:w.drew.heap.size=w.heap.size:=rfl
 have HSZ:=Lib.hid hsz0
 clear hsz0
 generalize w.drew=V0 at *
 have hU:True:=trivial
 have hV:=cell_stays HB0.out s0
 refine tt 0 (.pointer (some ⟨wk,0,none⟩)) hU hV ?_ ?_
 · intro w' hSw
   have t0:=hSw.2
   go_simp
 simp only [td]
 refine tt 1 (.pointer (some ⟨wk,0,none⟩)) hU hV ?_ ?_
 · intro w' hSw
   have t0:=hSw.2
   go_simp
 simp only [td]
 refine tt 2 (.pointer (some ⟨wk,0,none⟩)) hU hV ?_ ?_
 · intro w' hSw
   have t0:=hSw.2
   go_simp
 simp only [td]
 refine tt 3 (.pointer (some ⟨wk,3,none⟩)) hU hV ?_ ?_
 · intro w' hSw
   have t0:=hSw.2
   go_simp
 simp only [td]
 refine tt 4 (.slice A zs.length cap) hU hV ?_ ?_
 · intro w' hSw
   have t0:=hSw.2
   go_simp
 simp only [td]
 refine tt 5 (.int .u64 n) hU hV ?_ ?_
 · intro w' hSw
   have t0:=hSw.2
   go_simp
 simp only [td]
 refine tt 6 (.int .i64 s) hU hV ?_ ?_
 · intro w' hSw
   have t0:=hSw.2
   go_simp
 simp only [td]
 refine till_one (i:=7) (by kernel_rfl) rfl (fun K hK=>?_)
 rw [if_pos (by kernel_rfl)]
 go_simp
 refine (HC.out V0 (by rw [HSZ.out];exact HB.out)).mono ?_
 rintro e V1 ⟨g1,rfl,ho1,hb1⟩
 have hV1:=cell_stays hb1 hV
 have HO1:=Lib.hid ho1
 have HB1:=Lib.hid (HB0.out.trans (hb1.mono (by rw [HSZ.out];exact Nat.le_refl _)))
 refine hK.out _ _ trivial hV1 ?_
 clear hV hK K ho1 hb1
 have hV:=hV1
 clear hV1
 obtain ⟨hl1,hgb,hgl,hc1,_,hcell1,_⟩:=HO1.out.facts
 obtain ⟨i0,hi0,hzz0,hzz1,hzz2⟩:=info_parts u8_infoW
 have hsrc:=SrcRow.toSrc (P:=Tryd.prog) (t:=22) (e:=5) Tryd.underlying22 (srcrow_of HO1.out)
 obtain ⟨v4,V2,hrun,hown4,hg4,hat4⟩:=run_append_any (P:=Tryd.prog) (w:=V1) base 22 22 22 5 i0 (.int .u8 0) 1 Tryd.underlying22 hi0 hzz0 hzz1 rfl (.slice A zs.length cap) zs.length (u8s zs) (row_keep HB1.out HS.out.own) _ s _ hsrc (by have:=HL.out;unfold maxLen;omega) (by rw [hzz2];have:=HL.out;omega) (Nat.le_trans HB.out HB1.out.size)
 rw [ownBlock_rowOf] at hg4 hat4
 have hap:=wr_app (news:=laidOver (zeros s) 0 n s) HS.out HB1.out hg4 (by rw [hl1];simpa [u8s] using hown4) hat4 (laid_rng s n)
 obtain ⟨A4,cap4,he4,h8,hs4,hx4⟩:=hap
 rw [hl1] at he4
 subst he4
 have S4:=Lib.hid hs4
 have X4:=Lib.hid hx4
 have hV2:=(blk4p h8).2.2.2.2
 have m3f:=blk_frozen h8 3
 clear hown4 hg4 hat4 h8 hs4 hx4 hsrc hcell1 hi0 hzz0 hzz1 hzz2 i0
 refine till_one (i:=8) (by kernel_rfl) rfl (fun K hK=>?_)
 rw [if_pos (by kernel_rfl)]
 refine wp_append_run _ (.tmp 17) (.tmp 20) 22 rfl _ _ _ _ rfl rfl hrun ?_
 refine hK.out _ _ trivial hV2 ?_
 clear hK K hrun
 have hV:=hV2
 clear hV2
 refine till_one (i:=9) (by kernel_rfl) rfl (fun K hK=>?_)
 rw [if_pos (by kernel_rfl)]
 go_simp
 refine hK.out _ _ trivial hV ?_
 clear hK K
 refine tt 10 (.pointer (some ⟨wk,3,none⟩)) hU hV ?_ ?_
 · intro w' hSw
   have t0:=hSw.2
   go_simp
 simp only [td]
 have m3:=hV
 refine till_last (by kernel_rfl) rfl (fun K hK=>?_)
 rw [if_pos (by kernel_rfl)]
 go_simp
 refine hK.out _ _ trivial ?_
 clear hK K hV m3 m3f
 refine till_done (by kernel_rfl) ?_ _
 refine NoPanic.normal ?_
 try simp only [Exit.then]
 go_wp2
 rw [HP.out]
 exact ⟨rfl,A4,cap4,S4.out,X4.out⟩
set_option maxRecDepth 100000 in
set_option maxHeartbeats 8000000 in
theorem wset_any (w:World){base wk:Nat}{A:Option Addr}{cap:Nat}{sv ev:Value}{root:Int}{zs:List Int}(h:WrSt w base wk A cap sv ev root zs)(a s:Nat)(n:Int)(hs8:s≤8)(ha:a+s≤zs.length)(hl:zs.length≤70368744177664)(hB:base≤w.heap.size) :
  Calls Tryd.prog 69 #[.pointer (some ⟨wk,0,none⟩),.int .i64 a,.int .i64 s,.int .u64 n] w (WrPost (.tuple #[]) base wk A sv ev root (setE a s n zs) w):=by
 obtain ⟨P,hP⟩:∃ P,WrPost (.tuple #[]) base wk A sv ev root (setE a s n zs) w=P:=⟨_,rfl⟩
 rw [hP]
 have HP:=Lib.hid hP.symm
 have HC:=Lib.hid (rput_any w.heap.size n s w (Nat.le_refl _) hs8)
 have HS:=Lib.hid h
 have HA:=Lib.hid ha
 have HL:=Lib.hid hl
 have HB:=Lib.hid hB
 clear hP h hB hl ha
 go_enter Tryd.func69,Tryd.ntmps69
 go_wp2_with fail
 refine HC.out.mono ?_
 rintro e W1 ⟨g1,rfl,ho1,hb1⟩
 have HO1:=Lib.hid ho1
 have HS1:=Lib.hid (HS.out.below hb1)
 have HX1:=Lib.hid (Wx.of_below (wk:=wk) A hb1)
 have hg1:=ho1.facts.2.1
 clear ho1 hb1
 go_wp2_with fail
 go_loopw [9] (fun i wr=>∃ k:Nat,k≤s∧i=.int .i64 k∧OwnR wr w.heap.size 5 g1 s s (laidOver (zeros s) 0 n s)∧WrSt wr base wk A cap sv ev root (laidOver zs a n k)∧Wx wk A A w wr) (fun i _=>s-(intOf i).toNat)
 case atStart=>exact ⟨0,Nat.zero_le _,rfl,HO1.out,HS1.out,HX1.out⟩
 case round =>
  obtain ⟨k,hk,rfl,ho,hs,hx⟩:=hrel
  have HO:=Lib.hid ho
  have HS2:=Lib.hid hs
  have HX:=Lib.hid hx
  clear ho hs hx
  by_cases hks:k<s
  · have hki:(k:Int)<(s:Int):=by omega
    have hlen:=laidOver_length zs a n k
    obtain ⟨g,hA,hgl,hcell,hfz⟩:=HS2.out.addr (by rw [hlen];have:=HA.out;omega)
    obtain ⟨hl1,hgb,_,hc1,_,hcell1,hfz1⟩:=HO.out.facts
    have hby:=byteAt_bd n k
    have hd0:(laidOver (zeros s) 0 n s).getD k 0=byteAt n k:=by rw [laidOver_get _ _ _ _ _ (by simp [zeros]),if_pos (by omega),Nat.sub_zero]
    have y0:=hcell1 k (by omega)
    rw [hd0] at y0
    have y1:=hcell (a+k) (by rw [hlen];have:=HA.out;omega)
    have y2:=hfz (a+k)
    obtain ⟨_,c0,c1,c2,c3⟩:=blk4p HS2.out.blk
    rw [hlen,hA] at c3
    have hcp:=HS2.out.few
    rw [hlen] at hcp
    have hge:g≠g1:=fun e=>by
     have h1:=HX.out.row
     have h2:=HS.out.row g (by rw [hA];rfl)
     omega
    have hai:(a:Int)+k<zs.length:=by have:=HA.out;omega
    have hwk:=IntWalk.i64_in ((a:Int)+k) ⟨by omega,by have:=HL.out;omega⟩
    have hcast:((a:Int)+(k:Int)).toNat=a+k:=by omega
    have HA2:=Lib.hid hA
    have hst:=wr_set (g:=g) (W7:=wr) (by rw [←hA];exact HS2.out) (Below.refl _ _) (a+k) (byteAt n k) hby
    have HST:=Lib.hid hst
    have hon:=row_keep_set (W:=wr) (g:=g) (j:=a+k) (u:=.int .u8 (byteAt n k)) HO.out (by omega)
    have HON:=Lib.hid hon
    clear hcell hcell1 hfz hfz1 hlen hl1 hd0 hst hon c0 c1 c2 hA
    go_upto_region 4 with (fail)
    go_region
    go_wp2
    go_roundw
    case rel=>exact ⟨k+1,hks,by go_num,HON.out,by rw [HA2.out];exact HST.out.1.below (Below.refl _ _).drew,HX.out.trans (by rw [HA2.out];exact HST.out.2.trans (Wx.of_below _ (Below.refl _ _).drew))⟩
    case measure=>simp [intOf];omega
  · obtain rfl:k=s:=by omega
    have hki:¬(k:Int)<(k:Int):=by omega
    go_wp2
    first|refine bodyPost_end (v:=.tuple #[]) (by simp [results,Tryd.results69,go_sem]) rfl ?_|refine bodyPost_ret (v:=.tuple #[]) (by simp [results,Tryd.results69,go_sem]) rfl ?_
    rw [HP.out]
    exact ⟨rfl,A,cap,HS2.out,HX.out⟩
end Go.Proofs.YtcfjjocmiheiaaaDoor
namespace Go.Proofs.YtcfjjocmiheiaaaDoor
open Go.ChangeShapes Go.WideShapes Go.ChangeAt Go.RowKit Go.Shelf
structure KV where
 v:PV
 c0:Value
 c1:Value
 c2:Value
 c3:Value
def kvCells (q:KV):List Value:=[q.c0,q.c1,q.c2,q.c3]
def kvsCells (l:List KV):List Value:=l.flatMap kvCells
theorem kvsCells_snoc (l:List KV)(q:KV):kvsCells (l++[q])=kvsCells l++kvCells q:=by simp [kvsCells]
def rowS (B:Nat)(v:Value):Nat→Bool:=fun k=>decide (k<B)||decide (v.ownBlock=some k)
theorem rowS_no {B:Nat}{v:Value}{k:Nat}:rowS B v k=false ↔ B≤k∧v.ownBlock≠some k:=by
 unfold rowS
 rw [Bool.or_eq_false_iff,decide_eq_false_iff_not,decide_eq_false_iff_not]
 constructor
 · exact fun h=>⟨by omega,h.2⟩
 · exact fun h=>⟨by omega,h.2⟩
def KidsIn (S:Nat→Bool)(W:World)(l:List KV):Prop:=∀ q ∈ l,VH S W q.v (.agg #[q.c0,q.c1,q.c2,q.c3])
theorem KidsIn.step {S S':Nat→Bool}{w W:World}{l:List KV}(h:KidsIn S w l)(hs:w.heap.size≤W.heap.size)(hb:∀ k,k<w.heap.size→S k=false→S' k=false∧W.heap[k]?=w.heap[k]?):KidsIn S' W l:=
 fun q hq=>(h q hq).step hs hb
theorem kids_step {g O:Nat}{wr W6 W7 W8:World}{v v':Value}{l:List KV}{q:KV}{N:Nat}(hK:KidsIn (rowS (O+1) v) wr l)(hx:Exc g wr.heap.size wr W6)(hgO:g≤O)(hO:O<wr.heap.size)(hv:∀ k,v.ownBlock=some k→k<wr.heap.size)
  (hq:VH (newS wr.heap.size) W6 q.v (.agg #[q.c0,q.c1,q.c2,q.c3])) (h7:Below W6.heap.size W6 W7) (hg:W7.grownBy W8 v.ownBlock) (hv':v'.ownBlock=v.ownBlock∨v'.ownBlock=some N) (hN:W7.heap.size≤N) (j:Nat) (x:Value) :
  KidsIn (rowS (O+1) v') (W8.setCell ⟨O,j,none⟩ x) (l++[q]):=by
 have hs6:=hx.size
 have hs7:=h7.size
 have hs8:=hg.size
 have hs9:(W8.setCell ⟨O,j,none⟩ x).heap.size=W8.heap.size:=by simp [World.setCell]
 have hheap:∀ k,k<W6.heap.size→O+1≤k→v.ownBlock≠some k→(W8.setCell ⟨O,j,none⟩ x).heap[k]?=W6.heap[k]?:=fun k hk hOk hne =>
  (Below.heap_setCell _ _ _ _ (by show k≠O;omega)).trans ((hg.block k (by omega) (fun e=>hne e.symm)).trans (h7.block k hk))
 have hrow:∀ k,k<W6.heap.size→O+1≤k→v.ownBlock≠some k→rowS (O+1) v' k=false:=fun k hk hOk hne=>rowS_no.2 ⟨hOk,by
  rcases hv' with e|e
  · rw [e];exact hne
  · rw [e];intro h;injection h with h;omega⟩
 intro p hp
 rcases List.mem_append.1 hp with h|h
 · refine (hK p h).step (by omega) (fun k hk hS=>?_)
   obtain ⟨h1,h2⟩:=rowS_no.1 hS
   exact ⟨hrow k (by omega) h1 h2,(hheap k (by omega) h1 h2).trans (hx.block k hk (by omega))⟩
 · rw [List.mem_singleton.1 h]
   refine hq.step (by omega) (fun k hk hS=>?_)
   have h1:wr.heap.size≤k:=by unfold newS at hS;simpa using hS
   have h2:v.ownBlock≠some k:=fun e=>by have:=hv k e;omega
   exact ⟨hrow k hk (by omega) h2,hheap k hk (by omega) h2⟩
theorem kv_len {W:World}{base n cap:Nat}{A:Option Addr}{l:List KV}(h:W.ownsRow base 36 4 (.slice A n cap) n (kvsCells l)):l.length=n:=by
 have:=h.1
 have e:∀ l:List KV,(kvsCells l).length=l.length * 4:=fun l=>by
  induction l with
  | nil=>rfl
  | cons q t ih=>show (kvCells q++kvsCells t).length=_;rw [List.length_append,ih,List.length_cons];show 4+_=_;omega
 rw [e] at this
 omega
theorem vh_kids {S S':Nat→Bool}{W:World}{base n cap:Nat}{A:Option Addr}{l:List KV}(h:W.ownsRow base 36 4 (.slice A n cap) n (kvsCells l))(hk:KidsIn S W l)(hS:∀ k,S k=false→S' k=false)(hb:∀ k,base≤k→S' k=false)(has:Bool) :
  VH S' W (.mk 0 [] (l.map KV.v) has) (.agg #[.int .u64 0,.slice none 0 0,.slice A n cap,.bool has]):=by
 have hl:=kv_len h
 have hc:=row_cap h
 have hf:=row_few h
 subst hl
 have hlm:(l.map KV.v).length=l.length:=List.length_map _
 rcases Nat.eq_zero_or_pos l.length with h0|h0
 · have hnil:l=[]:=List.eq_nil_of_length_eq_zero h0
   subst hnil
   exact .mk 0 [] [] has none A 0 cap 0 0 (fun _=>.bool false) (fun _=>.bool false) (fun _=>.bool false) (fun _=>.bool false) (by decide) (bytes_nil _) (Nat.le_refl _) (by decide) (Nat.zero_le _) (by decide) (fun h=>absurd rfl h) (fun i hi=>absurd hi (Nat.not_lt_zero i)) (fun i hi=>absurd hi (Nat.not_lt_zero i))
 · obtain ⟨gk,c,hv,_,hbk,hgl,hcell⟩:=row_at h h0
   injection hv with hA _ _
   subst hA
   have hvis:S' gk=false:=hb gk hbk
   have hat:∀ i (hi:i<l.length) (j:Nat),j<4→W.cell? ⟨gk,i * 4+j,none⟩=(kvCells l[i])[j]?:=fun i hi j hj=>by
    rw [hcell _ (by omega)]
    exact flat_at kvCells 4 (fun _=>rfl) l i hi j hj
   have hcells:∀ i (hi:i<l.length) (j:Nat) (u:Value),j<4→(kvCells l[i])[j]?=some u→(hideW S' W).cell? ⟨gk,0+i * 4+j,none⟩=some u:=fun i hi j u hj hu=>by
    rw [hide_cell S' W _ hvis,Nat.zero_add,hat i hi j hj]
    exact hu
   suffices z:VH S' W (.mk 0 [] (l.map KV.v) has) (.agg #[.int .u64 0,.slice none 0 0,.slice (some ⟨gk,0,none⟩) (l.map KV.v).length cap,.bool has]) by
    rw [hlm] at z
    exact z
   refine .mk 0 [] (l.map KV.v) has none (some ⟨gk,0,none⟩) 0 cap gk 0 (fun i=>(l.getD i ⟨nilV,.bool false,.bool false,.bool false,.bool false⟩).c0) (fun i=>(l.getD i ⟨nilV,.bool false,.bool false,.bool false,.bool false⟩).c1) (fun i=>(l.getD i ⟨nilV,.bool false,.bool false,.bool false,.bool false⟩).c2) (fun i=>(l.getD i ⟨nilV,.bool false,.bool false,.bool false,.bool false⟩).c3) (by decide) (bytes_nil _) (Nat.le_refl _) (by decide) (by rw [hlm];exact hc) (by rw [hlm];omega) (fun _=>rfl) (fun i hi=>?_) (fun i hi=>?_)
   · rw [hlm] at hi
     have e:l.getD i ⟨nilV,.bool false,.bool false,.bool false,.bool false⟩=l[i]:=by rw [List.getD,List.getElem?_eq_getElem hi,Option.getD_some]
     simp only [e]
     exact ⟨hcells i hi 0 _ (by decide) rfl,hcells i hi 1 _ (by decide) rfl,hcells i hi 2 _ (by decide) rfl,hcells i hi 3 _ (by decide) rfl⟩
   · have hi':i<l.length:=by rw [hlm] at hi;exact hi
     have e:l.getD i ⟨nilV,.bool false,.bool false,.bool false,.bool false⟩=l[i]:=by rw [List.getD,List.getElem?_eq_getElem hi',Option.getD_some]
     simp only [e,List.getElem_map]
     exact (hk l[i] (List.getElem_mem hi')).step (Nat.le_refl _) (fun k _ hSk=>⟨hS k hSk,rfl⟩)
def KidsSmall (l:List KV):Prop:=∀ q ∈ l,SmallV q.v
theorem KidsSmall.val {l:List KV}(h:KidsSmall l)(hl:l.length≤100)(has:Bool):SmallV (.mk 0 [] (l.map KV.v) has):=.mk 0 [] _ has (by decide) (by rw [List.length_map];exact hl) (fun v hv=>by obtain ⟨q,hq,rfl⟩:=List.mem_map.1 hv;exact h q hq)
def KidsSW (i1 i2:Nat)(l:List KV):Prop:=KidsSmall l∧i1≤i2∧WtL (l.map KV.v) (101 * l.length+1700 * (i2-i1))
theorem KidsSW.nil (i1:Nat):KidsSW i1 i1 []:=⟨fun q hq=>absurd hq List.not_mem_nil,Nat.le_refl _,(by show WtL [] (101 * 0+1700 * (i1-i1));rw [Nat.sub_self];exact WtL.nil)⟩
theorem KidsSW.val {i i1 i2 n:Nat}{sure:Bool}{l:List KV}(h:KidsSW i1 i2 l)(hl:l.length≤16)(hi:i≤i1)(hm:i<n→i1=i+1)(hs:sure=true∨i1<n)(has:Bool):SmallV (.mk 0 [] (l.map KV.v) has)∧WtIn sure n i i2 (.mk 0 [] (l.map KV.v) has):=by
 have h2:=h.2.1
 refine ⟨h.1.val (by omega) has,_,h.2.2.val 0 [] has,by simp only [List.length_nil];omega,fun h3=>?_⟩
 have h4:i<n:=by
  rcases h3 with h3|h3
  · rcases hs with h5|h5
    · rw [h3] at h5;cases h5
    · omega
  · exact h3
 have h5:=hm h4
 simp only [List.length_nil]
 omega
def KidsSWL (n i1 i2:Nat)(l:List KV):Prop:=KidsSW i1 i2 l∧(l≠[]→i1<n)
theorem KidsSWL.nil (n i1:Nat):KidsSWL n i1 i1 []:=⟨KidsSW.nil i1,fun h=>absurd rfl h⟩
theorem KidsSWL.val {i i1 i2 n:Nat}{sure:Bool}{l:List KV}(h:KidsSWL n i1 i2 l)(hl:l.length≤4)(hi:i≤i1)(hm:i<n→i1=i+1)(has:Bool):SmallV (.mk 0 [] (l.map KV.v) has)∧WtIn sure n i i2 (.mk 0 [] (l.map KV.v) has):=by
 have h2:=h.1.2.1
 refine ⟨h.1.1.val (by omega) has,_,h.1.2.2.val 0 [] has,by simp only [List.length_nil];omega,fun _=>?_⟩
 simp only [List.length_nil]
 rcases Nat.eq_zero_or_pos l.length with h0|h0
 · omega
 · have h3:=h.2 (fun e=>by rw [e] at h0;simp at h0)
   have h5:=hm (by omega)
   omega
end Go.Proofs.YtcfjjocmiheiaaaDoor
namespace Go.Proofs.YtcfjjocmiheiaaaDoor
open Go.ChangeShapes Go.WideShapes Go.ChangeAt Go.RowKit Go.Shelf
theorem src_bytes {W W':World}{a:Option Addr}{zs:List Int}(h:Bytes W a zs)(hw:∀ p x,W.cell? p=some x→W'.cell? p=some x)(c:Nat):Go.Src Tryd.prog 1 22 (.slice a zs.length c) zs.length (u8Cells zs) W':=by
 have hl:(u8Cells zs).length=zs.length * 1:=by simp [u8Cells]
 have h1:∀ u ∈ u8Cells zs,u.oneCell'=true:=fun u hu=>by
  obtain ⟨z,_,rfl⟩:=List.mem_map.1 hu
  rfl
 cases a with
 | none =>
  have:zs=[]:=by
   rcases h0:zs with _|⟨z,t⟩
   · rfl
   · obtain ⟨b,off,e,_⟩:=h.2 (by rw [h0];exact List.cons_ne_nil _ _)
     cases e
  subst this
  exact Go.Src.ofNil W' Tryd.underlying22 c
 | some p =>
  refine Go.Src.ofSlice W' Tryd.underlying22 p zs.length c _ hl (fun j u hu=>?_) h1
  have hj:j<zs.length:=by
   have:=(List.getElem?_eq_some_iff.1 hu).1
   simpa [u8Cells] using this
  obtain ⟨b,off,e,hlt,hc⟩:=h.2 (fun h0=>by rw [h0] at hj;exact Nat.not_lt_zero _ hj)
  injection e with e
  subst e
  refine hw _ _ ?_
  rw [Addr.add_lit,hc j hj,←hu]
  simp [u8Cells,List.getElem?_map,List.getElem?_eq_getElem hj,List.getD]
def oldS (S:Nat→Bool)(B T:Nat):Nat→Bool:=fun k=>S k||decide (B≤k∧k<T)
theorem oldS_no {S:Nat→Bool}{B T k:Nat}:oldS S B T k=false ↔ S k=false∧¬(B≤k∧k<T):=by
 unfold oldS
 rw [Bool.or_eq_false_iff,decide_eq_false_iff_not]
theorem KidsIn.old {S:Nat→Bool}{w W:World}{l:List KV}(h:KidsIn S w l)(hb:Below w.heap.size w W)(T:Nat):KidsIn (oldS S w.heap.size T) W l:=
 h.step hb.size (fun k hk hs=>⟨oldS_no.2 ⟨hs,by omega⟩,hb.block k hk⟩)
theorem bytes_all {W:World}{a:Option Addr}{zs:List Int}(h:Bytes W a zs):∀ z ∈ zs,0≤z∧z≤255:=fun z hz=>by
 obtain ⟨i,hi,rfl⟩:=List.getElem_of_mem hz
 have:=h.1 i
 rwa [List.getD,List.getElem?_eq_getElem hi,Option.getD_some] at this
end Go.Proofs.YtcfjjocmiheiaaaDoor
namespace Go.Proofs.YtcfjjocmiheiaaaDoor
open Go.ChangeShapes Go.WideShapes Go.ChangeAt Go.RowKit Go.Shelf
theorem u8_info4:(Tryd.prog.info? 5).map (fun i=>(i.zero,i.size,i.bytes))=some (some (.int .u8 0),1,1):=by kernel_rfl
end Go.Proofs.YtcfjjocmiheiaaaDoor
namespace Go.Proofs.YtcfjjocmiheiaaaDoor
open Go.ChangeShapes Go.WideShapes Go.ChangeAt Go.RowKit Go.Shelf
theorem nil_yes (c:Nat)(W:World):(binOp .eql 22 (.slice none 0 c) (.slice none 0 0)).run Tryd.prog W=.ok (.bool true) W:=by kernel_rfl
theorem nil_no (q:Addr)(n c:Nat)(W:World):(binOp .eql 22 (.slice (some q) n c) (.slice none 0 0)).run Tryd.prog W=.ok (.bool false) W:=by kernel_rfl
set_option maxRecDepth 100000 in
set_option maxHeartbeats 8000000 in
theorem bclone_any (w:World)(p:Option Addr)(zs:List Int)(c:Nat)(h:Bytes w p zs)(hl:zs.length≤1000000) :
  Calls Tryd.prog 133 #[.slice p zs.length c] w fun e w'=>(∃ v,e=.returned v∧w'.ownsRow w.heap.size 5 1 v zs.length (u8Cells zs))∧Below w.heap.size w w':=by
 have HBB:=Lib.hid h
 cases p with
 | none =>
  have hz:zs=[]:=by
   rcases h0:zs with _|⟨z,t⟩
   · rfl
   · obtain ⟨b,o,hh,_⟩:=h.2 (by rw [h0];exact List.cons_ne_nil _ _)
     cases hh
  subst hz
  clear h HBB
  have e0:=nil_yes c
  go_enter Tryd.func133,Tryd.ntmps133
  go_wp2
  go_ret
  exact ⟨⟨_,rfl,World.ownsRow_nil _ _ _ _⟩,Below.refl _ _⟩
 | some q =>
  clear h
  have e0:=nil_no q zs.length c
  go_enter Tryd.func133,Tryd.ntmps133
  have HOWN0:=Lib.hid (own_blk (base:=w.heap.size) (n:=0) (size:=1) (heap_alloc_new w (.cells #[] 5)) (Nat.le_refl _) (by decide) rfl)
  have HA0:=Lib.hid ((Below.refl w.heap.size w).alloc (Nat.le_refl _) (.cells #[] 5))
  have HSRC:=Lib.hid (src_bytes HBB.out (fun p x hp=>cell_stays HA0.out hp) c)
  obtain ⟨i0,hi0,hzz0,hzz1,hzz2⟩:=info_parts u8_info4
  have I1:=Lib.hid hi0
  have I2:=Lib.hid hzz0
  have I3:=Lib.hid hzz1
  have I4:=Lib.hid hzz2
  clear hi0 hzz0 hzz1 hzz2
  go_wp2_with (at_builtin;refine wpList_append_first _ rfl (.tmp 5) (.tmp 6) 22 22 rfl w.heap.size 5 i0 _ 1 Tryd.underlying22 I1.out I2.out I3.out rfl _ rfl HOWN0.out _ zs.length (u8Cells zs) rfl HSRC.out (by unfold maxLen;omega) (by rw [I4.out];omega) (by simp) ?_;intro v4 W4 hown4 hg4 hat4;clear hat4;have HO4:=Lib.hid hown4;have HB4:=Lib.hid (HA0.out.grown hg4 (by simp) (fun k hk=>(ownsRow_lt HOWN0.out k hk).1));clear hown4 hg4)
  go_ret
  exact ⟨⟨_,rfl,HO4.out⟩,HB4.out⟩
end Go.Proofs.YtcfjjocmiheiaaaDoor
namespace Go.Proofs.YtcfjjocmiheiaaaDoor
open Go.ChangeShapes Go.WideShapes Go.ChangeAt Go.RowKit Go.Shelf
def DfltsOk (es:List SCho)(fs:List CFld):Prop:=∀ f ∈ fs,(1≤f.kind∧f.kind≤13∧0≤f.lists)∧(sortP f.kind f.lists=1→fitsT es f.kind f.ref f.lists f.dflt=true)∧(sortP f.kind f.lists≠1→f.dflt=0)
theorem fieldsP_at (f:Nat→Int→Int→PV→Bool)(xs:List CFld)(ks:List PV)(h:fieldsP f xs ks=true):∀ i (hx:i<xs.length) (hk:i<ks.length),f xs[i].kind xs[i].ref xs[i].lists ks[i]=true:=by
 induction xs generalizing ks with
 | nil=>intro i hx;exact absurd hx (Nat.not_lt_zero i)
 | cons x xs ih =>
  cases ks with
  | nil=>intro i _ hk;exact absurd hk (Nat.not_lt_zero i)
  | cons v vs =>
   have h2:(f x.kind x.ref x.lists v&&fieldsP f xs vs)=true:=h
   rw [Bool.and_eq_true] at h2
   intro i hx hk
   cases i with
   | zero=>exact h2.1
   | succ i=>exact ih vs h2.2 i (by simpa using hx) (by simpa using hk)
theorem fits_kids {ss:List CRec}{es:List SCho}{room i:Nat}{v:PV}(hi:i<ss.length)(hh:v.has=true)(hf:fitsP ss es (room+1) 13 i 0 v=true):v.kids.length=ss[i].fields.length∧∀ k (hx:k<ss[i].fields.length) (hk:k<v.kids.length),fitsP ss es room ss[i].fields[k].kind ss[i].fields[k].ref ss[i].fields[k].lists v.kids[k]=true:=by
 have hget:ss.getD ((i:Nat):Int).toNat ⟨⟨#[]⟩,[]⟩=ss[i]:=by rw [Int.toNat_natCast,List.getD,List.getElem?_eq_getElem hi,Option.getD_some]
 rw [fitsP_eq,show sortP 13 0=4 from rfl,Bool.and_eq_true] at hf
 have h2:(!v.has||structP ss es (room+1) i v.kids)=true:=hf.2
 rw [hh] at h2
 have h3:structP ss es (room+1) i v.kids=true:=h2
 unfold structP at h3
 rw [hget,Nat.add_sub_cancel,Bool.and_eq_true,Bool.and_eq_true,Bool.and_eq_true] at h3
 exact ⟨of_decide_eq_true h3.2.2.1,fieldsP_at _ _ _ h3.2.2.2⟩
end Go.Proofs.YtcfjjocmiheiaaaDoor
namespace Go.Proofs.YtcfjjocmiheiaaaDoor
open Go.RowKit
theorem gone_is {ss:List CRec}{es:List SCho}{r k:Nat}{ref lists:Int}{q:PV}(h:fitsP ss es r k ref lists q=true)(h4:sortP k lists=4)(hh:q.has=false):q=numV 0:=by
 rw [fitsP_eq,h4,Bool.and_eq_true] at h
 obtain ⟨n,bs,ks,hs⟩:=q
 have h1:=h.1
 simp only [PV.has] at hh
 subst hh
 simp [bareP,PV.num,PV.bytes,PV.kids,PV.has] at h1
 obtain ⟨a,b,c⟩:=h1
 have a':n=0:=of_decide_eq_true a
 have b':bs=[]:=by simpa using b
 have c':ks=[]:=by simpa using c
 subst a' b' c'
 rfl
structure KidsE (ss:List CRec)(es:List SCho)(r:Nat)(fs:List SFld)(ks:List PV):Prop where
 len:ks.length=fs.length
 fits:∀ i (hx:i<fs.length) (hk:i<ks.length),fitsP ss es r fs[i].kind (fs[i].ref:Nat) (fs[i].lists:Nat) ks[i]=true
 has:∀ i (hx:i<fs.length) (hk:i<ks.length),isDefB fs[i].dflt ks[i]=false→fs[i].kind=13→fs[i].lists=0→ks[i].has=true
theorem kidsE_of {S:List SRec}{es:List SCho}{r i:Nat}{v:PV}(hi:i<S.length)(hD:∀ q ∈ S,DfltsOk es (cR q).fields)(hh:v.has=true)(hf:fitsP (S.map cR) es (r+1) 13 i 0 v=true):KidsE (S.map cR) es r S[i].fields v.kids:=by
 have hi':i<(S.map cR).length:=by rw [List.length_map];exact hi
 obtain ⟨h1,h2⟩:=fits_kids hi' hh hf
 have e:(S.map cR)[i]=cR S[i]:=List.getElem_map ..
 have ef:(cR S[i]).fields=S[i].fields.map cF:=rfl
 have e1:(S.map cR)[i].fields=S[i].fields.map cF:=by rw [e,ef]
 have hfit:∀ j (hx:j<S[i].fields.length) (hk:j<v.kids.length),fitsP (S.map cR) es r S[i].fields[j].kind (S[i].fields[j].ref:Nat) (S[i].fields[j].lists:Nat) v.kids[j]=true:=fun j hx hk=>by
  have h3:=h2 j (by rw [e1,List.length_map];exact hx) hk
  simp only [List.getElem_map] at h3
  have h4:fitsP (S.map cR) es r ((S[i].fields.map cF)[j]'(by rw [List.length_map];exact hx)).kind ((S[i].fields.map cF)[j]'(by rw [List.length_map];exact hx)).ref ((S[i].fields.map cF)[j]'(by rw [List.length_map];exact hx)).lists v.kids[j]=true:=h3
  simp only [List.getElem_map] at h4
  exact h4
 refine ⟨by rw [h1,e1,List.length_map],hfit,fun j hx hk hd h13 h0=>?_⟩
 cases hb:v.kids[j].has with
 | true=>rfl
 | false =>
  have h4:sortP S[i].fields[j].kind (S[i].fields[j].lists:Nat)=4:=by rw [h13,h0];rfl
  have h5:=gone_is (hfit j hx hk) h4 hb
  have h6:=(hD _ (List.getElem_mem hi) (cF S[i].fields[j]) (by rw [ef];exact List.mem_map_of_mem (List.getElem_mem hx))).2.2 (by show ¬sortP S[i].fields[j].kind (S[i].fields[j].lists:Nat)=1;rw [h4];decide)
  have h7:S[i].fields[j].dflt=0:=h6
  rw [h7,h5] at hd
  exact absurd hd (by decide)
theorem elsE_of {ss:List CRec}{es:List SCho}{r k:Nat}{ref lists:Int}{v:PV}(h0:0<lists)(hf:fitsP ss es r k ref lists v=true):v.kids=[]∨∃ q,r=q+1∧∀ x ∈ v.kids,fitsP ss es q k ref (lists-1) x=true∧(k=13→lists-1=0→x.has=true):=by
 have h3:sortP k lists=3:=by unfold sortP;rw [if_pos h0]
 rw [fitsP_eq,h3,Bool.and_eq_true] at hf
 have h4:v.kids.all (kidOk ss es r k ref (lists-1))=true:=hf.2
 rw [List.all_eq_true] at h4
 cases hk:v.kids with
 | nil=>exact .inl rfl
 | cons a l =>
  right
  have h5:=h4 a (by rw [hk];exact List.mem_cons_self ..)
  cases r with
  | zero=>simp [kidOk] at h5
  | succ q =>
   refine ⟨q,rfl,fun x hx=>?_⟩
   have h6:=h4 x (by rw [hk];exact hx)
   simp only [kidOk,Nat.add_sub_cancel,Bool.and_eq_true,Bool.not_eq_true',Bool.and_eq_false_iff,decide_eq_false_iff_not] at h6
   refine ⟨h6.2.2,fun h13 hl=>?_⟩
   rcases h6.2.1 with h7|h7
   · exact absurd (by rw [h13,hl];rfl) h7
   · simpa using h7
theorem seqE_upto {f:Nat→List Int→List Int}(hf:∀ i zs,zs.length≤(f i zs).length)(zs:List Int)(j:Nat):∀ n,j≤n→(seqE f zs j).length≤(seqE f zs n).length
 | 0,h=>by
  obtain rfl:j=0:=by omega
  exact Nat.le_refl _
 | n+1,h=>by
  rcases Nat.lt_or_ge n j with h1|h1
  · obtain rfl:j=n+1:=by omega
    exact Nat.le_refl _
  · exact Nat.le_trans (seqE_upto hf zs j n h1) (hf n _)
theorem lastE_le (th:List Bool):∀ j,lastE th j≤j
 | 0=>Nat.le_refl _
 | j+1=>by
  unfold lastE
  split
  · exact Nat.le_refl _
  · exact Nat.le_succ_of_le (lastE_le th j)
theorem rec_at {S:List SRec}{i:Nat}(hi:i<S.length):recE S (i:Int)=S[i]:=by
 unfold recE
 rw [Int.toNat_natCast,List.getD,List.getElem?_eq_getElem hi,Option.getD_some]
end Go.Proofs.YtcfjjocmiheiaaaDoor
namespace Go.Proofs.YtcfjjocmiheiaaaDoor
open Go.ChangeShapes Go.WideShapes Go.ChangeAt Go.RowKit Go.Shelf
theorem own_put {W:World}{base sz n c K:Nat}{e:TypeId}{xs:List Value}(h:W.ownsRow base e sz (.slice (some ⟨K,0,none⟩) n c) n xs)(k:Nat)(u:Value):(W.setCell ⟨K,k,none⟩ u).ownsRow base e sz (.slice (some ⟨K,0,none⟩) n c) n (xs.set k u):=by
 obtain ⟨hl,h'⟩:=h
 refine ⟨by rw [List.length_set];exact hl,?_⟩
 rcases h' with ⟨h1,_⟩|⟨g,cap,cur,hv,hb,hg,hnc,hm,hs,ht⟩
 · cases h1
 · injection hv with h1 h2 h3
   injection h1 with h1
   injection h1 with h1 _ _
   subst h1 h3
   refine .inr ⟨K,c,cur.setIfInBounds k u,rfl,hb,blk_set hg k u,hnc,hm,by rw [Array.size_setIfInBounds];exact hs,?_⟩
   rw [Array.toList_setIfInBounds,List.take_set,ht]
theorem kvs_set:∀ (l:List KV) (i:Nat) (q:KV),i<l.length→((((kvsCells l).set (i * 4) q.c0).set (i * 4+1) q.c1).set (i * 4+2) q.c2).set (i * 4+3) q.c3=kvsCells (l.set i q)
 | [],_,_,h=>absurd h (Nat.not_lt_zero _)
 | p::l,0,q,_=>rfl
 | p::l,i+1,q,h=>by
  have ih:=kvs_set l i q (by simpa using h)
  have e:∀ k,(i+1) * 4+k=(i * 4+k)+4:=fun k=>by omega
  have e0:(i+1) * 4=i * 4+4:=by omega
  show ((((p.c0::p.c1::p.c2::p.c3::kvsCells l).set ((i+1) * 4) q.c0).set ((i+1) * 4+1) q.c1).set ((i+1) * 4+2) q.c2).set ((i+1) * 4+3) q.c3=p.c0::p.c1::p.c2::p.c3::kvsCells (l.set i q)
  rw [e0,show i * 4+4+1=i * 4+1+4 by omega,show i * 4+4+2=i * 4+2+4 by omega,show i * 4+4+3=i * 4+3+4 by omega]
  simp only [List.set_cons_succ]
  rw [ih]
end Go.Proofs.YtcfjjocmiheiaaaDoor
