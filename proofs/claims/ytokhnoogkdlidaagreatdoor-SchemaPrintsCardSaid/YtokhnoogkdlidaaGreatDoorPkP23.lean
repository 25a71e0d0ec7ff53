/-
  The package schema's maker: the loop over an enum's values. Conditions: those that each theorem names.
-/
import Derived.Test.YtokhnoogkdlidaaGreatDoorPkP8
import Derived.Test.YtokhnoogkdlidaaGreatDoorPkP10
import Derived.Test.YtokhnoogkdlidaaGreatDoorPkP22
import Derived.Deep.RegionHeld3
namespace Go.Proofs.YtokhnoogkdlidaaGreatDoor
open Go.ChangeShapes Go.WideShapes Go.ChangeAt Go.RowKit Go.Shelf
set_option maxRecDepth 100000 in
set_option maxHeartbeats 4000000 in
theorem names_wp {Q:Exit→Act→World→Prop}{c:Act}{w0:World}{M R T n e k nc rb:Nat}{a na:Option Addr}{name:ByteArray}{l:List Tok}(hc:EnFr M R T a n e k na l.length nc 0 c)
  (hT:w0.heap[T]?=some (.cells #[.string name,.slice none 0 0] 55 (0,0))) (hrow:∀ W,Below T w0 W→W.ownsRow rb 97 3 (.slice na l.length nc) l.length (toksCells l)) (hsz:∀ t ∈ l,t.text.length≤100) (hlen:l.length≤100)
  (hQ:∀ c' w' nv,EnFr M R T a n e k na l.length nc l.length c'→Below T w0 w'→w'.heap[T]?=some (.cells #[.string name,nv] 55 (0,0))→w'.ownsRow (T+1) 9 1 nv l.length (strsCells (l.map tokT))→Q (.exit 2) c' w') :
  Code.wp Tryz.prog (Code.loop (loopsEn 1)) Q c w0:=by
 refine wp_loop (fun c' w'=>∃ (j:Nat) (nv:Value),j≤l.length∧EnFr M R T a n e k na l.length nc j c'∧Below T w0 w'∧w'.heap[T]?=some (.cells #[.string name,nv] 55 (0,0))∧w'.ownsRow (T+1) 9 1 nv j (strsCells ((l.take j).map tokT)))
  (fun c' _=>l.length-(intOf (c'.tmps.getD 63 undef)).toNat) ⟨0,_,Nat.zero_le _,hc,Below.refl _ _,hT,World.ownsRow_nil _ _ _ _⟩ ?_
 clear hc hT
 rintro c wr ⟨j,nv,hj,hc,hb,hC,hr⟩
 have HB:=Lib.hid hb
 have HQ:=Lib.hid hQ
 have HCB:=Lib.hid hC
 have HROW:=Lib.hid hr
 have hfew:=row_few (hrow w0 (Below.refl _ _))
 obtain ⟨u,rfl⟩:=hc.lit
 obtain ⟨nva,nvc,rfl⟩:=ownsRow_form hr
 obtain ⟨hCl,c0',c1',f0,f1⟩:=blk2 hC
 obtain ⟨i0,hi0,hzz0,hzz1,hzz2⟩:=info_parts str_info
 have I1:=Lib.hid hi0
 have I2:=Lib.hid hzz0
 have I3:=Lib.hid hzz1
 have I4:=Lib.hid hzz2
 clear hi0 hzz0 hzz1 hzz2
 conv=>arg 2;whnf
 by_cases hjl:j<l.length
 · obtain ⟨gn,cn,hvn,hcn,hgn,hcelln⟩:=row_el tokCells 3 (fun _=>rfl) (hrow _ hb) j hjl
   obtain ⟨rfl,rfl⟩:=slice_inj hvn
   have x0:wr.cell? ⟨gn,j * 3,none⟩=some (.int .i64 l[j].kind):=hcelln 0 (by omega)
   have x1:wr.cell? ⟨gn,j * 3+1,none⟩=some (.string (tokT l[j])):=hcelln 1 (by omega)
   have x2:wr.cell? ⟨gn,j * 3+2,none⟩=some (.int .i64 l[j].place):=hcelln 2 (by omega)
   have hts:(tokT l[j]).size≤281474976710656:=by
    have:=hsz _ (List.getElem_mem hjl)
    rw [tokT,strOfNums_size]
    omega
   have HTK:=Lib.hid (take_snoc_map tokT l j hjl)
   generalize l[j]=t at *
   have HTS:=Lib.hid hts
   have hbt:Below wr.heap.size wr (wr.alloc (.cells #[.int .i64 t.kind,.string (tokT t),.int .i64 t.place] 97)):=(Below.refl _ _).alloc (Nat.le_refl _) _
   have HBT:=Lib.hid hbt
   have HTN:=Lib.hid (heap_alloc_new wr (.cells #[.int .i64 t.kind,.string (tokT t),.int .i64 t.place] 97))
   have HCT:=Lib.hid (blk_below hC hbt hCl)
   have hji:(j:Int)<l.length:=by omega
   clear hc hQ hb hC hr hrow hsz hts hvn hcelln hbt
   go_upto_region 15 with (fail)
   generalize wr.alloc (.cells #[.int .i64 t.kind,.string (tokT t),.int .i64 t.place] 97)=Wt at *
   clear x0 x1 x2 c0' c1' f0 f1
   obtain ⟨_,z0,z1,z2,_⟩:=blk3 HTN.out
   obtain ⟨hCt,c0',c1',f0,f1⟩:=blk2 HCT.out
   have hnt:wr.heap.size<Wt.heap.size:=blk_lt HTN.out
   have hmost:j+1≤9223372036854775807:=by omega
   refine wp_region_noPanic ?_
   go_region_law (first|(go_simp;go_at_call 73;(with_reducible refine (clone_any (tokT t) Wt.drew HTS.out).mono ?_);rintro e Wc ⟨rfl,hbc⟩;have hBC:Below Wt.heap.size Wt Wc:=drew_below hbc;have HBC:=Lib.hid hBC;obtain ⟨_,q0,q1,q2,q3⟩:=blk2 (blk_below HCT.out hBC hCt);have q5:Wc.cell? ⟨wr.heap.size,1,none⟩=some (.string (tokT t)):=(hBC.cell (p:=⟨wr.heap.size,1,none⟩) hnt).trans z1;clear hbc hBC)|(refine step_append_lies _ rfl (.tmp 68) (.tmp 72) 53 rfl (T+1) 9 i0 _ 1 16 Tryz.underlying53 I1.out I2.out I3.out I4.out rfl (by decide) _ j (strsCells ((l.take j).map tokT)) rfl (row_keep (HBT.out.trans ((HBC.out.alloc HBC.out.size _).mono HBT.out.size)) HROW.out) _ 1 1 [.string (tokT t)] rfl rfl (World.news_of_block (heap_alloc_new _ _)) (by intro u hu;rw [List.mem_singleton.1 hu];rfl) (by decide) (by unfold maxLen;omega) (by omega) (by simp;omega) _ rfl ?_;rintro g4 c4 W8 hown4 hg4 hat4 hlt4;obtain ⟨s1,s2,s3,s4⟩:=step2 HB.out HCB.out HROW.out (HBT.out.trans ((HBC.out.alloc HBC.out.size _).mono HBT.out.size)) hg4 hown4;obtain ⟨_,d0,d1,e0,e1⟩:=blk2 s4;have S1:=Lib.hid s1;have S2:=Lib.hid s2;have S3:=Lib.hid s3;clear s1 s2 s3 s4 hown4 hg4 hat4))
   all_goals
    refine NoPanic.normal ?_
    simp only [Exit.inBlock,Exit.then]
    apply_assumption
    go_wp2
    refine ⟨⟨j+1,_,by omega,⟨rfl,rfl,rfl,rfl,rfl,rfl,rfl,rfl,rfl,rfl,rfl⟩,S1.out,S2.out,by rw [HTK.out,strsCells_snoc];exact S3.out⟩,?_⟩
    show l.length-(intOf (.int .i64 ((j:Int)+1))).toNat<l.length-(intOf (.int .i64 (j:Int))).toNat
    simp [intOf];omega
 · obtain rfl:j=l.length:=by omega
   clear hc hQ hb hC hr hrow hsz
   go_wp2
   exact HQ.out _ _ _ ⟨rfl,rfl,rfl,rfl,rfl,rfl,rfl,rfl,rfl,rfl,rfl⟩ HB.out HCB.out (by have h:=HROW.out;rw [List.take_length] at h;exact h)
end Go.Proofs.YtokhnoogkdlidaaGreatDoor
